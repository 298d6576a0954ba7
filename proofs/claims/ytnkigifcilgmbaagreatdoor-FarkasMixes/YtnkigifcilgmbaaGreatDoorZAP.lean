/- FarkasMixes: the law's walk. -/
import Derived.Test.YtnkigifcilgmbaaGreatDoorZAO
import Derived.Test.YtnkigifcilgmbaaGreatDoorZAH
set_option linter.unusedVariables false
set_option linter.unusedSimpArgs false

namespace Go.Proofs.YtnkigifcilgmbaaGreatDoor
open Go Go.RowKit Go.Maps
open _root_.Go.Proofs.YtnkigifcilgmbaaGreatDoor.Nm (IsI pw)
theorem b4' {z : Int} (h : z.natAbs < 10000) : (z.natAbs : Int) < Nm.T4.pw 4000 := by
  have h1 := Nm.T4.pw_mono (a := 1) (b := 4000) (by omega)
  have h2 : Nm.T4.pw 1 = 10000 := by decide
  omega
theorem LAt.more {w w' : World} {B n c : Nat} {a : Option Addr} {ls : List (List (ByteArray × ByteArray) × ByteArray)} (h : Row B a n c 2 (LAt w B ls)) (hb : Below B w w') : Row B a n c 2 (LAt w' B ls) := h.mono (Nat.le_refl _) fun b o j hb' h l hl => by
  obtain ⟨x, y, h1, h2⟩ := h l hl
  exact ⟨x, y, rangeAt_below h1 hb' hb, h2.more hb⟩
theorem IsL.up {w : World} {B B' : Nat} {v : Value} {C : List (ByteArray × ByteArray)} {K : ByteArray} (h : IsL w B v C K) (hB : B ≤ B') : IsL w B' v C K := by
  obtain ⟨a, n, c, e, hn, hr⟩ := h
  exact ⟨a, n, c, e, hn, hr.mono hB fun _ _ _ _ h => h⟩
theorem LAt.all {w w' : World} {n c : Nat} {a : Option Addr} {ls : List (List (ByteArray × ByteArray) × ByteArray)} (h : Row w.heap.size a n c 2 (LAt w w.heap.size ls)) (hb : Below w.heap.size w w') : Row w'.heap.size a n c 2 (LAt w' w'.heap.size ls) := (LAt.more h hb).mono hb.size fun _ _ _ _ h l hl => by
  obtain ⟨x, y, h1, h2⟩ := h l hl
  exact ⟨x, y, h1, h2.up hb.size⟩
theorem BA.all {w w' : World} {n c : Nat} {a : Option Addr} {bs : List ByteArray} (h : Row w.heap.size a n c 1 (BA w bs)) (hb : Below w.heap.size w w') : Row w'.heap.size a n c 1 (BA w' bs) := h.mono hb.size fun _ _ _ hb' h => h.more hb' hb
theorem CA.all {w w' : World} {n c : Nat} {a : Option Addr} {C : List (ByteArray × ByteArray)} (h : Row w.heap.size a n c 2 (CA w C)) (hb : Below w.heap.size w w') : Row w'.heap.size a n c 2 (CA w' C) := h.mono hb.size fun _ _ _ hb' h => h.more hb' hb
/-- A sum that is told. -/
def ToldPost (q : (ByteArray → Int) × Int) (w : World) (e : Ending) (w' : World) : Prop := ∃ a n c, e = .returned (.tuple #[.agg #[.slice a n c, .string (tx q.2)], .bool true]) ∧ Below w.heap.size w w' ∧ ∃ ss, Keys q.1 ss ∧ n = (coefsOf q.1 ss).length ∧ Row w'.heap.size a n c 2 (CA w' (coefsOf q.1 ss))
theorem Sum_yes {w : World} {aL aB : Option Addr} {n cL nB cB : Nat} {ls : List (List (ByteArray × ByteArray) × ByteArray)} {bs : List ByteArray} {q : (ByteArray → Int) × Int} (hq : sumAll ls bs = some q) (hL : Row w.heap.size aL n cL 2 (LAt w w.heap.size ls)) (hnl : n = ls.length) (hS : Row w.heap.size aB nB cB 1 (BA w bs)) (hnB : nB = bs.length) (hn : n ≤ 1000) (hC : ∀ l ∈ ls, l.1.length ≤ 1000) (hT : Nm.Tab w) : Calls Tryz.prog 10 #[.slice aL n cL, .slice aB nB cB] w (ToldPost q w) := by
  refine (Sum_any hL hnl hS hnB (Nat.le_refl _) hn hC hT).mono ?_
  rintro e w' ⟨r, rfl, hb, _, hx⟩
  obtain ⟨ss, h1, h2, a, m, c, rfl, h4, h5⟩ := hx q hq
  refine ⟨a, m, c, ?_, hb, ss, ⟨h1, h2⟩, h4, h5⟩
  rw [hq]
  rfl
def allR (ls : List (List (ByteArray × ByteArray) × ByteArray)) (i : Nat) : Prop := ∀ (j : Nat) l, j < i → ls[j]? = some l → (readR l.1 l.2).isSome = true
theorem allR_read : ∀ {ls : List (List (ByteArray × ByteArray) × ByteArray)}, allR ls ls.length → ∃ rs, readL ls = some rs
  | [], _ => ⟨[], rfl⟩
  | l :: ls, h => by
    obtain ⟨r, hr⟩ := Option.isSome_iff_exists.1 (h 0 l (by simp) rfl)
    obtain ⟨rs, hrs⟩ := allR_read (ls := ls) fun j x hj hx => h (j + 1) x (by simpa using hj) (by simpa using hx)
    exact ⟨r :: rs, by unfold readL at hrs ⊢; simp [allO, hr, hrs]⟩
set_option maxRecDepth 100000 in
set_option maxHeartbeats 8000000 in
theorem mixes_walk {w : World} {aL aB : Option Addr} {n cL m cB : Nat} {ls : List (List (ByteArray × ByteArray) × ByteArray)} {ns : List Int} (hL : Row w.heap.size aL n cL 2 (LAt w w.heap.size ls)) (hn : n = ls.length) (hB : Row w.heap.size aB m cB 1 (UA w ns)) (hm : m = ns.length) (hns : ∀ z ∈ ns, 0 ≤ z ∧ z ≤ 255) (cut : Int) (hT : Nm.Tab w) : Calls Tryz.prog 7 #[.slice aL n cL, .slice aB m cB, .int .i64 cut] w fun e w' => e = .returned (.bool true) ∧ Below w.heap.size w w' := by
  have HA := hide (And.intro hL (And.intro hn (And.intro hB (And.intro hm (And.intro hns hT)))))
  have hnb : n ≤ 281474976710656 := hL.2.1
  have hmb : m ≤ 281474976710656 := hB.2.1
  clear hL hn hB hm hns hT
  go_enter Tryz.func7, Tryz.ntmps7
  go_wp2_with fail
  refine (known_any (unhide HA).2.2.2.2.2).mono ?_
  rintro e w1 ⟨rfl, hb1⟩
  have H1 := hide hb1
  clear hb1
  go_wp2_with fail
  have hl1 := light_zero (w := w1) (LAt.more (unhide HA).1 (unhide H1) |>.mono (unhide H1).size fun _ _ _ _ h l hl => by
    obtain ⟨x, y, h1, h2⟩ := h l hl
    exact ⟨x, y, h1, h2.up (unhide H1).size⟩) (unhide HA).2.1
  refine hl1.mono ?_
  rintro e w2 ⟨b, rfl, hb2, hlw⟩
  have H2 := hide ((unhide H1).trans (hb2.mono (unhide H1).size))
  clear hl1 hb2 H1
  cases b with
  | false =>
    clear hlw
    go_wp2
    go_ret
    exact ⟨rfl, unhide H2⟩
  | true =>
    have HW := hide (hlw rfl)
    clear hlw
    by_cases hmn : m ≤ n
    · have g1 : ¬ ((n : Int) < (m : Int)) := by omega
      have gd : decide ((n : Int) < (m : Int)) = false := by simp; omega
      go_wp2_with fail
      have hn100 : n ≤ 100 := by
        have := (lwt_len ls).1
        have := unhide HW
        have := (unhide HA).2.1
        omega
      have gd2 : decide (n < m) = false := by simp; omega
      rw [gd2]
      clear gd2
      have HI0 : Hid (allR ls 0) := fun j l h => absurd h (by omega)
      clear g1 gd
      go_loopw [7] (fun iv wr => ∃ i : Nat, i ≤ n ∧ iv = .int .i64 i ∧ Hid (allR ls i) ∧ Below w.heap.size w wr) (fun iv _ => n - (intOf iv).toNat)
      case atStart => exact ⟨0, Nat.zero_le _, rfl, HI0, unhide H2⟩
      case round =>
        obtain ⟨i, hi0, rfl, hR, hwr⟩ := hrel
        by_cases hi : i < n
        · obtain ⟨hL, hn, -⟩ := unhide HA
          obtain ⟨b, off, rfl, hbB, hLj⟩ := hL.2.2 (by omega)
          obtain ⟨l, hl⟩ : ∃ l, ls[i]? = some l := ⟨_, List.getElem?_eq_getElem (by omega)⟩
          obtain ⟨x, y, hcc, hIL⟩ := hLj i hi _ hl
          have hILw := hIL
          obtain ⟨aC, nC, cC, exy, hnC, -⟩ := hIL
          obtain ⟨rfl, rfl⟩ : x = .slice aC nC cC ∧ y = .string l.2 := by simpa using exy
          have q0 : wr.cell? ⟨b, off + i * 2, none⟩ = some (.slice aC nC cC) := (hwr.cell (p := ⟨b, off + i * 2, none⟩) hbB).trans (hcc 0 _ rfl)
          have q1 : wr.cell? ⟨b, off + i * 2 + 1, none⟩ = some (.string l.2) := (hwr.cell (p := ⟨b, off + i * 2 + 1, none⟩) hbB).trans (hcc 1 _ rfl)
          have hC100 : l.1.length ≤ 100 := by
            have := (lwt_len ls).2 l (List.mem_of_getElem? hl)
            have := unhide HW
            omega
          have HRow := hide (Row_any (w := wr) (hILw.more hwr) hwr.size (by omega))
          have g1 : (i : Int) < (n : Int) := by omega
          have g0 : (0 : Int) ≤ (i : Int) := by omega
          have g2 : (n : Int) ≤ 1000000 := by omega
          have HX := hide (And.intro hwr (And.intro hl hR))
          clear hL hn hbB hLj hcc hILw exy hnC hwr hl hR hC100
          obtain ⟨bb, hbb⟩ : ∃ bb, (readR l.1 l.2).isSome = bb := ⟨_, rfl⟩
          rw [hbb] at HRow
          have HBB := hide hbb
          clear hbb
          go_wp2_with fail
          refine (unhide HRow).mono ?_
          rintro e w4 ⟨rfl, hb4⟩
          have H4 := hide ((unhide HX).1.trans (hb4.mono (unhide HX).1.size))
          clear hb4 HRow q0 q1
          cases bb with
          | false =>
            go_wp2
            go_ret
            exact ⟨rfl, unhide H4⟩
          | true =>
            go_wp2
            refine ⟨⟨i + 1, by omega, by simp, ?_, unhide H4⟩, ?_⟩
            · intro j x hj hx
              rcases Nat.lt_or_ge j i with e | e
              · exact (unhide (unhide HX).2.2) j x e hx
              · obtain rfl : j = i := by omega
                rw [(unhide HX).2.1] at hx
                injection hx with hx
                subst hx
                exact unhide HBB
            · simp [intOf]
              omega
        · have gi : decide ((i : Int) < (n : Int)) = false := by simp; omega
          have g1 : ¬ ((i : Int) < (n : Int)) := by omega
          obtain rfl : i = n := by omega
          obtain ⟨rs, hrs⟩ : ∃ rs, readL ls = some rs := allR_read (by have := unhide hR; rw [← (unhide HA).2.1]; exact this)
          have HRS := hide hrs
          have HWR := hide hwr
          have hw5 : wrap64 ((m : Int) + 1) = (m : Int) + 1 := wrap64_ok (by omega) (by omega)
          clear hR hwr hi hi0 hrs H2 HI0
          go_wp2_with fail
          refine (place_any cut ((m : Int) + 1) _ (by omega) (by omega)).mono ?_
          rintro e w5 ⟨rfl, rfl⟩
          obtain ⟨ct, hct, hctm⟩ : ∃ ct : Nat, plc cut ((m : Int) + 1) = (ct : Int) ∧ ct ≤ m := by
            have h := plc_in cut (n := (m : Int) + 1) (by omega)
            exact ⟨(plc cut ((m : Int) + 1)).toNat, by omega, by omega⟩
          rw [hct]
          clear hct hw5 gi g1
          have HS3 : Hid (S3 w5.heap.size w5 0 (.slice none 0 0) (.slice none 0 0) (.slice none 0 0) [] [] []) := ⟨own_nil _ _, own_nil _ _, own_nil _ _, (fun g h => by cases h), (fun g h => by cases h), (fun g h => by cases h)⟩
          go_wp2_with fail
          go_loopw [8, 9, 10, 11] (fun v1 v2 v3 iv wr => ∃ i : Nat, i ≤ m ∧ iv = .int .i64 i ∧ Hid (S3 w5.heap.size wr i v1 v2 v3 ((ns.take i).map tx) (((cutL ct ns).take i).map tx) (((cutR ct ns).take i).map tx)) ∧ Hid (Below w5.heap.size w5 wr)) (fun _ _ _ iv _ => m - (intOf iv).toNat)
          case atStart => exact ⟨0, Nat.zero_le _, rfl, HS3, Below.refl _ _⟩
          case round =>
            obtain ⟨i, hi0, rfl, hS, hwr⟩ := hrel
            by_cases hi : i < m
            · obtain ⟨hL, hn, hB, hm, hns, hT⟩ := unhide HA
              obtain ⟨b, off, rfl, hbB, hBj⟩ := hB.2.2 (by omega)
              obtain ⟨z, hz⟩ : ∃ z, ns[i]? = some z := ⟨_, List.getElem?_eq_getElem (by omega)⟩
              have hz2 := hns z (List.mem_of_getElem? hz)
              have hbw : Below w.heap.size w wr := (unhide HWR).trans ((unhide hwr).mono (unhide HWR).size)
              have q0 : wr.cell? ⟨b, off + i, none⟩ = some (.int .u8 z) := by
                have := (hbw.cell (p := ⟨b, off + i * 1, none⟩) hbB).trans (hBj i hi z hz)
                rwa [Nat.mul_one] at this
              have g1 : (i : Int) < (m : Int) := by omega
              have g0 : (0 : Int) ≤ (i : Int) := by omega
              have g2 : (m : Int) ≤ 1000000 := by omega
              have HZ := hide hz
              clear hL hn hB hm hns hT hbB hBj hz hbw
              go_wp2_with fail
              refine (Nm.ofN_any z _ (by omega) (by omega)).mono ?_
              rintro e wa ⟨ra, rfl, hba, hN⟩
              obtain ⟨fb, fa, fl, fc, rfl⟩ := hN.form
              have HN := hide hN
              have HBA := hide hba
              clear hN hba q0
              go_wp2_with fail
              refine (Nm.textN_any _ z _ (unhide HN) (b4' (by omega))).mono ?_
              rintro e wt ⟨rfl, hbt⟩
              obtain ⟨T, hTT⟩ : ∃ T, (⟨(Lib.itoa z).toArray⟩ : ByteArray) = T := ⟨_, rfl⟩
              rw [hTT]
              have HTT : Hid (T = tx z) := hTT.symm
              have hb2 : Below wr.heap.size wr wt := (unhide HBA).trans (hbt.mono (unhide HBA).size)
              have hS2 := (unhide hS).below hb2
              have hS0 : w5.heap.size ≤ wt.heap.size := Nat.le_trans (unhide hwr).size hb2.size
              have hb5 : Below w5.heap.size w5 wt := (unhide hwr).trans (hb2.mono (unhide hwr).size)
              have tk : ∀ (zs : List Int) (y : Int), zs[i]? = some y → (zs.take (i + 1)).map tx = (zs.take i).map tx ++ [tx y] := fun zs y hy => by rw [List.take_add_one, hy]; simp
              clear hTT hbt HN HBA
              by_cases hic : i < ct
              · have g4 : (i : Int) < (ct : Int) := by omega
                obtain ⟨u1, w1, u2, w2, u3, w3, r1, r2, r3, hS3, hb3⟩ := hS2.step hS0 (by omega) T T ⟨#[48]⟩ 23
                have R1 := hide r1
                have R2 := hide r2
                have R3 := hide r3
                have HNew : Hid (S3 w5.heap.size w3 (i + 1) u1 u2 u3 ((ns.take (i + 1)).map tx) (((cutL ct ns).take (i + 1)).map tx) (((cutR ct ns).take (i + 1)).map tx)) := by
                  show S3 _ _ _ _ _ _ _ _ _
                  have h1 := cutL_at (ct := ct) (unhide HZ)
                  have h2 := cutR_at (ct := ct) (unhide HZ)
                  rw [if_pos hic] at h1 h2
                  rw [tk ns z (unhide HZ), tk _ _ h1, tk _ _ h2, tx0, ← unhide HTT]
                  exact hS3
                have HB3 : Hid (Below w5.heap.size w5 w3) := hb5.trans hb3
                clear r1 r2 r3 hS3 hb3 hS2 hS0 hb5 hb2 tk hS hwr hic
                go_wp2_with (first
                  | (at_builtin; refine app_run _ _ _ rfl rfl rfl rfl (unhide R1) ?_; clear R1)
                  | (at_builtin; refine app_run _ _ _ rfl rfl rfl rfl (unhide R2) ?_; clear R2)
                  | (at_builtin; refine app_run _ _ _ rfl rfl rfl rfl (unhide R3) ?_; clear R3))
                refine ⟨⟨i + 1, by omega, by simp, HNew, HB3⟩, ?_⟩
                simp [intOf]
                omega
              · have g4 : ¬ ((i : Int) < (ct : Int)) := by omega
                have g5 : decide ((i : Int) < (ct : Int)) = false := by simp; omega
                obtain ⟨u1, w1, u2, w2, u3, w3, r1, r2, r3, hS3, hb3⟩ := hS2.step hS0 (by omega) T ⟨#[48]⟩ T 23
                have R1 := hide r1
                have R2 := hide r2
                have R3 := hide r3
                have HNew : Hid (S3 w5.heap.size w3 (i + 1) u1 u2 u3 ((ns.take (i + 1)).map tx) (((cutL ct ns).take (i + 1)).map tx) (((cutR ct ns).take (i + 1)).map tx)) := by
                  show S3 _ _ _ _ _ _ _ _ _
                  have h1 := cutL_at (ct := ct) (unhide HZ)
                  have h2 := cutR_at (ct := ct) (unhide HZ)
                  rw [if_neg hic] at h1 h2
                  rw [tk ns z (unhide HZ), tk _ _ h1, tk _ _ h2, tx0, ← unhide HTT]
                  exact hS3
                have HB3 : Hid (Below w5.heap.size w5 w3) := hb5.trans hb3
                clear r1 r2 r3 hS3 hb3 hS2 hS0 hb5 hb2 tk hS hwr hic
                go_wp2_with (first
                  | (at_builtin; refine app_run _ _ _ rfl rfl rfl rfl (unhide R1) ?_; clear R1)
                  | (at_builtin; refine app_run _ _ _ rfl rfl rfl rfl (unhide R2) ?_; clear R2)
                  | (at_builtin; refine app_run _ _ _ rfl rfl rfl rfl (unhide R3) ?_; clear R3))
                refine ⟨⟨i + 1, by omega, by simp, HNew, HB3⟩, ?_⟩
                simp [intOf]
                omega
            · have gi : decide ((i : Int) < (m : Int)) = false := by simp; omega
              have g1 : ¬ ((i : Int) < (m : Int)) := by omega
              obtain rfl : i = m := by omega
              obtain ⟨hL, hn, hB, hm, hns, hT⟩ := unhide HA
              have hbw : Below w.heap.size w wr := (unhide HWR).trans ((unhide hwr).mono (unhide HWR).size)
              obtain ⟨o1, o2, o3, -, -, -⟩ := unhide hS
              rw [hm, List.take_length] at o1
              rw [hm, ← cutL_len ct ns, List.take_length, cutL_len, ← hm] at o2
              rw [hm, ← cutR_len ct ns, List.take_length, cutR_len, ← hm] at o3
              rw [← hm] at o1
              obtain ⟨a1, c1, rfl, l1, R1⟩ := own_row o1 (by omega)
              obtain ⟨a2, c2, rfl, l2, R2⟩ := own_row o2 (by omega)
              obtain ⟨a3, c3, rfl, l3, R3⟩ := own_row o3 (by omega)
              have hrs := unhide HRS
              have hrl : rs.length = ls.length := allO_len hrs
              have hlw := unhide HW
              have hC1000 : ∀ l ∈ ls, l.1.length ≤ 1000 := fun l hl => by have := (lwt_len ls).2 l hl; omega
              have hLr := LAt.all hL hbw
              have e1 := sumAll_tx hrs hns (by omega)
              have e2 := sumAll_tx hrs (cutL_in (ct := ct) hns) (by rw [cutL_len]; omega)
              have e3 := sumAll_tx hrs (cutR_in (ct := ct) hns) (by rw [cutR_len]; omega)
              have HSA := hide (Sum_yes e1 hLr hn R1 l1 (by omega) hC1000 (Nm.Tab.below hT hbw))
              have HK := hide (And.intro hbw (And.intro hrs (And.intro hrl (And.intro hC1000 (And.intro R2 (And.intro R3 (And.intro l2 (And.intro l3 (And.intro e2 e3)))))))))
              clear hL hn hB hm hns hT hbw o1 o2 o3 l1 R1 l2 R2 l3 R3 hrs hrl hlw hC1000 hLr e1 e2 e3 hS hwr hi hi0
              obtain ⟨qA, hqA⟩ : ∃ q, sumN rs ns = q := ⟨_, rfl⟩
              obtain ⟨qB, hqB⟩ : ∃ q, sumN rs (cutL ct ns) = q := ⟨_, rfl⟩
              obtain ⟨qC, hqC⟩ : ∃ q, sumN rs (cutR ct ns) = q := ⟨_, rfl⟩
              rw [hqA] at HSA
              rw [hqB, hqC] at HK
              have HQ := hide (And.intro hqA (And.intro hqB hqC))
              clear hqA hqB hqC
              go_wp2_with fail
              refine (unhide HSA).mono ?_
              rintro e wA ⟨aA, nA, cA, rfl, hbA, ssA, hkA, hnA, hRA⟩
              obtain ⟨KA, hKA⟩ : ∃ K, tx qA.2 = K := ⟨_, rfl⟩
              rw [hKA]
              obtain ⟨wA', eA', hbA', hsA', hcA', hhA'⟩ := box_new wA #[.slice aA nA cA, .string KA] 28
              obtain ⟨hbw, hrs, hrl, hC1000, R2, R3, l2, l3, e2, e3⟩ := unhide HK
              have b1 : Below wr.heap.size wr wA' := hbA.trans (hbA'.mono hbA.size)
              have hbw' := hbw.trans (b1.mono hbw.size)
              have HSB := hide (Sum_yes e2 (LAt.all (unhide HA).1 hbw') (unhide HA).2.1 (BA.all R2 b1) l2 (by omega) hC1000 (Nm.Tab.below (unhide HA).2.2.2.2.2 hbw'))
              have HEA := hide eA'
              have HAA := hide (And.intro b1 (And.intro hkA (And.intro hnA (And.intro (CA.all hRA hbA') (And.intro hKA hhA')))))
              obtain ⟨gA, hgA⟩ : ∃ g, wA.heap.size = g := ⟨_, rfl⟩
              rw [hgA] at HAA
              have HGA := hide hgA
              clear HSA hbA hkA hnA hRA hKA eA' hbA' hsA' hcA' hhA' hbw hrs hrl hC1000 R2 R3 l2 l3 e2 e3 b1 hbw' hgA
              go_wp2_with fail
              rw [unhide HEA, unhide HGA]
              clear HEA HGA
              refine (unhide HSB).mono ?_
              rintro e wB ⟨aB', nB', cB', rfl, hbB, ssB, hkB, hnB, hRB⟩
              obtain ⟨KB, hKB⟩ : ∃ K, tx qB.2 = K := ⟨_, rfl⟩
              rw [hKB]
              obtain ⟨wB', eB', hbB', hsB', hcB', hhB'⟩ := box_new wB #[.slice aB' nB' cB', .string KB] 28
              obtain ⟨hbw, hrs, hrl, hC1000, R2, R3, l2, l3, e2, e3⟩ := unhide HK
              obtain ⟨b1, hkA, hnA, hRA, hKA, hhA⟩ := unhide HAA
              have b2 : Below wA'.heap.size wA' wB' := hbB.trans (hbB'.mono hbB.size)
              have b12 : Below wr.heap.size wr wB' := b1.trans (b2.mono b1.size)
              have hbw' := hbw.trans (b12.mono hbw.size)
              have HSC := hide (Sum_yes e3 (LAt.all (unhide HA).1 hbw') (unhide HA).2.1 (BA.all R3 b12) l3 (by omega) hC1000 (Nm.Tab.below (unhide HA).2.2.2.2.2 hbw'))
              have HEB := hide eB'
              have HBB := hide (And.intro b2 (And.intro hkB (And.intro hnB (And.intro (CA.all hRB hbB') (And.intro hKB hhB')))))
              obtain ⟨gB, hgB⟩ : ∃ g, wB.heap.size = g := ⟨_, rfl⟩
              rw [hgB] at HBB
              have HGB := hide hgB
              clear HSB hbB hkB hnB hRB hKB eB' hbB' hsB' hcB' hhB' hbw hrs hrl hC1000 R2 R3 l2 l3 e2 e3 b1 b2 b12 hbw' hgB hkA hnA hRA hKA hhA
              go_wp2_with fail
              rw [unhide HEB, unhide HGB]
              clear HEB HGB
              refine (unhide HSC).mono ?_
              rintro e wC ⟨aC, nC, cC, rfl, hbC, ssC, hkC, hnC, hRC⟩
              obtain ⟨KC, hKC⟩ : ∃ K, tx qC.2 = K := ⟨_, rfl⟩
              rw [hKC]
              obtain ⟨wC', eC', hbC', hsC', hcC', hhC'⟩ := box_new wC #[.slice aC nC cC, .string KC] 28
              obtain ⟨hbw, hrs, hrl, hC1000, -⟩ := unhide HK
              obtain ⟨b1, hkA, hnA, hRA, hKA, hhA⟩ := unhide HAA
              obtain ⟨b2, hkB, hnB, hRB, hKB, hhB⟩ := unhide HBB
              obtain ⟨hqA, hqB, hqC⟩ := unhide HQ
              have b3 : Below wB'.heap.size wB' wC' := hbC.trans (hbC'.mono hbC.size)
              have b23 : Below wA'.heap.size wA' wC' := b2.trans (b3.mono b2.size)
              have b13 : Below wr.heap.size wr wC' := b1.trans (b23.mono b1.size)
              have hbw' := hbw.trans (b13.mono hbw.size)
              have hnm := names_len hrs
              have hlw := unhide HW
              have lB : nB' ≤ 1000 := by rw [hnB, ← hqB]; exact Nat.le_trans (keys_len (by rw [hqB]; exact hkB) hnm) (by omega)
              have lC : nC ≤ 1000 := by rw [hnC, ← hqC]; exact Nat.le_trans (keys_len (by rw [hqC]; exact hkC) hnm) (by omega)
              have hB9 := (b3.block gB (Array.getElem?_eq_some_iff.1 hhB).1).trans hhB
              have hA9 := (b23.block gA (Array.getElem?_eq_some_iff.1 hhA).1).trans hhA
              obtain ⟨gC, hgC⟩ : ∃ g, wC.heap.size = g := ⟨_, rfl⟩
              rw [hgC] at hhC'
              have HGC := hide hgC
              have HEC := hide eC'
              have HCC := hide (And.intro hbw' (And.intro (CA.all hRA b23) (And.intro (CA.all hRB b3) (And.intro (CA.all hRC hbC') (And.intro hA9 (And.intro hB9 (And.intro hhC' (And.intro hkC (And.intro hnC (And.intro hKC (And.intro lB lC)))))))))))
              have p0 : wC'.cell? ⟨gB, 0, none⟩ = some (.slice aB' nB' cB') := (blk hB9).2.1 0 _ rfl
              have p1 : wC'.cell? ⟨gB, 1, none⟩ = some (.string KB) := (blk hB9).2.1 1 _ rfl
              have HRp := hide (Row_any (w := wC') (B := wC'.heap.size) (v := .agg #[.slice aB' nB' cB', .string KB]) (C := coefsOf qB.1 ssB) (K := KB) ⟨aB', nB', cB', rfl, hnB, CA.all hRB b3⟩ (Nat.le_refl _) (by omega))
              rw [← eC'] at p0 p1
              clear HSC hbC hkC hnC hRC hKC eC' hbC' hsC' hcC' hhC' hbw hrs hrl hC1000 b1 b2 b3 b23 b13 hbw' hgC hkA hnA hRA hKA hhA hkB hnB hRB hKB hhB hqA hqB hqC hnm hlw lB lC hB9 hA9
              obtain ⟨bp, hbp⟩ : ∃ bp, (readR (coefsOf qB.1 ssB) KB).isSome = bp := ⟨_, rfl⟩
              rw [hbp] at HRp
              have HBP := hide hbp
              clear hbp
              go_wp2_with fail
              rw [unhide HEC, unhide HGC]
              clear HEC HGC p0 p1
              refine (unhide HRp).mono ?_
              rintro e wD ⟨rfl, hbD⟩
              have HD := hide hbD
              clear hbD HRp
              cases bp with
              | false =>
                go_wp2
                go_ret
                obtain ⟨hbw', -⟩ := unhide HCC
                exact ⟨rfl, hbw'.trans ((unhide HD).mono hbw'.size)⟩
              | true =>
                obtain ⟨hbw', cA', cB'', cC', hA9, hB9, hC9, hkC, hnC, hKC, lB, lC⟩ := unhide HCC
                have hCD := ((unhide HD).block gC (Array.getElem?_eq_some_iff.1 hC9).1).trans hC9
                have p0 : wD.cell? ⟨gC, 0, none⟩ = some (.slice aC nC cC) := (blk hCD).2.1 0 _ rfl
                have p1 : wD.cell? ⟨gC, 1, none⟩ = some (.string KC) := (blk hCD).2.1 1 _ rfl
                have HRq := hide (Row_any (w := wD) (B := wD.heap.size) (v := .agg #[.slice aC nC cC, .string KC]) (C := coefsOf qC.1 ssC) (K := KC) ⟨aC, nC, cC, rfl, hnC, CA.all cC' (unhide HD)⟩ (Nat.le_refl _) (by omega))
                clear hbw' cA' cB'' cC' hA9 hB9 hC9 hkC hnC hKC lB lC hCD
                obtain ⟨bq, hbq⟩ : ∃ bq, (readR (coefsOf qC.1 ssC) KC).isSome = bq := ⟨_, rfl⟩
                rw [hbq] at HRq
                have HBQ := hide hbq
                clear hbq
                go_wp2_with fail
                refine (unhide HRq).mono ?_
                rintro e wE ⟨rfl, hbE⟩
                have HE := hide ((unhide HD).trans (hbE.mono (unhide HD).size))
                clear hbE HRq HD p0 p1
                cases bq with
                | false =>
                  go_wp2
                  go_ret
                  obtain ⟨hbw', -⟩ := unhide HCC
                  exact ⟨rfl, hbw'.trans ((unhide HE).mono hbw'.size)⟩
                | true =>
                  obtain ⟨hbw', cA', cB'', cC', hA9, hB9, hC9, hkC, hnC, hKC, lB, lC⟩ := unhide HCC
                  obtain ⟨b1', hkA, hnA, hRA, hKA, hhA⟩ := unhide HAA
                  obtain ⟨b2', hkB, hnB, hRB, hKB, hhB⟩ := unhide HBB
                  obtain ⟨hqA, hqB, hqC⟩ := unhide HQ
                  have hE := unhide HE
                  have hBE := (hE.block gB (Array.getElem?_eq_some_iff.1 hB9).1).trans hB9
                  have hCE := (hE.block gC (Array.getElem?_eq_some_iff.1 hC9).1).trans hC9
                  have hAE := (hE.block gA (Array.getElem?_eq_some_iff.1 hA9).1).trans hA9
                  have p0 : wE.cell? ⟨gB, 0, none⟩ = some (.slice aB' nB' cB') := (blk hBE).2.1 0 _ rfl
                  have p1 : wE.cell? ⟨gB, 1, none⟩ = some (.string KB) := (blk hBE).2.1 1 _ rfl
                  have p2 : wE.cell? ⟨gC, 0, none⟩ = some (.slice aC nC cC) := (blk hCE).2.1 0 _ rfl
                  have p3 : wE.cell? ⟨gC, 1, none⟩ = some (.string KC) := (blk hCE).2.1 1 _ rfl
                  obtain ⟨r1, hr1⟩ := Option.isSome_iff_exists.1 (unhide HBP)
                  obtain ⟨r2, hr2⟩ := Option.isSome_iff_exists.1 (unhide HBQ)
                  obtain ⟨wF, eF, hbF, hsF, hcF, hhF⟩ := box_new wE #[.slice aB' nB' cB', .string KB, .slice aC nC cC, .string KC] 28
                  obtain ⟨wG, eG, hbG, hsG, hcG, hhG⟩ := box_new wF #[.string ⟨#[49]⟩, .string ⟨#[49]⟩] 9
                  have hEG : Below wE.heap.size wE wG := hbF.trans (hbG.mono hbF.size)
                  have hFG := (hbG.block wE.heap.size (by omega)).trans hhF
                  rw [hsF] at hhG
                  have hlist : Row wG.heap.size (some ⟨wE.heap.size, 0, none⟩) 2 2 2 (LAt wG wG.heap.size [(coefsOf qB.1 ssB, KB), (coefsOf qC.1 ssC, KC)]) := by
                    refine ⟨Nat.le_refl _, by omega, fun _ => ⟨wE.heap.size, 0, rfl, by omega, fun j hj l hl => ?_⟩⟩
                    have hj2 : j = 0 ∨ j = 1 := by omega
                    rcases hj2 with rfl | rfl
                    · simp at hl
                      subst hl
                      refine ⟨.slice aB' nB' cB', .string KB, fun t u hu => (blk hFG).2.1 _ u ?_, aB', nB', cB', rfl, hnB, CA.all (CA.all cB'' hE) hEG⟩
                      match t, hu with
                      | 0, hu => simpa using hu
                      | 1, hu => simpa using hu
                      | t + 2, hu => simp at hu
                    · simp at hl
                      subst hl
                      refine ⟨.slice aC nC cC, .string KC, fun t u hu => (blk hFG).2.1 _ u ?_, aC, nC, cC, rfl, hnC, CA.all (CA.all cC' hE) hEG⟩
                      match t, hu with
                      | 0, hu => simpa using hu
                      | 1, hu => simpa using hu
                      | t + 2, hu => simp at hu
                  have hstr : Row wG.heap.size (some ⟨wE.heap.size + 1, 0, none⟩) 2 2 1 (BA wG [b1, b1]) := by
                    refine ⟨Nat.le_refl _, by omega, fun _ => ⟨wE.heap.size + 1, 0, rfl, by omega, fun j hj s hs => ?_⟩⟩
                    have hj2 : j = 0 ∨ j = 1 := by omega
                    rcases hj2 with rfl | rfl <;> (simp at hs; subst hs)
                    · exact (blk hhG).2.1 0 _ rfl
                    · exact (blk hhG).2.1 1 _ rfl
                  have hbwG := hbw'.trans ((hE.trans (hEG.mono hE.size)).mono hbw'.size)
                  have HST := hide (Sum_yes (sum11_any (a := (coefsOf qB.1 ssB, KB)) (b := (coefsOf qC.1 ssC, KC)) hr1 hr2) hlist rfl hstr rfl (by omega) (fun l hl => by
                    simp at hl
                    rcases hl with rfl | rfl
                    · show (coefsOf qB.1 ssB).length ≤ 1000
                      omega
                    · show (coefsOf qC.1 ssC).length ≤ 1000
                      omega) (Nm.Tab.below (unhide HA).2.2.2.2.2 hbwG))
                  have hsame : ∀ st, Keys (sumN [r1, r2] [1, 1]).1 st → coefsOf (sumN [r1, r2] [1, 1]).1 st = coefsOf qA.1 ssA ∧ (sumN [r1, r2] [1, 1]).2 = qA.2 := fun st hst => by
                    have := mix_same (rs := rs) (ns := ns) (ct := ct) (ss := ssA) (s1 := ssB) (s2 := ssC) (r1 := r1) (r2 := r2) (by rw [hqA]; exact hkA) (by rw [hqB]; exact hkB) (by rw [hqC]; exact hkC) (by rw [hqB, hKB]; exact hr1) (by rw [hqC, hKC]; exact hr2) hst
                    rw [hqA] at this
                    exact this
                  have HEG := hide (And.intro eF eG)
                  have HFin := hide (And.intro hbwG (And.intro hsame (And.intro hnA (And.intro (CA.all (CA.all cA' hE) hEG) (And.intro hKA ((hEG.block gA (Array.getElem?_eq_some_iff.1 hAE).1).trans hAE))))))
                  obtain ⟨qT, hqT⟩ : ∃ q, sumN [r1, r2] [1, 1] = q := ⟨_, rfl⟩
                  rw [hqT] at HST HFin
                  clear hbw' cA' cB'' cC' hA9 hB9 hC9 hkC hnC hKC lB lC b1' hkA hnA hRA hKA hhA b2' hkB hnB hRB hKB hhB hqA hqB hqC hE hBE hCE hAE hr1 hr2 eF hbF hsF hcF hhF eG hbG hsG hcG hhG hEG hFG hlist hstr hbwG hsame hqT
                  go_wp2_with fail
                  rw [(unhide HEG).1, (unhide HEG).2]
                  clear HEG p0 p1 p2 p3
                  refine (unhide HST).mono ?_
                  rintro e wH ⟨aT, nT, cT, rfl, hbH, ssT, hkT, hnT, hRT⟩
                  obtain ⟨hbwG, hsame, hnA, hRA, hKA, hhA⟩ := unhide HFin
                  obtain ⟨hs1, hs2⟩ := hsame ssT hkT
                  rw [hs1] at hnT hRT
                  have hKT : tx qT.2 = KA := by rw [hs2]; exact hKA
                  rw [hKT]
                  obtain ⟨wI, eI, hbI, hsI, hcI, hhI⟩ := box_new wH #[.slice aT nT cT, .string KA] 28
                  have hGI : Below wG.heap.size wG wI := hbH.trans (hbI.mono hbH.size)
                  have hAI := (hGI.block gA (Array.getElem?_eq_some_iff.1 hhA).1).trans hhA
                  have s0 : wI.cell? ⟨gA, 0, none⟩ = some (.slice aA nA cA) := (blk hAI).2.1 0 _ rfl
                  have s1 : wI.cell? ⟨gA, 1, none⟩ = some (.string KA) := (blk hAI).2.1 1 _ rfl
                  have t0 : wI.cell? ⟨wH.heap.size, 0, none⟩ = some (.slice aT nT cT) := (blk hhI).2.1 0 _ rfl
                  have t1 : wI.cell? ⟨wH.heap.size, 1, none⟩ = some (.string KA) := (blk hhI).2.1 1 _ rfl
                  have HLin := hide (lin_same (K := KA) (CA.all hRA hGI) hnA (CA.all hRT hbI) hnT)
                  have HEI := hide eI
                  have HBI := hide (hbwG.trans (hGI.mono hbwG.size))
                  rw [← eI] at s0 s1 t0 t1
                  clear HST hbH hkT hnT hRT hbwG hsame hnA hRA hKA hhA hs1 hs2 hKT eI hbI hsI hcI hhI hGI hAI
                  go_wp2_with fail
                  rw [unhide HEI]
                  refine (unhide HLin).mono ?_
                  rintro e wJ ⟨rfl, hbJ⟩
                  have HBJ := hide ((unhide HBI).trans (hbJ.mono (unhide HBI).size))
                  clear hbJ HLin s0 s1 t0 t1
                  go_wp2
                  go_ret
                  exact ⟨rfl, unhide HBJ⟩
    · have g1 : (n : Int) < (m : Int) := by omega
      go_wp2
      go_ret
      exact ⟨rfl, unhide H2⟩
end Go.Proofs.YtnkigifcilgmbaaGreatDoor
