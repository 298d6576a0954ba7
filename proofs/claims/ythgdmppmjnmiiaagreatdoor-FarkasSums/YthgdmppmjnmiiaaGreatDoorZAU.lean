/- FarkasSums: its arguments, with the names' lengths. -/
import Derived.Test.YthgdmppmjnmiiaaGreatDoorZAT
import Derived.Test.YthgdmppmjnmiiaaGreatDoorZAO
import Derived.Deep.QuietTactic
import Derived.BigQuiet
import Derived.Test.YthgdmppmjnmiiaaGreatDoorZAN
import Derived.Test.YthgdmppmjnmiiaaGreatDoorZAP
set_option linter.unusedVariables false
set_option linter.unusedSimpArgs false

/- The document's Sum, whole. -/
namespace Go.Proofs.YthgdmppmjnmiiaaGreatDoor
open Go Go.RowKit Go.Maps
open _root_.Go.Proofs.YthgdmppmjnmiiaaGreatDoor.Nm (IsI IsN Ns pw)
def fB (f : Func) : Code := f.body.getD .skip
set_option maxRecDepth 100000 in
set_option maxHeartbeats 8000000 in
theorem sumD_any {w : World} {aL aB : Option Addr} {n cL nB cB : Nat} {ls : List (List (ByteArray × ByteArray) × ByteArray)} {bs : List ByteArray} (hL : Row w.heap.size aL n cL 2 (LAt w w.heap.size ls)) (hnl : n = ls.length) (hS : Row w.heap.size aB nB cB 1 (BA w bs)) (hnB : nB = bs.length) (hw : lwt ls ≤ 100) : Calls Tryz.prog 7 #[.slice aL n cL, .slice aB nB cB] w (SDPost ls bs w) := by
  obtain ⟨A, eA, hbA, hsA, hcA, hhA⟩ := box_new w #[.slice none 0 0, .string ⟨#[]⟩] 28
  have hn100 : n ≤ 100 := by
    rw [hnl]
    exact Nat.le_trans (lwt_len ls).1 hw
  have x0 : A.cell? ⟨w.heap.size, 0, none⟩ = some (.slice none 0 0) := (blk hhA).2.1 0 _ rfl
  have x1 : A.cell? ⟨w.heap.size, 1, none⟩ = some (.string ⟨#[]⟩) := (blk hhA).2.1 1 _ rfl
  have f0 := (blk hhA).2.2 0
  have f1 := (blk hhA).2.2 1
  have HE := hide eA
  have HA := hide (And.intro hbA (And.intro hhA hsA))
  have HL := hide (And.intro hL (And.intro hnl (And.intro hS (And.intro hnB hw))))
  clear hL hnl hS hnB hw eA hbA hsA hcA hhA
  by_cases hc : nB ≤ n
  · have g0 : decide ((n : Int) < (nB : Int)) = false := by simp; omega
    have g00 : ¬ (n : Int) < (nB : Int) := by omega
    go_enter Tryz.func7, Tryz.ntmps7
    change Code.wp _ (.seq (cL_ (fB Tryz.f7)) (.seq (cL_ (cR (fB Tryz.f7))) (.seq (cL_ (cR (cR (fB Tryz.f7)))) (.seq (cL_ (cR (cR (cR (fB Tryz.f7))))) (dTail Tryz.f7))))) _ _ _
    obtain ⟨rest, hrest0⟩ : ∃ rest, dTail Tryz.f7 = rest := ⟨_, rfl⟩
    rw [hrest0]
    have hrest := hide hrest0
    clear hrest0
    conv => arg 2; arg 1; whnf
    conv => arg 2; arg 2; arg 1; whnf
    conv => arg 2; arg 2; arg 2; arg 1; whnf
    conv => arg 2; arg 2; arg 2; arg 2; arg 1; whnf
    go_wp2_with fail
    rw [unhide HE]
    clear x0 x1 f0 f1
    go_loopw [6] (fun iv wr => ∃ i : Nat, i ≤ n ∧ iv = .int .i64 i ∧ Hid (RsI ls i) ∧ Hid (Below A.heap.size A wr)) (fun iv _ => n - (intOf iv).toNat)
    case atStart => exact ⟨0, Nat.zero_le _, rfl, ⟨[], rfl⟩, Below.refl _ _⟩
    case round =>
      obtain ⟨i, hi0, rfl, hR, hwr⟩ := hrel
      obtain ⟨hbA, hhA, hsA⟩ := unhide HA
      obtain ⟨hL, hnl, hS, hnB, hw⟩ := unhide HL
      have hhr := ((unhide hwr).block w.heap.size (by omega)).trans hhA
      have hbw : Below w.heap.size w wr := hbA.trans ((unhide hwr).mono hbA.size)
      by_cases hi : i < n
      · obtain ⟨b, off, rfl, hbB, hLj⟩ := hL.2.2 (by omega)
        obtain ⟨l, hl⟩ : ∃ l, ls[i]? = some l := ⟨_, List.getElem?_eq_getElem (by omega)⟩
        obtain ⟨x, y, q1, q2⟩ := hLj i hi l hl
        have q0 : wr.rangeAt b (off + i * 2) [x, y] := rangeAt_below q1 hbB hbw
        have g1 : (i : Int) < (n : Int) := by omega
        have g2 : (n : Int) ≤ 100 := by omega
        have g3 : (0 : Int) ≤ (i : Int) := by omega
        have hll : l.1.length ≤ 1000000 := Nat.le_trans ((lwt_len ls).2 l (List.mem_of_getElem? hl)) (by omega)
        have hl2 : IsL wr wr.heap.size (.agg #[x, y]) l.1 l.2 := IsL.up (IsL.more q2 hbw) hbw.size
        have HD := hide (rowD_any hl2 hll)
        obtain ⟨bb, hbb⟩ : ∃ bb, (readR l.1 l.2).isSome = bb := ⟨_, rfl⟩
        rw [hbb] at HD
        have hbad : bb = false → readL ls = none := fun e => allO_bad hl (by rw [e] at hbb; simpa using hbb)
        have hgood : bb = true → RsI ls (i + 1) := fun e => by
          rw [e] at hbb
          obtain ⟨r, hr⟩ := Option.isSome_iff_exists.1 hbb
          obtain ⟨rs, hrs⟩ := unhide hR
          exact ⟨rs ++ [r], allO_step hl hrs hr⟩
        have y0 : wr.cell? ⟨b, off + i * 2, none⟩ = some x := q0 0 _ rfl
        have y1 : wr.cell? ⟨b, off + i * 2 + 1, none⟩ = some y := q0 1 _ rfl
        have HX := hide (And.intro hbad (And.intro hgood (And.intro hbw (And.intro hhr (And.intro hwr hbA)))))
        clear hL hnl hS hnB hw hhr hbw hLj hl q1 q2 q0 hll hl2 hbb hbad hgood hbA hhA hsA hR hwr
        go_wp2_with fail
        refine (unhide HD).mono ?_
        rintro e w4 ⟨rfl, hb4⟩
        obtain ⟨hbad, hgood, hbw, hhr, hwr, hbA⟩ := unhide HX
        have hlt := (Array.getElem?_eq_some_iff.1 hhr).1
        have hh4 := (hb4.block w.heap.size hlt).trans hhr
        have x0 : w4.cell? ⟨w.heap.size, 0, none⟩ = some (.slice none 0 0) := (blk hh4).2.1 0 _ rfl
        have x1 : w4.cell? ⟨w.heap.size, 1, none⟩ = some (.string ⟨#[]⟩) := (blk hh4).2.1 1 _ rfl
        have f0 := (blk hh4).2.2 0
        have f1 := (blk hh4).2.2 1
        have H4 := hide (And.intro (hbw.trans (hb4.mono hbw.size)) (And.intro ((unhide hwr).trans (hb4.mono (unhide hwr).size)) hh4))
        clear hb4 hbw hhr hlt hh4 hwr hbA y0 y1 HX HD
        cases bb with
        | false =>
          go_wp2
          obtain ⟨hb4, -, hh4⟩ := unhide H4
          refine bodyPost_ret (res_row2 (cs := [.slice none 0 0, .string ⟨#[]⟩]) rfl rfl rfl (range_block (fill2 hh4)) rfl rfl rfl) rfl ?_
          exact sd_no (sumAll_row (hbad trivial)) hb4 _ _
        | true =>
          go_wp2
          refine ⟨⟨i + 1, by omega, by simp, hgood trivial, (unhide H4).2.1⟩, ?_⟩
          simp [intOf]
          omega
      · have gi : decide ((i : Int) < (n : Int)) = false := by simp; omega
        have g1 : ¬ ((i : Int) < (n : Int)) := by omega
        obtain rfl : i = n := by omega
        rw [hnl] at hR
        obtain ⟨rs, hrs⟩ := unhide hR
        rw [List.take_length] at hrs
        have HX := hide (And.intro hrs (And.intro hbw (And.intro hhr (And.intro hwr hbA))))
        clear hL hnl hS hnB hw hhr hbw hrs hbA hhA hsA hR hwr
        go_wp2_with fail
        obtain ⟨V, hV⟩ : ∃ V, V = wr := ⟨_, rfl⟩
        subst hV
        go_loopw [7] (fun iv wq => ∃ i : Nat, i ≤ nB ∧ iv = .int .i64 i ∧ Hid (BsI bs i) ∧ Hid (Below V.heap.size V wq)) (fun iv _ => nB - (intOf iv).toNat)
        case atStart => exact ⟨0, Nat.zero_le _, rfl, ⟨[], rfl⟩, Below.refl _ _⟩
        case round =>
          obtain ⟨j, hj0, rfl, hQ, hwq⟩ := hrel
          obtain ⟨hrs, hbw, hhr, hwV, hbA⟩ := unhide HX
          obtain ⟨hL, hnl, hS, hnB, hw⟩ := unhide HL
          have hhq := ((unhide hwq).block w.heap.size (Array.getElem?_eq_some_iff.1 hhr).1).trans hhr
          have hbq : Below w.heap.size w wr := hbw.trans ((unhide hwq).mono hbw.size)
          by_cases hj : j < nB
          · obtain ⟨b, off, rfl, hbB, hBj⟩ := hS.2.2 (by omega)
            obtain ⟨s, hs⟩ : ∃ s, bs[j]? = some s := ⟨_, List.getElem?_eq_getElem (by omega)⟩
            have q1 : wr.cell? ⟨b, off + j, none⟩ = some (.string s) := by
              have h := hBj j hj s hs
              rw [Nat.mul_one] at h
              exact (hbq.cell (p := ⟨b, off + j, none⟩) hbB).trans h
            have t1 : (j : Int) < (nB : Int) := by omega
            have t2 : (nB : Int) ≤ 100 := by omega
            have t3 : (0 : Int) ≤ (j : Int) := by omega
            have HN := hide (fun U => right_any s 1600 U (by omega))
            obtain ⟨z, hz⟩ : ∃ z, numT 1600 s = z := ⟨_, rfl⟩
            rw [hz] at HN
            have hbad : timesT s = none → sumAll ls bs = none := fun e => sumAll_by (allO_bad hs e)
            have hgood : ∀ y, timesT s = some y → BsI bs (j + 1) := fun y e => by
              obtain ⟨ns, hns⟩ := unhide hQ
              exact ⟨ns ++ [y], allO_step hs hns e⟩
            have HY := hide (And.intro hbad (And.intro hgood (And.intro hbq (And.intro hhq (And.intro hwq hz)))))
            clear hrs hbw hhr hwV hbA hL hnl hS hnB hw hhq hbq hBj hs hbad hgood hz hQ hwq g1 gi
            go_wp2_with fail
            refine (unhide HN _).mono ?_
            rintro e w4 ⟨rfl, hb4⟩
            have H4 := hide hb4
            clear hb4
            cases z with
            | none =>
              obtain ⟨hbad, hgood, hbq, hhq, hwq, hz⟩ := unhide HY
              have hlt := (Array.getElem?_eq_some_iff.1 hhq).1
              have hh4 := ((unhide H4).block w.heap.size hlt).trans hhq
              have x0 : w4.cell? ⟨w.heap.size, 0, none⟩ = some (.slice none 0 0) := (blk hh4).2.1 0 _ rfl
              have x1 : w4.cell? ⟨w.heap.size, 1, none⟩ = some (.string ⟨#[]⟩) := (blk hh4).2.1 1 _ rfl
              have f0 := (blk hh4).2.2 0
              have f1 := (blk hh4).2.2 1
              have H5 := hide (And.intro (hbq.trans ((unhide H4).mono hbq.size)) (And.intro ((unhide hwq).trans ((unhide H4).mono (unhide hwq).size)) hh4))
              have hb9 := hbad (by unfold timesT; rw [hz])
              clear hbq hhq hlt hh4 hwq hz hbad hgood H4
              go_wp2
              obtain ⟨hb4, -, hh4⟩ := unhide H5
              refine bodyPost_ret (res_row2 (cs := [.slice none 0 0, .string ⟨#[]⟩]) rfl rfl rfl (range_block (fill2 hh4)) rfl rfl rfl) rfl ?_
              exact sd_no hb9 hb4 _ _
            | some y =>
              have hz := (unhide HY).2.2.2.2.2
              have HM := hide (fun U => mustT (w := U) (Nat.le_of_ble_eq_true rfl) hz)
              have q4 : w4.cell? ⟨b, off + j, none⟩ = some (.string s) := ((unhide H4).cell (p := ⟨b, off + j, none⟩) (World.block_lt_of_cell? _ _ q1)).trans q1
              clear hz q1
              go_wp2_with fail
              refine (unhide HM _).mono ?_
              rintro e w5 ⟨r, rfl, hb5, hI⟩
              have HS := hide (Nm.signN_any r y w5 hI)
              have H4' := hide ((unhide H4).trans (hb5.mono (unhide H4).size))
              clear H4 hb5 hI HM q4
              go_wp2_with fail
              refine (unhide HS).mono ?_
              rintro e w6 ⟨rfl, hb6⟩
              have H4 := hide ((unhide H4').trans (hb6.mono (unhide H4').size))
              clear H4' hb6 HS
              obtain ⟨hbad, hgood, hbq, hhq, hwq, hz⟩ := unhide HY
              have hlt := (Array.getElem?_eq_some_iff.1 hhq).1
              have hh4 := ((unhide H4).block w.heap.size hlt).trans hhq
              have x0 : w6.cell? ⟨w.heap.size, 0, none⟩ = some (.slice none 0 0) := (blk hh4).2.1 0 _ rfl
              have x1 : w6.cell? ⟨w.heap.size, 1, none⟩ = some (.string ⟨#[]⟩) := (blk hh4).2.1 1 _ rfl
              have f0 := (blk hh4).2.2 0
              have f1 := (blk hh4).2.2 1
              have H5 := hide (And.intro (hbq.trans ((unhide H4).mono hbq.size)) (And.intro ((unhide hwq).trans ((unhide H4).mono (unhide hwq).size)) hh4))
              by_cases hy : y < 0
              · have hb9 := hbad (by unfold timesT; rw [hz]; simp [hy])
                have hsg : Nm.sgn y < 0 := by unfold Nm.sgn; omega
                clear hbq hhq hlt hh4 hwq hz hbad hgood H4
                go_wp2
                obtain ⟨hb4, -, hh4⟩ := unhide H5
                refine bodyPost_ret (res_row2 (cs := [.slice none 0 0, .string ⟨#[]⟩]) rfl rfl rfl (range_block (fill2 hh4)) rfl rfl rfl) rfl ?_
                exact sd_no hb9 hb4 _ _
              · have hb9 := hgood y (by unfold timesT; rw [hz]; simp [hy])
                have hsg : decide (Nm.sgn y < 0) = false := by unfold Nm.sgn; simp; omega
                have hsg' : ¬ (Nm.sgn y < 0) := by simpa using hsg
                clear hbq hhq hlt hh4 hwq hz hbad hgood H4
                go_wp2
                refine ⟨⟨j + 1, by omega, by simp, hb9, (unhide H5).2.1⟩, ?_⟩
                simp [intOf]
                omega
          · have gi : decide ((j : Int) < (nB : Int)) = false := by simp; omega
            have g1 : ¬ ((j : Int) < (nB : Int)) := by omega
            obtain rfl : j = nB := by omega
            rw [hnB] at hQ
            obtain ⟨ns, hns⟩ := unhide hQ
            rw [List.take_length] at hns
            have hLq : Row wr.heap.size aL i cL 2 (LAt wr wr.heap.size ls) := hL.mono hbq.size fun b o j hb h l hl => by
              obtain ⟨x, y, h1, h2⟩ := h l hl
              exact ⟨x, y, rangeAt_below h1 hb hbq, (h2.more hbq).up hbq.size⟩
            have hSq : Row wr.heap.size aB j cB 1 (BA wr bs) := hS.mono hbq.size fun b o j hb h s hs => (hbq.cell (p := ⟨b, o, none⟩) hb).trans (h s hs)
            have HZ := hide (And.intro hLq (And.intro hnl (And.intro hSq (And.intro hnB (And.intro hrs (And.intro hns (And.intro hw (And.intro hhq hbq))))))))
            clear hrs hbw hhr hwV hbA hL hnl hS hnB hw hhq hbq hQ hwq hns hLq hSq
            go_wp2_with fail
            obtain ⟨hLq, hnl, hSq, hnB, hrs, hns, hw, hhq, hbq⟩ := unhide HZ
            rw [← unhide hrest]
            refine d_tail ⟨rfl, rfl, rfl, rfl, rfl⟩ hLq hnl hSq hnB (by omega) hrs hns hw hhq fun a' w6 W7 nl v KT e1 e2 e3 e4 hsr hmm hb6 os hK hR7 => ?_
            refine bodyPost_ret (res_row2 (cs := [v, .string KT]) rfl e3 e4 (range_block (fill2 hR7)) rfl rfl rfl) e1 ?_
            exact sd_yes (by omega) hrs hns hw hbq (Array.getElem?_eq_some_iff.1 hhq).1 hsr hmm hb6 os hK
  · have g0 : (n : Int) < (nB : Int) := by omega
    go_enter Tryz.func7, Tryz.ntmps7
    go_wp2_with fail
    rw [unhide HE]
    go_wp2
    obtain ⟨hbA, hhA, hsA⟩ := unhide HA
    obtain ⟨hL, hnl, hS, hnB, hw⟩ := unhide HL
    refine bodyPost_ret (res_row2 (cs := [.slice none 0 0, .string ⟨#[]⟩]) rfl rfl rfl (range_block hhA) rfl rfl rfl) rfl ?_
    exact sd_no0 (sumAll_long (by omega)) hbA
end Go.Proofs.YthgdmppmjnmiiaaGreatDoor

/- FarkasSums: light of rows and multipliers. -/
namespace Go.Proofs.YthgdmppmjnmiiaaGreatDoor
open Go Go.RowKit Go.Maps
open _root_.Go.Proofs.YthgdmppmjnmiiaaGreatDoor.Nm (IsI pw)
set_option maxRecDepth 100000 in
set_option maxHeartbeats 4000000 in
theorem fk_sum (w : World) (aB : Option Addr) (nB cB : Nat) (hB : nB ≤ 281474976710656) : Calls Tryz.prog 13 #[.agg #[.slice aB nB cB, .bool false, .slice none 0 0, .string ⟨#[]⟩, .slice none 0 0]] w (VPost (.int .i64 (1 + (nB : Int))) w) := by
  obtain ⟨A, eA, hbA, hsA, hcA, hhA⟩ := box_new w #[.slice aB nB cB, .bool false, .slice none 0 0, .string ⟨#[]⟩, .slice none 0 0] 31
  have x0 : A.cell? ⟨w.heap.size, 0, none⟩ = some (.slice aB nB cB) := (blk hhA).2.1 0 _ rfl
  have x2 : A.cell? ⟨w.heap.size, 2, none⟩ = some (.slice none 0 0) := (blk hhA).2.1 2 _ rfl
  have x4 : A.cell? ⟨w.heap.size, 4, none⟩ = some (.slice none 0 0) := (blk hhA).2.1 4 _ rfl
  have HE := hide eA
  have HB := hide hbA
  rw [← eA] at x0 x2
  have k1 : wrap64 (1 + (nB : Int)) = 1 + (nB : Int) := wrap64_ok (by omega) (by omega)
  clear eA hbA hsA hcA hhA
  go_enter Tryz.func13, Tryz.ntmps13
  go_wp2_with fail
  rw [unhide HE]
  go_loopw [3, 4] (fun nv iv wr => nv = .int .i64 (1 + (nB : Int)) ∧ iv = .int .i64 0 ∧ wr = A) (fun _ _ _ => 0)
  case atStart => exact ⟨rfl, rfl, rfl⟩
  case round =>
    obtain ⟨rfl, rfl, rfl⟩ := hrel
    go_wp2
    go_ret
    exact ⟨rfl, unhide HB⟩
set_option maxRecDepth 100000 in
set_option maxHeartbeats 4000000 in
theorem light_sum {w : World} {aL aB : Option Addr} {n cL nB cB : Nat} {ls : List (List (ByteArray × ByteArray) × ByteArray)} (hL : Row w.heap.size aL n cL 2 (LAt w w.heap.size ls)) (hn : n = ls.length) (hB : nB ≤ 281474976710656) : Calls Tryz.prog 5 #[.slice aL n cL, .agg #[.slice aB nB cB, .bool false, .slice none 0 0, .string ⟨#[]⟩, .slice none 0 0]] w (LtPost ls w) := by
  obtain ⟨A, eA, hbA, hsA, hcA, hhA⟩ := box_new w #[.slice aB nB cB, .bool false, .slice none 0 0, .string ⟨#[]⟩, .slice none 0 0] 31
  have x0 : A.cell? ⟨w.heap.size, 0, none⟩ = some (.slice aB nB cB) := (blk hhA).2.1 0 _ rfl
  have x1 : A.cell? ⟨w.heap.size, 1, none⟩ = some (.bool false) := (blk hhA).2.1 1 _ rfl
  have x2 : A.cell? ⟨w.heap.size, 2, none⟩ = some (.slice none 0 0) := (blk hhA).2.1 2 _ rfl
  have x3 : A.cell? ⟨w.heap.size, 3, none⟩ = some (.string ⟨#[]⟩) := (blk hhA).2.1 3 _ rfl
  have x4 : A.cell? ⟨w.heap.size, 4, none⟩ = some (.slice none 0 0) := (blk hhA).2.1 4 _ rfl
  have HE := hide eA
  have HB := hide hbA
  have HL := hide (And.intro hL hn)
  have hm := hL.2.1
  clear eA hbA hsA hcA hhA hL hn
  go_enter Tryz.func5, Tryz.ntmps5
  go_wp2_with fail
  rw [unhide HE]
  go_loopw [5, 6] (fun nv iv wr => ∃ i m : Nat, i ≤ n ∧ iv = .int .i64 i ∧ nv = .int .i64 m ∧ Hid (m = lwt (ls.take i)) ∧ m ≤ 562949953421312 ∧ wr = A) (fun _ iv _ => n - (intOf iv).toNat)
  case atStart => exact ⟨0, 0, Nat.zero_le _, rfl, rfl, rfl, by omega, rfl⟩
  case round =>
    obtain ⟨i, m, hi0, rfl, rfl, hme, hmb, rfl⟩ := hrel
    by_cases hi : i < n
    · by_cases h100 : m ≤ 100
      · obtain ⟨hL, hn⟩ := unhide HL
        obtain ⟨b, off, rfl, hbB, hLj⟩ := hL.2.2 (by omega)
        obtain ⟨l, hl⟩ : ∃ l, ls[i]? = some l := ⟨_, List.getElem?_eq_getElem (by omega)⟩
        obtain ⟨u, v, hcc, aC, nC, cC, exy, hnC, hRC⟩ := hLj i hi _ hl
        have hu : u = .slice aC nC cC := by simp at exy; exact exy.1
        subst hu
        have q0 : wr.cell? ⟨b, off + i * 2, none⟩ = some (.slice aC nC cC) := ((unhide HB).cell (p := ⟨b, off + i * 2, none⟩) hbB).trans (hcc 0 _ rfl)
        have hC2 := hRC.2.1
        have g1 : (i : Int) < (n : Int) := by omega
        have g0 : (0 : Int) ≤ (i : Int) := by omega
        have g2 : (n : Int) ≤ 281474976710656 := by omega
        have g3 : (m : Int) ≤ 100 := by omega
        have hb3 : (m : Int) + 1 + (nC : Int) ≤ 9223372036854775807 := by omega
        have hb4 : (-9223372036854775808 : Int) ≤ (m : Int) + 1 + (nC : Int) := by omega
        have k1 := wrap_ok (x := (m : Int) + 1) (by omega) (by omega)
        have k2 := wrap_ok hb4 hb3
        have k3 := wrap64_ok (x := (m : Int) + 1) (by omega) (by omega)
        have k4 := wrap64_ok hb4 hb3
        clear hb3 hb4
        have HN := hide (And.intro hme (And.intro hl (And.intro hnC hC2)))
        have hmb2 := hide hmb
        clear hL hn hbB hLj hcc exy hnC hRC hC2 hl hme hmb h100
        go_wp2
        obtain ⟨hme, hl, hnC, hC2⟩ := unhide HN
        have hme' := unhide hme
        refine ⟨⟨i + 1, m + 1 + nC, by omega, by simp, ?_, ?_, by omega, by first | rfl | trivial⟩, ?_⟩
        · first | rfl | (simp; omega)
        · show m + 1 + nC = lwt (ls.take (i + 1))
          rw [lwt_take hl]
          omega
        · simp [intOf]
          omega
      · have g3 : decide ((m : Int) ≤ 100) = false := by simp; omega
        have g4 : ¬ ((m : Int) ≤ 100) := by omega
        have g1 : (i : Int) < (n : Int) := by omega
        have HN := hide hme
        clear hme hmb h100
        go_wp2
        go_ret
        exact ⟨false, rfl, unhide HB, fun h => by cases h⟩
    · have gi : decide ((i : Int) < (n : Int)) = false := by simp; omega
      have g1 : ¬ ((i : Int) < (n : Int)) := by omega
      obtain rfl : i = n := by omega
      have hme' := unhide hme
      obtain ⟨hL, hn⟩ := unhide HL
      rw [hn, List.take_length] at hme'
      have HM := hide hme'
      clear hme hi hi0 hL hn hme'
      by_cases h100 : m ≤ 100
      · have g3 : (m : Int) ≤ 100 := by omega
        have HF := hide (fk_sum wr aB nB cB hB)
        clear hmb
        go_wp2_with fail
        refine (unhide HF).mono ?_
        rintro e w9 ⟨rfl, hb9⟩
        have HB9 := hide ((unhide HB).trans (hb9.mono (unhide HB).size))
        clear hb9 HF x0 x1 x2 x3 x4
        by_cases h99 : nB ≤ 99
        · have g9 : 1 + (nB : Int) ≤ 100 := by omega
          go_wp2
          go_ret
          exact ⟨true, rfl, unhide HB9, fun _ => by have := unhide HM; omega⟩
        · have g9 : ¬ (1 + (nB : Int) ≤ 100) := by omega
          have g8 : decide (1 + (nB : Int) ≤ 100) = false := by simp; omega
          go_wp2
          go_ret
          exact ⟨false, rfl, unhide HB9, fun h => by cases h⟩
      · have g3 : decide ((m : Int) ≤ 100) = false := by simp; omega
        have g4 : ¬ ((m : Int) ≤ 100) := by omega
        clear hmb h100
        go_wp2
        go_ret
        exact ⟨false, rfl, unhide HB, fun h => by cases h⟩
end Go.Proofs.YthgdmppmjnmiiaaGreatDoor

/- Package farkas: what Sum answers where there is none. -/
namespace Go.Proofs.YthgdmppmjnmiiaaGreatDoor
open Go Go.RowKit Go.Maps
open _root_.Go.Proofs.YthgdmppmjnmiiaaGreatDoor.Nm (IsI pw)
set_option maxRecDepth 100000 in
set_option maxHeartbeats 4000000 in
theorem Sum_none {w : World} {B : Nat} {aL aB : Option Addr} {n cL nB cB : Nat} {ls : List (List (ByteArray × ByteArray) × ByteArray)} {bs : List ByteArray} (hL : Row B aL n cL 2 (LAt w B ls)) (hnl : n = ls.length) (hS : Row B aB nB cB 1 (BA w bs)) (hnB : nB = bs.length) (hB : B ≤ w.heap.size) (hn : n ≤ 1000) (hC : ∀ l ∈ ls, l.1.length ≤ 1000) (hT : Nm.Tab w) (hnone0 : sumAll ls bs = none) : Calls Tryz.prog 6 #[.slice aL n cL, .slice aB nB cB] w (VPost (.tuple #[.agg #[.slice none 0 0, .string ⟨#[]⟩], .bool false]) w) := by
  have hn0 := hide hnone0
  clear hnone0
  obtain ⟨A, eA, hbA, hsA, hcA, hhA⟩ := box_new w #[.slice none 0 0, .string ⟨#[]⟩] 28
  have hLA : Row B aL n cL 2 (LAt A B ls) := hL.mono (Nat.le_refl _) fun b o j hb h l hl => by
    obtain ⟨x, y, h1, h2⟩ := h l hl
    exact ⟨x, y, rangeAt_below h1 (Nat.lt_of_lt_of_le hb hB) hbA, h2.more (hbA.mono hB)⟩
  have HR := hide (readRows_any hLA hnl (Nat.le_trans hB hbA.size) (by omega) (fun l hl => by have := hC l hl; omega))
  have HE := hide eA
  have HB := hide (And.intro hbA (And.intro hsA hhA))
  have HC := hide (And.intro hS (And.intro hnB (And.intro hB (And.intro hn (And.intro hC (And.intro hT hnl))))))
  clear hL hnl hS hnB hB hn hC hT eA hbA hsA hcA hhA hLA
  go_enter Tryz.func6, Tryz.ntmps6
  go_wp2_with fail
  rw [unhide HE]
  refine (unhide HR).mono ?_
  rintro e w2 ⟨aR, nR, cR, rfl, hb2, hrs⟩
  obtain ⟨hbA, hsA, hhA⟩ := unhide HB
  have hh2 := (hb2.block w.heap.size (by omega)).trans hhA
  have hb02 : Below w.heap.size w w2 := hbA.trans (hb2.mono hbA.size)
  have r0 : w2.cell? ⟨w.heap.size, 0, none⟩ = some (.slice none 0 0) := (blk hh2).2.1 0 _ rfl
  have r1 : w2.cell? ⟨w.heap.size, 1, none⟩ = some (.string ⟨#[]⟩) := (blk hh2).2.1 1 _ rfl
  have rf0 := (blk hh2).2.2 0
  have rf1 := (blk hh2).2.2 1
  have H2 := hide (And.intro hh2 (And.intro hb02 hrs))
  clear hbA hsA hhA hh2 hb02 hb2 hrs HR HE HB
  cases hrl : readL ls with
  | none =>
    go_wp2
    obtain ⟨hh2, hb02, _⟩ := unhide H2
    have hnone : sumAll ls bs = none := by unfold sumAll; rw [hrl]
    refine bodyPost_ret (res_row2 (cs := [.slice none 0 0, .string ⟨#[]⟩]) rfl rfl rfl (range_block (fill2 hh2)) rfl rfl rfl) rfl ?_
    exact ⟨rfl, (put2 w2 w.heap.size _ _).below hb02 (Nat.le_refl _)⟩
  | some rs =>
    obtain ⟨hh2, hb02, hrs⟩ := unhide H2
    obtain ⟨hS, hnB, hB, hn, hC, hT, hnl⟩ := unhide HC
    obtain ⟨k1, k2, k3⟩ := hrs rs hrl
    have hlr : rs.length = ls.length := by
      have := allO_len hrl
      omega
    have hS2 : Row w2.heap.size aB nB cB 1 (BA w2 bs) := hS.mono (Nat.le_trans hB hb02.size) fun b o j hb h s hs => (hb02.cell (p := ⟨b, o, none⟩) (Nat.lt_of_lt_of_le hb hB)).trans (h s hs)
    have HSum := hide (sumOf_any (X := XX) k3 k1 hS2 hnB (Nat.le_refl _) (by omega) (rows_ok hrl hC) (fun s z hz => Int.lt_of_lt_of_le (by have := numT_bound (by omega) hz; omega) (pow_pw (d := 1600) (k := 3000) (by omega))) big_X)
    have HSA : Hid (sumAll ls bs = sumO rs bs) := by show _ = _; unfold sumAll; rw [hrl]
    clear hh2 hb02 hrs hS hnB hB hn hC hT hnl k1 k2 k3 hlr hS2 r0 r1 rf0 rf1
    go_wp2_with fail
    refine (unhide HSum).mono ?_
    rintro e w3 ⟨r, rfl, hb3, ⟨mx, si, sa, sl, sc, rfl⟩, hq⟩
    obtain ⟨hh2, hb02, _⟩ := unhide H2
    obtain ⟨hS, hnB, hB, hn, hC, hT, hnl⟩ := unhide HC
    obtain ⟨w4, e4, hb4, hs4, hc4, hh4⟩ := box_new w3 #[.map mx, .int .i64 si, .slice sa sl sc] 51
    have hb24 : Below w2.heap.size w2 w4 := hb3.trans (hb4.mono hb3.size)
    have hb04 : Below w.heap.size w w4 := hb02.trans (hb24.mono hb02.size)
    have hh4' := (hb24.block w.heap.size (Array.getElem?_eq_some_iff.1 hh2).1).trans hh2
    have r0 : w4.cell? ⟨w.heap.size, 0, none⟩ = some (.slice none 0 0) := (blk hh4').2.1 0 _ rfl
    have r1 : w4.cell? ⟨w.heap.size, 1, none⟩ = some (.string ⟨#[]⟩) := (blk hh4').2.1 1 _ rfl
    have rf0 := (blk hh4').2.2 0
    have rf1 := (blk hh4').2.2 1
    have s0 : w4.cell? ⟨w3.heap.size, 0, none⟩ = some (.map mx) := (blk hh4).2.1 0 _ rfl
    have s1 : w4.cell? ⟨w3.heap.size, 1, none⟩ = some (.int .i64 si) := (blk hh4).2.1 1 _ rfl
    have s2 : w4.cell? ⟨w3.heap.size, 2, none⟩ = some (.slice sa sl sc) := (blk hh4).2.1 2 _ rfl
    have HE4 := hide e4
    have H4 := hide (And.intro hh4' (And.intro hb04 (And.intro hb4 hq)))
    rw [← e4] at r0 r1 rf0 rf1 s0 s1 s2
    clear hh2 hb02 hS hnB hB hn hC hT hnl e4 hb4 hs4 hc4 hh4 hb24 hb04 hh4' hb3 hq HSum H2
    cases hso : sumO rs bs with
    | none =>
      clear s0 s1 s2
      go_wp2
      rw [unhide HE4]
      obtain ⟨hh4, hb04, _, _⟩ := unhide H4
      have hnone : sumAll ls bs = none := (unhide HSA).trans hso
      refine bodyPost_ret (res_row2 (cs := [.slice none 0 0, .string ⟨#[]⟩]) rfl rfl rfl (range_block (fill2 hh4)) rfl rfl rfl) rfl ?_
      exact ⟨rfl, (put2 w4 w.heap.size _ _).below hb04 (Nat.le_refl _)⟩
    | some q => exact absurd ((unhide HSA).symm.trans (unhide hn0)) (by rw [hso]; exact fun h => by cases h)
end Go.Proofs.YthgdmppmjnmiiaaGreatDoor

/- FarkasSums: the law's walk. -/
namespace Go.Proofs.YthgdmppmjnmiiaaGreatDoor
open Go Go.RowKit Go.Maps
open _root_.Go.Proofs.YthgdmppmjnmiiaaGreatDoor.Nm (IsI pw)
/-- What both sums tell, held against one another. -/
def BothP (ls : List (List (ByteArray × ByteArray) × ByteArray)) (bs : List ByteArray) (w : World) (v1 v2 : Value) : Prop := ∃ a1 n1 c1 a2 n2 c2 K C, v1 = .agg #[.slice a1 n1 c1, .string K] ∧ v2 = .agg #[.slice a2 n2 c2, .string K] ∧ n1 = C.length ∧ n2 = C.length ∧ Row w.heap.size a1 n1 c1 2 (CA w C) ∧ Row w.heap.size a2 n2 c2 2 (CA w C)
theorem row_nil (w : World) : Row w.heap.size none 0 0 2 (CA w []) := ⟨Nat.le_refl _, by omega, fun h => absurd rfl h⟩
theorem both_none {ls : List (List (ByteArray × ByteArray) × ByteArray)} {bs : List ByteArray} {w : World} : BothP ls bs w (.agg #[.slice none 0 0, .string ⟨#[]⟩]) (.agg #[.slice none 0 0, .string ⟨#[]⟩]) := ⟨_, _, _, _, _, _, _, [], rfl, rfl, rfl, rfl, row_nil w, row_nil w⟩
theorem sum_keys {ls : List (List (ByteArray × ByteArray) × ByteArray)} {bs : List ByteArray} {q : (ByteArray → Int) × Int} (hq : sumAll ls bs = some q) {s : ByteArray} (hs : s ∉ nmsL ls) : q.1 s = 0 := by
  unfold sumAll at hq
  cases hr : readL ls with
  | none => rw [hr] at hq; cases hq
  | some rs =>
    rw [hr] at hq
    simp only [sumO] at hq
    split at hq
    · cases hq
    · cases hn : allO timesT bs with
      | none => rw [hn] at hq; cases hq
      | some ns =>
        rw [hn] at hq
        obtain rfl := Option.some.inj hq
        rw [sumN_C]
        exact sumC_none hs ns hr
theorem both_some {ls : List (List (ByteArray × ByteArray) × ByteArray)} {bs nl : List ByteArray} {q : (ByteArray → Int) × Int} {ss : List (List UInt8)} {w3 w4 : World} {v1 v2 : Value} (hz : ∀ z ∈ nmsL ls, z.size ≤ maxLen) (hq : sumAll ls bs = some q) (hk : Keys q.1 ss) (h1 : IsL w3 w3.heap.size v1 (coefsOf q.1 ss) (bytesOf (Lib.itoa q.2))) (hs : SrtN nl) (hm : ∀ z, z ∈ nl ↔ z ∈ nmsL ls) (hb : Below w3.heap.size w3 w4) (h2 : IsL w4 w4.heap.size v2 (tellN q.1 nl) (bytesOf (Lib.itoa q.2))) : BothP ls bs w4 v1 v2 := by
  have e := told_sorted hk hs (fun z hz1 _ => hz z ((hm z).1 hz1)) fun z _ hne => (hm z).2 (Classical.byContradiction fun h => hne (sum_keys hq h))
  rw [← e] at h2
  obtain ⟨a1, n1, c1, rfl, e1, r1⟩ := h1
  obtain ⟨a2, n2, c2, rfl, e2, r2⟩ := h2
  exact ⟨_, _, _, _, _, _, _, _, rfl, rfl, e1, e2, CA.all r1 hb, r2⟩
end Go.Proofs.YthgdmppmjnmiiaaGreatDoor

/- FarkasSums: the region that holds Row against the document's Row. -/
namespace Go.Proofs.YthgdmppmjnmiiaaGreatDoor
open Go Go.RowKit Go.Maps
open _root_.Go.Proofs.YthgdmppmjnmiiaaGreatDoor.Nm (IsI pw op_indexAddr)
theorem enter_RowP : Enters Tryz.prog 8 := ⟨fun xs w => by go_simp⟩
theorem enter_RowD : Enters Tryz.prog 9 := ⟨fun xs w => by go_simp⟩
set_option maxRecDepth 100000 in
theorem ld_Lin {b o : Nat} {x y : Value} {w : World} (h : w.rangeAt b o [x, y]) : (Instr.loadAt 28 (.pointer (some ⟨b, o, none⟩))).run Tryz.prog w = .ok (.agg #[x, y]) w := run_loadAt_mid (P := Tryz.prog) w b o 28 _ _ h rfl rfl rfl
def kept10 : List Nat := (List.range 54).filter fun i => !(decide (35 ≤ i) && decide (i ≤ 45))
def sps10 (b off n cL i : Nat) (x y : Value) (bb : Bool) : List Value := [.slice (some ⟨b, off, none⟩) n cL, .int .i64 i, .pointer (some ⟨b, off + i * 2, none⟩), .agg #[x, y], .bool bb, .slice (some ⟨b, off, none⟩) n cL, .int .i64 i, .pointer (some ⟨b, off + i * 2, none⟩), .agg #[x, y], .bool bb, .bool false]
set_option maxRecDepth 100000 in
set_option maxHeartbeats 4000000 in
theorem sums_r10 {Q : Exit → Act → World → Prop} {a0 : Act} {w0 : World} {b off n cL i : Nat} {x y : Value} {bb : Bool} (hN : a0.tmps.size = 54) (h0 : a0.tmps[0]? = some (.slice (some ⟨b, off, none⟩) n cL)) (h9 : a0.tmps[9]? = some (.int .i64 i)) (hr : w0.rangeAt b (off + i * 2) [x, y]) (hb : b < w0.heap.size) (hi : i < n) (hn : n ≤ 1000000)
    (hR : ∀ W, Below w0.heap.size w0 W → Calls Tryz.prog 8 #[.agg #[x, y]] W (VPost (.bool bb) W)) (hD : ∀ W, Below w0.heap.size w0 W → Calls Tryz.prog 9 #[.agg #[x, y]] W (VPost (.bool bb) W))
    (hend : ∀ (a : Act) (w : World), a.defers = a0.defers → a.tmps.size = 54 → (∀ k, k ∈ kept10 → a.tmps[k]? = a0.tmps[k]?) → a.tmps.getD 45 undef = .bool false → Below w0.heap.size w0 w → Q .normal a w) :
    (Code.region 10 (Nm.regionOf Tryz.f3 10).toArray true).wp Tryz.prog Q a0 w0 := by
  have hl : (Nm.regionOf Tryz.f3 10).length = 11 := by kernel_rfl
  refine Nm.region_specs 54 kept10 (fun j _ v => v = (sps10 b off n cL i x y bb).getD j undef) (by kernel_rfl) (by kernel_rfl) hN (fun _ _ _ _ h _ => h) ?_ fun a w hbw hd hsz hk hp => hend a w hd hsz hk (hp 10 (by rw [hl]; omega)) hbw
  intro j o ho a w hbw hd hsz hk hp
  have e : o = (Nm.regionOf Tryz.f3 10).getD j default := by simp [List.getD, ho]
  subst e
  have hj : j < 11 := by rw [← hl]; exact (List.getElem?_eq_some_iff.1 ho).1
  have k0 : a.eval (.tmp 0) = .slice (some ⟨b, off, none⟩) n cL := getD_of ((hk 0 (by decide)).trans h0)
  have k9 : a.eval (.tmp 9) = .int .i64 i := getD_of ((hk 9 (by decide)).trans h9)
  have hi' : j = 0 ∨ j = 1 ∨ j = 2 ∨ j = 3 ∨ j = 4 ∨ j = 5 ∨ j = 6 ∨ j = 7 ∨ j = 8 ∨ j = 9 ∨ j = 10 := by omega
  clear ho hj
  rcases hi' with rfl | rfl | rfl | rfl | rfl | rfl | rfl | rfl | rfl | rfl | rfl
  · exact st_want (wnone rfl) (op_move ⟨_, rfl, Below.refl _ _, k0⟩)
  · exact st_want (wnone rfl) (op_move ⟨_, rfl, Below.refl _ _, k9⟩)
  · have e1 : a.eval (.tmp 35) = .slice (some ⟨b, off, none⟩) n cL := hp 0 (by kernel_rfl)
    have e2 : a.eval (.tmp 36) = .int .i64 i := hp 1 (by kernel_rfl)
    exact st_want (wnone rfl) (op_indexAddr e1 e2 (ix_L w hi hn) ⟨_, rfl, Below.refl _ _, rfl⟩)
  · have e1 : a.eval (.tmp 37) = .pointer (some ⟨b, off + i * 2, none⟩) := hp 2 (by kernel_rfl)
    exact st_want (wnone rfl) (op_load e1 (ld_Lin (rangeAt_below hr hb hbw)) ⟨_, rfl, Below.refl _ _, rfl⟩)
  · have e1 : a.tmps.getD 38 undef = .agg #[x, y] := hp 3 (by kernel_rfl)
    refine st_want (wnone rfl) (op_call enter_RowP ?_)
    have hargs : (#[Operand.tmp 38]).map a.eval = #[.agg #[x, y]] := by
      simp only [List.map_toArray, List.map_cons, List.map_nil, Act.eval]
      rw [e1]
    rw [hargs]
    refine (hR w hbw).mono ?_
    rintro ex w' ⟨rfl, hb'⟩
    exact ⟨_, rfl, _, rfl, hb', rfl⟩
  · exact st_want (wnone rfl) (op_move ⟨_, rfl, Below.refl _ _, k0⟩)
  · exact st_want (wnone rfl) (op_move ⟨_, rfl, Below.refl _ _, k9⟩)
  · have e1 : a.eval (.tmp 40) = .slice (some ⟨b, off, none⟩) n cL := hp 5 (by kernel_rfl)
    have e2 : a.eval (.tmp 41) = .int .i64 i := hp 6 (by kernel_rfl)
    exact st_want (wnone rfl) (op_indexAddr e1 e2 (ix_L w hi hn) ⟨_, rfl, Below.refl _ _, rfl⟩)
  · have e1 : a.eval (.tmp 42) = .pointer (some ⟨b, off + i * 2, none⟩) := hp 7 (by kernel_rfl)
    exact st_want (wnone rfl) (op_load e1 (ld_Lin (rangeAt_below hr hb hbw)) ⟨_, rfl, Below.refl _ _, rfl⟩)
  · have e1 : a.tmps.getD 43 undef = .agg #[x, y] := hp 8 (by kernel_rfl)
    refine st_want (wnone rfl) (op_call enter_RowD ?_)
    have hargs : (#[Operand.tmp 43]).map a.eval = #[.agg #[x, y]] := by
      simp only [List.map_toArray, List.map_cons, List.map_nil, Act.eval]
      rw [e1]
    rw [hargs]
    refine (hD w hbw).mono ?_
    rintro ex w' ⟨rfl, hb'⟩
    exact ⟨_, rfl, _, rfl, hb', rfl⟩
  · have e1 : a.eval (.tmp 39) = .bool bb := hp 4 (by kernel_rfl)
    have e2 : a.eval (.tmp 44) = .bool bb := hp 9 (by kernel_rfl)
    exact st_want (wnone rfl) (Nm.op_bin e1 e2 (v := .bool false) (by go_simp) (by cases bb <;> go_simp) ⟨_, rfl, Below.refl _ _, rfl⟩)
end Go.Proofs.YthgdmppmjnmiiaaGreatDoor

/- FarkasSums: the law's walk. -/
namespace Go.Proofs.YthgdmppmjnmiiaaGreatDoor
open Go Go.RowKit Go.Maps
open _root_.Go.Proofs.YthgdmppmjnmiiaaGreatDoor.Nm (IsI pw)
def ZL : Value := .agg #[.slice none 0 0, .string ⟨#[]⟩]
def FSum (ls : List (List (ByteArray × ByteArray) × ByteArray)) (bs : List ByteArray) (w' : World) (r : Value) : Prop := (sumAll ls bs = none → r = ZL) ∧ ∀ q, sumAll ls bs = some q → ∃ ss : List (List UInt8), Keys q.1 ss ∧ IsL w' w'.heap.size r (coefsOf q.1 ss) (bytesOf (Lib.itoa q.2))
theorem Sum_full {w : World} {aL aB : Option Addr} {n cL nB cB : Nat} {ls : List (List (ByteArray × ByteArray) × ByteArray)} {bs : List ByteArray} (hL : Row w.heap.size aL n cL 2 (LAt w w.heap.size ls)) (hnl : n = ls.length) (hS : Row w.heap.size aB nB cB 1 (BA w bs)) (hnB : nB = bs.length) (hw : lwt ls ≤ 100) (hT : Nm.Tab w) : Calls Tryz.prog 6 #[.slice aL n cL, .slice aB nB cB] w fun e w' => ∃ a m c s, e = .returned (.tuple #[.agg #[.slice a m c, .string s], .bool (sumAll ls bs).isSome]) ∧ Below w.heap.size w w' ∧ FSum ls bs w' (.agg #[.slice a m c, .string s]) := by
  have h1 := (lwt_len ls).1
  have hn : n ≤ 1000 := by omega
  have hC : ∀ l ∈ ls, l.1.length ≤ 1000 := fun l hl => Nat.le_trans ((lwt_len ls).2 l hl) (by omega)
  cases hq : sumAll ls bs with
  | none =>
    refine (Sum_none hL hnl hS hnB (Nat.le_refl _) hn hC hT hq).mono ?_
    rintro e w' ⟨rfl, hb⟩
    exact ⟨none, 0, 0, ⟨#[]⟩, rfl, hb, ⟨fun _ => rfl, fun q h => by rw [hq] at h; cases h⟩⟩
  | some q =>
    refine (Sum_any hL hnl hS hnB (Nat.le_refl _) hn hC hT).mono ?_
    rintro e w' ⟨r, rfl, hb, ⟨a, m, c, s, rfl⟩, hx⟩
    refine ⟨a, m, c, s, by rw [hq], hb, ⟨(fun h => by rw [hq] at h; cases h), fun q2 h2 => ?_⟩⟩
    obtain ⟨ss, k1, k2, k3⟩ := hx q2 h2
    exact ⟨ss, ⟨k1, k2⟩, k3⟩
theorem both_any {ls : List (List (ByteArray × ByteArray) × ByteArray)} {bs : List ByteArray} {w3 w3' w4 : World} {a m c a2 m2 c2 : Nat} {v1 v2 : Value} (hz : ∀ z ∈ nmsL ls, z.size ≤ maxLen) (h1 : FSum ls bs w3 v1) (hb : Below w3.heap.size w3 w4) (h2 : ∀ q, sumAll ls bs = some q → ∃ nl : List ByteArray, SrtN nl ∧ (∀ z, z ∈ nl ↔ z ∈ nmsL ls) ∧ IsL w4 w4.heap.size v2 (tellN q.1 nl) (bytesOf (Lib.itoa q.2))) (h3 : sumAll ls bs = none → v2 = ZL) : BothP ls bs w4 v1 v2 := by
  cases hq : sumAll ls bs with
  | none =>
    rw [h1.1 hq, h3 hq]
    exact both_none
  | some q =>
    obtain ⟨ss, hk, hI⟩ := h1.2 q hq
    obtain ⟨nl, s1, s2, s3⟩ := h2 q hq
    exact both_some hz hq hk hI s1 s2 hb s3
set_option maxRecDepth 100000 in
set_option maxHeartbeats 8000000 in
theorem sums_walk {w : World} {aL aB : Option Addr} {n cL nB cB : Nat} {ls : List (List (ByteArray × ByteArray) × ByteArray)} {bs : List ByteArray} (hL : Row w.heap.size aL n cL 2 (LAt w w.heap.size ls)) (hn : n = ls.length) (hz : ∀ z ∈ nmsL ls, z.size ≤ maxLen) (hS : Row w.heap.size aB nB cB 1 (BA w bs)) (hnB : nB = bs.length) (hT : Nm.Tab w) : Calls Tryz.prog 3 #[.slice aL n cL, .slice aB nB cB] w fun e w' => e = .returned (.bool true) ∧ Below w.heap.size w w' := by
  have HA := hide (And.intro hL (And.intro hn (And.intro hz (And.intro hS (And.intro hnB hT)))))
  have hnb : n ≤ 281474976710656 := hL.2.1
  have hmb : nB ≤ 281474976710656 := hS.2.1
  clear hL hn hz hS hnB hT
  go_enter Tryz.func3, Tryz.ntmps3
  go_wp2_with fail
  refine (known_any (unhide HA).2.2.2.2.2).mono ?_
  rintro e w1 ⟨rfl, hb1⟩
  have H1 := hide hb1
  clear hb1
  go_wp2_with fail
  have hl1 := light_sum (w := w1) (cB := cB) (aB := aB) (LAt.all (unhide HA).1 (unhide H1)) (unhide HA).2.1 hmb
  refine hl1.mono ?_
  rintro e w2 ⟨b, rfl, hb2, hlw⟩
  have H2 := hide ((unhide H1).trans (hb2.mono (unhide H1).size))
  clear hl1 hb2 H1
  cases b with
  | false =>
    clear hlw
    go_wp2
    go_ret
    exact ⟨rfl, unhide H2⟩
  | true =>
    have HW := hide (hlw rfl)
    clear hlw
    have HS1 : Hid _ := hide (Sum_full (LAt.all (unhide HA).1 (unhide H2)) (unhide HA).2.1 (BA.all (unhide HA).2.2.2.1 (unhide H2)) (unhide HA).2.2.2.2.1 (unhide HW) (Nm.Tab.below (unhide HA).2.2.2.2.2 (unhide H2)))
    obtain ⟨bb, hbb⟩ : ∃ bb, (sumAll ls bs).isSome = bb := ⟨_, rfl⟩
    rw [hbb] at HS1
    replace hbb := hide hbb
    go_wp2_with fail
    refine (unhide HS1).mono ?_
    rintro e w3 ⟨a3, m3, c3, s3, rfl, hb3, hF⟩
    obtain ⟨w4, e4, hb4, hs4, hc4, hh4⟩ := box_new w3 #[.slice a3 m3 c3, .string s3] 28
    have hb24 : Below w.heap.size w w4 := (unhide H2).trans ((hb3.trans (hb4.mono hb3.size)).mono (unhide H2).size)
    have HS2 : Hid _ := hide (sumD_any (LAt.all (unhide HA).1 hb24) (unhide HA).2.1 (BA.all (unhide HA).2.2.2.1 hb24) (unhide HA).2.2.2.2.1 (unhide HW))
    have H4 := hide (And.intro hb24 (And.intro hh4 (And.intro hF hb4)))
    have HE4 := hide e4
    clear hb3 hF e4 hb4 hs4 hc4 hh4 hb24 HS1
    go_wp2_with fail
    rw [unhide HE4]
    refine (unhide HS2).mono ?_
    rintro e w5 ⟨r, rfl, hb5, ⟨a5, m5, c5, s5, rfl⟩, hx, hy⟩
    rw [unhide hbb]
    obtain ⟨hb24, hh4, hF, hb34⟩ := unhide H4
    obtain ⟨w6, e6, hb6, hs6, hc6, hh6⟩ := box_new w5 #[.slice a5 m5 c5, .string s5] 28
    have hb35 : Below w3.heap.size w3 w5 := hb34.trans (hb5.mono hb34.size)
    have hBoth := both_any (a := 0) (m := 0) (c := 0) (a2 := 0) (m2 := 0) (c2 := 0) (w3' := w3) (unhide HA).2.2.1 hF hb35 hx hy
    have hb46 : Below w4.heap.size w4 w6 := hb5.trans (hb6.mono hb5.size)
    have hh4' := (hb46.block w3.heap.size (Array.getElem?_eq_some_iff.1 hh4).1).trans hh4
    have H6 := hide (And.intro (hb24.trans (hb46.mono hb24.size)) (And.intro hh4' (And.intro hh6 (And.intro hBoth hb6))))
    have HE6 := hide e6
    have hn100 : n ≤ 100 := by
      have := (lwt_len ls).1
      have := unhide HW
      have := (unhide HA).2.1
      omega
    clear hb5 hx hy hb24 hh4 hF hb34 e6 hb6 hs6 hc6 hh6 hb35 hBoth hb46 hh4' H4 HE4 HS2
    go_wp2_with fail
    rw [unhide HE6]
    go_loopw [9] (fun iv wr => ∃ i : Nat, i ≤ n ∧ iv = .int .i64 i ∧ Hid (Below w6.heap.size w6 wr)) (fun iv _ => n - (intOf iv).toNat)
    case atStart => exact ⟨0, Nat.zero_le _, rfl, Below.refl _ _⟩
    case round =>
      obtain ⟨i, hi0, rfl, hwr⟩ := hrel
      by_cases hi : i < n
      · obtain ⟨hL, hn, -⟩ := unhide HA
        obtain ⟨hbw, -⟩ := unhide H6
        have hbr : Below w.heap.size w wr := hbw.trans ((unhide hwr).mono hbw.size)
        obtain ⟨b, off, rfl, hbB, hLj⟩ := hL.2.2 (by omega)
        obtain ⟨l, hl⟩ : ∃ l, ls[i]? = some l := ⟨_, List.getElem?_eq_getElem (by omega)⟩
        obtain ⟨x, y, hcc, hIL⟩ := hLj i hi _ hl
        have hC100 : l.1.length ≤ 100 := by
          have := (lwt_len ls).2 l (List.mem_of_getElem? hl)
          have := unhide HW
          omega
        have hIr : ∀ W, Below wr.heap.size wr W → IsL W W.heap.size (.agg #[x, y]) l.1 l.2 := fun W hW => IsL.up (IsL.more hIL (hbr.trans (hW.mono hbr.size))) (Nat.le_trans hbr.size hW.size)
        have HR1 := hide (fun W (hW : Below wr.heap.size wr W) => Row_any (hIr W hW) (Nat.le_refl _) (by omega))
        have HR2 := hide (fun W (hW : Below wr.heap.size wr W) => rowD_any (hIr W hW) (by omega))
        have HRg := hide (And.intro (rangeAt_below hcc hbB hbr) (Nat.lt_of_lt_of_le hbB hbr.size))
        have g1 : (i : Int) < (n : Int) := by omega
        have g2 : (n : Int) ≤ 100 := by omega
        have g3 : (0 : Int) ≤ (i : Int) := by omega
        clear hL hn hbw hbr hbB hLj hl hcc hIL hC100 hIr
        go_wp2_with fail
        refine sums_r10 (i := i) (bb := (readR l.1 l.2).isSome) rfl rfl rfl (unhide HRg).1 (unhide HRg).2 hi (by omega) (unhide HR1) (unhide HR2) ?_
        intro a W hd hsz hkp h45 hbW
        obtain ⟨yy, rfl, hyy⟩ := act_set [35, 36, 37, 38, 39, 40, 41, 42, 43, 44, 45] (by kernel_rfl) hd hsz rfl hkp
        have e45 : yy 45 = .bool false := (hyy 45).trans h45
        have HWb := hide ((unhide hwr).trans (hbW.mono (unhide hwr).size))
        clear hd hsz hkp h45 hbW hyy HR1 HR2 HRg
        simp only [setAll, List.setIfInBounds_toArray, List.set_cons_succ, List.set_cons_zero]
        rw [e45]
        clear e45
        go_wp2_with fail
        refine ⟨⟨i + 1, by omega, by simp, unhide HWb⟩, ?_⟩
        simp [intOf]
        omega
      · have gi : decide ((i : Int) < (n : Int)) = false := by simp; omega
        have g1 : ¬ ((i : Int) < (n : Int)) := by omega
        obtain rfl : i = n := by omega
        obtain ⟨hbw, hh4, hh6, hBoth, hb56⟩ := unhide H6
        have hW := unhide hwr
        have q4 := (hW.block w3.heap.size (Array.getElem?_eq_some_iff.1 hh4).1).trans hh4
        have q6 := (hW.block w5.heap.size (Array.getElem?_eq_some_iff.1 hh6).1).trans hh6
        obtain ⟨a1, n1, c1, a2, n2, c2, K, C, ev1, ev2, en1, en2, r1, r2⟩ := hBoth
        obtain ⟨⟨rfl, rfl, rfl⟩, rfl⟩ : (a3 = a1 ∧ m3 = n1 ∧ c3 = c1) ∧ s3 = K := by simpa using ev1
        obtain ⟨⟨rfl, rfl, rfl⟩, rfl⟩ : (a5 = a2 ∧ m5 = n2 ∧ c5 = c2) ∧ s5 = s3 := by simpa using ev2
        have hb5r : Below w5.heap.size w5 wr := hb56.trans (hW.mono hb56.size)
        have HLin := hide (lin_same (K := s5) (CA.all r1 hb5r) en1 (CA.all r2 hb5r) en2)
        have s0 : wr.cell? ⟨w3.heap.size, 0, none⟩ = some (.slice a3 m3 c3) := (blk q4).2.1 0 _ rfl
        have s1 : wr.cell? ⟨w3.heap.size, 1, none⟩ = some (.string s5) := (blk q4).2.1 1 _ rfl
        have t0 : wr.cell? ⟨w5.heap.size, 0, none⟩ = some (.slice a5 m5 c5) := (blk q6).2.1 0 _ rfl
        have t1 : wr.cell? ⟨w5.heap.size, 1, none⟩ = some (.string s5) := (blk q6).2.1 1 _ rfl
        have HF := hide (hbw.trans (hW.mono hbw.size))
        clear hbw hh4 hh6 hb56 hW q4 q6 ev1 ev2 en1 en2 r1 r2 hb5r hwr
        have hbbb : (bb == bb) = true := by simp
        go_wp2_with fail
        refine (unhide HLin).mono ?_
        rintro e wJ ⟨rfl, hbJ⟩
        have HBJ := hide ((unhide HF).trans (hbJ.mono (unhide HF).size))
        clear hbJ HLin s0 s1 t0 t1
        go_wp2
        go_ret
        exact ⟨rfl, unhide HBJ⟩
end Go.Proofs.YthgdmppmjnmiiaaGreatDoor

namespace Go.Proofs.YthgdmppmjnmiiaaGreatDoor
open Go Go.ChangeShapes Go.WideShapes Go.ChangeAt Go.RowKit
section
variable {H : Type} {enc : TypeId × Value → H} {W : World} {base : Nat} {sp : Nat → Bool} {held : Bool}
set_option maxRecDepth 100000 in
theorem open_coef2 {n : Nat} {l : List Value} {x : DataW H × List MemPlace} (h : DataW.trod enc Tryz.prog W base sp held n 39 l = some x) (hl : l.length = 2) : ∃ c : ByteArray × ByteArray, l = [.string c.1, .string c.2] ∧ c.1.size ≤ maxLen := by
  obtain ⟨xs, m, rfl, _, _, hxs, hf⟩ := DataW.trod_struct Tryz.underlying39 h
  obtain ⟨c0, c1, rfl⟩ := len2 hl
  have hs : xs.length = 2 := hxs
  have h0 : DataW.trod enc Tryz.prog W base sp held m 9 (List.take (Tryz.prog.cellsOf 9) (List.drop 0 [c0, c1])) = xs[0]? := hf 0 _ rfl
  have h1 : DataW.trod enc Tryz.prog W base sp held m 9 (List.take (Tryz.prog.cellsOf 9) (List.drop 1 [c0, c1])) = xs[1]? := hf 1 _ rfl
  rw [cells_s] at h0 h1
  rw [List.getElem?_eq_getElem (by omega)] at h0 h1
  obtain ⟨s, rfl, hsz⟩ := trod_s Tryz.underlying9 h0
  obtain ⟨t, rfl, _⟩ := trod_s Tryz.underlying9 h1
  exact ⟨(s, t), rfl, hsz⟩
theorem open_coefs2 {n : Nat} {c : Value} {x : DataW H × List MemPlace} (h : DataW.trod enc Tryz.prog W base sp held n 26 [c] = some x) (hz : ∀ m ∈ x.1.weights Tryz.prog 26, m ≤ reachBytes) : ∃ a cap, ∃ C : List (ByteArray × ByteArray), c = .slice a C.length cap ∧ (∀ (j : Nat) z, C[j]? = some z → z.1.size ≤ maxLen) ∧ Row W.heap.size a C.length cap 2 (CA W C) := by
  obtain ⟨a, len, cap, rfl, hl, hz2, hr⟩ := row_of (k := 2) (q := fun l _ => ∃ c : ByteArray × ByteArray, l = [.string c.1, .string c.2] ∧ c.1.size ≤ maxLen) Tryz.underlying26 cells_co (by omega) bytes_co h hz fun m j l y _ hy hl1 _ => open_coef2 hy hl1
  by_cases h0 : len = 0
  · subst h0
    exact ⟨a, cap, [], rfl, (fun j z h => by simp at h), hl, by simp, fun h => absurd rfl h⟩
  · obtain ⟨b, off, rfl, hb, hj⟩ := hr h0
    obtain ⟨C, hC, hp⟩ := pick_list (p := fun j (c : ByteArray × ByteArray) => W.rangeAt b (off + j * 2) [.string c.1, .string c.2] ∧ c.1.size ≤ maxLen) (.empty, .empty) (len := len) fun j hjl => by
      obtain ⟨l, _, hra, c, rfl, hsz⟩ := hj j hjl
      exact ⟨c, hra, hsz⟩
    subst hC
    exact ⟨_, cap, C, rfl, fun j z hz => (hp j z hz).2, hl, hz2, fun _ => ⟨b, off, rfl, hb, fun j _ c hc => (hp j c hc).1⟩⟩
set_option maxRecDepth 100000 in
theorem open_lin2 {n : Nat} {l : List Value} {x : DataW H × List MemPlace} (h : DataW.trod enc Tryz.prog W base sp held n 28 l = some x) (hl : l.length = 2) (hz : ∀ m ∈ x.1.weights Tryz.prog 28, m ≤ reachBytes) : ∃ L : List (ByteArray × ByteArray) × ByteArray, ∃ u v, l = [u, v] ∧ (∀ (j : Nat) z, L.1[j]? = some z → z.1.size ≤ maxLen) ∧ IsL W W.heap.size (.agg #[u, v]) L.1 L.2 := by
  obtain ⟨xs, m, rfl, hx, _, hxs, hf⟩ := DataW.trod_struct Tryz.underlying28 h
  obtain ⟨c0, c1, rfl⟩ := len2 hl
  have hs : xs.length = 2 := hxs
  have h0 : DataW.trod enc Tryz.prog W base sp held m 26 (List.take (Tryz.prog.cellsOf 26) (List.drop 0 [c0, c1])) = xs[0]? := hf 0 _ rfl
  have h1 : DataW.trod enc Tryz.prog W base sp held m 9 (List.take (Tryz.prog.cellsOf 9) (List.drop 1 [c0, c1])) = xs[1]? := hf 1 _ rfl
  rw [cells_lc] at h0
  rw [cells_s] at h1
  rw [List.getElem?_eq_getElem (by omega)] at h0 h1
  obtain ⟨s, rfl, _⟩ := trod_s Tryz.underlying9 h1
  obtain ⟨a, cap, C, rfl, hsz, hA⟩ := open_coefs2 h0 fun k hk => by
    refine hz k ?_
    rw [hx]
    simp only [DataW.weights, Tryz.underlying28]
    exact each_of (t := 26) (i := 0) rfl (by rw [List.getElem?_map, List.getElem?_eq_getElem (by omega)]; rfl) hk
  exact ⟨(C, s), _, _, rfl, hsz, a, _, cap, rfl, rfl, hA⟩
theorem open_lins2 {n : Nat} {c : Value} {x : DataW H × List MemPlace} (h : DataW.trod enc Tryz.prog W base sp held n 22 [c] = some x) (hz : ∀ m ∈ x.1.weights Tryz.prog 22, m ≤ reachBytes) : ∃ a cap, ∃ ls : List (List (ByteArray × ByteArray) × ByteArray), c = .slice a ls.length cap ∧ Row W.heap.size a ls.length cap 2 (LAt W W.heap.size ls) ∧ ∀ z ∈ nmsL ls, z.size ≤ maxLen := by
  obtain ⟨a, len, cap, rfl, hl, hz2, hr⟩ := row_of (k := 2) (q := fun l _ => ∃ L : List (ByteArray × ByteArray) × ByteArray, ∃ u v, l = [u, v] ∧ (∀ (j : Nat) z, L.1[j]? = some z → z.1.size ≤ maxLen) ∧ IsL W W.heap.size (.agg #[u, v]) L.1 L.2) Tryz.underlying22 cells_lin (by omega) bytes_lin h hz fun m j l y _ hy hl1 hzz => open_lin2 hy hl1 hzz
  by_cases h0 : len = 0
  · subst h0
    exact ⟨a, cap, [], rfl, ⟨hl, by simp, fun h => absurd rfl h⟩, by simp [nmsL]⟩
  · obtain ⟨b, off, rfl, hb, hj⟩ := hr h0
    obtain ⟨ls, hls, hp⟩ := pick_list (p := fun j (L : List (ByteArray × ByteArray) × ByteArray) => (∃ u v, W.rangeAt b (off + j * 2) [u, v] ∧ IsL W W.heap.size (.agg #[u, v]) L.1 L.2) ∧ ∀ (i : Nat) z, L.1[i]? = some z → z.1.size ≤ maxLen) ([], .empty) (len := len) fun j hjl => by
      obtain ⟨l, _, hra, L, u, v, rfl, hsz, hL⟩ := hj j hjl
      exact ⟨L, ⟨u, v, hra, hL⟩, hsz⟩
    subst hls
    refine ⟨_, cap, ls, rfl, ⟨hl, hz2, fun _ => ⟨b, off, rfl, hb, fun j _ L hL => (hp j L hL).1⟩⟩, fun z hz => ?_⟩
    obtain ⟨l, hl1, hl2⟩ := List.mem_flatMap.1 hz
    obtain ⟨c, hc1, rfl⟩ := List.mem_map.1 hl2
    obtain ⟨j, hj1⟩ := List.mem_iff_getElem?.1 hl1
    obtain ⟨i, hi1⟩ := List.mem_iff_getElem?.1 hc1
    exact (hp j l hj1).2 i c hi1
end
end Go.Proofs.YthgdmppmjnmiiaaGreatDoor
