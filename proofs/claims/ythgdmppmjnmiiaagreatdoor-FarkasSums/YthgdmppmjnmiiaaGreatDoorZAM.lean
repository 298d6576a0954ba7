/- Package farkas: tell, its region that appends. -/
import Derived.Test.YthgdmppmjnmiiaaGreatDoorZAL
import Derived.Deep.RegionWith
import Derived.Maps.AppendAt
set_option linter.unusedVariables false
set_option linter.unusedSimpArgs false

/- Package farkas: rows are summed. -/
namespace Go.Proofs.YthgdmppmjnmiiaaGreatDoor
open Go Go.RowKit Go.Maps
open _root_.Go.Proofs.YthgdmppmjnmiiaaGreatDoor.Nm (IsI pw)
/-- How many times, of a text. -/
def timesT (s : ByteArray) : Option Int := match numT 1600 s with
  | some z => if z < 0 then none else some z
  | none => none
def sumStep (st : (ByteArray → Int) × Int) (q : (List (ByteArray × Int) × Int) × Int) : (ByteArray → Int) × Int := (fadd st.1 q.1.1 q.2, st.2 + q.1.2 * q.2)
def sumN (rs : List (List (ByteArray × Int) × Int)) (ns : List Int) : (ByteArray → Int) × Int := (rs.zip ns).foldl sumStep (fun _ => 0, 0)
def sumO (rs : List (List (ByteArray × Int) × Int)) (bs : List ByteArray) : Option ((ByteArray → Int) × Int) := if rs.length < bs.length then none else (allO timesT bs).map (sumN rs)
theorem fadd_zero (f : ByteArray → Int) (ps : List (ByteArray × Int)) : fadd f ps 0 = f := by
  induction ps generalizing f with
  | nil => rfl
  | cons p ps ih =>
    have : fadd f (p :: ps) 0 = fadd (fput f p.1 (f p.1 + p.2 * 0)) ps 0 := rfl
    rw [this, fput_self (by simp), ih]
theorem sumN_snoc {rs : List (List (ByteArray × Int) × Int)} {ns : List Int} {r : List (ByteArray × Int) × Int} {z : Int} (hr : rs[ns.length]? = some r) : sumN rs (ns ++ [z]) = sumStep (sumN rs ns) (r, z) := by
  have hlt := (List.getElem?_eq_some_iff.1 hr).1
  have h1 : rs.zip (ns ++ [z]) = rs.zip ns ++ [(r, z)] := by
    apply List.ext_getElem?
    intro j
    rcases Nat.lt_trichotomy j ns.length with h | h | h
    · rw [List.getElem?_append_left (by simp; omega)]
      simp [List.getElem?_zip_eq_some, List.getElem?_append_left h, List.getElem?_zip_eq_some, List.zip, List.getElem?_zipWith, List.getElem?_append_left h]
    · subst h
      have hl : (rs.zip ns).length = ns.length := by simp; omega
      rw [List.getElem?_append_right (by omega), hl]
      simp [List.zip, List.getElem?_zipWith, hr]
    · rw [List.getElem?_eq_none (by simp; omega), List.getElem?_eq_none (by simp; omega)]
  unfold sumN
  rw [h1, List.foldl_append]
  rfl
theorem mkMap (w : World) : (Instr.makeMap 46 none).run Tryz.prog w = .ok (.map (some w.heap.size)) (w.alloc (.map #[] 0)) := by
  simp [Instr.makeMap, run_underlying Tryz.underlying46]
/-- A sum, as a value. -/
def IsS (w : World) (v : Value) (f : ByteArray → Int) (k : Int) : Prop := ∃ D mb n i a l c, v = .agg #[.map (some mb), .int .i64 i, .slice a l c] ∧ w.ownsMap Tryz.prog 9 R0 mb n D ∧ n ≤ 1000000 ∧ MF w D f ∧ IsB w w.heap.size (.agg #[.int .i64 i, .slice a l c]) k
def SmPost (X : Nat) (rs : List (List (ByteArray × Int) × Int)) (bs : List ByteArray) (w : World) (e : Ending) (w' : World) : Prop := ∃ r, e = .returned (.tuple #[r, .bool (sumO rs bs).isSome]) ∧ Below w.heap.size w w' ∧ (∃ x i a l c, r = .agg #[.map x, .int .i64 i, .slice a l c]) ∧ ∀ q, sumO rs bs = some q → IsS w' r q.1 q.2 ∧ (∀ s, (q.1 s).natAbs ≤ 2000000 * X) ∧ q.2.natAbs ≤ 2000000 * X
def BA (w : World) (bs : List ByteArray) (b o j : Nat) : Prop := ∀ s, bs[j]? = some s → w.cell? ⟨b, o, none⟩ = some (.string s)
def APost (r mb n : Nat) (f : ByteArray → Int) (k : Int) (w : World) (e : Ending) (w' : World) : Prop := e = .returned (.tuple #[]) ∧ Fr r mb w w' ∧ SumAt w' r mb n f k
/-- While rows are summed. -/
structure SI (w : World) (rs : List (List (ByteArray × Int) × Int)) (bs : List ByteArray) (X i : Nat) (V : World) : Prop where
  bel : Below w.heap.size w V
  res : V.heap[w.heap.size]? = some (.cells #[.map none, .int .i64 0, .slice none 0 0] 51)
  ns : ∃ ns, allO timesT (bs.take i) = some ns ∧ ns.length = i ∧ SumAt V (w.heap.size + 2) (w.heap.size + 1) (i * 1000) (sumN rs ns).1 (sumN rs ns).2 ∧ (∀ s, ((sumN rs ns).1 s).natAbs ≤ i * 1001 * X) ∧ ((sumN rs ns).2).natAbs ≤ i * 1001 * X
theorem SI.grow {w V V' : World} {rs : List (List (ByteArray × Int) × Int)} {bs : List ByteArray} {X i : Nat} (h : SI w rs bs X i V) (hb : Below V.heap.size V V') : SI w rs bs X i V' := by
  obtain ⟨h1, h2, ns, h3, h4, h5, h6⟩ := h
  exact ⟨h1.trans (hb.mono h1.size), (hb.block _ (Array.getElem?_eq_some_iff.1 h2).1).trans h2, ns, h3, h4, h5.more hb, h6⟩
set_option maxRecDepth 100000 in
set_option maxHeartbeats 4000000 in
theorem sumOf_any {w : World} {B : Nat} {aR aB : Option Addr} {nR cR nB cB X : Nat} {rs : List (List (ByteArray × Int) × Int)} {bs : List ByteArray} (hR : Row B aR nR cR 3 (RAt w B rs)) (hnR : nR = rs.length) (hS : Row B aB nB cB 1 (BA w bs)) (hnB : nB = bs.length) (hB : B ≤ w.heap.size) (hn : nR ≤ 1000)
    (hX : ∀ r ∈ rs, r.1.length ≤ 1000 ∧ (r.2.natAbs : Int) < pw 3000 ∧ (∀ p ∈ r.1, (p.2.natAbs : Int) < pw 3000 ∧ p.1.size ≤ 200) ∧ ∀ s z, numT 1600 s = some z → r.2.natAbs * z.natAbs ≤ X ∧ (∀ p ∈ r.1, p.2.natAbs * z.natAbs ≤ X)) (hz : ∀ s z, numT 1600 s = some z → (z.natAbs : Int) < pw 3000) (hb : ((2000000 * X : Nat) : Int) < pw 3000) :
    Calls Tryz.prog 15 #[.slice aR nR cR, .slice aB nB cB] w (SmPost X rs bs w) := by
  have hmR : (nR : Int) ≤ 1000 := by omega
  have hmB : nB ≤ 281474976710656 := hS.2.1
  by_cases hlen : nR < nB
  · have g : decide ((nR : Int) < (nB : Int)) = true := by simp; omega
    have hnone : sumO rs bs = none := by unfold sumO; rw [if_pos (by omega)]
    clear hR hS hX hz hb hB
    go_enter Tryz.func15, Tryz.ntmps15
    go_wp2
    obtain ⟨A, eA, hbA, hsA, hcA, hhA⟩ := box_new w #[.map none, .int .i64 0, .slice none 0 0] 51
    rw [eA]
    refine bodyPost_ret (res_row2 (cs := [.map none, .int .i64 0, .slice none 0 0]) rfl rfl rfl (range_block hhA) rfl rfl rfl) rfl ?_
    exact ⟨_, by rw [hnone]; rfl, hbA, ⟨_, _, _, _, _, rfl⟩, fun q h => by rw [hnone] at h; cases h⟩
  · have g : decide ((nR : Int) < (nB : Int)) = false := by simp; omega
    obtain ⟨A, eA, hbA, hsA, hcA, hhA⟩ := box_new w #[.map none, .int .i64 0, .slice none 0 0] 51
    have hM := World.ownsMap_made (H := Value) A Tryz.prog 9 R0
    have hAm := (MapKept.heap_alloc A (.map #[] 0)).1
    have hbAm : Below A.heap.size A (A.alloc (.map #[] 0)) := (Below.refl _ A).alloc (Nat.le_refl _) _
    obtain ⟨A2, eA2⟩ : ∃ A2, A.alloc (.map #[] 0) = A2 := ⟨_, rfl⟩
    have hsA2 : A2.heap.size = A.heap.size + 1 := by rw [← eA2]; simp
    rw [eA2] at hM hAm hbAm
    obtain ⟨A3, eA3, hbA3, hsA3, hcA3, hhA3⟩ := box_new A2 #[.map (some (w.heap.size + 1)), .int .i64 0, .slice none 0 0] 51
    have hb3 : Below w.heap.size w A3 := hbA.trans ((hbAm.mono (by omega)).trans (hbA3.mono (by omega)))
    rw [hsA] at hM
    rw [show A2.heap.size = w.heap.size + 2 by omega] at hhA3
    have hnil : sumN rs [] = (fun _ => 0, 0) := by simp [sumN]
    have hinv : SI w rs bs X 0 A3 := ⟨hb3, (hbA3.block _ (by omega)).trans ((hbAm.block _ (by omega)).trans hhA), [], rfl, rfl, ⟨.map [], 0, none, 0, 0, hhA3, by
      obtain ⟨es, cl, hm, F, hs, hD⟩ := hM
      exact ⟨es, cl, (hbA3.block _ (by omega)).trans hm, F, by omega, hD⟩, by rw [hnil]; exact MF.new A3, by rw [hnil]; exact IsB.small _ _ (by decide) (by decide)⟩, by simp [hnil], by simp [hnil]⟩
    have HINV := hide hinv
    have HE := hide (And.intro eA (And.intro eA2 eA3))
    have HC := hide (And.intro hR (And.intro hnR (And.intro hS (And.intro hnB (And.intro hB (And.intro hX (And.intro hz (And.intro hb hn))))))))
    have hlen2 : (nB : Int) ≤ (nR : Int) := by omega
    have hs1 : A.heap.size = w.heap.size + 1 := hsA
    have HL := hide hlen
    have hmk := mkMap (w.alloc (.cells #[.map none, .int .i64 0, .slice none 0 0] 51))
    rw [World.size_alloc] at hmk
    clear hR hnR hS hnB hB hX hz hb hn hlen eA hbA hsA hcA hhA hM hAm hbAm eA2 hsA2 eA3 hbA3 hsA3 hcA3 hhA3 hb3 hinv hmB
    go_enter Tryz.func15, Tryz.ntmps15
    go_wp2_with fail
    clear hmk
    obtain ⟨e1, e2, e3⟩ := unhide HE
    rw [e1, e2, e3]
    clear e1 e2 e3 HE
    have hdn : decide (nR < nB) = false := by simp; omega
    rw [hdn]
    clear hdn
    go_loopw [21] (fun iv wr => ∃ i : Nat, i ≤ nB ∧ iv = .int .i64 i ∧ SI w rs bs X i wr) (fun iv _ => nB - (intOf iv).toNat)
    case atStart => exact ⟨0, Nat.zero_le _, rfl, unhide HINV⟩
    case round =>
      obtain ⟨i, hi0, rfl, hI⟩ := hrel
      clear HINV hs1
      by_cases hi : i < nB
      · obtain ⟨hR, hnR, hS, hnB, hB, hX, hz, hb, hn⟩ := unhide HC
        have hlen := unhide HL
        obtain ⟨bb, bo, rfl, hbB, hBj⟩ := hS.2.2 (by omega)
        obtain ⟨rb, ro, rfl, hrB, hRj⟩ := hR.2.2 (by omega)
        obtain ⟨s, hs⟩ : ∃ s, bs[i]? = some s := ⟨_, List.getElem?_eq_getElem (by omega)⟩
        obtain ⟨rw', hrw⟩ : ∃ r, rs[i]? = some r := ⟨_, List.getElem?_eq_getElem (by omega)⟩
        have hwr := hI.bel
        have q0 : wr.cell? ⟨bb, bo + i, none⟩ = some (.string s) := by
          have := hBj i hi s hs
          rw [Nat.mul_one] at this
          exact (hwr.cell (p := ⟨bb, bo + i, none⟩) (Nat.lt_of_lt_of_le hbB hB)).trans this
        have g1 : (i : Int) < (nB : Int) := by omega
        have g0 : (0 : Int) ≤ (i : Int) := by omega
        have g2 : (nB : Int) ≤ 1000 := by omega
        have g3 : (i : Int) < (nR : Int) := by omega
        have HNum := hide (number_any s 1600 wr (by omega))
        have HI := hide hI
        have HS := hide (And.intro hs hrw)
        obtain ⟨x, y, z, hrc, hRr⟩ := hRj i (by omega) rw' hrw
        obtain ⟨ra, rn, rc, r1, r2, er, -, -, hrI⟩ := id hRr
        obtain ⟨j0, ja, jl, jc, ej⟩ := hrI.form
        obtain ⟨rfl, rfl, rfl⟩ : x = .slice ra rn rc ∧ y = .int .i64 j0 ∧ z = .slice ja jl jc := by
          simp at er ej
          exact ⟨er.1, er.2.1.trans ej.1, er.2.2.trans ej.2⟩
        have HRr := hide (And.intro hRr (And.intro hrc (And.intro hrB hB)))
        clear hR hnR hS hnB hB hX hz hb hn hlen hbB hBj hrB hRj hs hrw hwr hI hrc hRr er hrI ej
        go_wp2_with fail
        refine (unhide HNum).mono ?_
        rintro e w5 ⟨r5, rfl, hb5, hI5⟩
        obtain ⟨z0, za, zl, zc, rfl⟩ := hI5.form
        obtain ⟨w6, e6, hb6, hs6, hc6, hh6⟩ := box_new w5 #[.int .i64 z0, .slice za zl zc] 49
        have hbr6 : Below wr.heap.size wr w6 := hb5.trans (hb6.mono hb5.size)
        have HW5 : Hid (w.heap.size + 2 < w5.heap.size) := by
          obtain ⟨_, _, _, _, _, ⟨_, _, _, _, _, q5, _⟩, _⟩ := unhide HI
          exact Nat.lt_of_lt_of_le (Array.getElem?_eq_some_iff.1 q5).1 hb5.size
        have hI6 := (unhide HI).grow hbr6
        have hz6 : IsB w6 w6.heap.size (.agg #[.int .i64 z0, .slice za zl zc]) ((numT 1600 s).getD 0) := IsB.of (hI5.below hb6)
        have t0 : w6.cell? ⟨w5.heap.size, 0, none⟩ = some (.int .i64 z0) := (blk hh6).2.1 0 _ rfl
        have t1 : w6.cell? ⟨w5.heap.size, 1, none⟩ = some (.slice za zl zc) := (blk hh6).2.1 1 _ rfl
        have r0 : w6.cell? ⟨w.heap.size, 0, none⟩ = some (.map none) := (blk hI6.res).2.1 0 _ rfl
        have r1 : w6.cell? ⟨w.heap.size, 1, none⟩ = some (.int .i64 0) := (blk hI6.res).2.1 1 _ rfl
        have r2 : w6.cell? ⟨w.heap.size, 2, none⟩ = some (.slice none 0 0) := (blk hI6.res).2.1 2 _ rfl
        have rf0 := (blk hI6.res).2.2 0
        have rf1 := (blk hI6.res).2.2 1
        have rf2 := (blk hI6.res).2.2 2
        have HE6 := hide e6
        have HR6 := hide (And.intro hI6 (And.intro hz6 hh6))
        rw [← e6] at r0 r1 r2 rf0 rf1 rf2 t0 t1
        clear hb5 hI5 e6 hb6 hs6 hc6 hh6 hbr6 hI6 hz6 q0 HNum
        cases hzz : numT 1600 s with
        | none =>
          go_wp2
          obtain ⟨hI6, _, _⟩ := unhide HR6
          rw [unhide HE6]
          have hnone : sumO rs bs = none := by
            unfold sumO
            split
            · rfl
            · rw [allO_bad (unhide HS).1 (by simp [timesT, hzz])]
              rfl
          refine bodyPost_ret (res_row2 (cs := [.map none, .int .i64 0, .slice none 0 0]) rfl rfl rfl (range_block (fill3 hI6.res)) rfl rfl rfl) rfl ?_
          exact ⟨_, by rw [hnone]; rfl, (put3 w6 w.heap.size _ _ _).below hI6.bel (Nat.le_refl _), ⟨_, _, _, _, _, rfl⟩, fun q h => by rw [hnone] at h; cases h⟩
        | some zz =>
          rw [hzz] at HR6
          have HZ := hide hzz
          have HSg := hide (Nm.sign_any _ zz w6 (unhide HR6).2.1.1)
          clear hzz
          go_wp2_with fail
          rw [unhide HE6]
          refine (unhide HSg).mono ?_
          rintro e w7 ⟨rfl, hb7⟩
          obtain ⟨hI6, hz6, hh6⟩ := unhide HR6
          have hI7 := hI6.grow hb7
          have hz7 := hz6.more hb7 hb7.size
          have hh7 := (hb7.block _ (Array.getElem?_eq_some_iff.1 hh6).1).trans hh6
          have hz7' : IsB w7 w7.heap.size (.agg #[.int .i64 z0, .slice za zl zc]) zz := hz7
          have t0 : w7.cell? ⟨w5.heap.size, 0, none⟩ = some (.int .i64 z0) := (blk hh7).2.1 0 _ rfl
          have t1 : w7.cell? ⟨w5.heap.size, 1, none⟩ = some (.slice za zl zc) := (blk hh7).2.1 1 _ rfl
          have HR7 := hide (And.intro hI7 (And.intro hz7' hh7))
          clear hI6 hz6 hh6 HR6 HSg r0 r1 r2 rf0 rf1 rf2 hb7 HE6
          by_cases hneg : zz < 0
          · have hsg : Nm.sgn zz = -1 := by unfold Nm.sgn; rw [if_pos hneg]
            have r0 : w7.cell? ⟨w.heap.size, 0, none⟩ = some (.map none) := (blk hI7.res).2.1 0 _ rfl
            have r1 : w7.cell? ⟨w.heap.size, 1, none⟩ = some (.int .i64 0) := (blk hI7.res).2.1 1 _ rfl
            have r2 : w7.cell? ⟨w.heap.size, 2, none⟩ = some (.slice none 0 0) := (blk hI7.res).2.1 2 _ rfl
            have rf0 := (blk hI7.res).2.2 0
            have rf1 := (blk hI7.res).2.2 1
            have rf2 := (blk hI7.res).2.2 2
            have hnone : sumO rs bs = none := by
              unfold sumO
              split
              · rfl
              · rw [allO_bad (unhide HS).1 (by simp [timesT, unhide HZ, hneg])]
                rfl
            rw [hsg]
            clear hI7 hz7 hz7' hh7 hneg hsg t0 t1
            go_wp2
            obtain ⟨hI7, _, _⟩ := unhide HR7
            refine bodyPost_ret (res_row2 (cs := [.map none, .int .i64 0, .slice none 0 0]) rfl rfl rfl (range_block (fill3 hI7.res)) rfl rfl rfl) rfl ?_
            exact ⟨_, by rw [hnone]; rfl, (put3 w7 w.heap.size _ _ _).below hI7.bel (Nat.le_refl _), ⟨_, _, _, _, _, rfl⟩, fun q h => by rw [hnone] at h; cases h⟩
          · have hstep : ∀ ns, allO timesT (bs.take i) = some ns → allO timesT (bs.take (i + 1)) = some (ns ++ [zz]) := fun ns h => by
              rw [allO_take (unhide HS).1, h]
              simp [timesT, unhide HZ, hneg]
            have HSt := hide hstep
            have HSg2 := hide (Nm.sign_any _ zz w7 hz7'.1)
            by_cases h0 : zz = 0
            · have hsg : Nm.sgn zz = 0 := by rw [h0]; rfl
              rw [hsg] at HSg2 ⊢
              have HZ0 := hide h0
              clear hI7 hz7 hz7' hh7 hneg hsg hstep h0
              go_wp2_with fail
              refine (unhide HSg2).mono ?_
              rintro e w8 ⟨rfl, hb8⟩
              have HB8 := hide hb8
              clear hb8 t0 t1 HSg2
              go_wp2
              obtain ⟨hI7, _, _⟩ := unhide HR7
              obtain ⟨hb1, hr1, ns, n1, n2, n3, n4, n5⟩ := hI7.grow (unhide HB8)
              have hsn : sumN rs (ns ++ [zz]) = sumN rs ns := by
                rw [sumN_snoc (r := rw') (by rw [n2]; exact (unhide HS).2), unhide HZ0]
                simp [sumStep, fadd_zero]
              have hm : i * 1001 * X ≤ (i + 1) * 1001 * X := Nat.mul_le_mul (Nat.mul_le_mul (by omega) (Nat.le_refl _)) (Nat.le_refl _)
              refine ⟨⟨i + 1, by omega, by simp, hb1, hr1, ns ++ [zz], unhide HSt ns n1, by simp [n2], ?_, fun s => ?_, ?_⟩, ?_⟩
              · rw [hsn]
                obtain ⟨D, q1, q2, q3, q4, q5, q6, q7, q8⟩ := n3
                exact ⟨D, q1, q2, q3, q4, q5, q6.mono (by omega), q7, q8⟩
              · rw [hsn]; exact Nat.le_trans (n4 s) hm
              · rw [hsn]; exact Nat.le_trans n5 hm
              · simp [intOf]
                omega
            · have hpos : 0 < zz := by omega
              have hsg : Nm.sgn zz = 1 := by unfold Nm.sgn; rw [if_neg hneg, if_pos hpos]
              rw [hsg] at HSg2 ⊢
              have HPos := hide hpos
              clear hI7 hz7 hz7' hh7 hneg hsg hstep h0 hpos
              go_wp2_with fail
              refine (unhide HSg2).mono ?_
              rintro e w8 ⟨rfl, hb8⟩
              have HB78 := hide hb8
              obtain ⟨hI7, hz7, hh7⟩ := unhide HR7
              have hI8 := hI7.grow hb8
              have hz8 := hz7.more hb8 hb8.size
              have hh8 := (hb8.block _ (Array.getElem?_eq_some_iff.1 hh7).1).trans hh7
              have v0 : w8.cell? ⟨w5.heap.size, 0, none⟩ = some (.int .i64 z0) := (blk hh8).2.1 0 _ rfl
              have v1 : w8.cell? ⟨w5.heap.size, 1, none⟩ = some (.slice za zl zc) := (blk hh8).2.1 1 _ rfl
              obtain ⟨hRr, hrc, hrB, hB⟩ := unhide HRr
              have hw8 := hI8.bel
              have c0 : w8.cell? ⟨rb, ro + i * 3, none⟩ = some (.slice ra rn rc) := (hw8.cell (p := ⟨rb, ro + i * 3, none⟩) (Nat.lt_of_lt_of_le hrB hB)).trans (hrc 0 _ rfl)
              have c1 : w8.cell? ⟨rb, ro + i * 3 + 1, none⟩ = some (.int .i64 j0) := (hw8.cell (p := ⟨rb, ro + i * 3 + 1, none⟩) (Nat.lt_of_lt_of_le hrB hB)).trans (hrc 1 _ rfl)
              have c2 : w8.cell? ⟨rb, ro + i * 3 + 2, none⟩ = some (.slice ja jl jc) := (hw8.cell (p := ⟨rb, ro + i * 3 + 2, none⟩) (Nat.lt_of_lt_of_le hrB hB)).trans (hrc 2 _ rfl)
              have HR8 := hide (And.intro hI8 hz8)
              clear hI7 hz7 hh7 hI8 hz8 hh8 hb8 hRr hrc hrB hB hw8 t0 t1 HSg2
              go_wp2_with fail
              obtain ⟨hI8, hz8⟩ := unhide HR8
              obtain ⟨hb1, hr1, ns, n1, n2, n3, n4, n5⟩ := id hI8
              obtain ⟨hR, hnR, hS', hnB, hB, hX, hz, hb, hn⟩ := unhide HC
              obtain ⟨x1, x2, x3, x4⟩ := hX rw' (List.mem_of_getElem? (unhide HS).2)
              obtain ⟨x5, x6⟩ := x4 s zz (unhide HZ)
              have hRr := (unhide HRr).1.more (B' := w8.heap.size) (hb1.mono hB) (Nat.le_trans hB hb1.size) hB
              have hsum8 : SumAt w8.drew (w.heap.size + 2) (w.heap.size + 1) (i * 1000) (sumN rs ns).1 (sumN rs ns).2 := n3.more ((Below.refl _ w8).drew)
              have hbig : ((i * 1001 * X + (rw'.1.length + 1) * X : Nat) : Int) < pw 3000 := by
                have h1 : i * 1001 * X + (rw'.1.length + 1) * X ≤ 2000000 * X := by
                  rw [← Nat.add_mul]
                  exact Nat.mul_le_mul (by omega) (Nat.le_refl _)
                omega
              have hr8 : w.heap.size + 2 < w8.drew.heap.size ∧ w.heap.size + 1 < w8.drew.heap.size := by
                obtain ⟨D, _, _, _, _, q5, q6, _⟩ := n3
                exact ⟨(Array.getElem?_eq_some_iff.1 q5).1, q6.lt⟩
              have HAdd : Hid (Calls Tryz.prog 29 #[.pointer (some ⟨w.heap.size + 1 + 1, 0, none⟩), .agg #[.slice ra rn rc, .int .i64 j0, .slice ja jl jc], .agg #[.int .i64 z0, .slice za zl zc]] w8.drew (APost (w.heap.size + 2) (w.heap.size + 1) (i * 1000 + rw'.1.length) (fadd (sumN rs ns).1 rw'.1 zz) ((sumN rs ns).2 + rw'.2 * zz) w8.drew)) := (add_any2 (w := w8.drew) (M := i * 1001 * X) (X := X) (tv := .agg #[.int .i64 z0, .slice za zl zc]) (t := zz) hsum8 (hRr.more ((Below.refl _ w8).drew) (Nat.le_refl _) (Nat.le_refl _)) (hz8.more ((Below.refl _ w8).drew) (Nat.le_refl _)) hr8 (by omega) (by omega) n4 n5 (fun p hp => ⟨x6 p hp, (x3 p hp).1, (x3 p hp).2⟩) ⟨x5, x2⟩ (hz s zz (unhide HZ)) hbig)
              have hw5 : w.heap.size + 2 < w5.heap.size ∧ w5.heap.size < w8.heap.size := by
                obtain ⟨hI7', _, hh7'⟩ := unhide HR7
                exact ⟨unhide HW5, Nat.lt_of_lt_of_le (Array.getElem?_eq_some_iff.1 hh7').1 (unhide HB78).size⟩
              have hrb : rb < w.heap.size := Nat.lt_of_lt_of_le (unhide HRr).2.2.1 hB
              have HSS : Hid (∀ w', Fr (w.heap.size + 2) (w.heap.size + 1) w8.drew w' → (w'.cell? ⟨w5.heap.size, 0, none⟩ = some (.int .i64 z0) ∧ w'.cell? ⟨w5.heap.size, 1, none⟩ = some (.slice za zl zc) ∧ w'.cell? ⟨rb, ro + i * 3, none⟩ = some (.slice ra rn rc) ∧ w'.cell? ⟨rb, ro + i * 3 + 1, none⟩ = some (.int .i64 j0) ∧ w'.cell? ⟨rb, ro + i * 3 + 2, none⟩ = some (.slice ja jl jc))) := fun w' h => ⟨(h.cell (w := w8.drew) hw5.2 (by omega) (by omega)).trans v0, (h.cell (w := w8.drew) hw5.2 (by omega) (by omega)).trans v1, (h.cell (w := w8.drew) (Nat.lt_of_lt_of_le hrb hb1.size) (by omega) (by omega)).trans c0, (h.cell (w := w8.drew) (Nat.lt_of_lt_of_le hrb hb1.size) (by omega) (by omega)).trans c1, (h.cell (w := w8.drew) (Nat.lt_of_lt_of_le hrb hb1.size) (by omega) (by omega)).trans c2⟩
              have HNs := hide (And.intro n1 (And.intro n2 (And.intro n4 (And.intro n5 (And.intro hb1 hr1)))))
              clear hw5 hrb hI8 hz8 hb1 hr1 n1 n2 n3 n4 n5 hR hnR hS' hnB hB hX hz hb hn x2 x3 x4 x5 x6 hRr hsum8 hbig hr8
              refine wp_mono (Q := Nm.nrm (fun a' V => ∃ (y42 y43 y44 y45 y46 y47 : Value), a' = { tmps := #[.slice (some ⟨rb, ro, none⟩) nR cR, .slice (some ⟨bb, bo, none⟩) nB cB, undef, undef, .pointer (some ⟨w.heap.size, 0, none⟩), u5, .pointer (some ⟨w.heap.size + 1 + 1, 0, none⟩), .int .i64 (i : Int), .string s, .pointer (some ⟨w5.heap.size, 0, none⟩), .bool true, .slice (some ⟨bb, bo, none⟩) nB cB, .int .i64 (nB : Int), .slice (some ⟨rb, ro, none⟩) nR cR, .int .i64 (nR : Int), .bool false, undef, .map (some (w.heap.size + 1)), .agg #[.map (some (w.heap.size + 1)), .int .i64 0, .slice none 0 0], .slice (some ⟨bb, bo, none⟩) nB cB, .int .i64 (nB : Int), .int .i64 (i : Int), .bool true, .int .i64 (i : Int), .pointer (some ⟨bb, bo + i, none⟩), .string s, .tuple #[.agg #[.int .i64 z0, .slice za zl zc], .bool true], .string s, .tuple #[.agg #[.int .i64 z0, .slice za zl zc], .bool true], .agg #[.int .i64 z0, .slice za zl zc], .bool true, .bool true, .bool false, .bool false, .agg #[.int .i64 z0, .slice za zl zc], .int .i64 1, .bool false, .bool false, u38, .agg #[.int .i64 z0, .slice za zl zc], .int .i64 1, .bool true, y42, y43, y44, y45, y46, y47, u48, undef], defers := [] } ∧ Fr (w.heap.size + 2) (w.heap.size + 1) w8.drew V ∧ SumAt V (w.heap.size + 2) (w.heap.size + 1) (i * 1000 + rw'.1.length) (fadd (sumN rs ns).1 rw'.1 zz) ((sumN rs ns).2 + rw'.2 * zz))) ?reg ?go
              case reg =>
                go_region_held3 (fun w' => w'.cell? ⟨w5.heap.size, 0, none⟩ = some (.int .i64 z0) ∧ w'.cell? ⟨w5.heap.size, 1, none⟩ = some (.slice za zl zc) ∧ w'.cell? ⟨rb, ro + i * 3, none⟩ = some (.slice ra rn rc) ∧ w'.cell? ⟨rb, ro + i * 3 + 1, none⟩ = some (.int .i64 j0) ∧ w'.cell? ⟨rb, ro + i * 3 + 2, none⟩ = some (.slice ja jl jc)) (first | assumption | exact unhide HSS _ hfr | exact unhide HSS _ (Fr.refl _ _ _)) ((go_at_call 29; refine (unhide HAdd).mono ?_; rintro e w9 ⟨rfl, hfr, hs9⟩))
                all_goals exact Nm.nrm_mk ⟨_, _, _, _, _, _, rfl, hfr, hs9⟩
              case go =>
                rintro e a V h9
                obtain ⟨rfl, y42, y43, y44, y45, y46, y47, rfl, hfr, hs9⟩ := Nm.nrm_out h9
                have HF := hide (And.intro hfr hs9)
                clear h9 hfr hs9 v0 v1 c0 c1 c2 HAdd HSS x1
                go_wp2
                obtain ⟨hfr, hs9⟩ := unhide HF
                obtain ⟨n1, n2, n4, n5, hb1, hr1⟩ := unhide HNs
                obtain ⟨hR, hnR, hS', hnB, hB, hX, hz, hb, hn⟩ := unhide HC
                obtain ⟨x1, x2, x3, x4⟩ := hX rw' (List.mem_of_getElem? (unhide HS).2)
                obtain ⟨x5, x6⟩ := x4 s zz (unhide HZ)
                have hsn : sumN rs (ns ++ [zz]) = (fadd (sumN rs ns).1 rw'.1 zz, (sumN rs ns).2 + rw'.2 * zz) := sumN_snoc (r := rw') (by rw [n2]; exact (unhide HS).2)
                have hm : i * 1001 * X + 1001 * X = (i + 1) * 1001 * X := by rw [← Nat.add_mul]; congr 1; omega
                have hm1 : rw'.1.length * X ≤ 1001 * X := Nat.mul_le_mul (by omega) (Nat.le_refl _)
                have hm2 : 1 * X ≤ 1001 * X := Nat.mul_le_mul (by omega) (Nat.le_refl _)
                have hbV : Below w.heap.size w V := (hb1.drew).trans (hfr.below (by omega) (by omega) hb1.size)
                have hsz : w.heap.size < w8.heap.size := (Array.getElem?_eq_some_iff.1 hr1).1
                refine ⟨⟨i + 1, by omega, by simp, hbV, (hfr.block w.heap.size hsz (by omega) (by omega)).trans hr1, ns ++ [zz], unhide HSt ns n1, by simp [n2], ?_, fun s => ?_, ?_⟩, ?_⟩
                · rw [hsn]
                  obtain ⟨D, q1, q2, q3, q4, q5, q6, q7, q8⟩ := hs9
                  exact ⟨D, q1, q2, q3, q4, q5, q6.mono (by omega), q7, q8⟩
                · rw [hsn]
                  have h := fadd_bound n4 x6 rw'.1.length (Nat.le_refl _) s
                  rw [List.take_length] at h
                  show (fadd (sumN rs ns).1 rw'.1 zz s).natAbs ≤ _
                  omega
                · rw [hsn]
                  have h : (rw'.2 * zz).natAbs ≤ X := by rw [Int.natAbs_mul]; exact x5
                  show ((sumN rs ns).2 + rw'.2 * zz).natAbs ≤ _
                  omega
                · simp [intOf]
                  omega
      · have gi : decide ((i : Int) < (nB : Int)) = false := by simp; omega
        have g1 : ¬ ((i : Int) < (nB : Int)) := by omega
        obtain rfl : i = nB := by omega
        have HI := hide hI
        obtain ⟨hb1, hr1, ns, n1, n2, ⟨D, si, sa, sl, sc, q5, q6, q7, q8⟩, n4, n5⟩ := hI
        have o0 : wr.cell? ⟨w.heap.size + 1 + 1, 0, none⟩ = some (.map (some (w.heap.size + 1))) := (blk q5).2.1 0 _ rfl
        have o1 : wr.cell? ⟨w.heap.size + 1 + 1, 1, none⟩ = some (.int .i64 si) := (blk q5).2.1 1 _ rfl
        have o2 : wr.cell? ⟨w.heap.size + 1 + 1, 2, none⟩ = some (.slice sa sl sc) := (blk q5).2.1 2 _ rfl
        have r0 : wr.cell? ⟨w.heap.size, 0, none⟩ = some (.map none) := (blk hr1).2.1 0 _ rfl
        have r1 : wr.cell? ⟨w.heap.size, 1, none⟩ = some (.int .i64 0) := (blk hr1).2.1 1 _ rfl
        have r2 : wr.cell? ⟨w.heap.size, 2, none⟩ = some (.slice none 0 0) := (blk hr1).2.1 2 _ rfl
        have rf0 := (blk hr1).2.2 0
        have rf1 := (blk hr1).2.2 1
        have rf2 := (blk hr1).2.2 2
        have HF := hide (And.intro hb1 (And.intro hr1 (And.intro n1 (And.intro n2 (And.intro q5 (And.intro q6 (And.intro q7 (And.intro q8 (And.intro n4 n5)))))))))
        clear hb1 hr1 n1 n2 q5 q6 q7 q8 n4 n5 hi hi0
        go_wp2
        obtain ⟨hb1, hr1, n1, n2, q5, q6, q7, q8, n4, n5⟩ := unhide HF
        obtain ⟨hR, hnR, hS', hnB, hB, hX, hz, hb, hn⟩ := unhide HC
        have hall : sumO rs bs = some (sumN rs ns) := by
          unfold sumO
          rw [if_neg (by have := unhide HL; omega)]
          rw [hnB, List.take_length] at n1
          rw [n1]
          rfl
        have hp := put3 wr w.heap.size (.map (some (w.heap.size + 1))) (.int .i64 si) (.slice sa sl sc)
        have hNo : NoS #[.map none, .int .i64 0, .slice none 0 0] := fun o u hu hs => by
          match o, hu with
          | 0, hu => simp at hu; subst hu; rcases hs with ⟨s, e⟩ | ⟨s, e⟩ <;> cases e
          | 1, hu => simp at hu; subst hu; rcases hs with ⟨s, e⟩ | ⟨s, e⟩ <;> cases e
          | 2, hu => simp at hu; subst hu; rcases hs with ⟨s, e⟩ | ⟨s, e⟩ <;> cases e
          | o + 3, hu => simp at hu
        have hk := noS_keep (B := wr.heap.size) hp hr1 hNo
        refine bodyPost_ret (res_row2 (cs := [.map (some (w.heap.size + 1)), .int .i64 si, .slice sa sl sc]) rfl rfl rfl (range_block (fill3 hr1)) rfl rfl rfl) rfl ?_
        refine ⟨_, by rw [hall]; rfl, hp.below hb1 (Nat.le_refl _), ⟨_, _, _, _, _, rfl⟩, fun q h => ?_⟩
        rw [hall] at h
        injection h with h
        subst h
        have hle : i * 1001 * X ≤ 2000000 * X := Nat.mul_le_mul (by omega) (Nat.le_refl _)
        refine ⟨⟨D, w.heap.size + 1, i * 1000, si, sa, sl, sc, rfl, ?_, by omega, q7.keep fun b hb h => ⟨(hk b hb h).1, (hk b hb h).2.2, (hk b hb h).2.2⟩, q8.keepS fun b hb h => ⟨(hk b hb h).1, (hk b hb h).2.2, (hk b hb h).2.2⟩⟩, fun s => Nat.le_trans (n4 s) hle, Nat.le_trans n5 hle⟩
        obtain ⟨es, cl, hm, F, hs, hD⟩ := q6
        exact ⟨es, cl, (hp.block _ (by omega)).trans hm, F, hs, hD⟩
end Go.Proofs.YthgdmppmjnmiiaaGreatDoor

/- Package farkas: isFalse, Row. -/
namespace Go.Proofs.YthgdmppmjnmiiaaGreatDoor
open Go Go.RowKit Go.Maps
open _root_.Go.Proofs.YthgdmppmjnmiiaaGreatDoor.Nm (IsI pw)
/-- No name is there just if there is none so many times. -/
theorem size_zero {w : World} {D : DataW Value} {f : ByteArray → Int} {mb n : Nat} (hom : w.ownsMap Tryz.prog 9 R0 mb n D) (h : MF w D f) : Maps.size D = 0 ↔ ∀ s : ByteArray, s.size ≤ maxLen → f s = 0 := by
  have hk' : ∃ es, D = .map es ∧ ∀ p ∈ es, ∃ v, keyOf Tryz.prog 9 v = some p.1 := by
    obtain ⟨es, clock, _, F, _, rfl⟩ := hom
    exact ⟨_, rfl, fun p hp => fit_keys F p (mem_sorted.1 hp)⟩
  obtain ⟨es, rfl, hk⟩ := hk'
  constructor
  · intro h0 s hs
    obtain ⟨v, h1, h2, h3⟩ := h s hs
    have : es = [] := List.eq_nil_of_length_eq_zero h0
    subst this
    have : ¬ f s ≠ 0 := fun hne => by
      have := h3.2 hne
      simp [Maps.has] at this
    omega
  · intro hall
    cases es with
    | nil => rfl
    | cons p es =>
      exfalso
      obtain ⟨key, hkey⟩ := hk p (by simp)
      obtain ⟨x, hx, hxl⟩ : ∃ x : ByteArray, p.1 = kl x ∧ x.size ≤ maxLen := by
        cases key <;> simp [keyOf, mapKey, Tryz.underlying9] at hkey
        rename_i x
        exact ⟨x, hkey.2.symm, hkey.1⟩
      obtain ⟨v, h1, h2, h3⟩ := h x hxl
      have : Maps.has (.map (p :: es)) (kl x) = true := by
        rw [Maps.has_eq, List.any_cons, hx, WideAt.sameKey_self (kl_key x)]
        rfl
      exact h3.1 this (hall x hxl)
set_option maxRecDepth 100000 in
set_option maxHeartbeats 4000000 in
theorem isFalse_any {w : World} {D : DataW Value} {mb n : Nat} {i : Int} {a : Option Addr} {l c : Nat} {k : Int} (hom : w.ownsMap Tryz.prog 9 R0 mb n D) (hI : IsB w w.heap.size (.agg #[.int .i64 i, .slice a l c]) k) (hn : n ≤ 1000000000) : Calls Tryz.prog 41 #[.agg #[.map (some mb), .int .i64 i, .slice a l c]] w (VPost (.bool (decide (Maps.size D = 0) && decide (k < 0))) w) := by
  obtain ⟨A, eA, hbA, hsA, hcA, hhA⟩ := box_new w #[.map (some mb), .int .i64 i, .slice a l c] 51
  have homA : A.ownsMap Tryz.prog 9 R0 mb n D := by
    obtain ⟨es, cl, hm, F, hs, hD⟩ := hom
    exact ⟨es, cl, (hbA.block mb (Array.getElem?_eq_some_iff.1 hm).1).trans hm, F, hs, hD⟩
  have hlen := fun ty => homA.len Tryz.underlying46 ty
  have hszn := homA.size_le
  obtain ⟨m, hm⟩ : ∃ m, Maps.size D = m := ⟨_, rfl⟩
  rw [hm] at hlen hszn ⊢
  have x0 : A.cell? ⟨w.heap.size, 0, none⟩ = some (.map (some mb)) := hcA 0 _ rfl
  have x1 : A.cell? ⟨w.heap.size, 1, none⟩ = some (.int .i64 i) := hcA 1 _ rfl
  have x2 : A.cell? ⟨w.heap.size, 2, none⟩ = some (.slice a l c) := hcA 2 _ rfl
  have HSg := hide (Nm.sign_any _ k A (hI.more hbA hbA.size).1)
  have HE := hide eA
  have HB := hide hbA
  rw [← eA] at x0 x1 x2 hlen
  clear eA hbA hsA hcA hhA homA hom hI hm
  by_cases h0 : m = 0
  · subst h0
    go_enter Tryz.func41, Tryz.ntmps41
    go_wp2_with fail
    rw [unhide HE]
    refine (unhide HSg).mono ?_
    rintro e w2 ⟨rfl, hb2⟩
    have HB2 := hide ((unhide HB).trans (hb2.mono (unhide HB).size))
    obtain ⟨b, hb⟩ : ∃ b, decide (k < 0) = b := ⟨_, rfl⟩
    have hs : decide (Nm.sgn k < 0) = b := by
      rw [← hb]
      unfold Nm.sgn
      split
      · rename_i h; simp [h]
      · rename_i h
        split <;> simp [h]
    obtain ⟨sg, hsg⟩ : ∃ sg, Nm.sgn k = sg := ⟨_, rfl⟩
    rw [hsg] at hs ⊢
    have HBb := hide hb
    clear hb2 hb hsg HSg x0 x1 x2 hlen
    go_wp2
    go_ret
    exact ⟨by rw [unhide HBb]; simp, unhide HB2⟩
  · have g : ((m : Int) == 0) = false := by simp; omega
    have g2 : decide ((m : Int) = 0) = false := by simp; omega
    have g3 : decide (m = 0) = false := by simpa using h0
    rw [g3]
    clear h0
    go_enter Tryz.func41, Tryz.ntmps41
    go_wp2
    go_ret
    exact ⟨by simp, by rw [unhide HE]; exact unhide HB⟩
set_option maxRecDepth 100000 in
set_option maxHeartbeats 4000000 in
theorem Row_any {w : World} {B : Nat} {v : Value} {C : List (ByteArray × ByteArray)} {K : ByteArray} (hL : IsL w B v C K) (hB : B ≤ w.heap.size) (hn : C.length ≤ 1000000) : Calls Tryz.prog 8 #[v] w (VPost (.bool (readR C K).isSome) w) := by
  have hLw := hL
  obtain ⟨aC, n, cC, rfl, -, -⟩ := hL
  obtain ⟨A, eA, hbA, hsA, hcA, hhA⟩ := box_new w #[.slice aC n cC, .string K] 28
  have x0 : A.cell? ⟨w.heap.size, 0, none⟩ = some (.slice aC n cC) := hcA 0 _ rfl
  have x1 : A.cell? ⟨w.heap.size, 1, none⟩ = some (.string K) := hcA 1 _ rfl
  have HR := hide (readRow_any (w := A) (B := B) (hLw.more (hbA.mono hB)) (Nat.le_trans hB hbA.size) hn)
  have HE := hide eA
  have HB := hide hbA
  rw [← eA] at x0 x1
  clear hLw eA hbA hsA hcA hhA
  go_enter Tryz.func8, Tryz.ntmps8
  go_wp2_with fail
  rw [unhide HE]
  refine (unhide HR).mono ?_
  rintro e w2 ⟨r, rfl, hb2, ⟨a1, n1, c1, i1, a2, n2, c2, rfl⟩, -⟩
  have HB2 := hide ((unhide HB).trans (hb2.mono (unhide HB).size))
  obtain ⟨b, hb⟩ : ∃ b, (readR C K).isSome = b := ⟨_, rfl⟩
  rw [hb]
  have HBb := hide hb
  clear hb2 hb x0 x1 HR
  go_wp2
  go_ret
  obtain ⟨A2, eA2, hbA2, _⟩ := box_new w2 #[.slice a1 n1 c1, .int .i64 i1, .slice a2 n2 c2] 68
  rw [eA2]
  exact ⟨by rw [unhide HBb]; rfl, (unhide HB2).trans (hbA2.mono (unhide HB2).size)⟩
end Go.Proofs.YthgdmppmjnmiiaaGreatDoor

namespace Go.Proofs.YthgdmppmjnmiiaaGreatDoor
open Go Go.RowKit Go.Maps
open _root_.Go.Proofs.YthgdmppmjnmiiaaGreatDoor.Nm (IsI pw)
/-- One more is done. -/
def upL (L : Nat → Bool) (i : Nat) : Nat → Bool := fun j => if j = i then true else L j
def upS (s : Nat → Value) (i : Nat) (v : Value) : Nat → Value := fun j => if j = i then v else s j
theorem upL_same (L : Nat → Bool) (i : Nat) : upL L i i = true := if_pos rfl
theorem upL_other {L : Nat → Bool} {i j : Nat} (h : j ≠ i) : upL L i j = L j := if_neg h
theorem upS_same (s : Nat → Value) (i : Nat) (v : Value) : upS s i v i = v := if_pos rfl
theorem upS_other {s : Nat → Value} {i j : Nat} {v : Value} (h : j ≠ i) : upS s i v j = s j := if_neg h
theorem own_sameK {w w' : World} {B k n : Nat} {e : TypeId} {v : Value} {xs : List Value} (h : w.ownsRow B e k v n xs) (hk : ∀ g, v.ownBlock = some g → w'.heap[g]? = w.heap[g]?) : w'.ownsRow B e k v n xs := by
  obtain ⟨h1, h2 | ⟨g, cap, cur, rfl, hg, hgb, h3⟩⟩ := h
  · exact ⟨h1, .inl h2⟩
  · exact ⟨h1, .inr ⟨g, cap, cur, rfl, hg, (hk g rfl).trans hgb, h3⟩⟩

theorem below_appK {w0 w w' : World} {B k : Nat} {v : Value} {t : TypeId} {n : Nat} {xs : List Value} (hb : Below B w0 w) (hg : w.grownBy w' v.ownBlock) (ho : w.ownsRow B t k v n xs) (hB : B ≤ w.heap.size) : Below B w0 w' := hb.grown hg hB (fun b e => (ho.lt b e).1)
/-- What a slice of one's own reads as. -/
theorem own_cells {w : World} {B k n : Nat} {v : Value} {t : TypeId} {xs : List Value} (h : w.ownsRow B t k v n xs) : ∃ a c, v = .slice a n c ∧ n ≤ c ∧ (n ≠ 0 → ∃ g, a = some ⟨g, 0, none⟩ ∧ B ≤ g ∧ g < w.heap.size ∧ ∀ (j : Nat) u, xs[j]? = some u → w.cell? ⟨g, j, none⟩ = some u) := by
  obtain ⟨hlen, ⟨rfl, h0⟩ | ⟨g, cap, cur, rfl, hg, hgb, hc1, hc2, hc3, hc4⟩⟩ := h
  · subst h0
    exact ⟨none, 0, rfl, Nat.le_refl _, fun h => absurd rfl h⟩
  · refine ⟨_, cap, rfl, hc1, fun _ => ⟨g, rfl, hg, (Array.getElem?_eq_some_iff.1 hgb).1, fun j u hu => ?_⟩⟩
    rw [← hc4, List.getElem?_take] at hu
    split at hu
    · exact (blk hgb).2.1 j u (by rw [← Array.getElem?_toList]; exact hu)
    · cases hu


section
variable {P : Program} {X : Exit → Act → World → Prop}
theorem seqS {l : List Oper} {a0 : Act} {w0 : World} (N S : Nat) (kept : List Nat) (Φ : Nat → Value → Prop) (chn : Nat → Bool) (Q : (Nat → Bool) → (Nat → Value) → World → Prop)
    (hg : fitF N 0 kept l = true) (hN : a0.tmps.size = N)
    (hsl : S < l.length) (hsd : (l.getD S default).dst = none) (hsg : (l.getD S default).guard = none) (hsp : ((List.range l.length).all fun i => i == S || (preds (l.getD S default)).contains i) = true)
    (hno : ((List.range l.length).all fun i => i == S || (match l[i]? with | some o => o.dst.isSome | none => false)) = true) (JS : Act → World → Prop) (hΦs : ∀ v, Φ S v)
    (hlt : ∀ i, chn i = true → i < l.length ∧ i ≠ S)
    (h0 : Q (fun _ => false) (slotOf l.toArray a0) w0)
    (hloc : ∀ (L L' : Nat → Bool) (s s' : Nat → Value) (w : World), (∀ i, chn i = true → L i = L' i ∧ s i = s' i) → Q L s w → Q L' s' w)
    (hpure : ∀ i, i < l.length → chn i = false → i ≠ S → ∀ (a : Act) (w : World) (L : Nat → Bool), a.tmps.size = N → (∀ k, k ∈ kept → a.tmps[k]? = a0.tmps[k]?) → (∀ j, (preds (l.getD i default)).contains j = true → Φ j (slotOf l.toArray a j)) → Q L (slotOf l.toArray a) w →
      Region.wanted (l.getD i default) (yielded l.toArray a.tmps) = true ∧ (l.getD i default).wp P a w (fun a' w' => ∃ v, a' = a.put (l.getD i default).dst v ∧ w' = w ∧ Φ i v) X)
    (hch : ∀ i, chn i = true → ∀ (a : Act) (w : World) (L : Nat → Bool), a.tmps.size = N → (∀ k, k ∈ kept → a.tmps[k]? = a0.tmps[k]?) → (∀ j, (preds (l.getD i default)).contains j = true → L j = true ∧ Φ j (slotOf l.toArray a j)) → L i = false → (∀ j, j < l.length → L j = true → ∀ k, (preds (l.getD j default)).contains k = true → L k = true) → Q L (slotOf l.toArray a) w →
      Region.wanted (l.getD i default) (yielded l.toArray a.tmps) = true ∧ (l.getD i default).wp P a w (fun a' w' => ∃ v, a' = a.put (l.getD i default).dst v ∧ Φ i v ∧ Q (upL L i) (upS (slotOf l.toArray a) i v) w') X)
    (hstore : ∀ (a : Act) (w : World), a.tmps.size = N → (∀ k, k ∈ kept → a.tmps[k]? = a0.tmps[k]?) → (∀ i, i < l.length → i ≠ S → Φ i (slotOf l.toArray a i)) → Q (fun _ => true) (slotOf l.toArray a) w → (l.getD S default).wp P a w (fun a' w' => a' = a ∧ JS a w') X)
    (hend : ∀ (a : Act) (w : World), a.defers = a0.defers → a.tmps.size = N → (∀ k, k ∈ kept → a.tmps[k]? = a0.tmps[k]?) → JS a w → X .normal a w) :
    wpAny P .any l.toArray X l.toArray.size (Array.replicate l.toArray.size false) a0 w0 := by
  have hgd : ∀ (i : Nat) (o : Oper), l[i]? = some o → l.getD i default = o := fun i o ho => by simp [List.getD_eq_getElem?_getD, ho]
  have hs : l[S]? = some (l.getD S default) := by simp [List.getD_eq_getElem?_getD, hsl]
  have hspec := fitF_spec l 0 kept hg
  have hdst : ∀ (i : Nat) (o : Oper), l[i]? = some o → i ≠ S → ∃ d, o.dst = some d := fun i o ho hne => by
    have hi := (List.getElem?_eq_some_iff.1 ho).1
    have h := List.all_eq_true.1 hno i (List.mem_range.2 hi)
    simp only [ho, Bool.or_eq_true, beq_iff_eq] at h
    exact Option.isSome_iff_exists.1 (h.resolve_left hne)
  have hslot : ∀ (i : Nat) (o : Oper) (k : Nat) (ok : Oper) (a : Act) (v : Value), l[i]? = some o → l[k]? = some ok → k ≠ i → k ≠ S → slotOf l.toArray (a.put o.dst v) k = slotOf l.toArray a k := fun i o k ok a v ho hk hne hkS => by
    obtain ⟨dk, hdk⟩ := hdst k ok hk hkS
    have hk' : l.toArray[k]? = some ok := by simpa using hk
    cases hd : o.dst with
    | none => rfl
    | some d =>
      refine slot_put_other hk' hdk fun e => ?_
      subst e
      rcases Nat.lt_or_gt_of_ne hne with h | h
      · exact ((hspec i o ho).2 d hd).2.2 k ok h hk hdk
      · exact ((hspec k ok hk).2 d hdk).2.2 i o h ho hd
  have hself : ∀ (i : Nat) (o : Oper) (a : Act) (v : Value), l[i]? = some o → i ≠ S → a.tmps.size = N → slotOf l.toArray (a.put o.dst v) i = v := fun i o a v ho hiS hn => by
    obtain ⟨d, hd⟩ := hdst i o ho hiS
    have ho' : l.toArray[i]? = some o := by simpa using ho
    exact slot_put_same (a := a) (v := v) ho' hd (by have := ((hspec i o ho).2 d hd).2.1; omega)
  have hget : ∀ (listed : Array Bool) (i j : Nat), i ≠ j → (listed.setIfInBounds i true).getD j false = listed.getD j false := fun listed i j e => getD_set_ne false e
  have hall : ∀ j, j < l.length → j ≠ S → (preds (l.getD S default)).contains j = true := fun j hj hjS => by
    have h := List.all_eq_true.1 hsp j (List.mem_range.2 hj)
    simp only [Bool.or_eq_true, beq_iff_eq] at h
    exact h.resolve_left hjS
  refine stepsF N kept Φ (fun listed a w => (listed.getD S false = true → JS a w) ∧ (listed.getD S false = false → Q (fun j => listed.getD j false) (slotOf l.toArray a) w)) hg hN ?_ ?_ ?_ ?_
  · have hrep : ∀ i, (Array.replicate l.length false).getD i false = false := fun i => by
      simp only [Array.getD_eq_getD_getElem?, Array.getElem?_replicate]
      split <;> rfl
    exact ⟨fun h => (by rw [hrep] at h; cases h), fun _ => hloc _ _ _ _ w0 (fun i _ => ⟨(hrep i).symm, rfl⟩) h0⟩
  · intro i o ho listed a w hsz hun hdown hdf hn hk hpr hJ
    have hi := (List.getElem?_eq_some_iff.1 ho).1
    have hun' : listed.getD i false = false := by
      have h1 : i < listed.size := by omega
      simpa [h1] using hun
    have hset : (listed.setIfInBounds i true).getD i false = true := by
      have h1 : i < listed.size := by omega
      simp [h1]
    by_cases hiS : i = S
    · subst hiS
      rw [hs] at ho
      injection ho with ho
      subst ho
      have hw : Region.wanted (l.getD i default) (yielded l.toArray a.tmps) = true := by simp only [Region.wanted, hsg]
      rw [if_pos hw]
      refine Oper.wp_mono ?_ (hstore a w hn hk (fun j hj hjS => (hpr j (hall j hj hjS)).2) (hloc _ _ _ _ w (fun j hj => ⟨(hpr j (hall j (hlt j hj).1 (hlt j hj).2)).1, rfl⟩) (hJ.2 hun')))
      rintro a' w' ⟨rfl, hJS⟩
      refine ⟨undef, (by rw [hsd]; rfl), (fun h => by rw [hsd] at h; cases h), (fun _ => hJS), fun h => ?_⟩
      rw [hset] at h
      cases h
    have hl0 : listed.getD S false = false := by
      cases h : listed.getD S false with
      | false => rfl
      | true =>
        have h2 := hdown S _ hs h i (hall i hi hiS)
        rw [hun'] at h2
        cases h2
    have hsame : (listed.setIfInBounds i true).getD S false = false := (hget listed i S hiS).trans hl0
    have hQ := hJ.2 hl0
    have hno' : ∀ {Y : Prop}, (listed.setIfInBounds i true).getD S false = true → Y := fun h => by rw [hsame] at h; cases h
    have ed := hgd i o ho
    cases hc : chn i with
    | false =>
      obtain ⟨hw, h⟩ := hpure i hi hc hiS a w (fun j => listed.getD j false) hn hk (fun j hj => (hpr j (by rw [ed] at hj; exact hj)).2) hQ
      rw [ed] at hw h
      rw [if_pos hw]
      refine Oper.wp_mono ?_ h
      rintro a' w' ⟨v, rfl, rfl, hv⟩
      refine ⟨v, rfl, fun _ => hv, hno', fun _ => hloc _ _ _ _ w' (fun j hj => ?_) hQ⟩
      have hne : i ≠ j := fun e => by rw [← e, hc] at hj; cases hj
      obtain ⟨hjl, hjS⟩ := hlt j hj
      exact ⟨(hget listed i j hne).symm, (hslot i o j _ a v ho (List.getElem?_eq_getElem hjl) (Ne.symm hne) hjS).symm⟩
    | true =>
      obtain ⟨hw, h⟩ := hch i hc a w (fun j => listed.getD j false) hn hk (fun j hj => hpr j (by rw [ed] at hj; exact hj)) hun' (fun j hj h2 k h3 => hdown j _ (List.getElem?_eq_getElem hj) h2 k (by rw [hgd j _ (List.getElem?_eq_getElem hj)] at h3; exact h3)) hQ
      rw [ed] at hw h
      rw [if_pos hw]
      refine Oper.wp_mono ?_ h
      rintro a' w' ⟨v, rfl, hv, hQ'⟩
      refine ⟨v, rfl, fun _ => hv, hno', fun _ => hloc _ _ _ _ w' (fun j hj => ?_) hQ'⟩
      by_cases ej : j = i
      · subst ej
        rw [upL_same, upS_same]
        exact ⟨hset.symm, (hself j o a v ho hiS hn).symm⟩
      · obtain ⟨hjl, hjS⟩ := hlt j hj
        rw [upL_other ej, upS_other ej]
        exact ⟨(hget listed i j (Ne.symm ej)).symm, (hslot i o j _ a v ho (List.getElem?_eq_getElem hjl) ej hjS).symm⟩
  · intro i o ho hd v
    by_cases hiS : i = S
    · subst hiS
      exact hΦs v
    · obtain ⟨d, hd'⟩ := hdst i o ho hiS
      rw [hd] at hd'
      cases hd'
  · intro listed a w hsz hall hdf hn hk hΦ hJ
    exact hend a w hdf hn hk (hJ.1 (hall S hsl))
end

section
variable {X : Exit → Act → World → Prop} {K : Act → World → Prop} {a : Act} {w : World} {dst : Option Tmp} {ty : TypeId} {pos : String} {af : Array Edge} {gd : Option (Nat × Bool)} {k : Nat}
/-- An append whose run is known. -/
theorem op_app {w' : World} {u v v' : Value} {k1 k2 : Nat} {t : TypeId} (hs : a.tmps.getD k1 undef = v) (hx : a.tmps.getD k2 undef = u) (hr : (Builtin.append_ #[t, t] ty #[v, u]).run Tryz.prog w = .ok v' w') (h : K (a.put dst v') w') : Oper.wp Tryz.prog ⟨dst, .call { callee := .builtin .append, args := #[.tmp k1, .tmp k2], argTypes := #[t, t] }, ty, pos, af, gd⟩ a w K X := by
  have hs' : a.eval (.tmp k1) = v := hs
  have hx' : a.eval (.tmp k2) = u := hx
  unfold Oper.wp execOp
  simp only [resolve, invoke, builtin, Sem.run_bind, Sem.run_pure, Result.andThen_ok, List.map_toArray, List.map_cons, List.map_nil, hs', hx', hr]
  exact h

set_option maxRecDepth 100000 in
set_option maxHeartbeats 4000000 in
theorem op_bsC {s t : ByteArray} (hv : a.tmps.getD k undef = .agg #[.string s, .string t]) (h : K (a.put dst (.slice (some ⟨w.heap.size, 0, none⟩) 1 1)) (w.alloc (.cells #[.string s, .string t] 39))) : Oper.wp Tryz.prog ⟨dst, .buildSlice 26 1 #[(0, .tmp k)], ty, pos, af, gd⟩ a w K X := by
  have he : a.eval (.tmp k) = .agg #[.string s, .string t] := hv
  unfold Oper.wp
  simp only [execOp, List.map_toArray, List.map_cons, List.map_nil, he]
  go_simp
  exact h
theorem op_bldC {s t : ByteArray} {k2 : Nat} (h1 : a.tmps.getD k undef = .string s) (h2 : a.tmps.getD k2 undef = .string t) (h : K (a.put dst (.agg #[.string s, .string t])) w) : Oper.wp Tryz.prog ⟨dst, .build 39 #[(0, .tmp k), (1, .tmp k2)], ty, pos, af, gd⟩ a w K X := by
  have e1 : a.eval (.tmp k) = .string s := h1
  have e2 : a.eval (.tmp k2) = .string t := h2
  unfold Oper.wp
  simp only [execOp, List.map_toArray, List.map_cons, List.map_nil, e1, e2]
  go_simp
  exact h
theorem op_lk {m x : Operand} {vm vx v : Value} {t : TypeId} (h1 : a.eval m = vm) (h2 : a.eval x = vx) (hr : (Instr.lookup t vm vx false).run Tryz.prog w = .ok v w) (h : K (a.put dst v) w) : Oper.wp Tryz.prog ⟨dst, .lookup t m x false, ty, pos, af, gd⟩ a w K X := by
  unfold Oper.wp
  simp [execOp, h1, h2, hr, Oper.upon, h]
end
theorem op_store {P : Program} {Q : Exit → Act → World → Prop} {K : Act → World → Prop} {a : Act} {w w' : World} {ty : TypeId} {pos : String} {af : Array Edge} {gd : Option (Nat × Bool)} {x y : Operand} {vx vy : Value} {t : TypeId} (hx : a.eval x = vx) (hy : a.eval y = vy) (hr : (Instr.storeAt t vx vy).run P w = .ok () w') (h : K a w') : Oper.wp P ⟨none, .store t x y, ty, pos, af, gd⟩ a w K Q := by
  unfold Oper.wp
  simp [execOp, hx, hy, hr, Oper.upon, Act.put, h]

theorem infCoef : (Tryz.prog.info? 39).map (fun i => (i.zero, i.size, i.bytes)) = some (some (.agg #[.string ⟨#[]⟩, .string ⟨#[]⟩]), 2, 32) := by kernel_rfl
theorem enter_Str : Enters Tryz.prog 30 := ⟨fun xs w => by go_simp⟩
set_option maxRecDepth 100000 in
theorem fa_lin (r : Nat) (w : World) : (Instr.fieldAt 28 (.pointer (some ⟨r, 0, none⟩)) 0).run Tryz.prog w = .ok (.pointer (some ⟨r, 0, none⟩)) w := by go_simp
set_option maxRecDepth 100000 in
theorem fa_sum0 (r : Nat) (w : World) : (Instr.fieldAt 51 (.pointer (some ⟨r, 0, none⟩)) 0).run Tryz.prog w = .ok (.pointer (some ⟨r, 0, none⟩)) w := by go_simp
set_option maxRecDepth 100000 in
theorem ld_C {r o : Nat} {v : Value} {w : World} (h : w.cell? ⟨r, o, none⟩ = some v) : (Instr.loadAt 26 (.pointer (some ⟨r, o, none⟩))).run Tryz.prog w = .ok v w := by
  go_simp
set_option maxRecDepth 100000 in
theorem ld_M {r o : Nat} {v : Value} {w : World} (h : w.cell? ⟨r, o, none⟩ = some v) : (Instr.loadAt 46 (.pointer (some ⟨r, o, none⟩))).run Tryz.prog w = .ok v w := by
  go_simp
set_option maxRecDepth 100000 in
theorem st_C {r n c : Nat} {a : Option Addr} {u v : Value} {w : World} (h : w.heap[r]? = some (.cells #[u, v] 28)) : (Instr.storeAt 26 (.pointer (some ⟨r, 0, none⟩)) (.slice a n c)).run Tryz.prog w = .ok () (w.setCell ⟨r, 0, none⟩ (.slice a n c)) := by
  have h1 : w.cell? ⟨r, 0, none⟩ = some u := (blk h).2.1 0 _ rfl
  have h2 := (blk h).2.2 0
  go_simp
/-- How far the region has come. -/
def TQ (w0 : World) (E0 n : Nat) (v0 : Value) (xs : List Value) (nm st : ByteArray) (L : Nat → Bool) (s : Nat → Value) (w : World) : Prop :=
  Below E0 w0 w ∧ w0.heap.size ≤ w.heap.size ∧ (∀ k, k < w0.heap.size → v0.ownBlock ≠ some k → w.heap[k]? = w0.heap[k]?) ∧
  (L 10 = false → w.ownsRow E0 39 2 v0 n xs ∧ Below w0.heap.size w0 w) ∧
  (L 9 = true → L 10 = false → ∃ g : Nat, s 9 = .slice (some ⟨g, 0, none⟩) 1 1 ∧ ∀ (j : Nat) u, ([.string nm, .string st] : List Value)[j]? = some u → w.cell? ⟨g, j, none⟩ = some u) ∧
  (L 10 = true → w.ownsRow E0 39 2 (s 10) (n + 1) (xs ++ [.string nm, .string st]) ∧ ∀ g, (s 10).ownBlock = some g → v0.ownBlock = some g ∨ w0.heap.size ≤ g)
section
variable {w0 w : World} {E0 n : Nat} {v0 : Value} {xs : List Value} {nm st : ByteArray} {L : Nat → Bool} {s : Nat → Value}
theorem TQ.start (ho : w0.ownsRow E0 39 2 v0 n xs) (hE : E0 ≤ w0.heap.size) : TQ w0 E0 n v0 xs nm st (fun _ => false) s w0.drew :=
  ⟨((Below.refl w0.heap.size w0).drew).mono hE, Nat.le_refl _, fun _ _ _ => rfl, fun _ => ⟨own_sameK ho fun _ _ => rfl, (Below.refl w0.heap.size w0).drew⟩, fun h => (by cases h), fun h => (by cases h)⟩
theorem TQ.loc {L' : Nat → Bool} {s' : Nat → Value} (h : TQ w0 E0 n v0 xs nm st L s w) (h9 : L 9 = L' 9 ∧ s 9 = s' 9) (h10 : L 10 = L' 10 ∧ s 10 = s' 10) : TQ w0 E0 n v0 xs nm st L' s' w := by
  unfold TQ at h ⊢
  rw [← h9.1, ← h9.2, ← h10.1, ← h10.2]
  exact h
theorem TQ.called {w' : World} {v : Value} (h : TQ w0 E0 n v0 xs nm st L s w) (hE : E0 ≤ w0.heap.size) (l9 : L 9 = false) (l10 : L 10 = false) (hb' : Below w.heap.size w w') : TQ w0 E0 n v0 xs nm st (upL L 7) (upS s 7 v) w' := by
  obtain ⟨ho, hb⟩ := h.2.2.2.1 l10
  have hb0 : Below w0.heap.size w0 w' := hb.trans (hb'.mono hb.size)
  unfold TQ
  rw [upL_other (show 9 ≠ 7 by decide), upS_other (show 9 ≠ 7 by decide), upL_other (show 10 ≠ 7 by decide), upS_other (show 10 ≠ 7 by decide)]
  exact ⟨hb0.mono hE, hb0.size, fun k hk _ => hb0.block k hk, fun _ => ⟨own_sameK ho fun g hg => hb'.block g (ho.lt g hg).2, hb0⟩, fun h9 => (by rw [l9] at h9; cases h9), fun h10 => (by rw [l10] at h10; cases h10)⟩
theorem TQ.made (h : TQ w0 E0 n v0 xs nm st L s w) (hE : E0 ≤ w0.heap.size) (l10 : L 10 = false) : TQ w0 E0 n v0 xs nm st (upL L 9) (upS s 9 (.slice (some ⟨w.heap.size, 0, none⟩) 1 1)) (w.alloc (.cells #[.string nm, .string st] 39)) := by
  obtain ⟨ho, hb⟩ := h.2.2.2.1 l10
  have hb' : Below w.heap.size w (w.alloc (.cells #[.string nm, .string st] 39)) := (Below.refl _ w).alloc (Nat.le_refl _) _
  have hb0 := hb.trans (hb'.mono hb.size)
  have hh := (MapKept.heap_alloc w (.cells #[.string nm, .string st] 39)).1
  unfold TQ
  rw [upL_same, upS_same, upL_other (show 10 ≠ 9 by decide), upS_other (show 10 ≠ 9 by decide)]
  exact ⟨hb0.mono hE, hb0.size, fun k hk _ => hb0.block k hk, fun _ => ⟨own_sameK ho fun g hg => hb'.block g (ho.lt g hg).2, hb0⟩, fun _ _ => ⟨w.heap.size, rfl, fun j u hu => (blk hh).2.1 j u (by simpa using hu)⟩, fun h10 => (by rw [l10] at h10; cases h10)⟩
theorem TQ.put (h : TQ w0 E0 n v0 xs nm st L s w) (hn : n ≤ 1000000) (hE : E0 ≤ w0.heap.size) (l9 : L 9 = true) (l10 : L 10 = false) (ty : TypeId) :
    ∃ v' w', (Builtin.append_ #[26, 26] ty #[v0, s 9]).run Tryz.prog w = .ok v' w' ∧ TQ w0 E0 n v0 xs nm st (upL L 10) (upS s 10 v') w' := by
  obtain ⟨ho, hb⟩ := h.2.2.2.1 l10
  obtain ⟨i, hi, hz, h1, h2⟩ := inf_of infCoef
  obtain ⟨g, e9, hc⟩ := h.2.2.2.2.1 l9 l10
  have hs0 := h.2.1
  rw [e9]
  obtain ⟨v', w', hr, ho', hgr, _, hfr⟩ := run_append_own_at (P := Tryz.prog) w E0 26 ty 39 i _ 2 32 Tryz.underlying26 hi hz h1 h2 rfl (by omega) v0 n xs ho ⟨g, 0, none⟩ 1 1 [.string nm, .string st] rfl (fun j u hu => by rw [Addr.add_lit, Nat.zero_add]; exact hc j u hu) (by simp [Value.oneCell']) (by unfold maxLen; omega) (by omega) (by omega)
  have hbel : Below E0 w w' := below_appK (Below.refl _ w) hgr ho (by omega)
  refine ⟨v', w', hr, ?_⟩
  have hkeep : ∀ k, k < w.heap.size → v0.ownBlock ≠ some k → w'.heap[k]? = w.heap[k]? := fun k hk hne => hgr.block k hk fun e => hne e.symm
  unfold TQ
  rw [upL_same, upS_same, upL_other (show 9 ≠ 10 by decide), upS_other (show 9 ≠ 10 by decide)]
  refine ⟨h.1.trans hbel, Nat.le_trans hs0 hbel.size, fun k hk hne => (hkeep k (by omega) hne).trans (h.2.2.1 k hk hne), fun h10 => (by cases h10), fun _ h10 => (by cases h10), fun _ => ⟨ho', fun x hx => ?_⟩⟩
  rcases hfr with hf | hf
  · exact .inl (by rw [← hf]; exact hx)
  · rw [hx] at hf
    have := Option.some.inj hf
    exact .inr (by omega)
end
end Go.Proofs.YthgdmppmjnmiiaaGreatDoor
