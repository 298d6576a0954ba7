/- The walk of quoDigit: a magnitude by one digit. -/
import Derived.Test.YtlcfldkmojpkpaaGreatDoorK
import Derived.Deep.RegionWith
import Derived.Deep.QuietTactic
import Derived.BigQuiet
namespace Go.Proofs.YtlcfldkmojpkpaaGreatDoor
open Go.RowKit Go.Shelf
attribute [local go_sem] Oper.semAt_some

/-- What has been reckoned when the digits at these places have come: the quotient's digits, and what is left. -/
def qst (xs : List Int) (t : Int) (pre : List (Fin xs.length)) : List Int × Int := pre.foldl (fun s i => (s.1.set i.1 ((s.2 * 1000000000 + dg xs i.1) / t), (s.2 * 1000000000 + dg xs i.1) % t)) (List.replicate xs.length 0, 0)
theorem qst_snoc (xs : List Int) (t : Int) (pre : List (Fin xs.length)) (i : Fin xs.length) : qst xs t (pre ++ [i]) = ((qst xs t pre).1.set i.1 (((qst xs t pre).2 * 1000000000 + dg xs i.1) / t), ((qst xs t pre).2 * 1000000000 + dg xs i.1) % t) := by simp [qst]
theorem qst_len (xs : List Int) (t : Int) (pre : List (Fin xs.length)) : (qst xs t pre).1.length = xs.length := by
  suffices h : ∀ n, ∀ p : List (Fin xs.length), p.length = n → (qst xs t p).1.length = xs.length from h _ pre rfl
  intro n
  induction n with
  | zero => intro p hp; rw [List.eq_nil_of_length_eq_zero hp]; simp [qst]
  | succ n ih =>
    intro p hp
    rcases List.eq_nil_or_concat p with rfl | ⟨q, i, rfl⟩
    · simp [qst]
    · rw [List.concat_eq_append, qst_snoc, List.length_set]
      exact ih q (by simpa using hp)
theorem qst_bd (xs : List Int) (t : Int) (t0 : 0 < t) (pre : List (Fin xs.length)) : 0 ≤ (qst xs t pre).2 ∧ (qst xs t pre).2 < t := by
  rcases List.eq_nil_or_concat pre with rfl | ⟨q, i, rfl⟩
  · simp [qst]; omega
  · rw [List.concat_eq_append, qst_snoc]
    exact ⟨Int.emod_nonneg _ (by omega), Int.emod_lt_of_pos _ t0⟩
theorem quo_bd {r d t : Int} (r0 : 0 ≤ r) (r1 : r < t) (d0 : 0 ≤ d) (d1 : d < 1000000000) : 0 ≤ (r * 1000000000 + d) / t ∧ (r * 1000000000 + d) / t < 1000000000 := by
  refine ⟨Int.ediv_nonneg (by omega) (by omega), Int.ediv_lt_of_lt_mul (by omega) ?_⟩
  omega
theorem qst_dig (xs : List Int) (hd : Dig xs) (t : Int) (t0 : 0 < t) (pre : List (Fin xs.length)) : Dig (qst xs t pre).1 := by
  suffices h : ∀ n, ∀ p : List (Fin xs.length), p.length = n → Dig (qst xs t p).1 from h _ pre rfl
  intro n
  induction n with
  | zero => intro p hp; rw [List.eq_nil_of_length_eq_zero hp]; exact Dig.replicate _
  | succ n ih =>
    intro p hp
    rcases List.eq_nil_or_concat p with rfl | ⟨q, i, rfl⟩
    · exact Dig.replicate _
    · rw [List.concat_eq_append, qst_snoc]
      intro x hx
      rcases List.mem_or_eq_of_mem_set hx with h | h
      · exact ih q (by simpa using hp) x h
      · rw [h]
        obtain ⟨r0, r1⟩ := qst_bd xs t t0 q
        obtain ⟨d0, d1⟩ := hd.dg i.1
        exact quo_bd r0 r1 d0 d1
theorem qst_take (xs : List Int) (t : Int) (_t0 : 0 < t) (k : Nat) (hk : k ≤ xs.length) : ∃ Q : List Int, (qst xs t ((dn xs.length).take k)).1 = List.replicate (xs.length - k) 0 ++ Q ∧ val Q * t + (qst xs t ((dn xs.length).take k)).2 = val (xs.drop (xs.length - k)) := by
  induction k with
  | zero => exact ⟨[], by simp [qst], by simp [qst, val]⟩
  | succ k ih =>
    obtain ⟨Q, e1, e2⟩ := ih (by omega)
    rw [dn_take_succ _ _ (by omega), qst_snoc]
    generalize hr : (qst xs t ((dn xs.length).take k)).2 = r at *
    refine ⟨((r * 1000000000 + dg xs (xs.length - 1 - k)) / t) :: Q, ?_, ?_⟩
    · simp only [e1]
      rw [show xs.length - k = (xs.length - (k + 1)) + 1 by omega, List.replicate_succ', List.append_assoc]
      rw [show xs.length - 1 - k = xs.length - (k + 1) by omega]
      rw [List.set_append_right _ _ (by simp)]
      simp
    · have h1 : xs.length - (k + 1) < xs.length := by omega
      rw [List.drop_eq_getElem_cons h1, show xs.length - (k + 1) + 1 = xs.length - k by omega]
      have e : xs[xs.length - (k + 1)] = dg xs (xs.length - 1 - k) := by
        rw [show xs.length - 1 - k = xs.length - (k + 1) by omega, dg, List.getElem?_eq_getElem h1]; rfl
      simp only [e, val]
      have e3 := Int.mul_ediv_add_emod (r * 1000000000 + dg xs (xs.length - 1 - k)) t
      rw [Int.add_mul, Int.mul_assoc, Int.mul_comm _ t]
      omega
theorem qst_all (xs : List Int) (t : Int) (t0 : 0 < t) : val (qst xs t (dn xs.length)).1 * t + (qst xs t (dn xs.length)).2 = val xs := by
  obtain ⟨Q, e1, e2⟩ := qst_take xs t t0 xs.length (Nat.le_refl _)
  rw [List.take_of_length_le (by rw [dn_length]; omega)] at e1 e2
  simp at e1 e2
  rw [e1, e2]

theorem cell_lt {w : World} {p : Addr} {v : Value} (h : w.cell? p = some v) : p.block < w.heap.size := by
  obtain ⟨o, ho, _⟩ := cells_of_cell h
  exact (Array.getElem?_eq_some_iff.1 ho).1
theorem At.other {w : World} {b off : Nat} {xs : List Int} (h : At w b off xs) {p : Addr} (hp : p.block ≠ b) (v : Value) : At (w.setCell p v) b off xs := fun j hj => by
  rw [World.cell?_setCell_other _ _ _ _ (by intro e; exact hp (by rw [e]))]
  exact h j hj
theorem Mg.put {w w' : World} {v : Value} {xs : List Int} {row : Option Nat} (h : Mg w v xs) (hg : w.grownBy w' row) (hr : ∀ r, row = some r → ∃ o : Obj, w.heap[r]? = some o ∧ o.isCells = false) : Mg w' v xs := by
  obtain ⟨a, cap, e, hc, hat⟩ := h
  refine ⟨a, cap, e, hc, fun hne => ?_⟩
  obtain ⟨b, off, ea, hb, hcell⟩ := hat hne
  exact ⟨b, off, ea, Nat.lt_of_lt_of_le hb hg.size, fun j hj => cell_kept (hcell j hj) hg hr⟩
theorem Mg.drewN {w : World} {v : Value} {xs : List Int} (h : Mg w v xs) (q : Nat) : Mg (w.drewN q) v xs := h
theorem trim_val' (a : Option Addr) (cap n : Nat) (xs : List Int) (w : World) (hn : n = xs.length) (hm : Mg w (.slice a n cap) xs) (hd : Dig xs) (hl : xs.length ≤ 1000000) :
    Calls Tryz.prog 84 #[.slice a n cap] w fun e w' => e = .returned (.slice a (tl n xs) cap) ∧ w' = w := by
  subst hn
  exact trim_val a cap xs w hm hd hl
theorem At.setAt {w : World} {b : Nat} {O : List Int} (h : At w b 0 O) {i : Nat} (hi : i < O.length) (d : Int) : At (w.setCell ⟨b, i, none⟩ (.int .u32 d)) b 0 (O.set i d) := by
  intro j hj
  rw [List.length_set] at hj
  rw [Nat.zero_add]
  by_cases e : j = i
  · subst e
    have h0 := h j hi
    rw [Nat.zero_add] at h0
    rw [World.cell?_setCell_same _ _ _ h0]
    simp [hi]
  · rw [World.cell?_setCell_other _ _ _ _ (by intro h'; injection h' with _ h2; exact e h2.symm)]
    have h0 := h j hj
    rw [Nat.zero_add] at h0
    rw [h0, List.getElem?_set_ne (fun e' => e e'.symm)]
theorem mk32 (n : Nat) (w : World) (hn : n ≤ 1000000) : (Instr.makeSlice 24 (.int .i64 (n : Int)) (.int .i64 (n : Int))).run Tryz.prog w = .ok (.slice (some ⟨w.heap.size, 0, none⟩) n n) (w.alloc (.cells (madeCells #[.int .u32 0] n) 88)) := by
  obtain ⟨i0, hi, hz0, hz1, hz2⟩ := info_parts info32
  have hr := run_make (P := Tryz.prog) w 24 88 i0 (.int .u32 0) Tryz.underlying24 hi hz0 .i64 .i64 n n (by omega) (Int.le_refl _) (by rw [hz2]; omega) (by omega)
  rw [hz1] at hr
  simp only [Int.toNat_natCast, Nat.mul_one] at hr
  exact hr
theorem at_made (w : World) (n : Nat) : At (w.alloc (.cells (madeCells #[.int .u32 0] n) 88)) w.heap.size 0 (List.replicate n 0) := by
  intro j hj
  have hj' : j < n := by simpa using hj
  rw [Nat.zero_add, World.cell?_alloc_at _ _ _ _ rfl]
  have : (madeCells #[Value.int .u32 0] n).toList[j]? = some (.int .u32 0) := by rw [toList_madeCells_one]; simp [hj']
  simpa [hj'] using this

set_option maxRecDepth 100000 in
set_option maxHeartbeats 1000000 in
theorem quoDigit_any (ax : Option Addr) (capx : Nat) (xs : List Int) (t : Int) (w : World) (hdx : Dig xs) (hlx : xs.length ≤ 100000) (t0 : 0 < t) (t1 : t < 1000000000)
    (hatx : xs ≠ [] → ∃ b off, ax = some ⟨b, off, none⟩ ∧ b < w.heap.size ∧ At w b off xs) :
    Calls Tryz.prog 106 #[.slice ax xs.length capx, .int .u32 t] w fun e w' => ∃ v zs r, e = .returned (.tuple #[v, .int .u32 r]) ∧ Below w.heap.size w w' ∧ Mg w' v zs ∧ Dig zs ∧ Norm zs ∧ val zs * t + r = val xs ∧ 0 ≤ r ∧ r < t ∧ zs.length ≤ xs.length := by
  have hmk := mk32 xs.length (w.alloc (Obj.cells #[.int .u32 t] 88)) (by omega)
  rw [World.size_alloc] at hmk
  refine (callsIn_wide (n := 10)).1 ?_
  refine callsIn_of_wp_marks Tryz.func106 rfl trivial ?_ rfl
  simp only [Tryz.ntmps106, List.size_toArray, List.length_cons, List.length_nil, Nat.reduceAdd, Nat.reduceSub, Array.replicate_succ, Array.replicate_zero, List.push_toArray, List.append_toArray, List.nil_append, List.cons_append]
  gi_wp2_with fail
  refine ⟨trivial, (callsIn_wide.2 (back_any _ _ _ _)).mono ?_⟩
  rintro e w' ⟨rfl, rfl⟩
  clear hmk
  have cT := Boxed.new w 88 (.int .u32 t)
  have cO := at_made (w.alloc (Obj.cells #[.int .u32 t] 88)) xs.length
  have fO : ∀ o, ((w.alloc (Obj.cells #[.int .u32 t] 88)).alloc (Obj.cells (madeCells #[.int .u32 0] xs.length) 88)).frozen? ⟨w.heap.size + 1, o, none⟩ = false := fun o => World.frozen?_alloc_at _ _ _ _ (by simp)
  have cB := Boxed.new ((w.alloc (Obj.cells #[.int .u32 t] 88)).alloc (Obj.cells (madeCells #[.int .u32 0] xs.length) 88)) 24 (.slice (some ⟨w.heap.size + 1, 0, none⟩) xs.length xs.length)
  have cR := Boxed.new (((w.alloc (Obj.cells #[.int .u32 t] 88)).alloc (Obj.cells (madeCells #[.int .u32 0] xs.length) 88)).alloc (Obj.cells #[.slice (some ⟨w.heap.size + 1, 0, none⟩) xs.length xs.length] 24)) 86 (.int .u64 0)
  have bN := Boxed.new ((((w.alloc (Obj.cells #[.int .u32 t] 88)).alloc (Obj.cells (madeCells #[.int .u32 0] xs.length) 88)).alloc (Obj.cells #[.slice (some ⟨w.heap.size + 1, 0, none⟩) xs.length xs.length] 24)).alloc (Obj.cells #[.int .u64 0] 86)) 24 (.slice ax xs.length capx)
  simp only [World.size_alloc] at cO cB cR bN
  have hB0 : Below w.heap.size w (((((w.alloc (Obj.cells #[.int .u32 t] 88)).alloc (Obj.cells (madeCells #[.int .u32 0] xs.length) 88)).alloc (Obj.cells #[.slice (some ⟨w.heap.size + 1, 0, none⟩) xs.length xs.length] 24)).alloc (Obj.cells #[.int .u64 0] 86)).alloc (Obj.cells #[.slice ax xs.length capx] 24)) :=
    (((((Below.refl _ w).alloc (Nat.le_refl _) _).alloc (by simp) _).alloc (by simp <;> omega) _).alloc (by simp <;> omega) _).alloc (by simp <;> omega) _
  have hA5 : At (((((w.alloc (Obj.cells #[.int .u32 t] 88)).alloc (Obj.cells (madeCells #[.int .u32 0] xs.length) 88)).alloc (Obj.cells #[.slice (some ⟨w.heap.size + 1, 0, none⟩) xs.length xs.length] 24)).alloc (Obj.cells #[.int .u64 0] 86)).alloc (Obj.cells #[.slice ax xs.length capx] 24)) (w.heap.size + 1) 0 (List.replicate xs.length 0) := fun j hj => by
    rw [World.cell?_alloc_past _ _ _ (by simp <;> omega), World.cell?_alloc_past _ _ _ (by simp <;> omega), World.cell?_alloc_past _ _ _ (by simp <;> omega)]
    exact cO j hj
  have hF5 : ∀ j, j < xs.length → (((((w.alloc (Obj.cells #[.int .u32 t] 88)).alloc (Obj.cells (madeCells #[.int .u32 0] xs.length) 88)).alloc (Obj.cells #[.slice (some ⟨w.heap.size + 1, 0, none⟩) xs.length xs.length] 24)).alloc (Obj.cells #[.int .u64 0] 86)).alloc (Obj.cells #[.slice ax xs.length capx] 24)).frozen? ⟨w.heap.size + 1, j, none⟩ = false := fun j hj => by
    rw [World.frozen?_alloc_past _ _ _ (by simp <;> omega), World.frozen?_alloc_past _ _ _ (by simp <;> omega), World.frozen?_alloc_past _ _ _ (by simp <;> omega)]
    exact fO j
  obtain ⟨b, hbw, hbn1, hbn3, hI⟩ : ∃ b, b < w.heap.size + 1 + 1 + 1 + 1 + 1 ∧ b ≠ w.heap.size + 1 ∧ b ≠ w.heap.size + 1 + 1 + 1 ∧ (xs ≠ [] → ∃ off, ax = some ⟨b, off, none⟩ ∧ At (((((w.alloc (Obj.cells #[.int .u32 t] 88)).alloc (Obj.cells (madeCells #[.int .u32 0] xs.length) 88)).alloc (Obj.cells #[.slice (some ⟨w.heap.size + 1, 0, none⟩) xs.length xs.length] 24)).alloc (Obj.cells #[.int .u64 0] 86)).alloc (Obj.cells #[.slice ax xs.length capx] 24)) b off xs) := by
    by_cases hne : xs = []
    · exact ⟨w.heap.size, by omega, by omega, by omega, fun h => absurd hne h⟩
    · obtain ⟨b, off, e, hb, hc⟩ := hatx hne
      exact ⟨b, by omega, by omega, by omega, fun _ => ⟨off, e, fun j hj => (hB0.cell (p := ⟨b, off + j, none⟩) hb).trans (hc j hj)⟩⟩
  gi_wp2
  refine wpIn_rangeFunc_ownG rfl (by decide) (gf := 100) (lb := #[.pointer (some ⟨w.heap.size + 1 + 1 + 1 + 1, 0, none⟩)]) rfl trivial (enters_of Tryz.func100 (by kernel_rfl) rfl)
    (back_stops (w.heap.size + 1 + 1 + 1 + 1) b ax capx xs (by omega) _ (by simp) (by simp; omega) bN.cell hI) kp2_t (kp2_b (by simp) (by simp; omega)) (Below.refl _ _) (fun _ => rfl)
    (fun pre W => (W.cell? ⟨w.heap.size, 0, none⟩ = some (.int .u32 t) ∧ W.cell? ⟨w.heap.size + 1 + 1, 0, none⟩ = some (.slice (some ⟨w.heap.size + 1, 0, none⟩) xs.length xs.length) ∧ W.cell? ⟨w.heap.size + 1 + 1 + 1, 0, none⟩ = some (.int .u64 (qst xs t pre).2) ∧ W.frozen? ⟨w.heap.size + 1 + 1 + 1, 0, none⟩ = false ∧ At W (w.heap.size + 1) 0 (qst xs t pre).1 ∧ ∀ j, j < xs.length → W.frozen? ⟨w.heap.size + 1, j, none⟩ = false) ∧ Below w.heap.size w W)
    (fun _ _ _ => False)
    (OwnFrom.and (Own.from (fun s A B row hs hg hr => ⟨cell_kept hs.1 hg hr, cell_kept hs.2.1 hg hr, cell_kept hs.2.2.1 hg hr, (frozen_kept hs.2.2.1 hg hr).trans hs.2.2.2.1, fun j hj => cell_kept (hs.2.2.2.2.1 j hj) hg hr, fun j hj => (frozen_kept (a := ⟨w.heap.size + 1, j, none⟩) (by have := hs.2.2.2.2.1 j (by rw [qst_len]; exact hj); rwa [Nat.zero_add] at this) hg hr).trans (hs.2.2.2.2.2 j hj)⟩) _) (ownFrom_below (Nat.le_refl _) (by simp; omega)))
    (fun _ _ _ _ _ hs _ _ => hs)
    ⟨⟨((((cT.alloc _).alloc _).alloc _).alloc _).cell, ((cB.alloc _).alloc _).cell, (cR.alloc _).cell, (cR.alloc _).frozen, hA5, hF5⟩, hB0⟩
    (fun x => { tmps := #[.slice ax xs.length capx, .int .u32 t, undef, .pointer (some ⟨w.heap.size, 0, none⟩), .slice none 0 0, .int .u32 0, .pointer (some ⟨w.heap.size + 1 + 1, 0, none⟩), .pointer (some ⟨w.heap.size + 1 + 1 + 1, 0, none⟩), .int .i64 (x.1 : Int), .int .u32 (dg xs x.1), .slice ax xs.length capx, .int .i64 xs.length, .slice (some ⟨w.heap.size + 1, 0, none⟩) xs.length xs.length, .slice ax xs.length capx, .func (.func 100) #[] #[.pointer (some ⟨w.heap.size + 1 + 1 + 1 + 1, 0, none⟩)], .int .i64 (x.1 : Int), .int .u32 (dg xs x.1), undef, undef, undef, undef, undef, undef, undef, undef, undef, undef, undef, undef, undef, undef, undef, undef, undef, undef, undef, undef, undef], defers := [] }) ?assign ?body ?done ?stop
  case assign =>
    intro l x W K hK
    gi_wp2
    exact hK
  case body =>
    rintro l pre x W ⟨⟨hc1, hc2, hc3, hf3, hat, hfo⟩, hB⟩ _
    obtain ⟨d0, d1⟩ := hdx.dg x.1
    obtain ⟨r0, r1⟩ := qst_bd xs t t0 pre
    have hql := qst_len xs t pre
    have hqs := qst_snoc xs t pre x
    obtain ⟨q0, q1⟩ := quo_bd r0 r1 d0 d1
    generalize hO : (qst xs t pre).1 = O at *
    generalize hr : (qst xs t pre).2 = r at *
    generalize hd : dg xs x.1 = d at *
    have HQ := hide hqs
    have HL := hide hql
    clear hqs hql hO hr hd
    have hix : x.1 < O.length := by rw [unhide HL]; exact x.2
    have hoc : W.cell? ⟨w.heap.size + 1, x.1, none⟩ = some (.int .u32 (O[x.1]?.getD 0)) := by have := hat x.1 hix; rwa [Nat.zero_add] at this
    have hof := hfo x.1 x.2
    have hxl : (x.1 : Int) < (xs.length : Int) := by have := x.2; omega
    have hmo : Tryz.prog.follows .mixedOrders = true := by kernel_rfl
    have htz : (t == 0) = false := by simp; omega
    have htz2 : ¬ t = 0 := by omega
    have hw1 : IntKind.u64.wrap t = t := by rw [IntKind.wrap_u64]; omega
    have hw2 : IntKind.u64.wrap ((r * 1000000000 + d).tdiv t) = (r * 1000000000 + d) / t := by
      rw [Int.tdiv_eq_ediv_of_nonneg (by omega), IntKind.wrap_u64]; omega
    have hw3 : IntKind.u32.wrap ((r * 1000000000 + d) / t) = (r * 1000000000 + d) / t := by rw [IntKind.wrap_u32]; omega
    gi_wp2
    refine wpIn_mono (Q := fun e a' W' => e = Exit.normal ∧ a' = { tmps := #[.slice ax xs.length capx, .int .u32 t, undef, .pointer (some ⟨w.heap.size, 0, none⟩), .slice none 0 0, .int .u32 0, .pointer (some ⟨w.heap.size + 1 + 1, 0, none⟩), .pointer (some ⟨w.heap.size + 1 + 1 + 1, 0, none⟩), .int .i64 (x.1 : Int), .int .u32 d, .slice ax xs.length capx, .int .i64 xs.length, .slice (some ⟨w.heap.size + 1, 0, none⟩) xs.length xs.length, .slice ax xs.length capx, .func (.func 100) #[] #[.pointer (some ⟨w.heap.size + 1 + 1 + 1 + 1, 0, none⟩)], .int .i64 (x.1 : Int), .int .u32 d, .int .u64 r, .int .u64 (r * 1000000000), .int .u32 d, .int .u64 d, .int .u64 (r * 1000000000 + d), .slice (some ⟨w.heap.size + 1, 0, none⟩) xs.length xs.length, .int .i64 (x.1 : Int), .int .u64 (r * 1000000000 + d), .int .u32 t, .int .u64 t, .int .u64 ((r * 1000000000 + d) / t), .int .u32 ((r * 1000000000 + d) / t), .pointer (some ⟨w.heap.size + 1, x.1, none⟩), undef, undef, undef, undef, undef, undef, undef, undef], defers := [] } ∧ W' = ((W.setCell ⟨w.heap.size + 1 + 1 + 1, 0, none⟩ (.int .u64 (r * 1000000000 + d))).setCell ⟨w.heap.size + 1, x.1, none⟩ (.int .u32 ((r * 1000000000 + d) / t))).drew) ?reg ?go
    case reg =>
      clear hatx cT cO fO cB cR bN hB0 hA5 hF5 hI HQ HL hat hfo hB d0 d1 r0 r1 q0 q1 hdx hix hbn1 hbn3 hbw
      gi_region_o
      all_goals exact ⟨rfl, rfl, rfl⟩
    case go =>
      rintro e a' W' ⟨rfl, rfl, rfl⟩
      have hk3 : ((W.setCell ⟨w.heap.size + 1 + 1 + 1, 0, none⟩ (.int .u64 (r * 1000000000 + d))).setCell ⟨w.heap.size + 1, x.1, none⟩ (.int .u32 ((r * 1000000000 + d) / t))).drew.cell? ⟨w.heap.size + 1 + 1 + 1, 0, none⟩ = some (.int .u64 (r * 1000000000 + d)) := by
        rw [World.cell?_drew, World.cell?_setCell_other _ _ _ _ (by intro h'; injection h' with h1; omega), World.cell?_setCell_same _ _ _ hc3]
      gi_wp2
      have hat2 := ((hat.other (p := ⟨w.heap.size + 1 + 1 + 1, 0, none⟩) (by show w.heap.size + 1 + 1 + 1 ≠ w.heap.size + 1; omega) (.int .u64 (r * 1000000000 + d))).setAt hix ((r * 1000000000 + d) / t)).other (p := ⟨w.heap.size + 1 + 1 + 1, 0, none⟩) (by show w.heap.size + 1 + 1 + 1 ≠ w.heap.size + 1; omega) (.int .u64 ((r * 1000000000 + d) % t))
      have hKO : KeepsOthers W (((W.setCell ⟨w.heap.size + 1 + 1 + 1, 0, none⟩ (.int .u64 (r * 1000000000 + d))).setCell ⟨w.heap.size + 1, x.1, none⟩ (.int .u32 ((r * 1000000000 + d) / t))).setCell ⟨w.heap.size + 1 + 1 + 1, 0, none⟩ (.int .u64 ((r * 1000000000 + d) % t))).drew :=
        (((KeepsOthers.setCell _ _ _).trans (KeepsOthers.setCell _ _ _)).trans (KeepsOthers.setCell _ _ _)).trans (KeepsOthers.drew _)
      refine ⟨hKO.from _, ?_, ⟨?_, ?_, ?_, ?_, ?_, ?_⟩, ?_⟩
      · exact (((Kp2.refl _ _ W).setCell (a := ⟨w.heap.size + 1 + 1 + 1, 0, none⟩) (by simp) (by simpa using hbn3) _).setCell (a := ⟨w.heap.size + 1, x.1, none⟩) (by simp <;> omega) (by simpa using hbn1) _).setCell (a := ⟨w.heap.size + 1 + 1 + 1, 0, none⟩) (by simp) (by simpa using hbn3) _
      · rw [World.cell?_drew, World.cell?_setCell_other _ _ _ _ (by intro h'; injection h' with h1; omega), World.cell?_setCell_other _ _ _ _ (by intro h'; injection h' with h1; omega), World.cell?_setCell_other _ _ _ _ (by intro h'; injection h' with h1; omega)]
        exact hc1
      · rw [World.cell?_drew, World.cell?_setCell_other _ _ _ _ (by intro h'; injection h' with h1; omega), World.cell?_setCell_other _ _ _ _ (by intro h'; injection h' with h1; omega), World.cell?_setCell_other _ _ _ _ (by intro h'; injection h' with h1; omega)]
        exact hc2
      · rw [unhide HQ, World.cell?_drew, World.cell?_setCell_same _ _ _ (by have := hk3; rwa [World.cell?_drew] at this)]
      · rw [World.frozen?_drew, World.frozen?_setCell, World.frozen?_setCell, World.frozen?_setCell]
        exact hf3
      · rw [unhide HQ]
        exact hat2
      · intro j hj
        rw [World.frozen?_drew, World.frozen?_setCell, World.frozen?_setCell, World.frozen?_setCell]
        exact hfo j hj
      · exact (((hB.setCell (p := ⟨w.heap.size + 1 + 1 + 1, 0, none⟩) (by simp <;> omega) _).setCell (p := ⟨w.heap.size + 1, x.1, none⟩) (by simp) _).setCell (p := ⟨w.heap.size + 1 + 1 + 1, 0, none⟩) (by simp <;> omega) _).drew
  case done =>
    rintro D ys W hD rfl ⟨⟨hc1, hc2, hc3, hf3, hat, hfo⟩, hB⟩ hK
    have hmo : Tryz.prog.follows .mixedOrders = true := by kernel_rfl
    have hm : Mg W (.slice (some ⟨w.heap.size + 1, 0, none⟩) xs.length xs.length) (qst xs t (dn xs.length)).1 := by
      have := hat.mg (cap := xs.length) (by have h2 := cell_lt hc2; simp at h2; omega) (by rw [qst_len]; omega)
      rwa [qst_len] at this
    have hdg := qst_dig xs hdx t t0 (dn xs.length)
    gi_wp2
    refine wpIn_wide.2 ?_
    go_quiet ((go_at_call 84; exact Calls.quiet_of_same (trim_val' _ _ _ _ _ (qst_len xs t (dn xs.length)).symm (Mg.drewN hm _) hdg (by rw [qst_len]; omega))))
    gi_wp2
    refine ⟨by simp, .inl ⟨_, _, rfl, run_takeDeferred (w := W.drewN nq) hK, ?_⟩⟩
    obtain ⟨r0, r1⟩ := qst_bd xs t t0 (dn xs.length)
    have hsp := tl_spec (w := W) (a := some ⟨w.heap.size + 1, 0, none⟩) (cap := xs.length) (xs := (qst xs t (dn xs.length)).1) (by rw [qst_len]; exact hm) hdg
    rw [qst_len] at hsp
    obtain ⟨s1, s2, s3, s4, s5⟩ := hsp
    have hr : (qst xs t (dn xs.length)).2 % 4294967296 = (qst xs t (dn xs.length)).2 := by omega
    refine ⟨_, results_tmp2 rfl _ _ _, _, _, (qst xs t (dn xs.length)).2, ?_, ((show Below w.heap.size w (W.drewN nq) from ⟨hB.os, hB.tape, hB.output, hB.size, hB.block⟩).trans (belowK_b (w := w) (Nat.le_refl _) (W.drewN nq) D _ _ (by simp at hD; omega) hK rfl rfl) : _), (Mg.drewN s1 nq).put (grownBy_putObj' _ D (.deferred none)) (fun r e => by cases e; exact ⟨_, hK, rfl⟩), s2, s3, ?_, r0, r1, s5⟩
    · show Ending.returned (.tuple #[.slice (some ⟨w.heap.size + 1, 0, none⟩) (tl xs.length (qst xs t (dn xs.length)).1) xs.length, .int .u32 ((qst xs t (dn xs.length)).2 % 4294967296)]) = _
      rw [hr]
    · rw [s4]; exact qst_all xs t t0
  case stop =>
    rintro D c pre W _ _ h _
    exact h.elim

end Go.Proofs.YtlcfldkmojpkpaaGreatDoor
