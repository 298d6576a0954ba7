/- avowlaw7: RupFollows, its walk. -/
import Derived.Test.YtmkkhpoedlbafaaQX
set_option linter.unusedVariables false
set_option linter.unusedSimpArgs false

/- avowhelp: Place. -/
namespace Go.Proofs.Ytmkkhpoedlbafaa
open Go Go.RowKit Go.Sort
theorem tmod_lt {k n : Int} (hn : 0 < n) : -n < Int.tmod k n ∧ Int.tmod k n < n := by
  have h1 := Int.tmod_lt_of_pos k hn
  refine ⟨?_, h1⟩
  by_cases h : 0 ≤ k
  · have := Int.tmod_nonneg n h
    omega
  · have h2 := Int.tmod_lt_of_pos (-k) hn
    have h3 : Int.tmod (-k) n = -Int.tmod k n := Int.neg_tmod k n
    omega
/-- A place among n. -/
def plc (k n : Int) : Int := if Int.tmod k n < 0 then Int.tmod k n + n else Int.tmod k n
theorem plc_rng {k n : Int} (hn : 0 < n) : 0 ≤ plc k n ∧ plc k n < n := by
  have := tmod_lt (k := k) hn
  unfold plc
  split <;> omega
set_option maxRecDepth 100000 in
set_option maxHeartbeats 16000000 in
theorem place_any (k n : Int) (w : World) (hn : 0 < n) (hn2 : n ≤ 1000000000) : Calls Try.prog 11 #[.int .i64 k, .int .i64 n] w fun e w' => e = .returned (.int .i64 (plc k n)) ∧ w' = w := by
  have hr := tmod_lt (k := k) hn
  have n0 : ¬ n = 0 := by omega
  have n1 : (n == 0) = false := by simpa using n0
  have e1 : IntKind.i64.wrap (Int.tmod k n) = Int.tmod k n := by rw [IntKind.wrap_i64]; omega
  by_cases h : Int.tmod k n < 0
  · have hp : Hid (plc k n = Int.tmod k n + n) := if_pos h
    have e2 : IntKind.i64.wrap (Int.tmod k n + n) = Int.tmod k n + n := by rw [IntKind.wrap_i64]; omega
    rw [unhide hp]
    go_enter Try.func11, Try.ntmps11
    go_wp2
    go_ret
    exact ⟨rfl, rfl⟩
  · have hp : Hid (plc k n = Int.tmod k n) := if_neg h
    have hd : decide (Int.tmod k n < 0) = false := by simp; omega
    rw [unhide hp]
    go_enter Try.func11, Try.ntmps11
    go_wp2
    go_ret
    exact ⟨rfl, rfl⟩
end Go.Proofs.Ytmkkhpoedlbafaa

/- avowlaw7: RupFollows. -/
namespace Go.Proofs.Ytmkkhpoedlbafaa
open Go Go.RowKit Go.Sort
theorem ref_follows (B : Nat) (vl v : Value) (ls : List (List Int)) (xs : List Int) (w : World) (hBw : B ≤ w.heap.size) (hL : Sl2 w B vl ls) (hS : Sl w B v xs) : Calls Try.prog 12 #[vl, v] w (FPost ls xs w) := by
  cases h : xs.all litOk with
  | false =>
    refine (follows_no B vl v xs w hS h).mono ?_
    rintro e w' ⟨rfl, rfl⟩
    exact FPost.no rfl (fun hf => by have := whole_all.2 hf.1; rw [h] at this; cases this) (Below.refl _ _)
  | true => exact follows_yes B vl v ls xs w hBw hL hS h
theorem ad_add (b off j : Nat) : (⟨b, off, none⟩ : Addr).add j = ⟨b, off + j, none⟩ := by simp [Addr.add]
/-- Slices of slices joined, part by part. -/
theorem join_rd {w : World} {B : Nat} {s1 s2 : Value} {u1 u2 : List Value} {l1 l2 : List (List Int)} (hB : B ≤ w.heap.size) (h1 : Rd w s1 u1) (k1 : Vl w B u1 l1) (h2 : ∀ W, Below B w W → Rd W s2 u2) (k2 : Vl w B u2 l2) (hT : l1.length + l2.length ≤ 100000000) : ∃ v1 w1 v2 w2, (Builtin.append_ #[22, 22] 22 #[.slice none 0 0, s1]).run Try.prog w = .ok v1 w1 ∧ (Builtin.append_ #[22, 22] 22 #[v1, s2]).run Try.prog w1 = .ok v2 w2 ∧ Sl2 w2 w2.heap.size v2 (l1 ++ l2) ∧ Below w.heap.size w w2 := by
  have n1 := k1.len
  have n2 := k2.len
  obtain ⟨v1, w1, r1, o1, g1⟩ := app_rows (own_nil w w.heap.size 23) h1 k1.one (by omega) (Nat.le_refl _) 22
  have b1 : Below w.heap.size w w1 := below_app (Below.refl _ w) g1 (own_nil w w.heap.size 23) (Nat.le_refl _)
  obtain ⟨v2, w2, r2, o2, g2⟩ := app_rows o1 (h2 w1 (b1.mono hB)) k2.one (by omega) b1.size 22
  have b2 : Below w.heap.size w w2 := below_app b1 g2 o1 b1.size
  refine ⟨v1, w1, v2, w2, r1, r2, ?_, b2⟩
  have hk := ((k1.below (b2.mono hB)).mono (Nat.le_trans hB b2.size)).app ((k2.below (b2.mono hB)).mono (Nat.le_trans hB b2.size))
  refine Sl2.own (vs := u1 ++ u2) (B := w.heap.size) ?_ (Nat.le_refl _) hk
  have e : (l1 ++ l2).length = 0 + u1.length + u2.length := by simp; omega
  rw [e]
  simpa using o2
/-- An append whose run is known, as a step of a region that draws. -/
theorem step_run {ops : Array Oper} {o : Oper} {a : Act} {K : Act → World → Prop} {Q : Exit → Act → World → Prop} {E : Prop} {w w' : World} {v u v' : Value} (s x : Operand) (t : TypeId) (ho : o.op = .call { callee := .builtin .append, args := #[s, x], argTypes := #[t, t] }) (hs : a.eval s = v) (hx : a.eval x = u) (hw : Region.wanted o (yielded ops a.tmps) = true) (hr : (Builtin.append_ #[t, t] o.type #[v, u]).run Try.prog w = .ok v' w') (h : K (a.put o.dst v') w') : if Region.wanted o (yielded ops a.tmps) = true then Oper.wp Try.prog o a w K Q else E := by
  rw [if_pos hw]
  unfold Oper.wp execOp
  simp only [ho, resolve, invoke, builtin, Sem.run_bind, Sem.run_pure, Result.andThen_ok, List.map_toArray, List.map_cons, List.map_nil, hs, hx, hr]
  exact h
/-- A slice of slices, turned at a place. -/
theorem Sl2.turned {w : World} {B b off m cap k : Nat} {ls : List (List Int)} (hB : B ≤ w.heap.size) (h : Sl2 w B (.slice (some ⟨b, off, none⟩) m cap) ls) (hm : ls.length = m) (hk : k < m) (hT : m ≤ 1000000) : ∃ v1 w1 v2 w2, (Builtin.append_ #[22, 22] 22 #[.slice none 0 0, .slice (some ⟨b, off + k, none⟩) (m - k) (cap - k)]).run Try.prog w = .ok v1 w1 ∧ (Builtin.append_ #[22, 22] 22 #[v1, .slice (some ⟨b, off, none⟩) k cap]).run Try.prog w1 = .ok v2 w2 ∧ Sl2 w2 w2.heap.size v2 (ls.drop k ++ ls.take k) ∧ Below w.heap.size w w2 := by
  have hcell : ∀ W, Below B w W → ∃ vs : List Value, vs.length = m ∧ (∀ (j : Nat) u, vs[j]? = some u → W.cell? ⟨b, off + j, none⟩ = some u) ∧ Vl W B vs ls := fun W hb => by
    obtain ⟨vs, hr, kv⟩ := (h.below hb).vals
    refine ⟨vs, by rw [kv.len, hm], ?_, kv⟩
    rcases hr with ⟨rfl, _⟩ | ⟨p, c, e, hc⟩
    · intro j u hu; simp at hu
    · intro j u hu
      have := hc j u hu
      simp only [Value.slice.injEq, Option.some.injEq] at e
      obtain ⟨rfl, _, _⟩ := e
      rw [ad_add] at this
      exact this
  obtain ⟨vs, n0, c0, kv⟩ := hcell w (Below.refl _ _)
  have hd : Vl w B (vs.drop k) (ls.drop k) := ⟨by simp [kv.len], fun j u l h1 h2 => kv.at_ (k + j) u l (by rw [← List.getElem?_drop]; exact h1) (by rw [← List.getElem?_drop]; exact h2)⟩
  have ht : Vl w B (vs.take k) (ls.take k) := ⟨by simp [kv.len], fun j u l h1 h2 => by
    have hj : j < k := by have := (List.getElem?_eq_some_iff.1 h2).1; simp at this; omega
    rw [List.getElem?_take_of_lt hj] at h1 h2
    exact kv.at_ j u l h1 h2⟩
  refine join_rd (u1 := vs.drop k) (u2 := vs.take k) hB (.inr ⟨⟨b, off + k, none⟩, cap - k, by simp [n0], fun j u hu => ?_⟩) hd (fun W hb => .inr ⟨⟨b, off, none⟩, cap, by simp [n0]; omega, fun j u hu => ?_⟩) ht (by simp; omega)
  · rw [List.getElem?_drop] at hu
    have := c0 _ u hu
    rw [ad_add, Nat.add_assoc]
    exact this
  · have hj : j < k := by have := (List.getElem?_eq_some_iff.1 hu).1; simp at this; omega
    rw [List.getElem?_take_of_lt hj] at hu
    have h1 := c0 j u hu
    have hlt : b < B := by
      obtain ⟨a', c', e, _, _, ha⟩ := h.1
      simp only [Value.slice.injEq] at e
      obtain ⟨b2, off2, e2, hlt⟩ := ha (by omega)
      rw [e2] at e
      simp only [Option.some.injEq, Addr.mk.injEq] at e
      rw [e.1.1]; exact hlt
    have h2 := (hb.cell (p := ⟨b, off + j, none⟩) hlt).trans h1
    rw [ad_add]
    exact h2
end Go.Proofs.Ytmkkhpoedlbafaa

namespace Go.Proofs.Ytmkkhpoedlbafaa
open Go Go.RowKit Go.Sort
theorem same_b {b c : Bool} {p : Prop} (h : b = true ↔ p) (k : c = true ↔ p) : b = c := by
  cases b <;> cases c
  · rfl
  · exact absurd (h.2 (k.1 rfl)) (by simp)
  · exact absurd (k.2 (h.1 rfl)) (by simp)
  · rfl
theorem turn_mem {ls : List (List Int)} {k : Nat} (d : List Int) : d ∈ ls.drop k ++ ls.take k ↔ d ∈ ls := by
  rw [List.mem_append]
  constructor
  · rintro (h | h)
    · exact List.mem_of_mem_drop h
    · exact List.mem_of_mem_take h
  · intro h
    rw [← List.take_append_drop k ls, List.mem_append] at h
    exact h.symm
theorem tot_turn (ls : List (List Int)) (k : Nat) : tot (ls.drop k ++ ls.take k) = tot ls := by
  have := tot_app (ls.take k) (ls.drop k)
  rw [List.take_append_drop] at this
  rw [tot_app]
  omega
set_option maxRecDepth 100000 in
set_option maxHeartbeats 16000000 in
theorem rupfollows_walk (vl v : Value) (z : Int) (ls : List (List Int)) (xs : List Int) (w : World) (hL : Sl2 w w.heap.size vl ls) (hS : Sl w w.heap.size v xs) (hlen : ∀ d ∈ [ls, [xs]], ∀ c ∈ d, c.length ≤ 17592186044416) :
    Calls Try.prog 3 #[vl, v, .int .i64 z] w (YesPost w) := by
  obtain ⟨B, hB⟩ : ∃ B, w.heap.size = B := ⟨_, rfl⟩
  have hBw : B ≤ w.heap.size := by omega
  rw [hB] at hL hS
  obtain ⟨al, capl, rfl, hmaxl, hcl⟩ := hL.open
  obtain ⟨a, cap, rfl, hmax, _⟩ := hS.open
  have hcapl : ls.length ≤ capl ∧ capl ≤ 9223372036854775807 := by
    obtain ⟨a', c', e, h1, h2, _⟩ := hL.1
    simp only [Value.slice.injEq] at e
    omega
  have HAll : Hid (∀ W, Below B w W → Sl2 W B (.slice al ls.length capl) ls ∧ Sl W B (.slice a xs.length cap) xs) := fun W h => ⟨hL.below h, hS.below h⟩
  obtain ⟨m, hm⟩ : ∃ m, ls.length = m := ⟨_, rfl⟩
  obtain ⟨n, hn⟩ : ∃ n, xs.length = n := ⟨_, rfl⟩
  have HCL := hide hcl
  rw [hm, hn] at HAll
  rw [hm, hn]
  rw [hm] at hmaxl hcapl
  rw [hn] at hmax
  have HM := hide hm
  have HLen := hide hlen
  have HBB := hide hB
  have HCap := hide hcapl
  clear hL hS hlen hB hm hn hcl hcapl
  go_enter Try.func3, Try.ntmps3
  go_wp2_with fail
  refine (known_any w).mono ?_
  rintro e w1 ⟨rfl, hb1⟩
  go_wp2_with fail
  have hB1 : B ≤ w1.heap.size := Nat.le_trans hBw hb1.size
  have hb1' := hb1.mono hBw
  obtain ⟨l1, l2⟩ := unhide HAll w1 hb1'
  have hP := pack2 hB1 l1 l2
  have hbW : Below w1.heap.size w1 ((w1.alloc (.cells #[.slice a n cap] 23)).alloc (.cells #[.slice al m capl, .slice (some ⟨w1.heap.size, 0, none⟩) 1 1] 22)) := ((Below.refl _ w1).alloc (Nat.le_refl _) _).alloc (by simp) _
  have hBW := hb1'.trans (hbW.mono hB1)
  refine (light_is _ _ _ _ hP (unhide HLen)).mono ?_
  clear hP l1 l2
  rintro e w2 ⟨bl, rfl, rfl, hbl⟩
  clear hbW
  generalize ((w1.alloc (.cells #[.slice a n cap] 23)).alloc (.cells #[.slice al m capl, .slice (some ⟨w1.heap.size, 0, none⟩) 1 1] 22)) = w2 at *
  have H2 := hide hBW
  have HBl := hide hbl
  clear hBW hbl hb1 hb1' hB1
  cases bl with
  | false =>
    go_wp2
    go_ret
    exact ⟨rfl, by rw [unhide HBB]; exact unhide H2⟩
  | true =>
    have htot : tot ls + xs.length ≤ 1000 := by
      have := unhide HBl rfl
      simp [totl, tot_one] at this
      omega
    have hB2 : B ≤ w2.heap.size := Nat.le_trans hBw (by have := (unhide H2).size; omega)
    have HRef : Hid (∀ W, Below B w W → B ≤ W.heap.size → Calls Try.prog 12 #[.slice al m capl, .slice a n cap] W fun e w' => ∃ b, e = .returned (.bool b) ∧ (b = true ↔ Fol ls xs) ∧ Below B w w' ∧ B ≤ w'.heap.size ∧ Below W.heap.size W w') := fun W h1 h2 => by
      refine (ref_follows B _ _ ls xs W h2 (unhide HAll W h1).1 (unhide HAll W h1).2).mono ?_
      rintro e w' ⟨b, rfl, h3, h4⟩
      exact ⟨b, rfl, h3, h1.trans (h4.mono h2), Nat.le_trans h2 h4.size, h4⟩
    have HRup : Hid (∀ W b, (b = true ↔ Fol ls xs) → Below B w W → B ≤ W.heap.size → Calls Try.prog 13 #[.slice al m capl, .slice a n cap] W fun e w' => e = .returned (.bool b) ∧ Below B w w' ∧ B ≤ w'.heap.size ∧ Below W.heap.size W w') := fun W b hb h1 h2 => by
      refine (rFollows_any W _ _ ls xs ((unhide HAll W h1).1.mono h2) ((unhide HAll W h1).2.mono h2) (by omega)).mono ?_
      rintro e w' ⟨b', rfl, h3, h4⟩
      have := same_b h3 hb
      subst this
      exact ⟨rfl, h1.trans (h4.mono h2), Nat.le_trans h2 h4.size, h4⟩
    -- what is left, m being a slice of the same clauses
    have HLast : Hid (∀ (vm : Value) (ms : List (List Int)) (W : World), Sl2 W W.heap.size vm ms → (∀ d, d ∈ ms ↔ d ∈ ls) → tot ms ≤ 1000 → Below B w W → B ≤ W.heap.size → ∀ W', Below W.heap.size W W' → ∀ b, (b = true ↔ Fol ls xs) → Calls Try.prog 13 #[vm, .slice a n cap] W' fun e w' => e = .returned (.bool b) ∧ Below B w w') := fun vm ms W h1 h2 h3 h4 h5 W' h6 b hb => by
      have h7 : Below B w W' := h4.trans (h6.mono h5)
      have h8 : B ≤ W'.heap.size := Nat.le_trans h5 h6.size
      refine (rFollows_any W' _ _ ms xs ((h1.below h6).mono h6.size) ((unhide HAll W' h7).2.mono h8) (by omega)).mono ?_
      rintro e w' ⟨b', rfl, h9, h10⟩
      have := same_b (h9.trans (Fol.same h2)) hb
      subst this
      exact ⟨rfl, h7.trans (h10.mono h8)⟩
    by_cases h0 : m = 0
    · have hls : ls = [] := List.eq_nil_of_length_eq_zero ((unhide HM).trans h0)
      have HN := hide (unhide HLast (.slice none 0 0) [] w2 ⟨⟨none, 0, rfl, Nat.le_refl _, by omega, fun h => absurd rfl h⟩, fun j hj => absurd hj (Nat.not_lt_zero _)⟩ (fun d => by rw [hls]) (by simp [tot]) (unhide H2) hB2)
      subst h0
      have HB2 := hide hB2
      clear htot hls HLast HAll HCL hB2
      go_wp2_with (first
        | (go_at_call 12; refine (unhide HRef _ (unhide H2) (unhide HB2)).mono ?_; intro e w3 h3; obtain ⟨b, rfl, hb, h3⟩ := h3; have HB3 := hide hb; have H3 := hide h3; clear hb h3)
        | (go_at_call 13; refine (unhide HN w4 ((unhide H3).2.2.trans ((unhide H4).2.2.mono (unhide H3).2.2.size)) b (unhide HB3)).mono ?_; intro e w5 h5; obtain ⟨rfl, h5⟩ := h5; have H5 := hide h5; clear h5)
        | (go_at_call 13; refine (unhide HRup _ b (unhide HB3) (unhide H3).1 (unhide H3).2.1).mono ?_; intro e w4 h4; obtain ⟨rfl, h4⟩ := h4; have H4 := hide h4; clear h4))
      go_ret
      exact ⟨by simp, by rw [unhide HBB]; exact unhide H5⟩
    · obtain ⟨b0, off0, _, hal, _, _, _⟩ := unhide HCL 0 (by rw [unhide HM]; omega)
      subst hal
      have hmp : (0 : Int) < (m : Int) := by omega
      have hml : m ≤ 1000 := by
        have := tot_len ls
        have := unhide HM
        omega
      obtain ⟨k, hk⟩ : ∃ k : Nat, plc z m = k := ⟨(plc z m).toNat, by have := (plc_rng (k := z) hmp).1; omega⟩
      have hkm : k < m := by have := (plc_rng (k := z) hmp).2; omega
      have HPl := hide (place_any z m w2 hmp (by omega))
      rw [hk] at HPl
      obtain ⟨v1, w3, v2, w4, r1, r2, s4, b4⟩ := Sl2.turned (w := w2.drew) (B := B) (k := k) hB2 ((unhide HAll w2.drew (unhide H2).drew).1) (unhide HM) hkm (by omega)
      have hB4 : B ≤ w4.heap.size := Nat.le_trans hB2 b4.size
      have H4 := hide ((unhide H2).drew.trans (b4.mono hB2))
      have HN := hide (unhide HLast v2 _ w4 s4 turn_mem (by rw [tot_turn]; omega) (unhide H4) hB4)
      have HB4 := hide hB4
      have R1 := hide r1
      have R2 := hide r2
      have hc1 := unhide HCap
      have c1 : (k : Int) ≤ (m : Int) := by omega
      have c2 : (0 : Int) ≤ (k : Int) := by omega
      have c3 : (m : Int) ≤ (capl : Int) := by omega
      have c4 : (capl : Int) ≤ 9223372036854775807 := by omega
      have c5 : (k : Int) ≤ (capl : Int) := by omega
      have c6 : ¬ capl = k := by omega
      have c7 : ¬ k = capl := by omega
      have c8 : k ≤ m := by omega
      have c9 : m ≤ capl := by omega
      clear htot HLast HAll HCL hB2 hk s4 b4 hB4 r1 r2 hc1 hml HCap
      go_wp2_with (go_at_call 11; refine (unhide HPl).mono ?_; intro e w' h'; obtain ⟨rfl, rfl⟩ := h')
      refine wp_region_noPanic ?_
      go_region_held3 (fun _ => True) (trivial) (first
        | (refine step_run _ _ _ (by rfl) (by rfl) (by rfl) (by rfl) (unhide R1) ?_)
        | (refine step_run _ _ _ (by rfl) (by rfl) (by rfl) (by rfl) (unhide R2) ?_))
      refine NoPanic.normal ?_
      rename_i hHeld
      clear hHeld R1 R2 HPl
      go_wp2_with (first
        | (go_at_call 12; refine (unhide HRef _ (unhide H4) (unhide HB4)).mono ?_; intro e w5 h5; obtain ⟨b, rfl, hb, h5⟩ := h5; have HB5 := hide hb; have H5 := hide h5; clear hb h5)
        | (go_at_call 13; refine (unhide HN w6 ((unhide H5).2.2.trans ((unhide H6).2.2.mono (unhide H5).2.2.size)) b (unhide HB5)).mono ?_; intro e w7 h7; obtain ⟨rfl, h7⟩ := h7; have H7 := hide h7; clear h7)
        | (go_at_call 13; refine (unhide HRup _ b (unhide HB5) (unhide H5).1 (unhide H5).2.1).mono ?_; intro e w6 h6; obtain ⟨rfl, h6⟩ := h6; have H6 := hide h6; clear h6))
      go_ret
      exact ⟨by simp, by rw [unhide HBB]; exact unhide H7⟩
end Go.Proofs.Ytmkkhpoedlbafaa
