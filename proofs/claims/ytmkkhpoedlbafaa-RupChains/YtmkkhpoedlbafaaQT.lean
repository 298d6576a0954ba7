/- avowlaw7: light, and what it says. -/
import Derived.Test.YtmkkhpoedlbafaaQR
import Derived.Test.YtmkkhpoedlbafaaQS
set_option linter.unusedVariables false
set_option linter.unusedSimpArgs false

/- Package rup: Follows and Check. -/
namespace Go.Proofs.Ytmkkhpoedlbafaa
open Go Go.RowKit Go.Sort
set_option maxRecDepth 100000 in
set_option maxHeartbeats 16000000 in
theorem rFollows_any (w : World) (vl v : Value) (ls : List (List Int)) (xs : List Int) (hl : Sl2 w w.heap.size vl ls) (hv : Sl w w.heap.size v xs) (hT : tot ls + xs.length ≤ 100000000) :
    Calls Try.prog 13 #[vl, v] w (FPost ls xs w) := by
  have HN := hide (newChecker_any w vl ls hl (by omega))
  have HF : Hid (∀ (w1 : World) (r : Nat) (k : KS) (ρ : Nat → Nat × Nat) (q : Mv), Ck w w1 w.heap.size r ρ q k (trs (2 * k.pl.length) k.trail) ∧ Rep ls k ∧ Bs k ∧ k.pl.length + k.cs.length ≤ tot ls → Calls Try.prog 21 #[.pointer (some ⟨r, 0, none⟩), v] w1 (FPost ls xs w)) := by
    rintro w1 r k ρ q ⟨h1, h2, h3, h4⟩
    refine (follows_any w w1 w.heap.size r ρ q k v xs ls h1 h2 h3 hv (by omega) (by omega)).mono ?_
    rintro e w2 ⟨b, k', ρ', q', rfl, hb, hck, _⟩
    exact ⟨b, rfl, hb, hck.bl⟩
  obtain ⟨al, capl, rfl, _, _⟩ := hl.open
  obtain ⟨a, cap, rfl, _, _⟩ := hv.open
  clear hl hv hT
  go_enter Try.func13, Try.ntmps13
  go_wp2_with (first
    | (go_at_call 20; refine (unhide HN).mono ?_; intro e w1 h1; obtain ⟨r, k, ρ, q, rfl, h1⟩ := h1; have H1 := hide h1; clear h1)
    | (go_at_call 21; refine (unhide HF _ _ _ _ _ (unhide H1)).mono ?_; intro e w2 h2; obtain ⟨b, rfl, h2⟩ := h2; have H2 := hide h2; clear h2))
  go_ret
  exact ⟨b, rfl, unhide H2⟩
theorem tot_len : ∀ tr : List (List Int), tr.length ≤ tot tr
  | [] => Nat.zero_le _
  | c :: l => by
    have := tot_len l
    simp [tot] at this ⊢
    omega
/-- What Check answers. -/
def CkPost (w : World) (ls tr : List (List Int)) (e : Ending) (w' : World) : Prop := ∃ (m : Nat) (er : Int), e = .returned (.tuple #[.int .i64 m, .int .i64 er]) ∧ Taken ls tr m ∧ er = (if m < tr.length then 70 else if [] ∈ ls ++ tr then 0 else 70) ∧ Below w.heap.size w w'
/-- The first i clauses of a trace follow. -/
def Goes (ls tr : List (List Int)) (i : Nat) : Prop := ∀ j (h : j < tr.length), j < i → Fol (ls ++ tr.take j) tr[j]
theorem Goes.more {ls tr : List (List Int)} {i : Nat} (h : Goes ls tr i) {c : List Int} (hc : tr[i]? = some c) (hf : Fol (ls ++ tr.take i) c) : Goes ls tr (i + 1) := fun j hj hji => by
  by_cases e : j < i
  · exact h j hj e
  · have e2 : j = i := by omega
    subst e2
    have := (List.getElem?_eq_some_iff.1 hc).2
    rw [this]; exact hf
theorem Goes.taken {ls tr : List (List Int)} {i n : Nat} (h : Goes ls tr i) (hi : i ≤ tr.length) (ht : Taken (ls ++ tr.take i) (tr.drop i) n) : Taken ls tr (i + n) := by
  have hl : (tr.take i).length = i := by rw [List.length_take]; omega
  have := Taken.app (t := tr.take i) (l := ls) (u := tr.drop i) (n := n) (fun j hj => by
    have hj' : j < i := by omega
    have h1 := h j (by omega) hj'
    rw [List.take_take, Nat.min_eq_left (by omega), List.getElem_take]
    exact h1) ht
  rwa [List.take_append_drop, hl] at this
theorem Goes.stop {ls tr : List (List Int)} {i : Nat} {c : List Int} (h : Goes ls tr i) (hc : tr[i]? = some c) (hf : ¬ Fol (ls ++ tr.take i) c) : Taken ls tr i := by
  have hl := (List.getElem?_eq_some_iff.1 hc).1
  have := h.taken (n := 0) (by omega) (by
    have hd : tr.drop i = c :: tr.drop (i + 1) := by rw [List.drop_eq_getElem_cons hl, (List.getElem?_eq_some_iff.1 hc).2]
    rw [hd]
    exact .inl ⟨hf, rfl⟩)
  exact this
theorem Goes.all {ls tr : List (List Int)} (h : Goes ls tr tr.length) : Taken ls tr tr.length := by
  have := h.taken (n := 0) (Nat.le_refl _) (by rw [List.drop_length]; rfl)
  exact this
/-- In the midst of Check. -/
structure KR (w w' : World) (r : Nat) (ls tr : List (List Int)) (i : Nat) (k : KS) (ρ : Nat → Nat × Nat) (q : Mv) : Prop where
  ck : Ck w w' w.heap.size r ρ q k (trs (2 * k.pl.length) k.trail)
  rep : Rep (ls ++ tr.take i) k
  bs : Bs k
  len : k.pl.length + k.cs.length ≤ tot ls + 2 * tot (tr.take i)
  go : Goes ls tr i
set_option maxRecDepth 100000 in
set_option maxHeartbeats 16000000 in
theorem rCheck_any (w : World) (vl vt : Value) (ls tr : List (List Int)) (hl : Sl2 w w.heap.size vl ls) (ht : Sl2 w w.heap.size vt tr) (hT : tot ls + tot tr ≤ 10000000) :
    Calls Try.prog 14 #[vl, vt] w (CkPost w ls tr) := by
  have HNew : Hid (Calls Try.prog 20 #[vl] w fun e w1 => ∃ r k ρ q, e = .returned (.pointer (some ⟨r, 0, none⟩)) ∧ KR w w1 r ls tr 0 k ρ q) := (newChecker_any w vl ls hl (by omega)).mono (by
    rintro e w1 ⟨r, k, ρ, q, rfl, h1, h2, h3, h4⟩
    exact ⟨r, k, ρ, q, rfl, h1, by rw [List.take_zero, List.append_nil]; exact h2, h3, by simp [tot] at h4 ⊢; exact h4, fun j _ h => absurd h (Nat.not_lt_zero _)⟩)
  obtain ⟨al, capl, rfl, _, _⟩ := hl.open
  obtain ⟨a, cap, rfl, hmax, hcell⟩ := ht.open
  obtain ⟨n, hn⟩ : ∃ n, tr.length = n := ⟨_, rfl⟩
  have hnb : (n : Int) ≤ 100000000 := by
    have := tot_len tr
    omega
  have HN := hide hn
  have HC := hide hcell
  have HT := hide hT
  rw [hn] at hmax ⊢
  clear hl ht hn hcell hT
  go_enter Try.func14, Try.ntmps14
  go_wp2_with (go_at_call 20; refine (unhide HNew).mono ?_; intro e w1 h1; obtain ⟨r, k0, ρ0', q0, rfl, h1⟩ := h1; have H0 := hide h1; clear h1)
  go_loopw [13] (fun iv w' => ∃ (i : Nat) (k : KS) (ρ : Nat → Nat × Nat) (q : Mv), iv = .int .i64 i ∧ i ≤ n ∧ KR w w' r ls tr i k ρ q) (fun iv _ => n - (intOf iv).toNat)
  case atStart => exact ⟨0, _, _, _, rfl, Nat.zero_le _, unhide H0⟩
  case round =>
    obtain ⟨i, k, ρ, q, rfl, him, hr⟩ := hrel
    clear H0 HNew
    by_cases hi : i < n
    · have hil : i < tr.length := by rw [unhide HN]; exact hi
      obtain ⟨b, off, u, hab, hc, hb, hS⟩ := unhide HC i hil
      subst hab
      obtain ⟨c, hcl⟩ : ∃ c, tr[i]? = some c := ⟨_, List.getElem?_eq_getElem hil⟩
      have hce : tr[i] = c := (List.getElem?_eq_some_iff.1 hcl).2
      rw [hce] at hS
      have hc2 := (hr.ck.bl.cell (p := ⟨b, off + i, none⟩) hb).trans hc
      have htk := take_one' hcl
      have htt := tot_take tr (i + 1)
      rw [htk, tot_app, tot_one] at htt
      have hT := unhide HT
      have hlen := hr.len
      have HF : Hid (Calls Try.prog 21 #[.pointer (some ⟨r, 0, none⟩), u] _ fun e w2 => ∃ bb, e = .returned (.bool bb) ∧ (bb = false → CkPost w ls tr (.returned (.tuple #[.int .i64 i, .int .i64 70])) w2) ∧ (bb = true → Calls Try.prog 22 #[.pointer (some ⟨r, 0, none⟩), u] w2 fun e w3 => e = .returned (.tuple #[]) ∧ ∃ k' ρ' q', KR w w3 r ls tr (i + 1) k' ρ' q')) := (follows_any w _ w.heap.size r ρ q k u c (ls ++ tr.take i) hr.ck hr.rep hr.bs hS (by omega) (by omega)).mono (by
        rintro e w2 ⟨bb, k2, ρ2, q2, rfl, hbb, ck2, rep2, bs2, em2, pl2, cs2⟩
        refine ⟨bb, rfl, fun e => ?_, fun e => ?_⟩
        · have hnf : ¬ Fol (ls ++ tr.take i) c := fun h => by rw [hbb.2 h] at e; cases e
          exact ⟨i, 70, rfl, hr.go.stop hcl hnf, by rw [if_pos hil], ck2.bl⟩
        · have hf := hbb.1 e
          refine (add_any w w2 w.heap.size r ρ2 q2 k2 u c (ls ++ tr.take i) ck2 rep2 bs2 hS hf.1 (by omega) (by omega)).mono ?_
          rintro e w3 ⟨rfl, k', ρ', q', a1, a2, a3, a4, a5⟩
          exact ⟨rfl, k', ρ', q', a1, by rw [htk, ← List.append_assoc]; exact a2, a3, by rw [htk, tot_app, tot_one]; omega, hr.go.more hcl hf⟩)
      obtain ⟨au, capu, hu, _, _⟩ := hS.open
      have p1 : (0 : Int) ≤ (i : Int) := by omega
      have p2 : (i : Int) < (n : Int) := by omega
      subst hu
      clear hr hS hc hcl hce htk htt hT hlen hil
      go_wp2_with (go_at_call 21; refine (unhide HF).mono ?_; intro e w2 h2; obtain ⟨bb, rfl, h2, h3⟩ := h2; have H2 := hide h2; have H3 := hide h3; clear h2 h3; refine ?roundEnd)
      case roundEnd =>
        cases bb with
        | false =>
          have H4 := hide (unhide H2 rfl)
          clear H2 H3 HF
          go_wp2
          exact bodyPost_ret (res_two rfl rfl rfl) rfl (unhide H4)
        | true =>
          have H4 := hide (unhide H3 rfl)
          clear H2 H3 HF
          go_wp2_with (go_at_call 22; refine (unhide H4).mono ?_; intro e w3 h3; obtain ⟨rfl, k', ρ', q', h3⟩ := h3; have H5 := hide h3; clear h3)
          exact ⟨⟨i + 1, k', ρ', q', by simp, by omega, unhide H5⟩, by simp [intOf]; omega⟩
    · have hf : decide ((i : Int) < (n : Int)) = false := by simp; omega
      have hle : (n : Int) ≤ (i : Int) := by omega
      have hin : i = n := by omega
      have htk : tr.take i = tr := List.take_of_length_le (by rw [unhide HN]; omega)
      have d6 := hr.ck.cells.2.2.2.2.2.2.1
      have hemp := hr.rep.emp
      rw [htk] at hemp
      have hgo := hr.go
      rw [hin, ← unhide HN] at hgo
      have HE : Hid (∀ er : Int, er = (if [] ∈ ls ++ tr then 0 else 70) → CkPost w ls tr (.returned (.tuple #[.int .i64 n, .int .i64 er])) _) := fun er he => ⟨n, er, rfl, by have := hgo.all; rwa [unhide HN] at this, by rw [if_neg (by rw [unhide HN]; omega)]; exact he, hr.ck.bl⟩
      cases hke : k.empty with
      | true =>
        have H := hide (unhide HE 0 (by rw [if_pos (hemp.1 hke)]))
        rw [hke] at d6
        clear hr htk hemp hgo HE hke hin
        go_wp2
        exact bodyPost_ret (res_two rfl rfl rfl) rfl (unhide H)
      | false =>
        have H := hide (unhide HE 70 (by rw [if_neg (fun h => by have := hemp.2 h; rw [hke] at this; cases this)]))
        rw [hke] at d6
        clear hr htk hemp hgo HE hke hin
        go_wp2
        exact bodyPost_ret (res_two rfl rfl rfl) rfl (unhide H)
end Go.Proofs.Ytmkkhpoedlbafaa

/- avowlaw7: known, the chapter's example. -/
namespace Go.Proofs.Ytmkkhpoedlbafaa
open Go Go.RowKit Go.Sort
theorem grow_at (w : World) (os : Array Obj) (i : Nat) (h : i < os.size) : (grow w os).heap[w.heap.size + i]? = os[i]? := by
  unfold grow
  rw [Array.getElem?_append_right (by omega)]
  congr 1
  omega
theorem below_grow (w : World) (os : Array Obj) : Below w.heap.size w (grow w os) := ⟨rfl, rfl, rfl, by rw [size_grow]; omega, fun k hk => heap_grow_old w os hk⟩
/-- A slice of ints in a block of its own. -/
theorem Sl.at {W : World} {B g cap fr1 fr2 : Nat} {t : TypeId} {xs : List Int} (h : W.heap[g]? = some (.cells (xs.map (Value.int .i64)).toArray t (fr1, fr2))) (hg : g < B) (hc : xs.length ≤ cap) (hm : cap ≤ 9223372036854775807) (hx : ∀ x ∈ xs, -9223372036854775808 ≤ x ∧ x ≤ 9223372036854775807) : Sl W B (.slice (some ⟨g, 0, none⟩) xs.length cap) xs := by
  refine ⟨⟨some ⟨g, 0, none⟩, cap, rfl, hc, hm, fun _ => ⟨g, 0, rfl, hg⟩⟩, fun j hj => ⟨?_, hx _ (List.getElem_mem hj)⟩⟩
  simp [cv, adr, World.cell?, h, hj]
/-- A slice of slices of ints in a block of its own. -/
theorem Sl2.at {W : World} {B g cap fr1 fr2 : Nat} {t : TypeId} {vs : List Value} {ls : List (List Int)} (h : W.heap[g]? = some (.cells vs.toArray t (fr1, fr2))) (hg : g < B) (hl : vs.length = ls.length) (hc : ls.length ≤ cap) (hm : cap ≤ 9223372036854775807) (hx : ∀ (j : Nat) v l, vs[j]? = some v → ls[j]? = some l → Sl W B v l) : Sl2 W B (.slice (some ⟨g, 0, none⟩) ls.length cap) ls := by
  refine ⟨⟨some ⟨g, 0, none⟩, cap, rfl, hc, hm, fun _ => ⟨g, 0, rfl, hg⟩⟩, fun j hj => ?_⟩
  have hj' : j < vs.length := by omega
  have e : W.cell? ⟨g, 0 + j, none⟩ = some vs[j] := by simp [World.cell?, h, hj']
  refine ⟨by simp only [adr]; rw [e]; rfl, ?_⟩
  simp only [cv, adr]
  rw [e]
  exact hx j _ _ (List.getElem?_eq_getElem hj') (List.getElem?_eq_getElem hj)
theorem Sl.nil (W : World) (B : Nat) : Sl W B (.slice none 0 0) [] := ⟨⟨none, 0, rfl, Nat.le_refl _, by omega, fun h => absurd rfl h⟩, fun j hj => absurd hj (Nat.not_lt_zero _)⟩
/-- The example's clauses. -/
def ex : List (List Int) := [[1, 2], [1, -2], [-1, 2], [-1, -2]]
theorem lit12 : ∀ x : Int, x = 1 ∨ x = 2 ∨ x = -1 ∨ x = -2 → LitOk x := fun x h => by unfold LitOk; omega
theorem whole_ex {d : List Int} (h : d ∈ ex) : Whole d := fun x hx => by
  apply lit12
  simp only [ex, List.mem_cons, List.not_mem_nil, or_false] at h
  rcases h with rfl | rfl | rfl | rfl <;> simp at hx <;> omega
theorem ex_one : Fol ex [1] := by
  refine ⟨fun x hx => ?_, .inr ⟨[1, -2], by simp [ex], whole_ex (by simp [ex]), fun y hy => ?_⟩⟩
  · simp at hx; subst hx; exact lit12 1 (by omega)
  · have h1 : Up ex (opp [1]) (-1) := Up.base (by simp [opp])
    have h2 : Up ex (opp [1]) 2 := Up.unit (d := [1, 2]) (by simp [ex]) (whole_ex (by simp [ex])) (by simp) fun y hy hne => by
      simp at hy
      rcases hy with rfl | rfl
      · exact h1
      · exact absurd rfl hne
    simp at hy
    rcases hy with rfl | rfl
    · exact h1
    · exact h2
theorem ex_two : Fol (ex ++ [[1]]) [] := by
  have hm : ∀ d ∈ ex, d ∈ ex ++ [[1]] := fun d h => List.mem_append_left _ h
  have h1 : Up (ex ++ [[1]]) (opp []) 1 := Up.unit (d := [1]) (by simp) (fun x hx => by simp at hx; subst hx; exact lit12 1 (by omega)) (by simp) fun y hy hne => by
    simp at hy; exact absurd hy hne
  have h2 : Up (ex ++ [[1]]) (opp []) 2 := Up.unit (d := [-1, 2]) (hm _ (by simp [ex])) (whole_ex (by simp [ex])) (by simp) fun y hy hne => by
    simp at hy
    rcases hy with rfl | rfl
    · exact h1
    · exact absurd rfl hne
  refine ⟨fun x hx => (by cases hx), .inr ⟨[-1, -2], hm _ (by simp [ex]), whole_ex (by simp [ex]), fun y hy => ?_⟩⟩
  simp at hy
  rcases hy with rfl | rfl
  · exact h1
  · exact h2
theorem ex_no : ¬ Fol ex [] := by
  rintro ⟨_, ⟨x, hx, _⟩ | ⟨d, hd, _, hy⟩⟩
  · cases hx
  · have key : ∀ x, Up ex (opp []) x → False := fun x h => h (fun _ => False) (fun x hx => by simp [opp] at hx) fun d hd _ x hx hall => by
      simp only [ex, List.mem_cons, List.not_mem_nil, or_false] at hd
      rcases hd with rfl | rfl | rfl | rfl
      · by_cases e : x = 1
        · exact hall 2 (by simp) (by omega)
        · exact hall 1 (by simp) (Ne.symm e)
      · by_cases e : x = 1
        · exact hall (-2) (by simp) (by omega)
        · exact hall 1 (by simp) (Ne.symm e)
      · by_cases e : x = -1
        · exact hall 2 (by simp) (by omega)
        · exact hall (-1) (by simp) (Ne.symm e)
      · by_cases e : x = -1
        · exact hall (-2) (by simp) (by omega)
        · exact hall (-1) (by simp) (Ne.symm e)
    simp only [ex, List.mem_cons, List.not_mem_nil, or_false] at hd
    rcases hd with rfl | rfl | rfl | rfl
    · exact key _ (hy 1 (by simp))
    · exact key _ (hy 1 (by simp))
    · exact key _ (hy (-1) (by simp))
    · exact key _ (hy (-1) (by simp))
theorem taken_two : Taken ex [[1], []] 2 := .inr ⟨ex_one, 1, rfl, .inr ⟨ex_two, 0, rfl, rfl⟩⟩
theorem taken_no : Taken ex [[]] 0 := .inl ⟨ex_no, rfl⟩
theorem rng1 : ∀ x ∈ ([1] : List Int), -9223372036854775808 ≤ x ∧ x ≤ 9223372036854775807 := fun x hx => by simp at hx; omega
theorem rng2 {a b : Int} (ha : -2 ≤ a ∧ a ≤ 2) (hb : -2 ≤ b ∧ b ≤ 2) : ∀ x ∈ [a, b], -9223372036854775808 ≤ x ∧ x ≤ 9223372036854775807 := fun x hx => by
  simp at hx
  rcases hx with rfl | rfl <;> omega
set_option maxRecDepth 100000 in
set_option maxHeartbeats 16000000 in
theorem known_any (w : World) : Calls Try.prog 9 #[] w fun e w' => e = .returned (.bool true) ∧ Below w.heap.size w w' := by
  obtain ⟨s, hs⟩ : ∃ s, w.heap.size = s := ⟨_, rfl⟩
  let os : Array Obj := #[.cells #[.int .i64 1, .int .i64 2] 3, .cells #[.int .i64 1, .int .i64 (-2)] 3, .cells #[.int .i64 (-1), .int .i64 2] 3, .cells #[.int .i64 (-1), .int .i64 (-2)] 3,
    .cells #[.slice (some ⟨s, 0, none⟩) 2 2, .slice (some ⟨s + 1, 0, none⟩) 2 2, .slice (some ⟨s + 1 + 1, 0, none⟩) 2 2, .slice (some ⟨s + 1 + 1 + 1, 0, none⟩) 2 2] 23]
  have hW : ((((w.alloc (.cells #[.int .i64 1, .int .i64 2] 3)).alloc (.cells #[.int .i64 1, .int .i64 (-2)] 3)).alloc (.cells #[.int .i64 (-1), .int .i64 2] 3)).alloc (.cells #[.int .i64 (-1), .int .i64 (-2)] 3)).alloc (.cells #[.slice (some ⟨s, 0, none⟩) 2 2, .slice (some ⟨s + 1, 0, none⟩) 2 2, .slice (some ⟨s + 1 + 1, 0, none⟩) 2 2, .slice (some ⟨s + 1 + 1 + 1, 0, none⟩) 2 2] 23) = grow w os := by
    simp only [alloc_eq_grow, grow_grow]
    rfl
  have hsz : (grow w os).heap.size = s + 5 := by rw [size_grow, hs]; rfl
  have hL : Sl2 (grow w os) (s + 5) (.slice (some ⟨s + 1 + 1 + 1 + 1, 0, none⟩) 4 4) ex := by
    have g := fun i hi => grow_at w os i hi
    rw [hs] at g
    refine Sl2.at (g := s + 1 + 1 + 1 + 1) (cap := 4) (ls := ex) (vs := [.slice (some ⟨s, 0, none⟩) 2 2, .slice (some ⟨s + 1, 0, none⟩) 2 2, .slice (some ⟨s + 1 + 1, 0, none⟩) 2 2, .slice (some ⟨s + 1 + 1 + 1, 0, none⟩) 2 2]) (g 4 (by simp [os])) (by omega) rfl (Nat.le_refl _) (by decide) ?_
    intro j v l h1 h2
    have hj : j = 0 ∨ j = 1 ∨ j = 2 ∨ j = 3 := by
      have := (List.getElem?_eq_some_iff.1 h1).1
      simp at this; omega
    rcases hj with rfl | rfl | rfl | rfl <;> simp [ex] at h1 h2 <;> subst h1 h2
    · exact Sl.at (xs := [1, 2]) (g 0 (by simp [os])) (by omega) (Nat.le_refl _) (by decide) (rng2 (by omega) (by omega))
    · exact Sl.at (xs := [1, -2]) (g 1 (by simp [os])) (by omega) (Nat.le_refl _) (by decide) (rng2 (by omega) (by omega))
    · exact Sl.at (xs := [-1, 2]) (g 2 (by simp [os])) (by omega) (Nat.le_refl _) (by decide) (rng2 (by omega) (by omega))
    · exact Sl.at (xs := [-1, -2]) (g 3 (by simp [os])) (by omega) (Nat.le_refl _) (by decide) (rng2 (by omega) (by omega))
  have hB0 : Below s w (grow w os) := by rw [← hs]; exact below_grow w os
  generalize grow w os = W0 at hW hsz hL hB0
  have HLs : Hid (∀ W, Below (s + 5) W0 W → Sl2 W W.heap.size (.slice (some ⟨s + 1 + 1 + 1 + 1, 0, none⟩) 4 4) ex ∧ Below s w W) := fun W h => ⟨(hL.below h).mono (by have := h.size; omega), hB0.trans (h.mono (by omega))⟩
  have HC1 : Hid (Calls Try.prog 14 #[.slice (some ⟨s + 1 + 1 + 1 + 1, 0, none⟩) 4 4, .slice (some ⟨s + 1 + 1 + 1 + 1 + 1 + 1 + 1, 0, none⟩) 2 2] (((W0.alloc (.cells #[.int .i64 1] 3)).alloc (.cells #[] 3)).alloc (.cells #[.slice (some ⟨s + 1 + 1 + 1 + 1 + 1, 0, none⟩) 1 1, .slice (some ⟨s + 1 + 1 + 1 + 1 + 1 + 1, 0, none⟩) 0 0] 23)) fun e w' => e = .returned (.tuple #[.int .i64 2, .int .i64 0]) ∧ Below (s + 5) W0 w') := by
    have e : ((W0.alloc (.cells #[.int .i64 1] 3)).alloc (.cells #[] 3)).alloc (.cells #[.slice (some ⟨s + 1 + 1 + 1 + 1 + 1, 0, none⟩) 1 1, .slice (some ⟨s + 1 + 1 + 1 + 1 + 1 + 1, 0, none⟩) 0 0] 23) = grow W0 #[.cells #[.int .i64 1] 3, .cells #[] 3, .cells #[.slice (some ⟨s + 1 + 1 + 1 + 1 + 1, 0, none⟩) 1 1, .slice (some ⟨s + 1 + 1 + 1 + 1 + 1 + 1, 0, none⟩) 0 0] 23] := by
      simp only [alloc_eq_grow, grow_grow]
      rfl
    rw [e]
    have g := fun i hi => grow_at W0 #[.cells #[.int .i64 1] 3, .cells #[] 3, .cells #[.slice (some ⟨s + 1 + 1 + 1 + 1 + 1, 0, none⟩) 1 1, .slice (some ⟨s + 1 + 1 + 1 + 1 + 1 + 1, 0, none⟩) 0 0] 23] i hi
    have hb := below_grow W0 #[.cells #[.int .i64 1] 3, .cells #[] 3, .cells #[.slice (some ⟨s + 1 + 1 + 1 + 1 + 1, 0, none⟩) 1 1, .slice (some ⟨s + 1 + 1 + 1 + 1 + 1 + 1, 0, none⟩) 0 0] 23]
    have hz := size_grow W0 #[.cells #[.int .i64 1] 3, .cells #[] 3, .cells #[.slice (some ⟨s + 1 + 1 + 1 + 1 + 1, 0, none⟩) 1 1, .slice (some ⟨s + 1 + 1 + 1 + 1 + 1 + 1, 0, none⟩) 0 0] 23]
    rw [hsz] at g hb hz
    generalize grow W0 #[.cells #[.int .i64 1] 3, .cells #[] 3, .cells #[.slice (some ⟨s + 1 + 1 + 1 + 1 + 1, 0, none⟩) 1 1, .slice (some ⟨s + 1 + 1 + 1 + 1 + 1 + 1, 0, none⟩) 0 0] 23] = W1 at g hb hz
    have hz' : W1.heap.size = s + 8 := hz
    have ht : Sl2 W1 W1.heap.size (.slice (some ⟨s + 1 + 1 + 1 + 1 + 1 + 1 + 1, 0, none⟩) 2 2) [[1], []] := by
      refine Sl2.at (g := s + 1 + 1 + 1 + 1 + 1 + 1 + 1) (cap := 2) (ls := [[1], []]) (vs := [.slice (some ⟨s + 1 + 1 + 1 + 1 + 1, 0, none⟩) 1 1, .slice (some ⟨s + 1 + 1 + 1 + 1 + 1 + 1, 0, none⟩) 0 0]) (g 2 (by simp)) (by omega) rfl (Nat.le_refl _) (by decide) ?_
      intro j v l h1 h2
      have hj : j = 0 ∨ j = 1 := by
        have := (List.getElem?_eq_some_iff.1 h1).1
        simp at this; omega
      rcases hj with rfl | rfl <;> simp at h1 h2 <;> subst h1 h2
      · exact Sl.at (xs := [1]) (g 0 (by simp)) (by omega) (Nat.le_refl _) (by decide) rng1
      · exact Sl.at (xs := []) (g 1 (by simp)) (by omega) (Nat.le_refl _) (by decide) (fun x hx => by cases hx)
    refine (rCheck_any W1 _ _ ex [[1], []] (unhide HLs W1 hb).1 ht (by decide)).mono ?_
    rintro e w' ⟨m, er, rfl, h1, h2, h3⟩
    have hm := Taken.one h1 taken_two
    subst hm
    have he : er = 0 := by rw [h2]; rfl
    subst he
    exact ⟨rfl, hb.trans (h3.mono (by omega))⟩
  have HC2 : Hid (∀ W, Below (s + 5) W0 W → Calls Try.prog 14 #[.slice (some ⟨s + 1 + 1 + 1 + 1, 0, none⟩) 4 4, .slice (some ⟨W.heap.size + 1, 0, none⟩) 1 1] ((W.alloc (.cells #[] 3)).alloc (.cells #[.slice (some ⟨W.heap.size, 0, none⟩) 0 0] 23)) fun e w' => e = .returned (.tuple #[.int .i64 0, .int .i64 70]) ∧ Below (s + 5) W0 w') := by
    intro W hWb
    have e : (W.alloc (.cells #[] 3)).alloc (.cells #[.slice (some ⟨W.heap.size, 0, none⟩) 0 0] 23) = grow W #[.cells #[] 3, .cells #[.slice (some ⟨W.heap.size, 0, none⟩) 0 0] 23] := by
      simp only [alloc_eq_grow, grow_grow]
      rfl
    rw [e]
    have g := fun i hi => grow_at W #[.cells #[] 3, .cells #[.slice (some ⟨W.heap.size, 0, none⟩) 0 0] 23] i hi
    have hb := below_grow W #[.cells #[] 3, .cells #[.slice (some ⟨W.heap.size, 0, none⟩) 0 0] 23]
    have hz : (grow W #[.cells #[] 3, .cells #[.slice (some ⟨W.heap.size, 0, none⟩) 0 0] 23]).heap.size = W.heap.size + 2 := size_grow W _
    generalize grow W #[.cells #[] 3, .cells #[.slice (some ⟨W.heap.size, 0, none⟩) 0 0] 23] = W1 at g hb hz
    have hb1 : Below (s + 5) W0 W1 := hWb.trans (hb.mono (by have := hWb.size; omega))
    have ht : Sl2 W1 W1.heap.size (.slice (some ⟨W.heap.size + 1, 0, none⟩) 1 1) [[]] := by
      refine Sl2.at (g := W.heap.size + 1) (cap := 1) (ls := [[]]) (vs := [.slice (some ⟨W.heap.size, 0, none⟩) 0 0]) (g 1 (by simp)) (by omega) rfl (Nat.le_refl _) (by decide) ?_
      intro j v l h1 h2
      have hj : j = 0 := by
        have := (List.getElem?_eq_some_iff.1 h1).1
        simp at this; omega
      subst hj
      simp at h1 h2
      subst h1 h2
      exact Sl.at (xs := []) (g 0 (by simp)) (by omega) (Nat.le_refl _) (by decide) (fun x hx => by cases hx)
    refine (rCheck_any W1 _ _ ex [[]] (unhide HLs W1 hb1).1 ht (by decide)).mono ?_
    rintro e w' ⟨m, er, rfl, h1, h2, h3⟩
    have hm := Taken.one h1 taken_no
    subst hm
    have he : er = 70 := by rw [h2]; rfl
    subst he
    exact ⟨rfl, hb1.trans (h3.mono (by have := hWb.size; omega))⟩
  have HF1 : Hid (∀ W, Below (s + 5) W0 W → Calls Try.prog 13 #[.slice (some ⟨s + 1 + 1 + 1 + 1, 0, none⟩) 4 4, .slice (some ⟨W.heap.size, 0, none⟩) 1 1] (W.alloc (.cells #[.int .i64 1] 3)) fun e w' => e = .returned (.bool true) ∧ Below (s + 5) W0 w') := by
    intro W hWb
    have hz : (W.alloc (.cells #[.int .i64 1] 3)).heap.size = W.heap.size + 1 := World.size_alloc W _
    have hb : Below (s + 5) W0 (W.alloc (.cells #[.int .i64 1] 3)) := hWb.alloc (by have := hWb.size; omega) _
    have hv : Sl (W.alloc (.cells #[.int .i64 1] 3)) (W.alloc (.cells #[.int .i64 1] 3)).heap.size (.slice (some ⟨W.heap.size, 0, none⟩) 1 1) [1] := Sl.at (xs := [1]) (heap_alloc_new W _) (by omega) (Nat.le_refl _) (by decide) rng1
    refine (rFollows_any _ _ _ ex [1] (unhide HLs _ hb).1 hv (by decide)).mono ?_
    rintro e w' ⟨b, rfl, h1, h2⟩
    have : b = true := h1.2 ex_one
    subst this
    exact ⟨rfl, hb.trans (h2.mono (by have := hWb.size; omega))⟩
  have HF2 : Hid (∀ W, Below (s + 5) W0 W → Calls Try.prog 13 #[.slice (some ⟨s + 1 + 1 + 1 + 1, 0, none⟩) 4 4, .slice none 0 0] W fun e w' => e = .returned (.bool false) ∧ Below s w w') := by
    intro W hWb
    refine (rFollows_any W _ _ ex [] (unhide HLs W hWb).1 (Sl.nil _ _) (by decide)).mono ?_
    rintro e w' ⟨b, rfl, h1, h2⟩
    have : b = false := by
      cases b with
      | false => rfl
      | true => exact absurd (h1.1 rfl) ex_no
    subst this
    exact ⟨rfl, (unhide HLs W hWb).2.trans (h2.mono (by have := hWb.size; omega))⟩
  have HW := hide hW
  rw [hs]
  clear hsz hL hB0 hW os
  go_enter Try.func9, Try.ntmps9
  go_wp2_with (first
    | (go_at_call 14; first
        | (refine (unhide HC2 w1 (unhide H1)).mono ?_; intro e w2 h2; obtain ⟨rfl, h2⟩ := h2; have H2 := hide h2; clear h2)
        | ((try rw [hs]); rw [unhide HW]; refine (unhide HC1).mono ?_; intro e w1 h1; obtain ⟨rfl, h1⟩ := h1; have H1 := hide h1; clear h1))
    | (go_at_call 13; first
        | (refine (unhide HF2 w3 (unhide H3)).mono ?_; intro e w4 h4; obtain ⟨rfl, h4⟩ := h4; have H4 := hide h4; clear h4)
        | (refine (unhide HF1 w2 (unhide H2)).mono ?_; intro e w3 h3; obtain ⟨rfl, h3⟩ := h3; have H3 := hide h3; clear h3)))
  go_ret
  exact ⟨rfl, unhide H4⟩
end Go.Proofs.Ytmkkhpoedlbafaa

namespace Go.Proofs.Ytmkkhpoedlbafaa
open Go Go.RowKit Go.Sort
/-- So much in all. -/
def totl (lls : List (List (List Int))) : Nat := (lls.map tot).sum
theorem totl_take {lls : List (List (List Int))} {i : Nat} {ls : List (List Int)} (h : lls[i]? = some ls) : totl (lls.take (i + 1)) = totl (lls.take i) + tot ls := by
  rw [List.take_add_one, h]
  simp [totl, List.sum_append]
theorem tot_step {ls : List (List Int)} {k : Nat} {c : List Int} (h : ls[k]? = some c) : tot (ls.take (k + 1)) = tot (ls.take k) + c.length + 1 := by
  rw [take_one' h, tot_app, tot_one]; omega
def LP (lls : List (List (List Int))) (w : World) (e : Ending) (w' : World) : Prop := ∃ b, e = .returned (.bool b) ∧ w' = w ∧ (b = true → totl lls ≤ 1000)
/-- What is counted so far. -/
structure Cnt (z : Int) (t : Nat) : Prop where
  lo : 0 ≤ z
  hi : z ≤ 17592186046000
  eq : z ≤ 1000 → (t : Int) = z
set_option maxRecDepth 100000 in
set_option maxHeartbeats 16000000 in
theorem light_is (B : Nat) (v : Value) (lls : List (List (List Int))) (w : World) (h : Sl3 w B v lls) (hlen : ∀ ls ∈ lls, ∀ xs ∈ ls, xs.length ≤ 17592186044416) :
    Calls Try.prog 10 #[v] w (LP lls w) := by
  obtain ⟨a, cap, rfl, hmax, hcell⟩ := h
  obtain ⟨n, hn⟩ : ∃ n, lls.length = n := ⟨_, rfl⟩
  rw [hn] at hmax ⊢
  have HN := hide hn
  have HC := hide hcell
  have HL := hide hlen
  clear hn hcell hlen
  go_enter Try.func10, Try.ntmps10
  go_wp2
  go_loop [3, 4] (fun zv iv => ∃ (z : Int) (i : Nat), zv = .int .i64 z ∧ iv = .int .i64 i ∧ i ≤ n ∧ Hid (Cnt z (totl (lls.take i)))) (fun _ iv => n - (intOf iv).toNat)
  case atStart => exact ⟨0, 0, rfl, rfl, Nat.zero_le _, ⟨by omega, by omega, fun _ => by simp [totl]⟩⟩
  case round =>
    obtain ⟨z, i, rfl, rfl, hi0, hz0⟩ := hrel
    by_cases hi : i < n
    · have hil : i < lls.length := by rw [unhide HN]; exact hi
      obtain ⟨b, off, u, rfl, hc, hu⟩ := unhide HC i hil
      obtain ⟨ls, hls⟩ : ∃ ls, lls[i]? = some ls := ⟨_, List.getElem?_eq_getElem hil⟩
      have hle : lls[i] = ls := (List.getElem?_eq_some_iff.1 hls).2
      rw [hle] at hu
      obtain ⟨au, capu, rfl, hmaxu, hcellu⟩ := hu.open
      obtain ⟨m, hm⟩ : ∃ m, ls.length = m := ⟨_, rfl⟩
      rw [hm] at hmaxu hc
      have HM := hide hm
      have HCu := hide hcellu
      have HLS := hide hls
      clear hm hcellu hu hls hle hil
      go_wp2
      go_loop [3, 5] (fun zv kv => ∃ (z : Int) (k : Nat), zv = .int .i64 z ∧ kv = .int .i64 k ∧ k ≤ m ∧ Hid (Cnt z (totl (lls.take i) + tot (ls.take k)))) (fun _ kv => m - (intOf kv).toNat)
      case atStart => exact ⟨z, 0, rfl, rfl, Nat.zero_le _, by simpa [tot] using hz0⟩
      case round =>
        clear hz0
        obtain ⟨z, k, rfl, rfl, hk0, hz0⟩ := hrel
        by_cases hk : k < m
        · have hkl : k < ls.length := by rw [unhide HM]; exact hk
          cases hz : decide (z ≤ 1000) with
          | true =>
            obtain ⟨bu, offu, y, rfl, hcu, _, hy⟩ := unhide HCu k hkl
            obtain ⟨c, hcl⟩ : ∃ c, ls[k]? = some c := ⟨_, List.getElem?_eq_getElem hkl⟩
            have hce : ls[k] = c := (List.getElem?_eq_some_iff.1 hcl).2
            rw [hce] at hy
            obtain ⟨ay, capy, rfl, hmaxy, _⟩ := hy.open
            have hzz : z ≤ 1000 := of_decide_eq_true hz
            have hlo := (unhide hz0).lo
            have hcb : c.length ≤ 17592186044416 := unhide HL ls (List.mem_of_getElem? (unhide HLS)) c (List.mem_of_getElem? hcl)
            obtain ⟨q, hq⟩ : ∃ q, c.length = q := ⟨_, rfl⟩
            rw [hq] at hcb hmaxy hcu
            have HE : Hid (Cnt (z + 1 + q) (totl (lls.take i) + tot (ls.take (k + 1)))) := ⟨by omega, by omega, fun h => by
              have := (unhide hz0).eq hzz
              rw [tot_step hcl, hq]
              omega⟩
            have w1 : IntKind.i64.wrap (z + 1) = z + 1 := by rw [IntKind.wrap_i64]; omega
            have w2 : IntKind.i64.wrap (z + 1 + (q : Int)) = z + 1 + (q : Int) := by rw [IntKind.wrap_i64]; omega
            clear hy hcl hce hkl hz0 hcb hq hzz hlo
            go_wp2
            exact ⟨⟨_, k + 1, rfl, by simp, by omega, HE⟩, by simp [intOf]; omega⟩
          | false =>
            have hzz : ¬ z ≤ 1000 := of_decide_eq_false hz
            have HE : Hid (Cnt z (totl (lls.take (i + 1)))) := ⟨(unhide hz0).lo, (unhide hz0).hi, fun h => absurd h hzz⟩
            clear hkl hz0
            go_wp2
            exact ⟨⟨z, i + 1, rfl, by simp, by omega, HE⟩, by simp [intOf]; omega⟩
        · have HE : Hid (Cnt z (totl (lls.take (i + 1)))) := by
            have h1 := unhide hz0
            rw [List.take_of_length_le (show ls.length ≤ k by rw [unhide HM]; omega)] at h1
            rw [totl_take (unhide HLS)]
            exact h1
          clear hz0
          go_wp2
          exact ⟨⟨z, i + 1, rfl, by simp, by omega, HE⟩, by simp [intOf]; omega⟩
    · have HE : Hid (decide (z ≤ 1000) = true → totl lls ≤ 1000) := fun h => by
        have h1 := (unhide hz0).eq (of_decide_eq_true h)
        rw [List.take_of_length_le (show lls.length ≤ i by rw [unhide HN]; omega)] at h1
        have := of_decide_eq_true h
        omega
      clear hz0
      go_wp2
      go_ret
      exact ⟨_, rfl, rfl, unhide HE⟩
end Go.Proofs.Ytmkkhpoedlbafaa
