/- Package rup: literals, up to its slice of literals. -/
import Derived.Test.YtmkkhpoedlbafaaQK
set_option linter.unusedVariables false
set_option linter.unusedSimpArgs false

/- Package rup: a checker that has only grown. -/
namespace Go.Proofs.Ytmkkhpoedlbafaa
open Go Go.RowKit
/-- k' is k with at most c more places. -/
structure Gr (k k' : KS) (c : Nat) : Prop where
  cs : k'.cs = k.cs
  tr : k'.trail = k.trail
  hd : k'.head = k.head
  em : k'.empty = k.empty
  re : k'.refuted = k.refuted
  pl : ∃ p, k'.pl = k.pl ++ p ∧ p.length ≤ c
  st : ∀ L M S0 n, Str L M S0 n k.pl k.cs k.ws k.trail → Str L M S0 n k'.pl k'.cs k'.ws k'.trail
  bs : Bs k'
theorem Gr.refl {k : KS} (h : Bs k) : Gr k k 0 := ⟨rfl, rfl, rfl, rfl, rfl, ⟨[], by simp, Nat.le_refl _⟩, fun _ _ _ _ h => h, h⟩
theorem Gr.step {k k1 k2 : KS} {c : Nat} (h : Gr k k1 c) (hk : k2 = k1 ∨ ∃ a, 0 < a ∧ a ≤ 9223372036854775807 ∧ a ∉ k1.pl ∧ k2 = k1.grow a) : Gr k k2 (c + 1) := by
  obtain ⟨p, hp, hl⟩ := h.pl
  rcases hk with rfl | ⟨a, h0, h1, hn, rfl⟩
  · exact ⟨h.cs, h.tr, h.hd, h.em, h.re, ⟨p, hp, by omega⟩, h.st, h.bs⟩
  · refine ⟨h.cs, h.tr, h.hd, h.em, h.re, ⟨p ++ [a], by show k1.pl ++ [a] = _; rw [hp, List.append_assoc], by simp; omega⟩, fun L M S0 n hs => ?_, h.bs.grow h0 h1 hn⟩
    have := h.st L M S0 n hs
    exact this.grow (this.ppl.push h0 h1 hn)
theorem Gr.len {k k' : KS} {c : Nat} (h : Gr k k' c) : k'.pl.length ≤ k.pl.length + c := by
  obtain ⟨p, hp, hl⟩ := h.pl
  rw [hp, List.length_append]; omega
/-- Between two clauses: what a checker that has only grown stands for. -/
theorem Gr.rep {k k' : KS} {c : Nat} {L : List (List Int)} (h : Gr k k' c) (hR : Rep L k) : Rep L k' := by
  refine ⟨fun e => hR.yes (by rw [← h.re]; exact e), fun e => ?_, by rw [h.em]; exact hR.emp⟩
  obtain ⟨s0, s1, s2⟩ := hR.no (by rw [← h.re]; exact e)
  have s3 := h.st L L no0 k.trail.length s0
  refine ⟨by rw [h.tr]; rw [h.tr] at s3; exact s3, fun i d hd => ?_, by rw [h.hd, h.tr]; exact s2⟩
  rw [h.tr]
  exact s1 i d (by rw [← h.cs]; exact hd)
/-- Literals of numbers keep their numbers. -/
theorem lits_more {pl p : List Int} {ys : List Nat} {zs : List Int} (h : ys.map (num pl) = zs) (hl : ∀ y ∈ ys, y < 2 * pl.length) : ys.map (num (pl ++ p)) = zs := by
  rw [← h]
  apply List.map_congr_left
  intro y hy
  exact num_app (hl y hy)
end Go.Proofs.Ytmkkhpoedlbafaa

/- Package rup: a slice of one's own beside the checker. -/
namespace Go.Proofs.Ytmkkhpoedlbafaa
open Go Go.RowKit
section
variable {w0 w : World} {B r : Nat} {ρ : Nat → Nat × Nat} {q : Mv} {k : KS} {tr : List Int}
/-- Memory that grows, its new block g marked. -/
theorem Ck.mark {w1 : World} {g : Nat} (h : Ck w0 w B r ρ q k tr) (hg : w.grownBy w1 none) (hn : w.heap.size ≤ g) : Ck w0 w1 B r (upd ρ g (9, 9)) q k tr := by
  have hs : ∀ g', g' < w.heap.size → ¬ False → w1.heap[g']? = w.heap[g']? ∧ upd ρ g (9, 9) g' = ρ g' := fun g' h1 _ => ⟨hg.block g' h1 (by simp), upd_other (by omega)⟩
  have c := @Rw.carry w w1 B ρ (upd ρ g (9, 9)) (fun _ => False) hs
  have hr := hs r h.lt id
  have hm := hs q.m h.mp.lt id
  exact ⟨hr.1.trans h.blk, h.rB, hr.2.trans h.rr, h.mp.step hm.1, h.mB, hm.2.trans h.mr, c h.rc id, h.ll, fun i v d h1 h2 => c (h.rl i v d h1 h2) id, c h.rw_ id, fun x v l h1 h2 => c (h.rx x v l h1 h2) id, c h.rt id, c h.rT id, h.bl.grown hg h.size (fun _ e => by cases e)⟩
/-- A change of a block that bears the mark (9, 9). -/
theorem Ck.other {w1 : World} {g : Nat} (h : Ck w0 w B r ρ q k tr) (hp : PutAt g w w1) (hg : ρ g = (9, 9)) (hB : B ≤ g) : Ck w0 w1 B r ρ q k tr := by
  have hs : ∀ g', g' < w.heap.size → ¬ (ρ g' = (9, 9)) → w1.heap[g']? = w.heap[g']? ∧ ρ g' = ρ g' := fun g' _ h2 => ⟨hp.block g' fun e => h2 (by rw [e]; exact hg), rfl⟩
  have c := @Rw.carry w w1 B ρ ρ (fun x => x = (9, 9)) hs
  have hr := hs r h.lt (by rw [h.rr]; simp)
  have hm := hs q.m h.mp.lt (by rw [h.mr]; simp)
  exact ⟨hr.1.trans h.blk, h.rB, h.rr, h.mp.step hm.1, h.mB, h.mr, c h.rc (by simp), h.ll, fun i v d h1 h2 => c (h.rl i v d h1 h2) (by simp), c h.rw_ (by simp), fun x v l h1 h2 => c (h.rx x v l h1 h2) (by simp), c h.rt (by simp), c h.rT (by simp), hp.below h.bl hB⟩
end
theorem put_cell (w : World) (g j : Nat) (u : Value) : PutAt g w (w.setCell ⟨g, j, none⟩ u) := ⟨rfl, rfl, rfl, by simp, fun k hk => Below.heap_setCell w _ u k hk⟩
/-- A row whose block stays. -/
theorem owns_stay {w w2 : World} {B : Nat} {e : TypeId} {size n g cap : Nat} {xs : List Value} (h : w.ownsRow B e size (.slice (some ⟨g, 0, none⟩) n cap) n xs) (hs : w2.heap[g]? = w.heap[g]?) : w2.ownsRow B e size (.slice (some ⟨g, 0, none⟩) n cap) n xs := by
  obtain ⟨h0, h1⟩ := h
  rcases h1 with ⟨h', _⟩ | ⟨g', cap', cur, h', hb, hg, h5⟩
  · simp at h'
  · simp only [Value.slice.injEq, Option.some.injEq, Addr.mk.injEq, and_true, true_and] at h'
    obtain ⟨rfl, rfl⟩ := h'
    exact ⟨h0, .inr ⟨g, cap, cur, rfl, hb, hs.trans hg, h5⟩⟩
end Go.Proofs.Ytmkkhpoedlbafaa

/- Package rup: literals, its first loop. -/
namespace Go.Proofs.Ytmkkhpoedlbafaa
open Go Go.RowKit
def lAll (f : Func) : Code := (f.body).getD .skip
def lTail (f : Func) : Code := cR (cR (cR (lAll f)))
/-- The first i literals are laid. -/
structure LF (w0 w : World) (B r : Nat) (k : KS) (xs : List Int) (g m i : Nat) (k' : KS) (ρ' : Nat → Nat × Nat) (q' : Mv) (ys : List Nat) : Prop where
  ck : Ck w0 w B r ρ' q' k' (trs (2 * k'.pl.length) k'.trail)
  gr : Gr k k' i
  mr : ρ' g = (9, 9)
  row : w.ownsRow B 3 1 (.slice (some ⟨g, 0, none⟩) m m) m (ys.map nv ++ List.replicate (m - i) (.int .i64 0))
  len : ys.length = i
  nm : ys.map (num k'.pl) = xs.take i
  lt : ∀ y ∈ ys, y < 2 * k'.pl.length
theorem LF.one {w0 w w2 : World} {B r : Nat} {k : KS} {xs : List Int} {g m i y : Nat} {k' k1 : KS} {ρ' ρ1 : Nat → Nat × Nat} {q' q1 : Mv} {ys : List Nat} {x : Int} (h : LF w0 w B r k xs g m i k' ρ' q' ys) (hi : i < m) (hx : xs[i]? = some x) (ck : Ck w0 w2 B r ρ1 q1 k1 (trs (2 * k1.pl.length) k1.trail)) (hf : Free w w2 ρ' ρ1) (hk : k1 = k' ∨ ∃ a, 0 < a ∧ a ≤ 9223372036854775807 ∧ a ∉ k'.pl ∧ k1 = k'.grow a) (hy : y < 2 * k1.pl.length) (hn : Go.Proofs.Ytmkkhpoedlbafaa.num k1.pl y = x) :
    LF w0 (w2.setCell ⟨g, i, none⟩ (.int .i64 y)) B r k xs g m (i + 1) k1 ρ1 q1 (ys ++ [y]) := by
  obtain ⟨hB, hlt⟩ := h.row.lt g rfl
  obtain ⟨h1, h2⟩ := hf g hlt h.mr
  have hrow := (owns_stay h.row h1).stored i (.int .i64 y)
  have hle : ∀ z ∈ ys, z < 2 * k1.pl.length := by
    intro z hz
    have := h.lt z hz
    rcases hk with rfl | ⟨a, _, _, _, rfl⟩
    · exact this
    · simp [KS.grow]; omega
  have hnum : ys.map (Go.Proofs.Ytmkkhpoedlbafaa.num k1.pl) = xs.take i := by
    rcases hk with rfl | ⟨a, _, _, _, rfl⟩
    · exact h.nm
    · exact lits_more h.nm h.lt
  refine ⟨ck.other (put_cell _ _ _ _) h2 hB, h.gr.step hk, h2, ?_, by simp [h.len], ?_, ?_⟩
  · have e : (ys.map nv ++ List.replicate (m - i) (Value.int .i64 0)).set i (.int .i64 y) = (ys ++ [y]).map nv ++ List.replicate (m - (i + 1)) (.int .i64 0) := by
      have hl : (ys.map nv).length = i := by simp [h.len]
      obtain ⟨d, hd⟩ : ∃ d, m - i = d + 1 := ⟨m - i - 1, by omega⟩
      rw [hd, show m - (i + 1) = d by omega, List.replicate_succ, List.set_append, if_neg (by omega), hl, Nat.sub_self, List.set_cons_zero]
      simp [nv]
    rw [← e]
    exact hrow.1
  · rw [List.map_append, hnum, List.take_add_one, hx]
    simp [hn]
  · intro z hz
    rcases List.mem_append.1 hz with hz | hz
    · exact hle z hz
    · simp only [List.mem_singleton] at hz; subst hz; exact hy
end Go.Proofs.Ytmkkhpoedlbafaa

namespace Go.Proofs.Ytmkkhpoedlbafaa
open Go Go.RowKit
theorem us_i : Try.prog.underlying 3 = some (.int .i64) := by kernel_rfl
set_option maxRecDepth 100000 in
set_option maxHeartbeats 16000000 in
theorem literals_of (w0 w : World) (B r : Nat) (ρ : Nat → Nat × Nat) (q : Mv) (k : KS) (v : Value) (xs : List Int) (R : Ending → World → Prop) (hC : Ck w0 w B r ρ q k (trs (2 * k.pl.length) k.trail)) (hB : Bs k) (hv : Sl w0 B v xs) (hw : Whole xs) (hP : k.pl.length + xs.length ≤ 1000000000)
    (hTail : ∀ (a' : Act) (w' : World) (k' : KS) (ρ' : Nat → Nat × Nat) (q' : Mv) (ys : List Nat), a'.defers = [] → a'.tmps.size = 49 → a'.tmps[6]? = some (.slice (some ⟨w.heap.size, 0, none⟩) xs.length xs.length) → LF w0 w' B r k xs w.heap.size xs.length xs.length k' ρ' q' ys → Code.wp Try.prog (lTail Try.f27) (bodyPost Try.prog Try.f27 R) a' w') :
    Calls Try.prog 27 #[.pointer (some ⟨r, 0, none⟩), v] w R := by
  obtain ⟨a, cap, rfl, hmax, _⟩ := hv.open
  obtain ⟨i0, hi, hz, hz1, hz2⟩ := inf_int
  obtain ⟨m, hm⟩ : ∃ m, xs.length = m := ⟨_, rfl⟩
  obtain ⟨g, hg⟩ : ∃ g, w.heap.size = g := ⟨_, rfl⟩
  obtain ⟨w1, hmake, hown, hgrow⟩ := run_make_full (P := Try.prog) w B 23 3 i0 (.int .i64 0) 1 us_int hi hz hz1 .i64 .i64 m (by rw [hz2]; omega) (by unfold maxLen; omega) hC.size
  rw [hg] at hmake hown
  have h0 : LF w0 w1 B r k xs g m 0 k (upd ρ g (9, 9)) q [] := ⟨hC.mark hgrow (by omega), Gr.refl hB, upd_same _ _ _, by
    have e : (madeCells (Value.int .i64 0).cells (m * 1)).toList = List.map nv [] ++ List.replicate (m - 0) (.int .i64 0) := by
      rw [Nat.mul_one]
      exact toList_madeCells_one _ _
    rw [← e]
    exact hown, rfl, by simp, fun y hy => by cases hy⟩
  have H0 := hide h0
  have HV := hide hv
  have HW := hide hw
  have HP := hide hP
  rw [hm] at hmax hTail ⊢
  rw [hg] at hTail
  have HM := hide hm
  have HT := hide hTail
  have hmb : (m : Int) ≤ 1000000000 := by omega
  clear h0 hv hw hP hm hC hB hown hgrow hg hi hz hz1 hz2 hTail
  go_enter Try.func27, Try.ntmps27
  change Code.wp Try.prog (.seq (cL (lAll Try.f27)) (.seq (cL (cR (lAll Try.f27))) (.seq (cL (cR (cR (lAll Try.f27)))) (lTail Try.f27)))) _ _ _
  conv => arg 2; arg 1; whnf
  conv => arg 2; arg 2; arg 1; whnf
  conv => arg 2; arg 2; arg 2; arg 1; whnf
  go_wp2
  go_loopw [15] (fun iv w' => ∃ (i : Nat) (k' : KS) (ρ' : Nat → Nat × Nat) (q' : Mv) (ys : List Nat), iv = .int .i64 i ∧ i ≤ m ∧ LF w0 w' B r k xs g m i k' ρ' q' ys) (fun iv _ => m - (intOf iv).toNat)
  case atStart => exact ⟨0, k, _, q, [], rfl, Nat.zero_le _, unhide H0⟩
  case round =>
    obtain ⟨i, k', ρ', q', ys, rfl, him, ht⟩ := hrel
    clear H0 hmake
    by_cases hi : i < m
    · have hil : i < xs.length := by rw [unhide HM]; exact hi
      have hsl := (unhide HV).below ht.ck.bl
      obtain ⟨a2, cap2, he, _, hcell⟩ := hsl.open
      simp only [Value.slice.injEq] at he
      obtain ⟨rfl, hjunk, rfl⟩ := he
      clear hjunk
      obtain ⟨b, off, hab, hc, hb⟩ := hcell i hil
      subst hab
      obtain ⟨x, hx⟩ : ∃ x, xs[i]? = some x := ⟨_, List.getElem?_eq_getElem hil⟩
      have hxe : xs[i] = x := (List.getElem?_eq_some_iff.1 hx).2
      have hrng := (hsl.2 i hil).2
      rw [hxe] at hc hrng
      have hlit := unhide HW x (List.mem_of_getElem? hx)
      have hPl : k'.pl.length ≤ 1000000000 := by have := ht.gr.len; have := unhide HP; omega
      have HLit := hide (literal_any w0 _ B r ρ' q' k' x ht.ck ht.gr.bs hlit hrng.1 hrng.2 hPl)
      have HF := hide ht
      have HX := hide hx
      have p1 : (0 : Int) ≤ (i : Int) := by omega
      have p2 : (i : Int) < (m : Int) := by omega
      clear ht hsl hcell hx hxe hrng hlit hPl hil hb
      go_wp2_with (go_at_call 30; refine (unhide HLit).mono ?_; intro e w2 h2; obtain ⟨y, k1, ρ1, q1, rfl, h2⟩ := h2; obtain ⟨c1, f1, sz1, hk, hyl, hnum⟩ := h2; have H2 := hide ((unhide HF).one hi (unhide HX) c1 f1 hk hyl hnum); have hr2 := owns_stay (unhide HF).row (f1 g ((unhide HF).row.lt g rfl).2 (unhide HF).mr).1; have hcc := hr2.cellAt i (by omega); have hff := hr2.frozenAt i; have hlen := (unhide HF).len; rw [List.getElem?_append_right (by simp [hlen]), List.getElem?_replicate, if_pos (by simp [hlen]; omega)] at hcc; clear c1 f1 sz1 hk hyl hnum hr2 hlen)
      exact ⟨⟨i + 1, k1, ρ1, q1, _, by simp, by omega, unhide H2⟩, by simp [intOf]; omega⟩
    · have hf : decide ((i : Int) < (m : Int)) = false := by simp; omega
      have hle : (m : Int) ≤ (i : Int) := by omega
      have hjm : i = m := by omega
      subst hjm
      have HF := hide ht
      clear ht
      go_wp2
      exact unhide HT _ _ k' ρ' q' ys rfl rfl rfl (unhide HF)
end Go.Proofs.Ytmkkhpoedlbafaa
