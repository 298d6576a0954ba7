/- Package rup: literal. -/
import Derived.Test.YtmkkhpoedlbafaaQD
import Derived.Deep.RegionHeld3
import Derived.BigRegion
set_option linter.unusedVariables false
set_option linter.unusedSimpArgs false

/- Package rup: opposite, set. -/
namespace Go.Proofs.Ytmkkhpoedlbafaa
open Go Go.RowKit

theorem xor_one (y : Nat) : y ^^^ 1 = op y := by
  have h1 : (y ^^^ 1) / 2 = y / 2 := by rw [Nat.xor_div_two]; simp
  have h2 : (y ^^^ 1) % 2 = (y + 1) % 2 := by
    have := Nat.xor_mod_two_pow (a := y) (b := 1) (n := 1)
    rw [Nat.pow_one] at this
    rw [this]
    have h3 : y % 2 = 0 ∨ y % 2 = 1 := by omega
    rcases h3 with h3 | h3 <;> rw [h3] <;> simp <;> omega
  unfold op
  split <;> omega
theorem i64_xor (y : Nat) (hy : y < 9223372036854775806) : bits .xor .i64 (y : Int) 1 = ((op y : Nat) : Int) := by
  rw [← xor_one]
  have hle : y ^^^ 1 ≤ y + 1 := by rw [xor_one]; unfold op; split <;> omega
  have e : (BitVec.ofInt IntKind.i64.bits (y : Int) ^^^ BitVec.ofInt IntKind.i64.bits 1).toNat = y ^^^ 1 := by
    rw [BitVec.toNat_xor]
    congr 1
    show (BitVec.ofInt 64 (y : Int)).toNat = y
    rw [BitVec.toNat_ofInt]
    omega
  unfold bits
  simp only [e]
  rw [IntKind.wrap_i64]
  omega
set_option maxRecDepth 100000 in
set_option maxHeartbeats 1600000 in
theorem opposite_any (y : Nat) (w : World) (hy : y < 4611686018427387904) : Calls Try.prog 26 #[.int .i64 y] w fun e w' => e = .returned (.int .i64 (op y)) ∧ w' = w := by
  have H := hide (i64_xor y (by omega))
  go_enter Try.func26, Try.ntmps26
  go_wp2
  go_ret
  exact ⟨by rw [← unhide H]; rfl, rfl⟩
/-- The truths of all literals. -/
def trs (N : Nat) (T : List Nat) : List Int := (List.range N).map (tv T)
theorem trs_length (N : Nat) (T : List Nat) : (trs N T).length = N := by simp [trs]
theorem trs_get {N : Nat} {T : List Nat} {y : Nat} (h : y < N) : (trs N T)[y]? = some (tv T y) := by simp [trs, h]
/-- What is in a row of truths. -/
def CK (w0 w : World) (B r : Nat) (ρ : Nat → Nat × Nat) (k : KS) : Prop := ∃ q, Ck w0 w B r ρ q k (trs (2 * k.pl.length) k.trail)
theorem trs_push {N : Nat} {T : List Nat} {y : Nat} (hy : y ∉ T) (hy2 : op y ∉ T) : ((trs N T).set y 1).set (op y) (-1) = trs N (T ++ [y]) := by
  apply List.ext_getElem?
  intro j
  by_cases hj : j < N
  · rw [trs_get hj, List.getElem?_set, List.getElem?_set]
    simp only [List.length_set, trs_length]
    by_cases e1 : op y = j
    · subst e1
      rw [if_pos rfl, if_pos hj]
      congr 1
      have : tv (T ++ [y]) (op y) = -1 := by
        unfold tv
        rw [if_neg (by simp only [List.mem_append, List.mem_singleton, not_or]; exact ⟨hy2, op_ne y⟩), if_pos (by rw [op_op]; simp)]
      exact this.symm
    · rw [if_neg e1]
      by_cases e2 : y = j
      · subst e2
        rw [if_pos rfl, if_pos hj]
        congr 1
        exact (tv_one.2 (by simp)).symm
      · rw [if_neg e2, trs_get hj]
        congr 1
        unfold tv
        have h1 : j ∈ T ++ [y] ↔ j ∈ T := by simp [Ne.symm e2]
        have h2 : op j ∈ T ++ [y] ↔ op j ∈ T := by
          have : op j ≠ y := fun e => e1 (by rw [← e, op_op])
          simp [this]
        simp only [h1, h2]
  · rw [List.getElem?_eq_none (by simp [trs_length]; omega), List.getElem?_eq_none (by simp [trs_length]; omega)]
end Go.Proofs.Ytmkkhpoedlbafaa

/- Package rup: set. -/
namespace Go.Proofs.Ytmkkhpoedlbafaa
open Go Go.RowKit
/-- The cells of the checker's own block. -/
theorem isSome_set {w : World} {a b : Addr} {u : Value} (h : (w.cell? b).isSome = true) : ((w.setCell a u).cell? b).isSome = true := by
  by_cases e : a = b
  · subst e; rw [World.cell?_setCell_same' w a u h]; rfl
  · rw [World.cell?_setCell_other w a _ _ e]; exact h
theorem isSome_set' {w : World} {a b : Addr} {u : Value} (h : (w.cell? b).isSome = true) : ((w.setCell a u).drew.cell? b).isSome = true := isSome_set (w := w) h
theorem Ck.cells {w0 w : World} {B r : Nat} {ρ : Nat → Nat × Nat} {q : Mv} {k : KS} {tr : List Int} (h : Ck w0 w B r ρ q k tr) : w.cell? ⟨r, 0, none⟩ = some (.map (some q.m)) ∧ w.cell? ⟨r, 1, none⟩ = some q.vC ∧ w.cell? ⟨r, 2, none⟩ = some q.vW ∧ w.cell? ⟨r, 3, none⟩ = some q.vT ∧ w.cell? ⟨r, 4, none⟩ = some q.vL ∧ w.cell? ⟨r, 5, none⟩ = some (.int .i64 k.head) ∧ w.cell? ⟨r, 6, none⟩ = some (.bool k.empty) ∧ w.cell? ⟨r, 7, none⟩ = some (.bool k.refuted) ∧ ∀ j, w.frozen? ⟨r, j, none⟩ = false := by
  have c := fun j => cell_of_row w r j _ _ _ h.blk
  exact ⟨c 0, c 1, c 2, c 3, c 4, c 5, c 6, c 7, fun j => frozen_of_row w r j _ _ h.blk⟩
theorem inf_of {P : Program} {t : TypeId} {z : Value} {n b : Nat} (h : (P.info? t).map (fun i => (i.zero, i.size, i.bytes)) = some (some z, n, b)) : ∃ i, P.info? t = some i ∧ i.zero = some z ∧ i.size = n ∧ i.bytes = b := by
  cases hi : P.info? t with
  | none => rw [hi] at h; cases h
  | some i =>
    rw [hi] at h
    simp only [Option.map_some, Option.some.injEq, Prod.mk.injEq] at h
    exact ⟨i, rfl, h.1, h.2.1, h.2.2⟩
theorem inf_int : ∃ i, Try.prog.info? 3 = some i ∧ i.zero = some (.int .i64 0) ∧ i.size = 1 ∧ i.bytes = 8 := inf_of (by kernel_rfl)
theorem us_int : Try.prog.underlying 23 = some (.slice 3) := by kernel_rfl
/-- One int is appended. -/
theorem app_int {ops : Array Oper} {rest : List Oper} {o : Oper} {a : Act} {Q : Exit → Act → World → Prop} (wa : World) (hgd : o.guard = none) (s x : Operand) (ho : o.op = .call { callee := .builtin .append, args := #[s, x], argTypes := #[23, 23] })
    (B : Nat) (v : Value) (n : Nat) (xs : List Value) (hs : a.eval s = v) (hown : wa.ownsRow B 3 1 v n xs) (g0 : Nat) (y : Int) (hx : a.eval x = .slice (some ⟨g0, 0, none⟩) 1 1) (hblk : wa.heap[g0]? = some (.cells #[.int .i64 y] 3)) (hn : n ≤ 10000000000) (hbase : B ≤ wa.heap.size)
    (h : ∀ g cap w', w'.ownsRow B 3 1 (.slice (some ⟨g, 0, none⟩) (n + 1) cap) (n + 1) (xs ++ [.int .i64 y]) → wa.grownBy w' v.ownBlock → (v.ownBlock = some g ∨ g = wa.heap.size) → g < w'.heap.size → wpList Try.prog ops Q rest (a.put o.dst (.slice (some ⟨g, 0, none⟩) (n + 1) cap)) w') : wpList Try.prog ops Q (o :: rest) a wa := by
  obtain ⟨i, hi, hz, h1, h2⟩ := inf_int
  exact wpList_append_lies wa hgd s x 23 ho B 3 i (.int .i64 0) 1 8 us_int hi hz h1 h2 rfl (by omega) v n xs hs hown ⟨g0, 0, none⟩ 1 1 [.int .i64 y] hx rfl (World.news_of_block hblk) (fun u hu => by simp only [List.mem_singleton] at hu; subst hu; rfl) (by omega) (by unfold maxLen; omega) (by omega) hbase _ rfl h
/-- The checker's own block behind an append to a row. -/
theorem Ck.rcell {w0 w w1 : World} {B r : Nat} {ρ : Nat → Nat × Nat} {q : Mv} {k : KS} {tr : List Int} {v : Value} (h : Ck w0 w B r ρ q k tr) (hg : w.grownBy w1 v.ownBlock) (hr : ∀ b, v.ownBlock = some b → ρ b ≠ (0, 0)) (j : Nat) : w1.cell? ⟨r, j, none⟩ = w.cell? ⟨r, j, none⟩ ∧ w1.frozen? ⟨r, j, none⟩ = false := by
  have hne : some r ≠ v.ownBlock := fun e => hr r e.symm h.rr
  refine ⟨hg.cell_far ⟨r, j, none⟩ h.lt hne, ?_⟩
  rw [hg.frozen_far ⟨r, j, none⟩ h.lt hne]
  exact frozen_of_row w r j _ _ h.blk
def SetPost (w0 : World) (B r : Nat) (q : Mv) (k : KS) (x : Nat) (e : Ending) (w' : World) : Prop := e = .returned (.tuple #[]) ∧ ∃ ρ' v, Ck w0 w' B r ρ' { q with vL := v } (if tv k.trail x = 0 then { k with trail := k.trail ++ [x] } else k) (trs (2 * k.pl.length) (if tv k.trail x = 0 then k.trail ++ [x] else k.trail))
set_option maxRecDepth 100000 in
set_option maxHeartbeats 16000000 in
theorem set_any (w0 w : World) (B r : Nat) (ρ : Nat → Nat × Nat) (q : Mv) (k : KS) (x : Nat) (h : Ck w0 w B r ρ q k (trs (2 * k.pl.length) k.trail)) (hx : x < 2 * k.pl.length) (hP : k.pl.length ≤ 1000000000) (hT : k.trail.length ≤ 2 * k.pl.length) :
    Calls Try.prog 28 #[.pointer (some ⟨r, 0, none⟩), .int .i64 x] w (SetPost w0 B r q k x) := by
  obtain ⟨z0, z1, z2, c3, c4, z5, z6, z7, cf⟩ := h.cells
  clear z0 z1 z2 z5 z6 z7
  have hrt := h.rt
  obtain ⟨gT, capT, hvT, y1, y2, hBT, hltT, hrT⟩ := hrt.open (by rw [trs_length]; omega)
  rw [trs_length] at hvT
  rw [hvT, trs_length] at hrt
  have hxT := (hrt.cell (j := x) (u := .int .i8 (tv k.trail x)) (by rw [List.getElem?_map, trs_get hx]; rfl))
  have hoT := (hrt.cell (j := op x) (u := .int .i8 (tv k.trail (op x))) (by rw [List.getElem?_map, trs_get (op_lt hx)]; rfl))
  rw [hvT] at c3
  obtain ⟨N, hN⟩ : ∃ N, 2 * k.pl.length = N := ⟨_, rfl⟩
  rw [hN] at hx c3
  have f3 := cf 3
  have f4 := cf 4
  have HC := hide h
  by_cases hz : tv k.trail x = 0
  · rw [hz] at hxT
    obtain ⟨a1, a2⟩ := hxT
    obtain ⟨b1, b2⟩ := hoT
    have HS := hide hz
    have hrg : r ≠ gT := (h.ne hrT (by simp) (by simp)).1
    have hne := op_ne x
    have hne' := Ne.symm hne
    have hrg' := Ne.symm hrg
    have a3 : (w.cell? ⟨gT, x, none⟩).isSome = true := by rw [a1]; rfl
    have b3 : (w.cell? ⟨gT, op x, none⟩).isSome = true := by rw [b1]; rfl
    have hPx : x < 4611686018427387904 := by omega
    have hol : op x < N := by rw [← hN]; exact op_lt (by omega)
    have i1 : (0 : Int) ≤ (x : Int) := by omega
    have i2 : (x : Int) < (N : Int) := by omega
    have i3 : (0 : Int) ≤ (op x : Int) := by omega
    have i4 : (op x : Int) < (N : Int) := by omega
    have HV := hide hvT
    have HN := hide hN
    have HT := hide (show k.trail.length ≤ 10000000000 by omega)
    clear h hz cf hrt hBT hltT hrT hT hvT hN y1 y2 hP a3 b3
    go_enter Try.func28, Try.ntmps28
    go_wp2
    go_region_held3 (fun w' => w'.cell? ⟨r, 3, none⟩ = some (.slice (some ⟨gT, 0, none⟩) N capT)) (go_keep) (first | (go_at_call 26; refine (opposite_any x _ (by assumption)).mono ?_; rintro e w' ⟨rfl, rfl⟩))
    have h2 := (((unhide HC).setTruth (unhide HV) (trs_length _ _).symm x 1).setTruth (unhide HV) (by rw [List.length_set, trs_length]) (op x) (-1)).drew
    rename_i hHeld
    clear hHeld
    revert h2
    generalize (((w.setCell ⟨gT, x, none⟩ (.int .i8 1)).setCell ⟨gT, op x, none⟩ (.int .i8 (-1))).drew) = w2
    intro h2
    obtain ⟨z0, z1, z2, z3, d4, z5, z6, z7, df⟩ := h2.cells
    clear z0 z1 z2 z3 z5 z6 z7 c3 c4 f3 f4 a1 a2 b1 b2
    have f4 := df 4
    have HD := hide h2
    obtain ⟨av, capv, hav, _, _⟩ := h2.rT.form
    have HAV := hide hav
    rw [hav] at d4
    clear h2 df hav
    go_wp2_with (at_builtin; refine app_int _ rfl _ _ rfl B (.slice av k.trail.length capv) _ _ rfl (by rw [← unhide HAV]; exact ((unhide HD).alloc _).rT.1) _ x rfl (heap_alloc_new _ _) (unhide HT) ((unhide HD).alloc _).size ?_; intro g cap w3 ho hg hw hl; have e4 := ((unhide HD).alloc (.cells #[.int .i64 x] 3)).rcell hg (by rw [← unhide HAV]; intro b hb; rw [((unhide HD).rT).2 b hb]; simp) 4; rw [((unhide HD).alloc _).cells.2.2.2.2.1] at e4; obtain ⟨e4, e5⟩ := e4; have HO := hide ho; have HG := hide hg; have HW := hide hw; clear ho hg hw hl)
    refine bodyPost_ret (v := .tuple #[]) (by simp [results, Try.results28, go_sem]) rfl ⟨rfl, ?_⟩
    rw [if_pos (unhide HS), if_pos (unhide HS)]
    have h3 := ((unhide HD).alloc (.cells #[.int .i64 x] 3)).pushTrail (unhide HO) (by rw [unhide HAV]; exact unhide HG) (by rw [unhide HAV]; exact unhide HW)
    obtain ⟨t1, t2⟩ := tv_zero.1 (unhide HS)
    rw [trs_push t1 t2] at h3
    exact ⟨_, _, h3⟩
  · have hnz : (tv k.trail x == 0) = false := by simpa using hz
    obtain ⟨a1, a2⟩ := hxT
    have i1 : (0 : Int) ≤ (x : Int) := by omega
    have i2 : (x : Int) < (N : Int) := by omega
    have HZ := hide hz
    clear h hz cf hrt hBT hltT hrT hT hoT hvT hN y1 y2 hP a2 c4 f3 f4
    go_enter Try.func28, Try.ntmps28
    go_wp2
    refine bodyPost_ret (v := .tuple #[]) (by simp [results, Try.results28, go_sem]) rfl ⟨rfl, ?_⟩
    rw [if_neg (unhide HZ), if_neg (unhide HZ)]
    exact ⟨_, _, unhide HC⟩
end Go.Proofs.Ytmkkhpoedlbafaa

namespace Go.Proofs.Ytmkkhpoedlbafaa
open Go Go.RowKit
/-- What holds of the checker whatever it has found. -/
structure Bs (k : KS) : Prop where
  wl : k.ws.length = 2 * k.pl.length
  tlt : ∀ y ∈ k.trail, y < 2 * k.pl.length
  ppl : Pl k.pl
theorem Bs.grow {k : KS} (h : Bs k) {a : Int} (h0 : 0 < a) (h1 : a ≤ 9223372036854775807) (hn : a ∉ k.pl) : Bs (k.grow a) :=
  ⟨by simp [KS.grow, h.wl]; omega, fun y hy => by have := h.tlt y hy; simp [KS.grow]; omega, h.ppl.push h0 h1 hn⟩
/-- What lies apart stays. -/
def Free (w w' : World) (ρ ρ' : Nat → Nat × Nat) : Prop := ∀ g, g < w.heap.size → ρ g = (9, 9) → w'.heap[g]? = w.heap[g]? ∧ ρ' g = (9, 9)
theorem Free.refl (w : World) (ρ : Nat → Nat × Nat) : Free w w ρ ρ := fun _ _ h => ⟨rfl, h⟩
theorem Free.trans {a b c : World} {ρ ρ' ρ'' : Nat → Nat × Nat} (h : Free a b ρ ρ') (hs : a.heap.size ≤ b.heap.size) (k : Free b c ρ' ρ'') : Free a c ρ ρ'' := fun g hg hr => by
  obtain ⟨h1, h2⟩ := h g hg hr
  obtain ⟨k1, k2⟩ := k g (by omega) h2
  exact ⟨k1.trans h1, k2⟩
theorem Free.alloc (w : World) (ρ : Nat → Nat × Nat) (o : Obj) : Free w (w.alloc o) ρ ρ := fun g hg h => ⟨Below.heap_alloc w o g hg, h⟩
theorem Free.set (w : World) (ρ : Nat → Nat × Nat) {p : Addr} (u : Value) (hp : ρ p.block ≠ (9, 9)) : Free w (w.setCell p u) ρ ρ := fun g _ h => ⟨Below.heap_setCell w p u g fun e => hp (by rw [← e]; exact h), h⟩
theorem Free.put {w w2 : World} {ρ : Nat → Nat × Nat} {m : Nat} (hp : PutAt m w w2) (hm : ρ m ≠ (9, 9)) : Free w w2 ρ ρ := fun g _ h => ⟨hp.block g fun e => hm (by rw [← e]; exact h), h⟩
theorem Free.app {w w1 : World} {ρ : Nat → Nat × Nat} {v : Value} {g : Nat} {role : Nat × Nat} (hr : ∀ b, v.ownBlock = some b → ρ b = role) (hg : w.grownBy w1 v.ownBlock) (hw : v.ownBlock = some g ∨ g = w.heap.size) (h9 : role ≠ (9, 9)) : Free w w1 ρ (upd ρ g role) := fun g' h1 h2 => by
  have := app_frame hr hg hw g' h1 (by rw [h2]; exact Ne.symm h9)
  exact ⟨this.1, this.2.trans h2⟩
theorem inf_i8 : ∃ i, Try.prog.info? 51 = some i ∧ i.zero = some (.int .i8 0) ∧ i.size = 1 ∧ i.bytes = 1 := inf_of (by kernel_rfl)
theorem us_i8 : Try.prog.underlying 48 = some (.slice 51) := by kernel_rfl
theorem inf_sl : ∃ i, Try.prog.info? 23 = some i ∧ i.zero = some (.slice none 0 0) ∧ i.size = 1 ∧ i.bytes = 24 := inf_of (by kernel_rfl)
theorem us_sl : Try.prog.underlying 22 = some (.slice 23) := by kernel_rfl
theorem app_i8 {ops : Array Oper} {rest : List Oper} {o : Oper} {a : Act} {Q : Exit → Act → World → Prop} (wa : World) (hgd : o.guard = none) (s x : Operand) (ho : o.op = .call { callee := .builtin .append, args := #[s, x], argTypes := #[48, 48] })
    (B : Nat) (v : Value) (n : Nat) (xs : List Value) (hs : a.eval s = v) (hown : wa.ownsRow B 51 1 v n xs) (g0 : Nat) (y z : Int) (hx : a.eval x = .slice (some ⟨g0, 0, none⟩) 2 2) (hblk : wa.heap[g0]? = some (.cells #[.int .i8 y, .int .i8 z] 51)) (hn : n ≤ 10000000000) (hbase : B ≤ wa.heap.size)
    (h : ∀ g cap w', w'.ownsRow B 51 1 (.slice (some ⟨g, 0, none⟩) (n + 2) cap) (n + 2) (xs ++ [.int .i8 y, .int .i8 z]) → wa.grownBy w' v.ownBlock → (v.ownBlock = some g ∨ g = wa.heap.size) → g < w'.heap.size → wpList Try.prog ops Q rest (a.put o.dst (.slice (some ⟨g, 0, none⟩) (n + 2) cap)) w') : wpList Try.prog ops Q (o :: rest) a wa := by
  obtain ⟨i, hi, hz, h1, h2⟩ := inf_i8
  exact wpList_append_lies wa hgd s x 48 ho B 51 i (.int .i8 0) 1 1 us_i8 hi hz h1 h2 rfl (by omega) v n xs hs hown ⟨g0, 0, none⟩ 2 2 [.int .i8 y, .int .i8 z] hx rfl (World.news_of_block hblk) (fun u hu => by simp only [List.mem_cons, List.mem_nil_iff, or_false] at hu; rcases hu with rfl | rfl <;> rfl) (by omega) (by unfold maxLen; omega) (by omega) hbase _ rfl h
theorem app_sl {ops : Array Oper} {rest : List Oper} {o : Oper} {a : Act} {Q : Exit → Act → World → Prop} (wa : World) (hgd : o.guard = none) (s x : Operand) (ho : o.op = .call { callee := .builtin .append, args := #[s, x], argTypes := #[22, 22] })
    (B : Nat) (v : Value) (n : Nat) (xs : List Value) (hs : a.eval s = v) (hown : wa.ownsRow B 23 1 v n xs) (g0 : Nat) (hx : a.eval x = .slice (some ⟨g0, 0, none⟩) 2 2) (hblk : wa.heap[g0]? = some (.cells #[.slice none 0 0, .slice none 0 0] 23)) (hn : n ≤ 100000000000) (hbase : B ≤ wa.heap.size)
    (h : ∀ g cap w', w'.ownsRow B 23 1 (.slice (some ⟨g, 0, none⟩) (n + 2) cap) (n + 2) (xs ++ [.slice none 0 0, .slice none 0 0]) → wa.grownBy w' v.ownBlock → (v.ownBlock = some g ∨ g = wa.heap.size) → g < w'.heap.size → wpList Try.prog ops Q rest (a.put o.dst (.slice (some ⟨g, 0, none⟩) (n + 2) cap)) w') : wpList Try.prog ops Q (o :: rest) a wa := by
  obtain ⟨i, hi, hz, h1, h2⟩ := inf_sl
  exact wpList_append_lies wa hgd s x 22 ho B 23 i (.slice none 0 0) 1 24 us_sl hi hz h1 h2 rfl (by omega) v n xs hs hown ⟨g0, 0, none⟩ 2 2 [.slice none 0 0, .slice none 0 0] hx rfl (World.news_of_block hblk) (fun u hu => by simp only [List.mem_cons, List.mem_nil_iff, or_false] at hu; rcases hu with rfl | rfl <;> rfl) (by omega) (by unfold maxLen; omega) (by omega) hbase _ rfl h
theorem trs_grow {k : KS} (h : Bs k) (a : Int) : trs (2 * k.pl.length) k.trail ++ [0, 0] = trs (2 * (k.grow a).pl.length) (k.grow a).trail := by
  have e : 2 * (k.grow a).pl.length = 2 * k.pl.length + 1 + 1 := by simp [KS.grow]; omega
  rw [e]
  unfold trs
  rw [List.range_succ, List.range_succ]
  have h1 : tv k.trail (2 * k.pl.length) = 0 := tv_zero.2 ⟨fun hm => by have := h.tlt _ hm; omega, fun hm => by have := h.tlt _ hm; unfold op at this; split at this <;> omega⟩
  have h2 : tv k.trail (2 * k.pl.length + 1) = 0 := tv_zero.2 ⟨fun hm => by have := h.tlt _ hm; omega, fun hm => by have := h.tlt _ hm; unfold op at this; split at this <;> omega⟩
  show _ = List.map (tv k.trail) _
  simp [h1, h2]
/-- What literal answers. -/
def LitPost (w0 : World) (B r : Nat) (k : KS) (x : Int) (w : World) (ρ : Nat → Nat × Nat) (e : Ending) (w' : World) : Prop := ∃ (y : Nat) (k' : KS) (ρ' : Nat → Nat × Nat) (q' : Mv), e = .returned (.int .i64 y) ∧ Ck w0 w' B r ρ' q' k' (trs (2 * k'.pl.length) k'.trail) ∧ Free w w' ρ ρ' ∧ w.heap.size ≤ w'.heap.size ∧ (k' = k ∨ ∃ a, 0 < a ∧ a ≤ 9223372036854775807 ∧ a ∉ k.pl ∧ k' = k.grow a) ∧ y < 2 * k'.pl.length ∧ num k'.pl y = x
theorem lit_pos {pl : List Int} {j : Nat} {a : Int} (h : pl[j]? = some a) : num pl (2 * j) = a ∧ num pl (2 * j + 1) = -a ∧ 2 * j + 1 < 2 * pl.length := by
  have hl := (List.getElem?_eq_some_iff.1 h).1
  have e1 : 2 * j / 2 = j := by omega
  have e2 : (2 * j + 1) / 2 = j := by omega
  have hg : pl.getD j 0 = a := by simp [List.getD_eq_getElem?_getD, h]
  unfold num
  refine ⟨by rw [if_pos (by omega), e1, hg], by rw [if_neg (by omega), e2, hg], by omega⟩
set_option maxRecDepth 100000 in
set_option maxHeartbeats 16000000 in
theorem literal_yes (w0 w : World) (B r : Nat) (ρ : Nat → Nat × Nat) (q : Mv) (k : KS) (x a : Int) (h : Ck w0 w B r ρ q k (trs (2 * k.pl.length) k.trail)) (hx : (0 < x ∧ a = x) ∨ (x < 0 ∧ a = -x)) (ha : a ≤ 9223372036854775807) (hm : a ∈ k.pl) (hP : k.pl.length ≤ 1000000000) :
    Calls Try.prog 30 #[.pointer (some ⟨r, 0, none⟩), .int .i64 x] w (LitPost w0 B r k x w ρ) := by
  obtain ⟨c0, z1, z2, z3, z4, z5, z6, z7, cf⟩ := h.cells
  clear z1 z2 z3 z4 z5 z6 z7 cf
  obtain ⟨j, hj, hk⟩ := lk_yes h.mp hm
  have hjl := (List.getElem?_eq_some_iff.1 hj).1
  obtain ⟨l1, l2, l3⟩ := lit_pos hj
  have HC := hide h
  rcases hx with ⟨hx, rfl⟩ | ⟨hx, rfl⟩
  · have H1 := hide l1
    have H3 := hide l3
    have hw1 : IntKind.i64.wrap (-a) = -a := by simp only [IntKind.wrap_i64]; omega
    have hd : decide (a < 0) = false := by simp; omega
    have hmx : max a (-a) = a := by omega
    have hjb : (j : Int) ≤ 1000000000 := by omega
    clear l1 l2 l3 hj hjl h hm hP
    go_enter Try.func30, Try.ntmps30
    go_wp2
    go_ret
    exact ⟨2 * j, k, ρ, q, by simp, unhide HC, Free.refl _ _, Nat.le_refl _, .inl rfl, by have := unhide H3; omega, by rw [unhide H1]⟩
  · have H1 := hide l2
    have H3 := hide l3
    have hw1 : IntKind.i64.wrap (-x) = -x := by simp only [IntKind.wrap_i64]; omega
    have hd : decide (x < 0) = true := by simp; omega
    have hmx : max x (-x) = -x := by omega
    have hjb : (j : Int) ≤ 1000000000 := by omega
    clear l1 l2 l3 hj hjl h hm hP
    go_enter Try.func30, Try.ntmps30
    go_wp2
    go_ret
    exact ⟨2 * j + 1, k, ρ, q, by simp, unhide HC, Free.refl _ _, Nat.le_refl _, .inl rfl, by have := unhide H3; omega, by rw [unhide H1]; omega⟩
theorem Ck.pushTruth2 {w0 w : World} {B r : Nat} {ρ : Nat → Nat × Nat} {q : Mv} {k : KS} {tr : List Int} (h : Ck w0 w B r ρ q k tr) {w1 : World} {g cap : Nat} (ho : w1.ownsRow B 51 1 (.slice (some ⟨g, 0, none⟩) (tr.length + 2) cap) (tr.length + 2) (tr.map i8 ++ [.int .i8 0, .int .i8 0])) (hg : w.grownBy w1 q.vT.ownBlock) (hw : q.vT.ownBlock = some g ∨ g = w.heap.size) : Ck w0 (w1.setCell ⟨r, 3, none⟩ (.slice (some ⟨g, 0, none⟩) (tr.length + 2) cap)) B r (upd ρ g (4, 0)) { q with vT := .slice (some ⟨g, 0, none⟩) (tr.length + 2) cap } k (tr ++ [0, 0]) := h.pushTruth (zs := [0, 0]) ho hg hw
theorem alloc_at {w : World} {o : Obj} {n : Nat} (h : n = w.heap.size) : (w.alloc o).heap[n]? = some o := by subst h; exact heap_alloc_new w o
theorem grow_get (k : KS) (a : Int) : (k.grow a).pl[k.pl.length]? = some a := by simp [KS.grow]
set_option maxRecDepth 100000 in
set_option maxHeartbeats 16000000 in
theorem literal_pos (w0 w : World) (B r : Nat) (ρ : Nat → Nat × Nat) (q : Mv) (k : KS) (a : Int) (h : Ck w0 w B r ρ q k (trs (2 * k.pl.length) k.trail)) (hb : Bs k) (hx : 0 < a) (ha : a ≤ 9223372036854775807) (hm : a ∉ k.pl) (hP : k.pl.length ≤ 1000000000) :
    Calls Try.prog 30 #[.pointer (some ⟨r, 0, none⟩), .int .i64 a] w (LitPost w0 B r k a w ρ) := by
  obtain ⟨c0, z1, z2, z3, z4, z5, z6, z7, cf⟩ := h.cells
  clear z1 z2 z3 z4 z5 z6 z7 cf
  have hk := lk_no h.mp hm
  have hl := ml (ty := 3) h.mp
  obtain ⟨w1, hp, hput, hmp⟩ := mput h.mp hm
  have h1 := h.pushPlace hput hmp
  have F1 := hide (Free.put (ρ := ρ) hput (by rw [h.mr]; simp))
  have hs1 := hput.size
  obtain ⟨z0, z1, c2, c3, z4, z5, z6, z7, cf⟩ := h1.cells
  have f2 := cf 2
  have f3 := cf 3
  clear z0 z1 z4 z5 z6 z7 cf
  obtain ⟨vT, hvT⟩ : ∃ vT, q.vT = vT := ⟨_, rfl⟩
  have HC := hide h1
  have HS1 := hide hs1
  have HB := hide hb
  have HM := hide hm
  have HP := hide hP
  have hwl : k.ws.length ≤ 100000000000 := by rw [hb.wl]; omega
  have HWL := hide hwl
  have htl : (trs (2 * k.pl.length) k.trail).length ≤ 10000000000 := by rw [trs_length]; omega
  have HTL := hide htl
  obtain ⟨aT, capT, haT, y1, y2⟩ := h1.rt.form
  have HAT := hide haT
  rw [haT] at c3
  obtain ⟨aW, capW, haW, y3, y4⟩ := h1.rw_.form
  have HAW := hide haW
  rw [haW] at c2
  obtain ⟨n, hn⟩ : ∃ n, k.pl.length = n := ⟨_, rfl⟩
  have HN := hide hn
  rw [hn] at hl hp
  have hnb : (n : Int) ≤ 1000000000 := by omega
  have hw1 : IntKind.i64.wrap (-a) = -a := by simp only [IntKind.wrap_i64]; omega
  have hd : decide (a < 0) = false := by simp; omega
  have hmx : max a (-a) = a := by omega
  clear h h1 hput hmp hb hm hP hwl htl haT haW y1 y2 y3 y4 hs1 hn hvT vT
  go_enter Try.func30, Try.ntmps30
  go_wp2_with (first
    | (at_builtin; refine app_i8 _ rfl _ _ rfl B (.slice aT (trs (2 * k.pl.length) k.trail).length capT) _ _ rfl (by rw [← unhide HAT]; exact ((unhide HC).alloc _).rt.1) _ 0 0 rfl (heap_alloc_new _ _) (unhide HTL) ((unhide HC).alloc _).size ?_; intro g cap w3 ho hg hw hl2; have e3 := ((unhide HC).alloc (.cells #[.int .i8 0, .int .i8 0] 51)).rcell hg (by rw [← unhide HAT]; intro b hb; rw [((unhide HC).rt).2 b hb]; simp) 3; rw [((unhide HC).alloc _).cells.2.2.2.1] at e3; obtain ⟨e3, e4⟩ := e3; have e2 := ((unhide HC).alloc (.cells #[.int .i8 0, .int .i8 0] 51)).rcell hg (by rw [← unhide HAT]; intro b hb; rw [((unhide HC).rt).2 b hb]; simp) 2; rw [((unhide HC).alloc _).cells.2.2.1, unhide HAW] at e2; obtain ⟨e2, e5⟩ := e2; have HD := hide (((unhide HC).alloc (.cells #[.int .i8 0, .int .i8 0] 51)).pushTruth2 ho (by rw [unhide HAT]; exact hg) (by rw [unhide HAT]; exact hw)); have FF := hide ((Free.alloc w1 ρ (.cells #[.int .i8 0, .int .i8 0] 51)).trans (by simp) (Free.app (ρ := ρ) (by rw [← unhide HAT]; exact (unhide HC).rt.2) hg hw (by simp))); have FS := hide hg.size; clear ho hg hw hl2)
    | (at_builtin; refine app_sl _ rfl _ _ rfl B (.slice aW k.ws.length capW) _ _ rfl (by rw [← unhide HAW]; exact ((unhide HD).alloc _).rw_.1) _ rfl (alloc_at (by simp)) (unhide HWL) ((unhide HD).alloc _).size ?_; intro g2 cap2 w4 ho hg hw hl2; have k3 := ((unhide HD).alloc (.cells #[.slice none 0 0, .slice none 0 0] 23)).rcell hg (by rw [← unhide HAW]; intro b hb; rw [((unhide HD).rw_).2 b hb]; simp) 2; rw [((unhide HD).alloc _).cells.2.2.1] at k3; obtain ⟨k3, k4⟩ := k3; have HE := hide (((unhide HD).alloc (.cells #[.slice none 0 0, .slice none 0 0] 23)).pushNils ho (by rw [unhide HAW]; exact hg) (by rw [unhide HAW]; exact hw)); have FG := hide ((Free.set w3 (upd ρ g (4, 0)) (p := ⟨r, 3, none⟩) (.slice (some ⟨g, 0, none⟩) ((trs (2 * k.pl.length) k.trail).length + 2) cap) (by rw [(unhide HD).rr]; simp)).trans (by simp) ((Free.alloc _ (upd ρ g (4, 0)) (.cells #[.slice none 0 0, .slice none 0 0] 23)).trans (by simp) (Free.app (ρ := upd ρ g (4, 0)) (by rw [← unhide HAW]; exact (unhide HD).rw_.2) hg hw (by simp)))); have FT := hide hg.size; clear ho hg hw hl2))
  go_ret
  have hE := unhide HE
  rw [trs_grow (unhide HB) a] at hE
  have hl3 := lit_pos (grow_get k a)
  have s1 := unhide HS1
  have s2 := unhide FS
  have s3 := unhide FT
  simp only [World.size_alloc, World.size_setCell] at s2 s3
  refine ⟨2 * k.pl.length, k.grow a, _, _, by rw [← unhide HN]; simp, hE, ((unhide F1).trans (by omega) ((unhide FF).trans (by omega) ((unhide FG).trans (by omega) (Free.set _ _ _ (by rw [hE.rr]; simp))))), by simp; omega, .inr ⟨a, hx, ha, unhide HM, rfl⟩, ?_, ?_⟩
  · have := hl3.2.2; omega
  · exact hl3.1
set_option maxRecDepth 100000 in
set_option maxHeartbeats 16000000 in
theorem literal_neg (w0 w : World) (B r : Nat) (ρ : Nat → Nat × Nat) (q : Mv) (k : KS) (a : Int) (h : Ck w0 w B r ρ q k (trs (2 * k.pl.length) k.trail)) (hb : Bs k) (hx : 0 < a) (ha : a ≤ 9223372036854775807) (hm : a ∉ k.pl) (hP : k.pl.length ≤ 1000000000) :
    Calls Try.prog 30 #[.pointer (some ⟨r, 0, none⟩), .int .i64 (-a)] w (LitPost w0 B r k (-a) w ρ) := by
  obtain ⟨c0, z1, z2, z3, z4, z5, z6, z7, cf⟩ := h.cells
  clear z1 z2 z3 z4 z5 z6 z7 cf
  have hk := lk_no h.mp hm
  have hl := ml (ty := 3) h.mp
  obtain ⟨w1, hp, hput, hmp⟩ := mput h.mp hm
  have h1 := h.pushPlace hput hmp
  have F1 := hide (Free.put (ρ := ρ) hput (by rw [h.mr]; simp))
  have hs1 := hput.size
  obtain ⟨z0, z1, c2, c3, z4, z5, z6, z7, cf⟩ := h1.cells
  have f2 := cf 2
  have f3 := cf 3
  clear z0 z1 z4 z5 z6 z7 cf
  obtain ⟨vT, hvT⟩ : ∃ vT, q.vT = vT := ⟨_, rfl⟩
  have HC := hide h1
  have HS1 := hide hs1
  have HB := hide hb
  have HM := hide hm
  have HP := hide hP
  have hwl : k.ws.length ≤ 100000000000 := by rw [hb.wl]; omega
  have HWL := hide hwl
  have htl : (trs (2 * k.pl.length) k.trail).length ≤ 10000000000 := by rw [trs_length]; omega
  have HTL := hide htl
  obtain ⟨aT, capT, haT, y1, y2⟩ := h1.rt.form
  have HAT := hide haT
  rw [haT] at c3
  obtain ⟨aW, capW, haW, y3, y4⟩ := h1.rw_.form
  have HAW := hide haW
  rw [haW] at c2
  obtain ⟨n, hn⟩ : ∃ n, k.pl.length = n := ⟨_, rfl⟩
  have HN := hide hn
  rw [hn] at hl hp
  have hnb : (n : Int) ≤ 1000000000 := by omega
  have hw1 : IntKind.i64.wrap (-(-a)) = a := by simp only [IntKind.wrap_i64]; omega
  have hd : decide ((-a) < 0) = true := by simp; omega
  have hmx : max (-a) a = a := by omega
  clear h h1 hput hmp hb hm hP hwl htl haT haW y1 y2 y3 y4 hs1 hn hvT vT
  go_enter Try.func30, Try.ntmps30
  go_wp2_with (first
    | (at_builtin; refine app_i8 _ rfl _ _ rfl B (.slice aT (trs (2 * k.pl.length) k.trail).length capT) _ _ rfl (by rw [← unhide HAT]; exact ((unhide HC).alloc _).rt.1) _ 0 0 rfl (heap_alloc_new _ _) (unhide HTL) ((unhide HC).alloc _).size ?_; intro g cap w3 ho hg hw hl2; have e3 := ((unhide HC).alloc (.cells #[.int .i8 0, .int .i8 0] 51)).rcell hg (by rw [← unhide HAT]; intro b hb; rw [((unhide HC).rt).2 b hb]; simp) 3; rw [((unhide HC).alloc _).cells.2.2.2.1] at e3; obtain ⟨e3, e4⟩ := e3; have e2 := ((unhide HC).alloc (.cells #[.int .i8 0, .int .i8 0] 51)).rcell hg (by rw [← unhide HAT]; intro b hb; rw [((unhide HC).rt).2 b hb]; simp) 2; rw [((unhide HC).alloc _).cells.2.2.1, unhide HAW] at e2; obtain ⟨e2, e5⟩ := e2; have HD := hide (((unhide HC).alloc (.cells #[.int .i8 0, .int .i8 0] 51)).pushTruth2 ho (by rw [unhide HAT]; exact hg) (by rw [unhide HAT]; exact hw)); have FF := hide ((Free.alloc w1 ρ (.cells #[.int .i8 0, .int .i8 0] 51)).trans (by simp) (Free.app (ρ := ρ) (by rw [← unhide HAT]; exact (unhide HC).rt.2) hg hw (by simp))); have FS := hide hg.size; clear ho hg hw hl2)
    | (at_builtin; refine app_sl _ rfl _ _ rfl B (.slice aW k.ws.length capW) _ _ rfl (by rw [← unhide HAW]; exact ((unhide HD).alloc _).rw_.1) _ rfl (alloc_at (by simp)) (unhide HWL) ((unhide HD).alloc _).size ?_; intro g2 cap2 w4 ho hg hw hl2; have k3 := ((unhide HD).alloc (.cells #[.slice none 0 0, .slice none 0 0] 23)).rcell hg (by rw [← unhide HAW]; intro b hb; rw [((unhide HD).rw_).2 b hb]; simp) 2; rw [((unhide HD).alloc _).cells.2.2.1] at k3; obtain ⟨k3, k4⟩ := k3; have HE := hide (((unhide HD).alloc (.cells #[.slice none 0 0, .slice none 0 0] 23)).pushNils ho (by rw [unhide HAW]; exact hg) (by rw [unhide HAW]; exact hw)); have FG := hide ((Free.set w3 (upd ρ g (4, 0)) (p := ⟨r, 3, none⟩) (.slice (some ⟨g, 0, none⟩) ((trs (2 * k.pl.length) k.trail).length + 2) cap) (by rw [(unhide HD).rr]; simp)).trans (by simp) ((Free.alloc _ (upd ρ g (4, 0)) (.cells #[.slice none 0 0, .slice none 0 0] 23)).trans (by simp) (Free.app (ρ := upd ρ g (4, 0)) (by rw [← unhide HAW]; exact (unhide HD).rw_.2) hg hw (by simp)))); have FT := hide hg.size; clear ho hg hw hl2))
  go_ret
  have hE := unhide HE
  rw [trs_grow (unhide HB) a] at hE
  have hl3 := lit_pos (grow_get k a)
  have s1 := unhide HS1
  have s2 := unhide FS
  have s3 := unhide FT
  simp only [World.size_alloc, World.size_setCell] at s2 s3
  refine ⟨2 * k.pl.length + 1, k.grow a, _, _, by rw [← unhide HN]; simp, hE, ((unhide F1).trans (by omega) ((unhide FF).trans (by omega) ((unhide FG).trans (by omega) (Free.set _ _ _ (by rw [hE.rr]; simp))))), by simp; omega, .inr ⟨a, hx, ha, unhide HM, rfl⟩, ?_, ?_⟩
  · have := hl3.2.2; omega
  · exact hl3.2.1
theorem literal_any (w0 w : World) (B r : Nat) (ρ : Nat → Nat × Nat) (q : Mv) (k : KS) (x : Int) (h : Ck w0 w B r ρ q k (trs (2 * k.pl.length) k.trail)) (hb : Bs k) (hx : LitOk x) (h1 : -9223372036854775808 ≤ x) (h2 : x ≤ 9223372036854775807) (hP : k.pl.length ≤ 1000000000) :
    Calls Try.prog 30 #[.pointer (some ⟨r, 0, none⟩), .int .i64 x] w (LitPost w0 B r k x w ρ) := by
  obtain ⟨hx0, hx1⟩ := hx
  rcases Int.lt_trichotomy x 0 with hl | hl | hl
  · by_cases hm : -x ∈ k.pl
    · exact literal_yes w0 w B r ρ q k x (-x) h (.inr ⟨hl, rfl⟩) (by omega) hm hP
    · have := literal_neg w0 w B r ρ q k (-x) h hb (by omega) (by omega) hm hP
      rw [Int.neg_neg] at this
      exact this
  · exact absurd hl hx0
  · by_cases hm : x ∈ k.pl
    · exact literal_yes w0 w B r ρ q k x x h (.inl ⟨hl, rfl⟩) h2 hm hP
    · exact literal_pos w0 w B r ρ q k x h hb hl h2 hm hP
end Go.Proofs.Ytmkkhpoedlbafaa
