/- quoLong: the division of the school. -/
import Derived.Test.YtlcfldkmojpkpaaGreatDoorZ0
import Derived.Test.YtlcfldkmojpkpaaGreatDoorZ1
import Derived.Test.YtlcfldkmojpkpaaGreatDoorZ2
import Derived.Test.YtlcfldkmojpkpaaGreatDoorV
import Derived.Test.YtlcfldkmojpkpaaGreatDoorE
import Derived.Test.YtlcfldkmojpkpaaGreatDoorS1
namespace Go.Proofs.YtlcfldkmojpkpaaGreatDoor
open Go.RowKit Go.Shelf
attribute [local go_sem] Oper.semAt_some

theorem ql_scale {t : Int} (t0 : 0 < t) (t1 : t < 1000000000) : 1 ≤ 1000000000 / (t + 1) ∧ 1000000000 / (t + 1) ≤ 500000000 := by
  constructor
  · exact (Int.le_ediv_iff_mul_le (by omega)).2 (by omega)
  · have := Int.ediv_lt_of_lt_mul (a := 1000000000) (b := 500000001) (c := t + 1) (by omega) (by omega)
    omega

theorem own_at {w : World} {base g cap : Nat} {xs : List Int} (h : w.ownsRow base 88 1 (.slice (some ⟨g, 0, none⟩) xs.length cap) xs.length (xs.map (Value.int .u32))) : At w g 0 xs := by
  intro j hj
  have := h.cells (g := g) rfl j (.int .u32 (xs[j]?.getD 0)) (by simp [hj])
  rw [Addr.add_lit] at this
  exact this

theorem own_form {w : World} {base m : Nat} {v : Value} {xs : List Int} (h : w.ownsRow base 88 1 v xs.length (xs.map (Value.int .u32))) (hl : xs.length = m + 1) : ∃ g cap, v = .slice (some ⟨g, 0, none⟩) (m + 1) cap ∧ base ≤ g ∧ g < w.heap.size ∧ m + 1 ≤ cap ∧ At w g 0 xs ∧ ∀ j, w.frozen? ⟨g, j, none⟩ = false := by
  rcases h.2 with ⟨rfl, h0⟩ | ⟨g, cap, cur, rfl, hb, hg, hn, _⟩
  · omega
  · exact ⟨g, cap, by rw [hl], hb, (Array.getElem?_eq_some_iff.1 hg).1, by omega, (own_at h), fun j => h.frozenAt _⟩

/-- What stands in memory while the digits are made. -/
structure QW (yB rB bB oB g1 g2 oC : Nat) (yv rv bv ov : Value) (BS R O : List Int) (W : World) : Prop where
  cy : W.cell? ⟨yB, 0, none⟩ = some yv
  cr : W.cell? ⟨rB, 0, none⟩ = some rv
  cb : W.cell? ⟨bB, 0, none⟩ = some bv
  co : W.cell? ⟨oB, 0, none⟩ = some ov
  aR : At W g1 0 R
  fR : ∀ j, j < R.length → W.frozen? ⟨g1, j, none⟩ = false
  aO : At W oC 0 O
  fO : ∀ j, j < O.length → W.frozen? ⟨oC, j, none⟩ = false
  aB : At W g2 0 BS
theorem At.c0 {w : World} {b : Nat} {xs : List Int} (h : At w b 0 xs) {j : Nat} (hj : j < xs.length) : w.cell? ⟨b, j, none⟩ = some (.int .u32 (xs[j]?.getD 0)) := by
  have := h j hj
  rwa [Nat.zero_add] at this
theorem QW.kept {yB rB bB oB g1 g2 oC : Nat} {yv rv bv ov : Value} {BS R O : List Int} {W W' : World} (h : QW yB rB bB oB g1 g2 oC yv rv bv ov BS R O W) {row : Option Nat} (hg : W.grownBy W' row) (hr : ∀ r, row = some r → ∃ o : Obj, W.heap[r]? = some o ∧ o.isCells = false) : QW yB rB bB oB g1 g2 oC yv rv bv ov BS R O W' :=
  ⟨cell_kept h.cy hg hr, cell_kept h.cr hg hr, cell_kept h.cb hg hr, cell_kept h.co hg hr, fun j hj => cell_kept (h.aR j hj) hg hr, fun j hj => (frozen_kept (h.aR.c0 hj) hg hr).trans (h.fR j hj), fun j hj => cell_kept (h.aO j hj) hg hr, fun j hj => (frozen_kept (h.aO.c0 hj) hg hr).trans (h.fO j hj), fun j hj => cell_kept (h.aB j hj) hg hr⟩
theorem QW.below {yB rB bB oB g1 g2 oC : Nat} {yv rv bv ov : Value} {BS R O : List Int} {W W' : World} (h : QW yB rB bB oB g1 g2 oC yv rv bv ov BS R O W) (hb : Below W.heap.size W W') : QW yB rB bB oB g1 g2 oC yv rv bv ov BS R O W' :=
  ⟨(hb.cell (cell_lt' h.cy)).trans h.cy, (hb.cell (cell_lt' h.cr)).trans h.cr, (hb.cell (cell_lt' h.cb)).trans h.cb, (hb.cell (cell_lt' h.co)).trans h.co, fun j hj => (hb.cell (cell_lt' (h.aR j hj))).trans (h.aR j hj), fun j hj => (hb.frozen (cell_lt' (h.aR.c0 hj))).trans (h.fR j hj), fun j hj => (hb.cell (cell_lt' (h.aO j hj))).trans (h.aO j hj), fun j hj => (hb.frozen (cell_lt' (h.aO.c0 hj))).trans (h.fO j hj), fun j hj => (hb.cell (cell_lt' (h.aB j hj))).trans (h.aB j hj)⟩
theorem frozen_in {b off n : Nat} {w w' : World} (h : InBlk b off n w w') {p : Addr} (hp : p.block ≠ b) : w'.frozen? p = w.frozen? p := World.frozen?_of_block (w := w) (h.block p.block hp)
theorem At.splice {W W' : World} {g i m : Nat} {R zs : List Int} (h : At W g 0 R) (hin : InBlk g i (m + 1) W W') (hz : At W' g i zs) (hzl : zs.length = m + 1) (hl : i + m + 1 ≤ R.length) : At W' g 0 (R.take i ++ (zs ++ R.drop (i + m + 1))) := by
  intro j hj
  have hjl : j < R.length := by simp at hj; omega
  rw [Nat.zero_add]
  have hti : (R.take i).length = i := by simp; omega
  by_cases h1 : j < i
  · rw [hin.out j (.inl h1), h.c0 hjl, List.getElem?_append_left (by omega), List.getElem?_take, if_pos h1]
  · rw [List.getElem?_append_right (by omega), hti]
    by_cases h2 : j < i + (m + 1)
    · have := hz (j - i) (by omega)
      rw [show i + (j - i) = j by omega] at this
      rw [this, List.getElem?_append_left (by omega)]
    · rw [hin.out j (.inr (by omega)), h.c0 hjl, List.getElem?_append_right (by omega), List.getElem?_drop, hzl]
      congr 4
      omega
theorem At.part {W : World} {g i m : Nat} {R : List Int} (h : At W g 0 R) (hl : i + m + 1 ≤ R.length) : At W g i ((R.drop i).take (m + 1)) := by
  intro j hj
  have hj2 : j < m + 1 := by simp at hj; omega
  rw [h.c0 (by omega), List.getElem?_take, if_pos hj2, List.getElem?_drop]
theorem QW.part {yB rB bB oB g1 g2 oC i m : Nat} {yv rv bv ov : Value} {BS R O zs : List Int} {W W' : World} (h : QW yB rB bB oB g1 g2 oC yv rv bv ov BS R O W) (hin : InBlk g1 i (m + 1) W W') (hz : At W' g1 i zs) (hzl : zs.length = m + 1) (hl : i + m + 1 ≤ R.length) (n1 : yB ≠ g1) (n2 : rB ≠ g1) (n3 : bB ≠ g1) (n4 : oB ≠ g1) (n5 : oC ≠ g1) (n6 : g2 ≠ g1) : QW yB rB bB oB g1 g2 oC yv rv bv ov BS (R.take i ++ (zs ++ R.drop (i + m + 1))) O W' :=
  ⟨(hin.cell (p := ⟨yB, 0, none⟩) n1).trans h.cy, (hin.cell (p := ⟨rB, 0, none⟩) n2).trans h.cr, (hin.cell (p := ⟨bB, 0, none⟩) n3).trans h.cb, (hin.cell (p := ⟨oB, 0, none⟩) n4).trans h.co, h.aR.splice hin hz hzl hl, fun j hj => (hin.frozen j).trans (h.fR j (by simp at hj; omega)), fun j hj => (hin.cell (p := ⟨oC, 0 + j, none⟩) n5).trans (h.aO j hj), fun j hj => (frozen_in hin (p := ⟨oC, j, none⟩) n5).trans (h.fO j hj), fun j hj => (hin.cell (p := ⟨g2, 0 + j, none⟩) n6).trans (h.aB j hj)⟩
theorem QW.out {yB rB bB oB g1 g2 oC i : Nat} {yv rv bv ov : Value} {BS R O : List Int} {W : World} (h : QW yB rB bB oB g1 g2 oC yv rv bv ov BS R O W) (hi : i < O.length) (d : Int) (n1 : yB ≠ oC) (n2 : rB ≠ oC) (n3 : bB ≠ oC) (n4 : oB ≠ oC) (n5 : g1 ≠ oC) (n6 : g2 ≠ oC) : QW yB rB bB oB g1 g2 oC yv rv bv ov BS R (O.set i d) (W.setCell ⟨oC, i, none⟩ (.int .u32 d)) :=
  ⟨(World.cell?_setCell_other _ _ _ _ (by intro e; injection e with e1; exact n1 e1.symm)).trans h.cy, (World.cell?_setCell_other _ _ _ _ (by intro e; injection e with e1; exact n2 e1.symm)).trans h.cr, (World.cell?_setCell_other _ _ _ _ (by intro e; injection e with e1; exact n3 e1.symm)).trans h.cb, (World.cell?_setCell_other _ _ _ _ (by intro e; injection e with e1; exact n4 e1.symm)).trans h.co,
    h.aR.other (p := ⟨oC, i, none⟩) (fun e => n5 e.symm) _, fun j hj => (World.frozen?_setCell _ _ _ _).trans (h.fR j hj), h.aO.setAt hi d, fun j hj => (World.frozen?_setCell _ _ _ _).trans (h.fO j (by simpa using hj)), h.aB.other (p := ⟨oC, i, none⟩) (fun e => n6 e.symm) _⟩

theorem ko_below {W W' : World} (h : Below W.heap.size W W') : KeepsOthers W W' := ⟨h.size, fun k _ hk _ => (h.block k (Array.getElem?_eq_some_iff.1 hk).1).trans hk⟩
theorem kf_in {B b off n : Nat} {W W' : World} (h : InBlk b off n W W') (hb : b < B) : KeepsFrom B W W' := ⟨Nat.le_of_eq h.size.symm, fun k _ hB hk _ => (h.block k (by omega)).trans hk⟩

set_option maxRecDepth 100000 in
set_option maxHeartbeats 16000000 in
theorem quoLong_any : QuoLongSaid := by
  intro vx vy xs ys w hmx hmy hdx hdy hnx hny hlx hy2 hle
  obtain ⟨ay, cy, rfl, hcy, hay⟩ := id hmy
  have hne : ys ≠ [] := by intro e; subst e; simp at hy2
  obtain ⟨yb, yo, rfl, hyb, hyat⟩ := hay hne
  obtain ⟨ax, cx, rfl, hcx, hax⟩ := id hmx
  have hlen : ys.length ≤ xs.length := by
    apply Nat.le_of_not_lt
    intro h
    have := val_lt_of_len hdx hdy hny h
    omega
  obtain ⟨t, ht, t0, t1⟩ := hdy.get (ys.length - 1)
  have hct := hyat (ys.length - 1) (by omega)
  rw [ht] at hct
  have hin1 : (ys.length : Int) - 1 = ((ys.length - 1 : Nat) : Int) := by omega
  have hs0 : (t + 1 == 0) = false := by simp; omega
  have hs1 : ¬ t + 1 = 0 := by omega
  have htp : 0 < t := by
    have h1 := hny hne
    have h2 : ys[ys.length - 1]?.getD 0 = ys.getLast hne := by
      rw [List.getElem?_eq_getElem (by omega), List.getLast_eq_getElem]; rfl
    rw [h2] at ht
    omega
  obtain ⟨s, hs⟩ : ∃ s, s = 1000000000 / (t + 1) := ⟨_, rfl⟩
  have hsd : (1000000000 : Int).tdiv (t + 1) = s := by rw [Int.tdiv_eq_ediv_of_nonneg (by omega), hs]
  have hsp := ql_scale htp t1
  rw [← hs] at hsp
  obtain ⟨s0, s1⟩ := hsp
  have hsw : IntKind.u32.wrap s = s := by rw [IntKind.wrap_u32]; omega
  have HT := hide ht
  have HS := hide hs
  clear ht hs
  refine (callsIn_wide (n := 10)).1 ?_
  refine callsIn_of_wp_marks Tryz.func107 rfl trivial ?_ rfl
  simp only [Tryz.ntmps107, List.size_toArray, List.length_cons, List.length_nil, Nat.reduceAdd, Nat.reduceSub, Array.replicate_succ, Array.replicate_zero, List.push_toArray, List.append_toArray, List.nil_append, List.cons_append]
  gi_wp2_with fail
  have hB0 : Below w.heap.size w (w.alloc (Obj.cells #[.slice (some ⟨yb, yo, none⟩) ys.length cy] 24)) := (Below.refl _ w).alloc (Nat.le_refl _) _
  have bY := Boxed.new w 24 (.slice (some ⟨yb, yo, none⟩) ys.length cy)
  have hZ0 : (w.alloc (Obj.cells #[.slice (some ⟨yb, yo, none⟩) ys.length cy] 24)).heap.size = w.heap.size + 1 := World.size_alloc _ _
  generalize (w.alloc (Obj.cells #[.slice (some ⟨yb, yo, none⟩) ys.length cy] 24)) = W0 at *
  refine ⟨trivial, (callsIn_wide.2 (scaleMag_any _ xs s _ (hmx.below hB0) hdx hlx (by omega) (by omega))).mono ?_⟩
  rintro e w1 ⟨v1, R0, rfl, hb1, hown1, hdR, hvR, hlR⟩
  obtain ⟨g1, c1, rfl, hg1, hg1l, hn1, hat1, hfz1⟩ := own_form hown1 hlR
  have bY1 : w1.cell? ⟨w.heap.size, 0, none⟩ = some (.slice (some ⟨yb, yo, none⟩) ys.length cy) := (hb1.cell (p := ⟨w.heap.size, 0, none⟩) (by rw [hZ0]; exact Nat.lt_succ_self _)).trans bY.cell
  have hB1 : Below w.heap.size w w1 := hB0.trans (hb1.mono (by omega))
  clear hown1 bY
  have HVR := hide hvR
  have HLR := hide hlR
  clear hvR hlR
  gi_wp2_with fail
  have hB1' : Below w.heap.size w (w1.alloc (Obj.cells #[.slice (some ⟨g1, 0, none⟩) (xs.length + 1) c1] 24)) := hB1.alloc hB1.size _
  have bR := Boxed.new w1 24 (.slice (some ⟨g1, 0, none⟩) (xs.length + 1) c1)
  have hZ1 : (w1.alloc (Obj.cells #[.slice (some ⟨g1, 0, none⟩) (xs.length + 1) c1] 24)).heap.size = w1.heap.size + 1 := World.size_alloc _ _
  have bY2 : (w1.alloc (Obj.cells #[.slice (some ⟨g1, 0, none⟩) (xs.length + 1) c1] 24)).cell? ⟨w.heap.size, 0, none⟩ = some (.slice (some ⟨yb, yo, none⟩) ys.length cy) := by
    rw [World.cell?_alloc_past _ _ _ (by have := hB1.size; have := hb1.size; simp; omega)]; exact bY1
  have hat2 : At (w1.alloc (Obj.cells #[.slice (some ⟨g1, 0, none⟩) (xs.length + 1) c1] 24)) g1 0 R0 := fun j hj => by
    rw [World.cell?_alloc_past _ _ _ (by simpa using hg1l)]; exact hat1 j hj
  have hfz2 : ∀ j, (w1.alloc (Obj.cells #[.slice (some ⟨g1, 0, none⟩) (xs.length + 1) c1] 24)).frozen? ⟨g1, j, none⟩ = false := fun j => by
    rw [World.frozen?_alloc_past _ _ _ (by simpa using hg1l)]; exact hfz1 j
  have hs1 := hb1.size
  clear hat1 hfz1 bY1 hB1 hb1 hB0
  generalize hX : (w1.alloc (Obj.cells #[.slice (some ⟨g1, 0, none⟩) (xs.length + 1) c1] 24)) = X at *
  clear hX
  have hwX : w.heap.size < X.heap.size := by omega
  have HZ1 := hide hZ1
  clear hZ1
  refine wpIn_mono (Q := nrm (fun a' W' => ∃ bB g2 c2 bs, a' = { tmps := #[.slice ax xs.length cx, .slice (some ⟨yb, yo, none⟩) ys.length cy, undef, .pointer (some ⟨w.heap.size, 0, none⟩), .slice none 0 0, .slice none 0 0, .int .u32 s, .pointer (some ⟨w1.heap.size, 0, none⟩), .pointer (some ⟨bB, 0, none⟩), undef, undef, undef, undef, .slice (some ⟨yb, yo, none⟩) ys.length cy, .slice (some ⟨yb, yo, none⟩) ys.length cy, .int .i64 ys.length, .int .i64 ((ys.length - 1 : Nat) : Int), .pointer (some ⟨yb, yo + (ys.length - 1), none⟩), .int .u32 t, .int .u32 (t + 1), .int .u32 s, .slice ax xs.length cx, .int .u32 s, .slice (some ⟨g1, 0, none⟩) (xs.length + 1) c1, .slice (some ⟨yb, yo, none⟩) ys.length cy, .int .u32 s, .slice (some ⟨g2, 0, none⟩) (ys.length + 1) c2, .slice (some ⟨yb, yo, none⟩) ys.length cy, .int .i64 ys.length, .slice (some ⟨g2, 0, none⟩) ys.length c2, undef, undef, undef, undef, undef, undef, undef, undef, undef, undef, undef, undef, undef, undef, undef, undef, undef, undef, undef, undef, undef, undef, undef, undef, undef, undef, undef, undef, undef, undef, undef, undef, undef, undef, undef, undef, undef, undef, undef, undef, undef, undef, undef, undef, undef, undef], defers := [] } ∧ Below X.heap.size X W' ∧ W'.cell? ⟨bB, 0, none⟩ = some (.slice (some ⟨g2, 0, none⟩) ys.length c2) ∧ At W' g2 0 bs ∧ Dig bs ∧ val bs = s * val ys ∧ bs.length = ys.length + 1 ∧ X.heap.size ≤ bB ∧ X.heap.size ≤ g2 ∧ bB ≠ g2 ∧ bB < W'.heap.size ∧ g2 < W'.heap.size)) ?reg ?go
  case reg =>
    have hmX := hmy.below hB1'
    refine wpIn_wide.2 ?_
    have hmX2 : Mg (X.alloc (Obj.cells #[.slice none 0 0] 24)) (.slice (some ⟨yb, yo, none⟩) ys.length cy) ys := hmX.below ((Below.refl _ X).alloc (Nat.le_refl _) _)
    have bB := Boxed.new X 24 (.slice none 0 0)
    have hZ2 : (X.alloc (Obj.cells #[.slice none 0 0] 24)).heap.size = X.heap.size + 1 := World.size_alloc _ _
    have bY3 : (X.alloc (Obj.cells #[.slice none 0 0] 24)).cell? ⟨w.heap.size, 0, none⟩ = some (.slice (some ⟨yb, yo, none⟩) ys.length cy) := by
      rw [World.cell?_alloc_past _ _ _ (by simpa using hwX)]; exact bY2
    have hAB : Below X.heap.size X (X.alloc (Obj.cells #[.slice none 0 0] 24)) := (Below.refl _ X).alloc (Nat.le_refl _) _
    go_region_with (first
      | (go_at_call 114; refine (scaleMag_any _ ys s _ ?_ hdy (by omega) (by omega) (by omega)).mono ?_; exact hmX.below (Below.refl _ _).drew; rintro e w2 ⟨v2, bs, rfl, hb2, hown2, hdb, hvb, hlb⟩; obtain ⟨g2, c2, rfl, hg2, hg2l, hn2, hat2b, _⟩ := own_form hown2 hlb; have HVB := hide hvb; have HLB := hide hlb; clear hvb hlb hown2; have hX2 : X.heap.size ≤ w2.heap.size := hb2.size; have hw2 : w.heap.size < w2.heap.size := Nat.lt_of_lt_of_le hwX hX2; have kY := (hb2.cell (p := ⟨w.heap.size, 0, none⟩) hwX).trans bY2; have hc2 : ys.length ≤ c2 := (by omega); have hQ : Below X.heap.size X w2 := (⟨hb2.os, hb2.tape, hb2.output, hb2.size, hb2.block⟩ : Below X.heap.size X w2))
      | (go_at_call 114; refine (scaleMag_any _ ys s _ ?_ hdy (by omega) (by omega) (by omega)).mono ?_; exact hmX2.below (Below.refl _ _).drew; rintro e w2 ⟨v2, bs, rfl, hb2, hown2, hdb, hvb, hlb⟩; obtain ⟨g2, c2, rfl, hg2, hg2l, hn2, hat2b, _⟩ := own_form hown2 hlb; have HVB := hide hvb; have HLB := hide hlb; clear hvb hlb hown2; have hX3 : X.heap.size + 1 ≤ w2.heap.size := (by have h := hb2.size; rwa [World.size_drew, hZ2] at h); have kZ : X.heap.size < w2.heap.size := hX3; have hw2 : w.heap.size < w2.heap.size := Nat.lt_trans hwX kZ; have kY := (hb2.cell (p := ⟨w.heap.size, 0, none⟩) (by rw [World.size_drew, hZ2]; exact Nat.lt_succ_of_lt hwX)).trans bY3; have hc2 : ys.length ≤ c2 := (by omega); have kB := (hb2.cell (p := ⟨X.heap.size, 0, none⟩) (by rw [World.size_drew, hZ2]; exact Nat.lt_succ_self _)).trans bB.cell; have kF := (hb2.frozen (p := ⟨X.heap.size, 0, none⟩) (by rw [World.size_drew, hZ2]; exact Nat.lt_succ_self _)).trans bB.frozen; have hg3 : X.heap.size + 1 ≤ g2 := (by rw [World.size_drew, hZ2] at hg2; exact hg2); have hQ : Below X.heap.size X w2 := hAB.trans ((⟨hb2.os, hb2.tape, hb2.output, hb2.size, hb2.block⟩ : Below (X.alloc (Obj.cells #[.slice none 0 0] 24)).heap.size (X.alloc (Obj.cells #[.slice none 0 0] 24)) w2).mono (by rw [hZ2]; exact Nat.le_succ _))))
    all_goals first
      | exact nrm_mk ⟨_, g2, c2, bs, rfl, (hQ.alloc hX2 _), (Boxed.new w2 24 _).cell, (fun j hj => by rw [World.cell?_alloc_past _ _ _ (by simpa using hg2l)]; exact hat2b j hj), hdb, unhide HVB, unhide HLB, hX2, hg2, Nat.ne_of_gt hg2l, by simp, by simp; omega⟩
      | exact nrm_mk ⟨_, g2, c2, bs, rfl, (hQ.setCell (p := ⟨X.heap.size, 0, none⟩) (Nat.le_refl _) _), World.cell?_setCell_same _ _ _ kB, (fun j hj => by rw [World.cell?_setCell_other _ _ _ _ (by intro h'; injection h' with h1; omega)]; exact hat2b j hj), hdb, unhide HVB, unhide HLB, Nat.le_refl _, by omega, by omega, by simpa using kZ, by simpa using hg2l⟩
  case go =>
    intro e a' W2 h9
    obtain ⟨rfl, h9⟩ := nrm_out h9
    obtain ⟨bB, g2, c2, bs, rfl, hbX, kB, hatB, hdb, hvb, hlb, hXb, hXg, hbg, hbl, hgl⟩ := h9
    have hg1X : g1 < X.heap.size := by rw [unhide HZ1]; omega
    have hrX : w1.heap.size < X.heap.size := by rw [unhide HZ1]; omega
    have hat3 : At W2 g1 0 R0 := fun j hj => (hbX.cell (p := ⟨g1, 0 + j, none⟩) hg1X).trans (hat2 j hj)
    have hfz3 : ∀ j, W2.frozen? ⟨g1, j, none⟩ = false := fun j => (hbX.frozen (p := ⟨g1, j, none⟩) hg1X).trans (hfz2 j)
    have kY := (hbX.cell (p := ⟨w.heap.size, 0, none⟩) hwX).trans bY2
    have kR := (hbX.cell (p := ⟨w1.heap.size, 0, none⟩) hrX).trans bR.cell
    obtain ⟨by1, by2, by3⟩ := ql_by hdy rfl (by omega) (unhide HT) htp (unhide HS) (by omega) hdb hlb hvb
    have hBdig : Dig (bs.take ys.length) := hdb.take _
    have hBlen : (bs.take ys.length).length = ys.length := by simp; omega
    have hBtop := ql_top hBdig hBlen (by omega) t0 t1 (unhide HS) by3 by1 htp
    have hatB' : At W2 g2 0 (bs.take ys.length) := fun j hj => by
      have hj2 : j < ys.length := by omega
      rw [hatB j (by omega), List.getElem?_take, if_pos hj2]
    have hBel : Below w.heap.size w W2 := hB1'.trans (hbX.mono (Nat.le_of_lt hwX))
    generalize hBS : bs.take ys.length = BS at *
    obtain ⟨b1, hb1e⟩ : ∃ b1, BS[ys.length - 1]?.getD 0 = b1 := ⟨_, rfl⟩
    rw [hb1e] at hBtop
    have HVB := hide by1
    have HVL := hide by2
    have HB1 := hide hb1e
    have HBL := hide hBlen
    have hord : w.heap.size < g1 ∧ g1 < w1.heap.size ∧ w1.heap.size < X.heap.size ∧ X.heap.size ≤ bB ∧ X.heap.size ≤ g2 ∧ bB ≠ g2 ∧ bB < W2.heap.size ∧ g2 < W2.heap.size := ⟨by omega, hg1l, hrX, hXb, hXg, hbg, hbl, hgl⟩
    clear hatB hdb hvb hlb by1 by2 by3 hb1e hBS hBlen bY2 hat2 hfz2 hbX hB1' bR
    obtain ⟨n, hn⟩ : ∃ n, n = xs.length - ys.length + 1 := ⟨_, rfl⟩
    have hin3 : (xs.length : Int) - (ys.length : Int) + 1 = (n : Int) := by omega
    have hn0 : 0 < n := by omega
    have hn1' : n ≤ 100000 := by omega
    have HNN := hide hn
    clear hn
    have hmk := mk32 n W2 (by omega)
    gi_wp2_with fail
    refine ⟨trivial, (callsIn_wide.2 (back_any _ _ _ _)).mono ?_⟩
    rintro e w' ⟨rfl, rfl⟩
    have hmkA := at_made W2 n
    have hmkF : ∀ o, (W2.alloc (Obj.cells (madeCells #[.int .u32 0] n) 88)).frozen? ⟨W2.heap.size, o, none⟩ = false := fun o => World.frozen?_alloc_at _ _ _ _ (by simp)
    have bO := Boxed.new (W2.alloc (Obj.cells (madeCells #[.int .u32 0] n) 88)) 24 (.slice (some ⟨W2.heap.size, 0, none⟩) n n)
    have bN := Boxed.new ((W2.alloc (Obj.cells (madeCells #[.int .u32 0] n) 88)).alloc (Obj.cells #[.slice (some ⟨W2.heap.size, 0, none⟩) n n] 24)) 24 (.slice (some ⟨W2.heap.size, 0, none⟩) n n)
    simp only [World.size_alloc] at bO bN
    obtain ⟨o1, o2, o3, o4, o5, o6, o7, o8⟩ := hord
    have past : ∀ {b o : Nat}, b < W2.heap.size → (((W2.alloc (Obj.cells (madeCells #[.int .u32 0] n) 88)).alloc (Obj.cells #[.slice (some ⟨W2.heap.size, 0, none⟩) n n] 24)).alloc (Obj.cells #[.slice (some ⟨W2.heap.size, 0, none⟩) n n] 24)).cell? ⟨b, o, none⟩ = W2.cell? ⟨b, o, none⟩ := fun {b o} h => by
      rw [World.cell?_alloc_past _ _ _ (by simp; omega), World.cell?_alloc_past _ _ _ (by simp; omega), World.cell?_alloc_past _ _ _ h]
    have pastF : ∀ {b o : Nat}, b < W2.heap.size → (((W2.alloc (Obj.cells (madeCells #[.int .u32 0] n) 88)).alloc (Obj.cells #[.slice (some ⟨W2.heap.size, 0, none⟩) n n] 24)).alloc (Obj.cells #[.slice (some ⟨W2.heap.size, 0, none⟩) n n] 24)).frozen? ⟨b, o, none⟩ = W2.frozen? ⟨b, o, none⟩ := fun {b o} h => by
      rw [World.frozen?_alloc_past _ _ _ (by simp; omega), World.frozen?_alloc_past _ _ _ (by simp; omega), World.frozen?_alloc_past _ _ _ h]
    have hQ0 : QW w.heap.size w1.heap.size bB (W2.heap.size + 1) g1 g2 W2.heap.size (.slice (some ⟨yb, yo, none⟩) ys.length cy) (.slice (some ⟨g1, 0, none⟩) (xs.length + 1) c1) (.slice (some ⟨g2, 0, none⟩) ys.length c2) (.slice (some ⟨W2.heap.size, 0, none⟩) n n) BS R0 (List.replicate n 0) (((W2.alloc (Obj.cells (madeCells #[.int .u32 0] n) 88)).alloc (Obj.cells #[.slice (some ⟨W2.heap.size, 0, none⟩) n n] 24)).alloc (Obj.cells #[.slice (some ⟨W2.heap.size, 0, none⟩) n n] 24)) :=
      ⟨(past (by omega)).trans kY, (past (by omega)).trans kR, (past (by omega)).trans kB, (bO.alloc _).cell, fun j hj => (past (by omega)).trans (hat3 j hj), fun j hj => (pastF (by omega)).trans (hfz3 j), fun j hj => by
        rw [World.cell?_alloc_past _ _ _ (by simp <;> omega), World.cell?_alloc_past _ _ _ (by simp <;> omega)]; exact hmkA j hj, fun j hj => by
        rw [World.frozen?_alloc_past _ _ _ (by simp <;> omega), World.frozen?_alloc_past _ _ _ (by simp <;> omega)]; exact hmkF j, fun j hj => (past (by omega)).trans (hatB' j hj)⟩
    have hB3 : Below w.heap.size w (((W2.alloc (Obj.cells (madeCells #[.int .u32 0] n) 88)).alloc (Obj.cells #[.slice (some ⟨W2.heap.size, 0, none⟩) n n] 24)).alloc (Obj.cells #[.slice (some ⟨W2.heap.size, 0, none⟩) n n] 24)) :=
      ((hBel.alloc hBel.size _).alloc (by have := hBel.size; simp; omega) _).alloc (by have := hBel.size; simp; omega) _
    have hS0 : Hid (val R0 < (s * val ys) * pw n ∧ val R0 + (s * val ys) * (pw n * val ([] : List Int)) = s * val xs) := by
      show _ ∧ _
      rw [unhide HVR]
      refine ⟨?_, by simp [val]⟩
      rw [unhide HNN]
      exact ql_start hdx hdy hny hne hlen (by omega)
    clear hmkA hmkF past pastF hmk kY kR kB hat3 hfz3 hatB'
    gi_wp2
    refine wpIn_rangeFunc_ownG rfl (by decide) (gf := 100) (lb := #[.pointer (some ⟨W2.heap.size + 1 + 1, 0, none⟩)]) rfl trivial (enters_of Tryz.func100 (by kernel_rfl) rfl)
      (backo_stops (W2.heap.size + 1 + 1) W2.heap.size n n (by omega) (Nat.le_refl _) _ (by simp) (by simp; omega) (List.replicate n 0) (by simp) bN.cell hQ0.aO) kpO_t (kpO_b (by simp) (by simp; omega)) (Below.refl _ _) (fun _ => rfl)
      (fun pre W => (∃ R O : List Int, QW w.heap.size w1.heap.size bB (W2.heap.size + 1) g1 g2 W2.heap.size (.slice (some ⟨yb, yo, none⟩) ys.length cy) (.slice (some ⟨g1, 0, none⟩) (xs.length + 1) c1) (.slice (some ⟨g2, 0, none⟩) ys.length c2) (.slice (some ⟨W2.heap.size, 0, none⟩) n n) BS R O W ∧ R.length = xs.length + 1 ∧ O.length = n ∧ Dig R ∧ W2.heap.size + 1 + 1 < W.heap.size ∧ (pre.map Prod.fst = (dn n).take pre.length → pre.length ≤ n → ∃ Q : List Int, O = List.replicate (n - pre.length) 0 ++ Q ∧ Dig Q ∧ val R < (s * val ys) * pw (n - pre.length) ∧ val R + (s * val ys) * (pw (n - pre.length) * val Q) = s * val xs)) ∧ Below w.heap.size w W)
      (fun _ _ _ => False)
      (OwnFrom.and (Own.from (fun s A B row hs hg hr => by obtain ⟨R, O, q0, q1, q2, q3, q4, q5⟩ := hs; exact ⟨R, O, q0.kept hg hr, q1, q2, q3, Nat.lt_of_lt_of_le q4 hg.size, q5⟩) _) (ownFrom_below (Nat.le_refl _) (by simp; omega)))
      (fun _ _ _ _ _ hs _ _ => hs)
      ⟨⟨R0, List.replicate n 0, hQ0, unhide HLR, by simp, hdR, by simp, fun _ _ => ⟨[], by simp, Dig.nil, (unhide hS0).1, (unhide hS0).2⟩⟩, hB3⟩
      (fun x => { tmps := #[.slice ax xs.length cx, .slice (some ⟨yb, yo, none⟩) ys.length cy, undef, .pointer (some ⟨w.heap.size, 0, none⟩), .slice none 0 0, .slice none 0 0, .int .u32 s, .pointer (some ⟨w1.heap.size, 0, none⟩), .pointer (some ⟨bB, 0, none⟩), .pointer (some ⟨W2.heap.size + 1, 0, none⟩), .int .i64 (x.1.1 : Int), undef, undef, .slice (some ⟨yb, yo, none⟩) ys.length cy, .slice (some ⟨yb, yo, none⟩) ys.length cy, .int .i64 ys.length, .int .i64 ((ys.length - 1 : Nat) : Int), .pointer (some ⟨yb, yo + (ys.length - 1), none⟩), .int .u32 t, .int .u32 (t + 1), .int .u32 s, .slice ax xs.length cx, .int .u32 s, .slice (some ⟨g1, 0, none⟩) (xs.length + 1) c1, .slice (some ⟨yb, yo, none⟩) ys.length cy, .int .u32 s, .slice (some ⟨g2, 0, none⟩) (ys.length + 1) c2, .slice (some ⟨yb, yo, none⟩) ys.length cy, .int .i64 ys.length, .slice (some ⟨g2, 0, none⟩) ys.length c2, .slice ax xs.length cx, .int .i64 xs.length, .slice (some ⟨yb, yo, none⟩) ys.length cy, .int .i64 ys.length, .int .i64 ((xs.length : Int) - (ys.length : Int)), .int .i64 n, .slice (some ⟨W2.heap.size, 0, none⟩) n n, .slice (some ⟨W2.heap.size, 0, none⟩) n n, .func (.func 100) #[] #[.pointer (some ⟨W2.heap.size + 1 + 1, 0, none⟩)], .int .i64 (x.1.1 : Int), .int .u32 x.2, undef, undef, undef, undef, undef, undef, undef, undef, undef, undef, undef, undef, undef, undef, undef, undef, undef, undef, undef, undef, undef, undef, undef, undef, undef, undef, undef, undef, undef, undef, undef, undef, undef, undef, undef], defers := [] }) ?assign ?body ?done ?stop
    case assign =>
      intro l x W K hK
      gi_wp2
      exact hK
    case body =>
      rintro l pre x W ⟨⟨R, O, hQ, hRl, hOl, hRd, hsz, hstr⟩, hB⟩ _
      have hi := x.1.2
      have hcy := hQ.cy
      have hcr := hQ.cr
      have hcb := hQ.cb
      have hco := hQ.co
      generalize hxi : x.1.1 = i at *
      have hil : i + ys.length + 1 ≤ xs.length + 1 := by have := unhide HNN; omega
      have hic : i + ys.length + 1 ≤ c1 := by omega
      have hpl9 : i + ys.length + 1 - i = ys.length + 1 := by omega
      have hQa := hQ.aR.part (i := i) (m := ys.length) (by omega)
      have hPd : Dig ((R.drop i).take (ys.length + 1)) := (hRd.drop i).take _
      have hPl : ((R.drop i).take (ys.length + 1)).length = ys.length + 1 := by simp; omega
      have hQf : ∀ j, j < ys.length + 1 → W.frozen? ⟨g1, i + j, none⟩ = false := fun j hj => hQ.fR (i + j) (by omega)
      have hstep : Hid (∀ q zs, zs.length = ys.length + 1 → (pre.map Prod.fst = (dn n).take pre.length → pre.length < n → i = n - 1 - pre.length → val zs + q * (s * val ys) = val ((R.drop i).take (ys.length + 1)) ∧ val zs < s * val ys ∧ 0 ≤ q ∧ q < 1000000000 ) → ((pre ++ [x]).map Prod.fst = (dn n).take (pre ++ [x]).length → (pre ++ [x]).length ≤ n → ∃ Q : List Int, O.set i q = List.replicate (n - (pre ++ [x]).length) 0 ++ Q ∧ Dig Q ∧ val (R.take i ++ (zs ++ R.drop (i + ys.length + 1))) < (s * val ys) * pw (n - (pre ++ [x]).length) ∧ val (R.take i ++ (zs ++ R.drop (i + ys.length + 1))) + (s * val ys) * (pw (n - (pre ++ [x]).length) * val Q) = s * val xs)) := by
        intro q zs hzl hq hpre hle'
        rw [List.map_append, List.length_append] at hpre
        simp only [List.map_cons, List.map_nil, List.length_cons, List.length_nil, Nat.zero_add, List.length_append] at hpre hle' ⊢
        rw [dn_take_succ _ _ (by omega)] at hpre
        obtain ⟨hp1, hp2⟩ := List.append_inj' hpre rfl
        have hik : i = n - 1 - pre.length := by
          have := congrArg (fun l : List (Fin n) => l.map Fin.val) hp2
          simp at this
          omega
        obtain ⟨q1, q2, q3, q4⟩ := hq hp1 (by omega) hik
        obtain ⟨Q, e1, e2, e3, e4⟩ := hstr hp1 (by omega)
        have hk : n - pre.length = i + 1 := by omega
        have hk2 : n - (pre.length + 1) = i := by omega
        rw [hk] at e1 e3 e4
        rw [hk2]
        obtain ⟨r1, r2⟩ := ql_step hRd (by omega) (unhide HVL) e3 e4 hzl q1 q2
        refine ⟨q :: Q, ?_, ?_, r1, r2⟩
        · rw [e1, List.replicate_succ', List.append_assoc, List.set_append_right _ _ (by simp)]
          simp
        · intro y hy
          rcases List.mem_cons.1 hy with rfl | h
          · exact ⟨q3, q4⟩
          · exact e2 y h
      have hlt9 : Hid (pre.map Prod.fst = (dn n).take pre.length → pre.length < n → i = n - 1 - pre.length → val ((R.drop i).take (ys.length + 1)) < 1000000000 * (s * val ys)) := by
        intro hp1 hlt hik
        obtain ⟨Q, e1, e2, e3, e4⟩ := hstr hp1 (by omega)
        rw [show n - pre.length = i + 1 by omega] at e3
        exact (ql_zero hRd (by omega) (unhide HVL) e3).2
      have HRl := hide hRl
      have HOl := hide hOl
      clear hRl hOl
      generalize hPP : (R.drop i).take (ys.length + 1) = P at *
      gi_wp2_with fail
      refine ⟨trivial, (CallsIn.inRound l (callsIn_wide.2 (guess_any g1 i (c1 - i) g2 0 c2 ys.length P BS W (unhide HBL) hPl hy2 (by omega) hPd hBdig hQa hQ.aB b1 (unhide HB1) hBtop))).mono ?_⟩
      rintro e wA ⟨d, rfl, hbA, d0, d1, hG⟩
      have hQA := hQ.below hbA
      have hcyA := hQA.cy
      have hcrA := hQA.cr
      have hcbA := hQA.cb
      have hcoA := hQA.co
      have hQaA : At wA g1 i P := by rw [← hPP]; exact hQA.aR.part (by have := unhide HRl; omega)
      have hQfA : ∀ j, j < P.length → wA.frozen? ⟨g1, i + j, none⟩ = false := fun j hj => hQA.fR (i + j) (by have := unhide HRl; omega)
      have hyB : BS ≠ [] → ∃ yb' oy', (some ⟨g2, 0, none⟩ : Option Addr) = some ⟨yb', oy', none⟩ ∧ yb' ≠ g1 ∧ At wA yb' oy' BS := fun _ => ⟨g2, 0, rfl, by omega, hQA.aB⟩
      have HT9 := hide (takeAway_any g1 i (c1 - i) (some ⟨g2, 0, none⟩) c2 P BS d wA hPd hBdig (by omega) (by rw [unhide HBL, hPl]; omega) d0 (by omega) hQaA hQfA hyB)
      rw [hPl, unhide HBL] at HT9
      have HG := hide hG
      clear hG
      gi_wp2_with fail
      refine ⟨trivial, (CallsIn.inRound l (callsIn_wide.2 (unhide HT9))).mono ?_⟩
      rintro e wB ⟨zs, c, rfl, hin, hatz, hzl, hdz, c0, hv⟩
      have hQB := hQA.part hin hatz hzl (by have := unhide HRl; omega) (by omega) (by omega) (by omega) (by omega) (by omega) (by omega)
      have hcbB := hQB.cb
      have hcoB := hQB.co
      have HV := hide hv
      clear hv
      have hiO : i < O.length := by rw [unhide HOl]; exact hi
      by_cases hc : 0 < c
      · have hcd : decide (0 < c) = true := by simp [hc]
        have HP9 := hide (putBack_any g1 i (c1 - i) (some ⟨g2, 0, none⟩) c2 zs BS wB hdz hBdig (by omega) (by rw [unhide HBL, hzl]; omega) hatz (fun j hj => (hin.frozen _).trans (hQfA j (by omega))) (fun _ => ⟨g2, 0, rfl, by omega, hQB.aB⟩))
        rw [hzl, unhide HBL] at HP9
        have hd1 : 1 ≤ d := by
          have h1 := unhide HV
          have h2 := val_lt hdz
          have h3 := val_nonneg hPd
          rw [hzl] at h2
          by_cases hd : d = 0
          · subst hd
            have h4 := Int.mul_le_mul_of_nonneg_left (show (1 : Int) ≤ c by omega) (Int.le_of_lt (pw_pos (ys.length + 1)))
            simp at h1
            omega
          · omega
        have hwr : IntKind.u32.wrap (d - 1) = d - 1 := by rw [IntKind.wrap_u32]; omega
        gi_wp2_with fail
        refine ⟨trivial, (CallsIn.inRound l (callsIn_wide.2 (unhide HP9))).mono ?_⟩
        rintro e wC ⟨zs2, cc, rfl, hin2, hatz2, hzl2, hdz2, cc0, cc1, hv2⟩
        have hQC := hQA.part (hin.trans hin2) hatz2 hzl2 (by have := unhide HRl; omega) (by omega) (by omega) (by omega) (by omega) (by omega) (by omega)
        have hcoC := hQC.co
        have hoc := hQC.aO.c0 hiO
        have hof := hQC.fO i hiO
        have HV2 := hide hv2
        clear hv2
        gi_wp2
        refine ⟨?_, ?_, ⟨_, O.set i (d - 1), hQC.out hiO (d - 1) (by omega) (by omega) (by omega) (by omega) (by omega) (by omega), ?_, ?_, ?_, ?sz, ?_⟩, ?_⟩
        · exact (((ko_below hbA).from _).trans (kf_in (hin.trans hin2) (by simp; omega))).trans ((KeepsOthers.setCell _ _ _).from _)
        · refine ⟨?_, fun _ _ _ => ⟨_, by rw [List.length_set]; exact unhide HOl, (hQC.out hiO (d - 1) (by omega) (by omega) (by omega) (by omega) (by omega) (by omega)).aO⟩⟩
          rw [Below.heap_setCell _ _ _ _ (by simp <;> omega), (hin.trans hin2).block _ (by omega), hbA.block _ (by omega)]
        · have := unhide HRl
          simp; omega
        · rw [List.length_set]; exact unhide HOl
        · exact (hRd.take _).append (hdz2.append (hRd.drop _))
        case sz => have := hbA.size; simp; first | (rw [hin2.size, hin.size]; omega) | (rw [hin.size]; omega)
        · refine unhide hstep (d - 1) zs2 hzl2 fun hp1 hlt hik => ?_
          obtain ⟨G1, G2, G3⟩ := unhide HG (by rw [unhide HVB]; exact unhide hlt9 hp1 hlt hik)
          rw [unhide HVB] at G2
          have h1 := unhide HV
          have h2 := unhide HV2
          rw [unhide HVB] at h1 h2
          have h3 := val_lt hdz
          have h4 := val_lt hdz2
          rw [hzl] at h3
          rw [hzl2] at h4
          have hpp := pw_mono (show ys.length ≤ ys.length + 1 by omega)
          obtain ⟨k1, k2⟩ := ql_dig2 h1 hc h3 G2 h2 (val_nonneg hdz2) h4 (by have := unhide HVL; omega) (pw_pos _)
          exact ⟨k1, k2, by omega, by omega⟩
        · exact (((hB.trans (hbA.mono hB.size)).trans ((hin.trans hin2).below (by omega))).setCell (p := ⟨W2.heap.size, i, none⟩) (by simp; omega) _)
      · have hcd : decide (0 < c) = false := by simp; omega
        have hwr : IntKind.u32.wrap d = d := by rw [IntKind.wrap_u32]; omega
        have hoc := hQB.aO.c0 hiO
        have hof := hQB.fO i hiO
        gi_wp2
        refine ⟨?_, ?_, ⟨_, O.set i d, hQB.out hiO d (by omega) (by omega) (by omega) (by omega) (by omega) (by omega), ?_, ?_, ?_, ?sz, ?_⟩, ?_⟩
        · exact (((ko_below hbA).from _).trans (kf_in hin (by simp; omega))).trans ((KeepsOthers.setCell _ _ _).from _)
        · refine ⟨?_, fun _ _ _ => ⟨_, by rw [List.length_set]; exact unhide HOl, (hQB.out hiO d (by omega) (by omega) (by omega) (by omega) (by omega) (by omega)).aO⟩⟩
          rw [Below.heap_setCell _ _ _ _ (by simp <;> omega), hin.block _ (by omega), hbA.block _ (by omega)]
        · have := unhide HRl
          simp; omega
        · rw [List.length_set]; exact unhide HOl
        · exact (hRd.take _).append (hdz.append (hRd.drop _))
        case sz => have := hbA.size; simp; first | (rw [hin2.size, hin.size]; omega) | (rw [hin.size]; omega)
        · refine unhide hstep d zs hzl fun hp1 hlt hik => ?_
          obtain ⟨G1, G2, G3⟩ := unhide HG (by rw [unhide HVB]; exact unhide hlt9 hp1 hlt hik)
          rw [unhide HVB] at G3
          have h1 := unhide HV
          rw [unhide HVB] at h1
          obtain ⟨k1, k2⟩ := ql_dig1 h1 (by omega) G3
          exact ⟨k1, k2, d0, G1⟩
        · exact ((hB.trans (hbA.mono hB.size)).trans (hin.below (by omega))).setCell (p := ⟨W2.heap.size, i, none⟩) (by simp; omega) _
    case done =>
      rintro D ps' W hD hmap ⟨⟨R, O, hQ, hRl, hOl, hRd, hsz, hstr⟩, hB⟩ hK
      have hpl : ps'.length = n := by
        have := congrArg List.length hmap
        simpa [dn_length] using this
      obtain ⟨Q, e1, e2, e3, e4⟩ := hstr (by rw [hmap, List.take_of_length_le (by rw [dn_length]; omega)]) (by omega)
      rw [hpl, Nat.sub_self] at e1 e3 e4
      simp only [List.replicate_zero, List.nil_append] at e1
      subst e1
      have hmR : Mg W (.slice (some ⟨g1, 0, none⟩) (xs.length + 1) c1) R := by
        rw [← hRl]; exact hQ.aR.mg (by omega) (by omega)
      have hmO : Mg W (.slice (some ⟨W2.heap.size, 0, none⟩) n n) O := by
        have := hQ.aO.mg (cap := n) (by omega) (by omega)
        rwa [hOl] at this
      have hcr := hQ.cr
      have hco := hQ.co
      have hRl2 : R.length ≤ 20000 := by omega
      have hOl2 : O.length ≤ xs.length := by have := unhide HNN; omega
      have HE := hide (And.intro e3 e4)
      have HRl := hide hRl
      have HOl := hide hOl
      clear e3 e4 hstr hRl hOl hpl hmap
      gi_wp2_with fail
      refine ⟨trivial, (callsIn_wide.2 (trim_any _ R W hmR hRd (by omega))).mono ?_⟩
      rintro e w3 ⟨v3, R', rfl, rfl, m3, d3, n3, vv3, l3⟩
      obtain ⟨a3, c3, rfl, hc3, hat3⟩ := id m3
      have HV3 := hide vv3
      clear vv3
      gi_wp2_with fail
      refine ⟨trivial, (callsIn_wide.2 (quoDigit_any a3 c3 R' s w3 d3 (by omega) (by omega) (by omega) hat3)).mono ?_⟩
      rintro e w4 ⟨v4, zs, r, rfl, hb4, m4, d4, n4, vv4, r0, r1, l4⟩
      have hco4 := (hb4.cell (p := ⟨W2.heap.size + 1, 0, none⟩) (by show W2.heap.size + 1 < _; omega)).trans hco
      have HV4 := hide vv4
      clear vv4
      gi_wp2_with fail
      refine ⟨trivial, (callsIn_wide.2 (trim_any _ O w4 (hmO.below hb4) e2 (by omega))).mono ?_⟩
      rintro e w5 ⟨v5, Q', rfl, hw5, m5, d5, n5, vv5, l5⟩
      subst hw5
      have HV5 := hide vv5
      clear vv5
      have hK5 : w5.heap[D]? = some (.deferred (some [])) := (hb4.block D (Array.getElem?_eq_some_iff.1 hK).1).trans hK
      have hB5 : Below w.heap.size w w5 := hB.trans (hb4.mono hB.size)
      gi_wp2
      refine ⟨by simp, .inl ⟨_, _, rfl, run_takeDeferred hK5, ?_⟩⟩
      obtain ⟨f1, f2⟩ := unhide HE
      obtain ⟨k1, k2⟩ := ql_end (Q := val O) (z := val zs) (X := val xs) (Y := val ys) (s := s) (R := val R) (r := r) (by omega) (by have := f2; simp [pw] at this; exact this) (by have := f1; simp [pw] at this; exact this) (by rw [← unhide HV3]; exact unhide HV4) r0 r1
      refine ⟨_, results_tmp2 rfl _ _ _, v5, v4, Q', zs, rfl, hB5.trans (belowK_b (w := w) (Nat.le_refl _) w5 D _ _ (by have := hB5.size; simp at hD; omega) hK5 rfl rfl), m5.put (grownBy_putObj' _ D (.deferred none)) (fun r e => by cases e; exact ⟨_, hK5, rfl⟩), d5, n5, m4.put (grownBy_putObj' _ D (.deferred none)) (fun r e => by cases e; exact ⟨_, hK5, rfl⟩), d4, n4, by rw [unhide HV5]; exact k1, k2, by omega⟩
    case stop =>
      rintro D c pre W _ _ h _
      exact h.elim

end Go.Proofs.YtlcfldkmojpkpaaGreatDoor
