/- Package scope: a row of cells, copied into a block of its own. -/
import Derived.Test.YtljhpbjngbbjbaaDoorZAC
import Derived.Deep.RegionHeld3
set_option linter.unusedVariables false
set_option linter.unusedSimpArgs false

/- Package scope: what names stand for: numberOf, variable, cell, old. -/
namespace Go.Proofs.YtljhpbjngbbjbaaDoor
open Go Go.RowKit
theorem umI : Tryd.prog.underlying 59 = some (.map 9 3) := by kernel_rfl
theorem ukI : Tryd.prog.underlying 9 = some .string := by kernel_rfl
theorem zI (w : World) : (zeroValue 3).run Tryd.prog w = .ok (.int .i64 0) w := by go_simp
theorem asked {w : World} {m : Nat} {es : List (ByteArray × Int)} (h : NM w m (iM es)) (k : ByteArray) : (Instr.lookup 59 (.map (some m)) (.string k) true).run Tryd.prog w = .ok (.tuple #[.int .i64 ((lkI k es).getD 0), .bool (lkI k es).isSome]) w ∧ (Instr.lookup 59 (.map (some m)) (.string k) false).run Tryd.prog w = .ok (.int .i64 ((lkI k es).getD 0)) w := by
  have hl := nm_lookup (k := k) umI ukI (zI w) h
  rw [look_def, look_some] at hl
  exact hl
theorem updated {w : World} {m : Nat} {es : List (ByteArray × Int)} (h : NM w m (iM es)) (k : ByteArray) (v : Int) : ∃ W9, (Instr.mapUpdate 59 (.map (some m)) (.string k) (.int .i64 v)).run Tryd.prog w = .ok () W9 ∧ PutAt m w W9 ∧ NM W9 m (iM (ptI k v es)) := by
  obtain ⟨W9, h1, h2, h3⟩ := nm_update (P := Tryd.prog) (k := k) (v := .int .i64 v) umI ukI h
  rw [put_iM] at h3
  exact ⟨W9, h1, h2, h3⟩
/-- A tree's blocks, and where it stands, lie below H and apart. -/
structure Ap (H lo hi b : Nat) : Prop where
  b1 : b < H
  h1 : hi ≤ H
  o1 : b < lo ∨ hi ≤ b
/-- An expression has been gone through. -/
def EP (H r mc md mb k lo hi b o : Nat) (x : Er × RZ) (w : World) (e : Ending) (w' : World) : Prop := e = .returned (.tuple #[]) ∧ RSt H r mc md mb w' x.2 ∧ OE w' k lo hi b o x.1 ∧ Fr H (Foot lo hi b o 7) w w'
theorem OE.low {H k lo hi b o : Nat} {w w' : World} {t : Er} (hx : OE w k lo hi b o t) (hA : Ap H lo hi b) (h : Below H w w') : OE w' k lo hi b o t :=
  hx.fr (Fr.of (fun _ _ => False) h) hA.b1 hA.h1 (fun _ _ _ h => h) (fun _ _ _ _ h => h)
theorem written {H r mc md mb k lo hi b o : Nat} {w w2 : World} {t : Er} {z : RZ} (hx : OE w k lo hi b o t) (hA : Ap H lo hi b) (hR : RSt H r mc md mb w2 z) (h2 : Below H w w2) (i : Int) : EP H r mc md mb k lo hi b o (t.setI i, z) w (.returned (.tuple #[])) (w2.setCell ⟨b, o + 5, none⟩ (.int .i64 i)) :=
  ⟨rfl, hR.set hA.b1 _ _, (hx.low hA h2).setI hA.o1 i, ((Fr.of _ h2).set _ fun _ => .inr ⟨rfl, by omega, by omega⟩)⟩
theorem unwritten {H r mc md mb k lo hi b o : Nat} {w w2 : World} {t : Er} {z : RZ} (hx : OE w k lo hi b o t) (hA : Ap H lo hi b) (hR : RSt H r mc md mb w2 z) (h2 : Below H w w2) : EP H r mc md mb k lo hi b o (t, z) w (.returned (.tuple #[])) w2 :=
  ⟨rfl, hR, hx.low hA h2, Fr.of _ h2⟩
def NumP (H r mc md mb : Nat) (x : Er × RZ) (w : World) (e : Ending) (w' : World) : Prop := e = .returned (.int .i64 x.1.i) ∧ RSt H r mc md mb w' x.2 ∧ Below H w w'
set_option maxRecDepth 100000 in
set_option maxHeartbeats 8000000 in
theorem numberOf_any {H r mc md mb b o m : Nat} {w : World} {z : RZ} {es : List (ByteArray × Int)} {t : Er} (h : RSt H r mc md mb w z) (hm : NM w m (iM es)) (c1 : w.cell? ⟨b, o + 1, none⟩ = some (.string t.name)) (c6 : w.cell? ⟨b, o + 6, none⟩ = some (.int .i64 t.at')) : Calls Tryd.prog 79 #[.pointer (some ⟨r, 0, none⟩), .pointer (some ⟨b, o, none⟩), .map (some m)] w (NumP H r mc md mb (numS es z t) w) := by
  have hl := (asked hm t.name).1
  have HR := hide h
  have HC := hide (refus_any h t.at' 170)
  unfold NumP numS
  cases hk : lkI t.name es with
  | some k =>
    rw [hk] at hl
    clear h hm hk
    go_enter Tryd.func79, Tryd.ntmps79
    go_wp2
    go_ret
    exact ⟨rfl, unhide HR, Below.refl _ _⟩
  | none =>
    rw [hk] at hl
    clear h hm hk
    go_enter Tryd.func79, Tryd.ntmps79
    go_wp2_with fail
    refine (unhide HC).mono ?_
    rintro e w2 ⟨rfl, hR2, hb2⟩
    have H2 := hide (And.intro hR2 hb2)
    clear hR2 hb2
    go_wp2
    go_ret
    exact ⟨rfl, (unhide H2).1, (unhide H2).2⟩
theorem below_dw (H : Nat) (w : World) (n : Nat) : Below H w (w.drewN n) := by
  induction n with
  | zero => exact Below.refl _ w
  | succ n ih => exact ih.drew
set_option maxRecDepth 100000 in
set_option maxHeartbeats 8000000 in
theorem variable_any {H r mc md mb k lo hi b o : Nat} {w : World} {z : RZ} {t : Er} (h : RSt H r mc md mb w z) (hx : OE w (k + 1) lo hi b o t) (hA : Ap H lo hi b) (hFi : Fi (k + 1) z) : Calls Tryd.prog 70 #[.pointer (some ⟨r, 0, none⟩), .pointer (some ⟨b, o, none⟩)] w (EP H r mc md mb (k + 1) lo hi b o (varS z t) w) := by
  have hl := fun n => (asked (h.below (below_dw _ w n)).nb t.name).2
  obtain ⟨pw, x0, x1, x2, x3, x4, x5, hf, hw⟩ := h.cells
  obtain ⟨a, n, c, y0, y1, y4, y5, y6, yf, -⟩ := hx.cells
  have HC := hide (fun n => refus_any (h.below (below_dw _ w n)) t.at' 170)
  have HW := hide (fun n i => written hx hA (h.below (below_dw _ w n)) (below_dw H w n) i)
  have HX := hide hx
  have HA := hide hA
  unfold varS
  by_cases hk : z.bnd t.name = 0
  · rw [if_pos hk]
    clear hFi
    have hk' : (lkI t.name z.bind).getD 0 = 0 := hk
    rw [hk'] at hl
    clear h hx hA hf hw hk hk' y4 y5 y0 yf x0 x1 x3 x4 x5
    go_enter Tryd.func70, Tryd.ntmps70
    go_wp2_with fail
    go_quiet (fail)
    go_wp2_with fail
    refine (unhide HC nq).mono ?_
    rintro e w2 ⟨rfl, hR2, hb2⟩
    have H2 := hide (unwritten (unhide HX) (unhide HA) hR2 ((below_dw H w nq).trans hb2))
    clear hR2 hb2
    go_wp2
    refine bodyPost_ret (results_none rfl _ _ _) rfl ?_
    exact unhide H2
  · rw [if_neg hk]
    obtain ⟨N, hN⟩ : ∃ N, z.bnd t.name = N := ⟨_, rfl⟩
    have HQ := hide (show wrap64 (z.depth - N) = z.depth - N from by
      have h1 := hFi.d0
      have h2 := hFi.d1
      have h3 := hFi.b t.name
      rw [hN] at h3
      unfold wrap64
      push_cast at h2
      omega)
    clear hFi
    rw [hN] at hk ⊢
    have hN' : (lkI t.name z.bind).getD 0 = N := hN
    rw [hN'] at hl
    have e1 : (N == 0) = false := by simpa using hk
    have e2 : decide (N = 0) = false := by simpa using hk
    clear h hx hA hf hw hk y4 y0 x0 x1 x4 x5 hN hN'
    go_enter Tryd.func70, Tryd.ntmps70
    go_wp2_with fail
    go_quiet (fail)
    go_wp2
    refine bodyPost_end (results_none rfl _ _ _) rfl ?_
    have := unhide HW nq (z.depth - N)
    rw [unhide HQ]
    exact this
set_option maxRecDepth 100000 in
set_option maxHeartbeats 8000000 in
theorem cell_any {H r mc md mb k lo hi b o : Nat} {w : World} {z : RZ} {t : Er} (h : RSt H r mc md mb w z) (hx : OE w (k + 1) lo hi b o t) (hA : Ap H lo hi b) : Calls Tryd.prog 71 #[.pointer (some ⟨r, 0, none⟩), .pointer (some ⟨b, o, none⟩)] w (EP H r mc md mb (k + 1) lo hi b o (numS z.cells z t) w) := by
  obtain ⟨pw, x0, x1, x2, x3, x4, x5, hf, hw⟩ := h.cells
  obtain ⟨a, n, c, y0, y1, y4, y5, y6, yf, -⟩ := hx.cells
  have HC := hide (numberOf_any h h.nc y1 y6)
  have HY := hide (And.intro y5 yf)
  have HX := hide hx
  have HA := hide hA
  have HB := hide (show b < H from hA.b1)
  clear h hx hA hf hw y0 y1 y4 y5 y6 yf
  go_enter Tryd.func71, Tryd.ntmps71
  go_wp2_with fail
  refine (unhide HC).mono ?_
  rintro e w2 ⟨rfl, hR2, hb2⟩
  have y5 := (hb2.cell (p := ⟨b, o + 5, none⟩) (unhide HB)).trans (unhide HY).1
  have yf := (hb2.frozen (p := ⟨b, o + 5, none⟩) (unhide HB)).trans (unhide HY).2
  have H2 := hide (written (unhide HX) (unhide HA) hR2 hb2 (numS z.cells z t).1.i)
  clear hR2 hb2 HC HY HX HA HB x0 x1 x2 x3 x4 x5
  go_wp2
  refine bodyPost_end (results_none rfl _ _ _) rfl ?_
  have e3 : (t.setI (numS z.cells z t).1.i, (numS z.cells z t).2) = numS z.cells z t := by
    unfold numS
    cases lkI t.name z.cells <;> rfl
  have := unhide H2
  rw [e3] at this
  exact this
set_option maxRecDepth 100000 in
set_option maxHeartbeats 8000000 in
theorem old_any {H r mc md mb k lo hi b o : Nat} {w : World} {z : RZ} {t : Er} (h : RSt H r mc md mb w z) (hx : OE w (k + 1) lo hi b o t) (hA : Ap H lo hi b) : Calls Tryd.prog 72 #[.pointer (some ⟨r, 0, none⟩), .pointer (some ⟨b, o, none⟩)] w (EP H r mc md mb (k + 1) lo hi b o (numS z.cells (if z.ens then z else z.ref t.at' 172) t) w) := by
  obtain ⟨pw, x0, x1, x2, x3, x4, x5, hf, hw⟩ := h.cells
  obtain ⟨a, n, c, y0, y1, y4, y5, y6, yf, -⟩ := hx.cells
  have HR := hide (refus_any h t.at' 172)
  have HX := hide hx
  have HA := hide hA
  have HH := hide h
  clear h hx hA hf hw y0 y1 y4 y5 yf
  cases he : z.ens with
  | true =>
    rw [he] at x4
    have HC := hide (cell_any (unhide HH) (unhide HX) (unhide HA))
    clear he HR HX HA HH
    rw [if_pos rfl]
    go_enter Tryd.func72, Tryd.ntmps72
    go_wp2_with fail
    refine (unhide HC).mono ?_
    intro e w2 h2
    obtain rfl := h2.1
    have H2 := hide h2
    clear h2 HC
    go_wp2
    refine bodyPost_end (results_none rfl _ _ _) rfl ?_
    exact unhide H2
  | false =>
    rw [he] at x4
    have hz : (z.ref t.at' 172).cells = z.cells := by unfold RZ.ref; cases z.wr <;> rfl
    rw [← hz, if_neg (by simp)]
    clear he hz
    go_enter Tryd.func72, Tryd.ntmps72
    go_wp2_with fail
    refine (unhide HR).mono ?_
    rintro e w1 ⟨rfl, hR1, hb1⟩
    have HC := hide (cell_any hR1 ((unhide HX).low (unhide HA) hb1) (unhide HA))
    have HB := hide hb1
    clear hR1 hb1
    go_wp2_with fail
    refine (unhide HC).mono ?_
    rintro e w2 ⟨rfl, h3, h4, h5⟩
    have H2 := hide (show EP H r mc md mb (k + 1) lo hi b o (numS (z.ref t.at' 172).cells (z.ref t.at' 172) t) w (.returned (.tuple #[])) w2 from ⟨rfl, h3, h4, (Fr.of _ (unhide HB)).trans h5⟩)
    clear h3 h4 h5 HC HB
    go_wp2
    refine bodyPost_end (results_none rfl _ _ _) rfl ?_
    exact unhide H2
end Go.Proofs.YtljhpbjngbbjbaaDoor

/- Package scope: lists of expressions; with one binder more. -/
namespace Go.Proofs.YtljhpbjngbbjbaaDoor
open Go Go.RowKit
/-- The resolver's expr, at trees so high at most. -/
def EC (H r mc md mb k : Nat) : Prop := ∀ (lo hi b o : Nat) (w : World) (z : RZ) (t : Er), RSt H r mc md mb w z → OE w k lo hi b o t → Ap H lo hi b → Fi k z → Calls Tryd.prog 60 #[.pointer (some ⟨r, 0, none⟩), .pointer (some ⟨b, o, none⟩)] w (EP H r mc md mb k lo hi b o (rxE k z t) w)
def LP (H r mc md mb k lo hi q o n : Nat) (x : List Er × RZ) (w : World) (e : Ending) (w' : World) : Prop := e = .returned (.tuple #[]) ∧ RSt H r mc md mb w' x.2 ∧ OLp (OE w' k) q lo hi o x.1 ∧ Fr H (Foot lo hi q o (7 * n)) w w'
theorem thr_len {α : Type} {f : RZ → α → α × RZ} : ∀ (l : List α) (z : RZ), (thr f z l).1.length = l.length
  | [], _ => rfl
  | t :: l, z => by
    show (thr f (f z t).2 l).1.length + 1 = _
    rw [thr_len l]; rfl
/-- One of a row has been gone through: the row as it stands. -/
theorem row_step {H k lo hi m1 m2 q o j n : Nat} {w w' : World} {u rest : List Er} {t' : Er} (hu : u.length = j) (hn : n = j + 1 + rest.length) (hA : Ap H lo hi q) (h1 : OLp (OE w k) q lo m1 o u) (h12 : m1 ≤ m2) (h3 : OLp (OE w k) q m2 hi (o + 7 * u.length + 7) rest) (h4 : OE w' k m1 m2 q (o + 7 * j) t') (h5 : Fr H (Foot m1 m2 q (o + 7 * j) 7) w w') : OLp (OE w' k) q lo hi o ((u ++ [t']) ++ rest) ∧ Fr H (Foot lo hi q o (7 * n)) w w' := by
  have l1 := OLp.le _ _ _ _ h1
  have l3 := OLp.le _ _ _ _ h3
  have ho := hA.o1
  have hh := hA.h1
  constructor
  · rw [List.append_assoc, OLp.split]
    refine ⟨m1, h1.fr h5 hA.b1 (by omega) (fun i k1 k2 => ?_) (fun k' i k1 k2 => ?_), m2, h12, by rw [hu]; exact h4, ?_⟩
    · rintro (⟨g1, g2⟩ | ⟨g1, g2, g3⟩) <;> omega
    · rintro (⟨g1, g2⟩ | ⟨g1, g2, g3⟩) <;> omega
    · refine h3.fr h5 hA.b1 hh (fun i k1 k2 => ?_) (fun k' i k1 k2 => ?_)
      · rintro (⟨g1, g2⟩ | ⟨g1, g2, g3⟩) <;> omega
      · rintro (⟨g1, g2⟩ | ⟨g1, g2, g3⟩) <;> omega
  · refine h5.mono fun k' i hk => ?_
    rcases hk with ⟨g1, g2⟩ | ⟨g1, g2, g3⟩
    · exact .inl ⟨by omega, by omega⟩
    · exact .inr ⟨g1, by omega, by omega⟩
theorem OLp.at {p : Nat → Nat → Nat → Nat → Er → Prop} {q lo hi o : Nat} {u rest : List Er} {t : Er} (h : OLp p q lo hi o (u ++ t :: rest)) : ∃ m1 m2, OLp p q lo m1 o u ∧ m1 ≤ m2 ∧ p m1 m2 q (o + 7 * u.length) t ∧ OLp p q m2 hi (o + 7 * u.length + 7) rest := by
  obtain ⟨m1, h1, m2, h2, h3, h4⟩ := (OLp.split _ _ _ _ _).1 h
  exact ⟨m1, m2, h1, h2, h3, h4⟩
set_option maxRecDepth 100000 in
set_option maxHeartbeats 8000000 in
theorem exprs_nil {H r mc md mb c : Nat} {a : Option Addr} {w : World} {z : RZ} (h : RSt H r mc md mb w z) : Calls Tryd.prog 58 #[.pointer (some ⟨r, 0, none⟩), .slice a 0 c] w fun e w' => e = .returned (.tuple #[]) ∧ RSt H r mc md mb w' z ∧ Below H w w' := by
  have HR := hide h
  clear h
  go_enter Tryd.func58, Tryd.ntmps58
  go_wp2_with fail
  go_loopw [7] (fun iv wr => iv = .int .i64 (0 : Nat) ∧ Hid (wr = w)) (fun iv _ => 0)
  case atStart => exact ⟨rfl, rfl⟩
  case round =>
    obtain ⟨rfl, HB⟩ := hrel
    go_wp2
    refine bodyPost_end (results_none rfl _ _ _) rfl ?_
    have e := unhide HB
    subst e
    exact ⟨rfl, unhide HR, Below.refl _ _⟩
set_option maxRecDepth 100000 in
set_option maxHeartbeats 8000000 in
theorem xrow_of {H r mc md mb k : Nat} (hE : EC H r mc md mb k) {lo hi q o n c : Nat} {w : World} {z : RZ} {l : List Er} (h : RSt H r mc md mb w z) (hx : OLp (OE w k) q lo hi o l) (hA : Ap H lo hi q) (hFi : Fi k z) (hn : n = l.length) (hc : n ≤ c) (hm : n ≤ 1000000) : Calls Tryd.prog 58 #[.pointer (some ⟨r, 0, none⟩), .slice (some ⟨q, o, none⟩) n c] w (LP H r mc md mb k lo hi q o n (thr (rxE k) z l) w) := by
  have HI := hide (And.intro h (And.intro hx (And.intro hA (And.intro hFi hn))))
  have g4 : (n : Int) ≤ 1000000 := by omega
  have HE := hide hE
  clear h hx hA hFi hn hc hE
  go_enter Tryd.func58, Tryd.ntmps58
  generalize hQQ : bodyPost Tryd.prog Tryd.f58 (LP H r mc md mb k lo hi q o n (thr (rxE k) z l) w) = QQ
  have HQQ := hide hQQ
  clear hQQ
  go_wp2_with fail
  go_loopw [7] (fun iv wr => ∃ (j : Nat) (u rest : List Er) (y : RZ), iv = .int .i64 j ∧ j ≤ n ∧ Hid (u.length = j ∧ n = j + rest.length ∧ thr (rxE k) z l = (u ++ (thr (rxE k) y rest).1, (thr (rxE k) y rest).2) ∧ Fi k y ∧ RSt H r mc md mb wr y ∧ OLp (OE wr k) q lo hi o (u ++ rest) ∧ Fr H (Foot lo hi q o (7 * n)) w wr)) (fun iv _ => n - (intOf iv).toNat)
  case atStart =>
    obtain ⟨h, hx, hA, hFi, hn⟩ := unhide HI
    exact ⟨0, [], l, z, rfl, Nat.zero_le _, rfl, by omega, rfl, hFi, h, hx, Fr.refl _ _ _⟩
  case round =>
    obtain ⟨j, u, rest, y, rfl, hj, HB⟩ := hrel
    have g3 : (0 : Int) ≤ (j : Int) := by omega
    by_cases hjn : j < n
    rotate_left
    · have g1 : ¬ ((j : Int) < (n : Int)) := by omega
      have g2 : decide ((j : Int) < (n : Int)) = false := by simp; omega
      clear HI hm
      have HJ := hide hjn
      clear hj hjn
      go_wp2
      rw [← unhide HQQ]
      refine bodyPost_end (results_none rfl _ _ _) rfl ?_
      obtain ⟨hu, hn, ht, hF, hR, hO, hf⟩ := unhide HB
      have hr : rest = [] := List.length_eq_zero_iff.1 (by have := unhide HJ; omega)
      subst hr
      rw [ht]
      exact ⟨rfl, hR, hO, hf⟩
    · obtain ⟨hu, hn, ht, hF, hR, hO, hf⟩ := unhide HB
      obtain ⟨t, rest, rfl⟩ : ∃ t r2, rest = t :: r2 := by
        cases rest with
        | nil => simp at hn; omega
        | cons t r2 => exact ⟨t, r2, rfl⟩
      obtain ⟨m1, m2, k1, k2, k3, k4⟩ := hO.at
      have hA := (unhide HI).2.2.1
      have l1 := OLp.le _ _ _ _ k1
      have l4 := OLp.le _ _ _ _ k4
      rw [hu] at k3
      have hA2 : Ap H m1 m2 q := ⟨hA.b1, by have := hA.h1; omega, by have := hA.o1; omega⟩
      have HC := hide (unhide HE m1 m2 q (o + 7 * j) wr y t hR k3 hA2 hF)
      rw [Nat.mul_comm 7 j] at HC
      have HK := hide (And.intro k1 (And.intro k2 (And.intro k4 (And.intro hA (And.intro hu (And.intro hn (And.intro ht (And.intro hF hf))))))))
      have HF2 := hide (rx_kp k y t hF)
      have g1 : (j : Int) < (n : Int) := by omega
      have g2 : decide ((j : Int) < (n : Int)) = true := by simp; omega
      clear hu hn ht hF hR hO hf k1 k2 k3 k4 l1 l4 hA hA2 hj HI HE HB
      have HJ := hide hjn
      clear hjn
      go_wp2_with fail
      refine (unhide HC).mono ?_
      rintro e w2 ⟨rfl, h3, h4, h5⟩
      obtain ⟨k1, k2, k4, hA, hu, hn, ht, hF, hf⟩ := unhide HK
      rw [Nat.mul_comm j 7] at h4 h5
      have hs := row_step (n := n) hu (by simp at hn; omega) hA k1 k2 k4 h4 h5
      have HZ := hide (show (u ++ [(rxE k y t).1]).length = j + 1 ∧ n = (j + 1) + rest.length ∧ thr (rxE k) z l = ((u ++ [(rxE k y t).1]) ++ (thr (rxE k) (rxE k y t).2 rest).1, (thr (rxE k) (rxE k y t).2 rest).2) ∧ Fi k (rxE k y t).2 ∧ RSt H r mc md mb w2 (rxE k y t).2 ∧ OLp (OE w2 k) q lo hi o ((u ++ [(rxE k y t).1]) ++ rest) ∧ Fr H (Foot lo hi q o (7 * n)) w w2 from ⟨by simp [hu], by simp at hn; omega, thr_go ht, (unhide HF2).1, h3, hs.1, hf.trans hs.2⟩)
      clear k1 k2 k4 hA hu hn ht hF hf h3 h4 h5 hs HK HC HF2
      go_wp2
      exact ⟨⟨j + 1, _, rest, _, by push_cast; rfl, by have := unhide HJ; omega, unhide HZ⟩, by simp only [intOf]; have := unhide HJ; omega⟩
end Go.Proofs.YtljhpbjngbbjbaaDoor

/- Package scope: with one binder more. -/
namespace Go.Proofs.YtljhpbjngbbjbaaDoor
open Go Go.RowKit
theorem RSt.depth {H r mc md mb : Nat} {w : World} {z : RZ} (h : RSt H r mc md mb w z) (d : Int) : RSt H r mc md mb (w.setCell ⟨r, 3, none⟩ (.int .i64 d)) ⟨z.cells, z.defs, z.bind, d, z.ens, z.wr⟩ := by
  obtain ⟨pw, h1, h2⟩ := h.box
  have hu : Up H r w (w.setCell ⟨r, 3, none⟩ (.int .i64 d)) := fun k _ _ hn => heap_set _ _ hn
  exact h.boxed hu rfl rfl rfl (pw := pw) (set_block h1 _) (h2.up hu fun cs e => by rw [h1] at e; injection e with e; injection e with e1 e2; exact absurd e2 (by decide))
/-- A binder's entry is written. -/
theorem RSt.bound {H r mc md mb : Nat} {w w' : World} {z : RZ} (h : RSt H r mc md mb w z) (hp : PutAt mb w w') {s : ByteArray} {v : Int} (hn : NM w' mb (iM (ptI s v z.bind))) : RSt H r mc md mb w' (z.setB z.depth s v) ∧ Below H w w' := by
  obtain ⟨pw, h1, h2⟩ := h.box
  have hmap : ∃ a c, w.heap[mb]? = some (.map a c) := by
    obtain ⟨a, c, h3, -⟩ := h.nb
    exact ⟨a, c, h3⟩
  obtain ⟨a, c, hmap⟩ := hmap
  have hr : r ≠ mb := fun e => by rw [e, hmap] at h1; cases h1
  have hu : Up H mb w w' := fun k _ _ hn => hp.block k hn
  refine ⟨⟨⟨pw, (hp.block r hr).trans h1, h2.up hu fun cs e => by rw [hmap] at e; cases e⟩, h.nc.same (hp.block _ h.n1), h.nd.same (hp.block _ h.n2), hn, h.hr, h.hc, h.hd, h.hb, h.ne, h.n1, h.n2⟩, ⟨hp.os, hp.tape, hp.output, by rw [hp.size]; exact Nat.le_refl _, fun k hk => hp.block k (by have := h.hb; omega)⟩⟩
set_option maxRecDepth 100000 in
set_option maxHeartbeats 8000000 in
theorem under_gen {H r mc md mb n c : Nat} {a : Option Addr} {w : World} {z y : RZ} {s : ByteArray} {R : World → Prop} (h : RSt H r mc md mb w z) (hFi : Fi 1 z) (hy : y.depth = z.depth + 1)
    (hL : ∀ w1, RSt H r mc md mb w1 (z.setB (z.depth + 1) s (z.depth + 1)) → Below H w w1 → Calls Tryd.prog 58 #[.pointer (some ⟨r, 0, none⟩), .slice a n c] w1 fun e w' => e = .returned (.tuple #[]) ∧ RSt H r mc md mb w' y ∧ R w') :
    Calls Tryd.prog 59 #[.pointer (some ⟨r, 0, none⟩), .string s, .slice a n c] w fun e w' => e = .returned (.tuple #[]) ∧ RSt H r mc md mb w' (y.setB (y.depth - 1) s (z.bnd s)) ∧ ∃ w3, R w3 ∧ Below H w3 w' := by
  have hl := (asked h.nb s).2
  obtain ⟨pw, x0, x1, x2, x3, x4, x5, hf, hw⟩ := h.cells
  have f3 := hf 3
  obtain ⟨N, hN⟩ : ∃ N, z.bnd s = N := ⟨_, rfl⟩
  have hN' : (lkI s z.bind).getD 0 = N := hN
  rw [hN'] at hl
  rw [hN]
  obtain ⟨D, hD⟩ : ∃ D, z.depth = D := ⟨_, rfl⟩
  have hd0 := hFi.d0
  have hd1 := hFi.d1
  have q1 : wrap64 (D + 1) = D + 1 := by unfold wrap64; omega
  have hR1 := h.depth (D + 1)
  rw [hD] at x3 hy hL hd0 hd1
  have HR1 := hide hR1
  obtain ⟨W1, eW1⟩ : ∃ W1, w.setCell ⟨r, 3, none⟩ (.int .i64 (D + 1)) = W1 := ⟨_, rfl⟩
  rw [eW1] at hR1
  obtain ⟨pw1, a0, a1, a2, a3, a4, a5, af, -⟩ := hR1.cells
  obtain ⟨W9, hrun, hput, hN9⟩ := updated (hR1.below (Below.refl _ W1).drew).nb s (D + 1)
  have hB9 := hR1.below (Below.refl _ W1).drew |>.bound hput hN9
  have hwW1 : Below H w W1 := by rw [← eW1]; exact below_set (Below.refl H w) h.hr _ _
  have hw9 : Below H w W9 := (hwW1.trans (Below.refl _ W1).drew).trans hB9.2
  have HC := hide (hL W9 hB9.1 hw9)
  have ey : y.depth - 1 = D := by omega
  rw [ey]
  have HYD := hide hy
  clear hy ey
  clear h hFi hf hw hN hN' hD hR1 hL x0 x1 x4 x5 hput hN9 af hB9 hwW1 hw9
  go_enter Tryd.func59, Tryd.ntmps59
  go_wp2_with fail
  go_region
  go_wp2_with fail
  refine (unhide HC).mono ?_
  rintro e w2 ⟨rfl, hR2, hRw⟩
  obtain ⟨pw2, x0, x1, x2, x3, x4, x5, hf, hw⟩ := hR2.cells
  have f3 := hf 3
  have q2 : wrap64 (D + 1 - 1) = D := by unfold wrap64; omega
  rw [unhide HYD] at x3
  have hR3 := hR2.depth D
  have hb3 : Below H w2 (w2.setCell ⟨r, 3, none⟩ (.int .i64 D)) := below_set (Below.refl H w2) hR2.hr _ _
  obtain ⟨W3, eW3⟩ : ∃ W3, w2.setCell ⟨r, 3, none⟩ (.int .i64 D) = W3 := ⟨_, rfl⟩
  rw [eW3] at hR3 hb3
  obtain ⟨pw3, b0, b1, b2, b3, b4, b5, bf, -⟩ := hR3.cells
  obtain ⟨W5, hrun5, hput5, hN5⟩ := updated hR3.nb s N
  have hB5 := hR3.bound hput5 hN5
  have HF := hide (And.intro hB5.1 (And.intro hRw (hb3.trans hB5.2)))
  clear hR2 hRw hf hw hR3 hb3 bf hput5 hN5 hB5 HC hrun hl a0 a1 a2 a3 a4 a5 eW1 x0 x1 x4 x5
  go_wp2
  refine bodyPost_end (results_none rfl _ _ _) rfl ?_
  exact ⟨rfl, (unhide HF).1, w2, (unhide HF).2.1, (unhide HF).2.2⟩
end Go.Proofs.YtljhpbjngbbjbaaDoor

/- Package scope: rows that may be empty; the rule of an operator; operands, write, call. -/
namespace Go.Proofs.YtljhpbjngbbjbaaDoor
open Go Go.RowKit
theorem xrow_any {H r mc md mb k : Nat} (hE : EC H r mc md mb k) {lo hi q o n c : Nat} {a : Option Addr} {w : World} {z : RZ} {l : List Er} (h : RSt H r mc md mb w z) (hx : OLp (OE w k) q lo hi o l) (hA : Ap H lo hi q) (hFi : Fi k z) (hn : n = l.length) (hc : n ≤ c) (hm : n ≤ 1000000) (ha : l ≠ [] → a = some ⟨q, o, none⟩) : Calls Tryd.prog 58 #[.pointer (some ⟨r, 0, none⟩), .slice a n c] w (LP H r mc md mb k lo hi q o n (thr (rxE k) z l) w) := by
  cases l with
  | nil =>
    obtain rfl : n = 0 := hn
    refine (exprs_nil h).mono ?_
    rintro e w' ⟨rfl, h1, h2⟩
    exact ⟨rfl, h1, hx, Fr.of _ h2⟩
  | cons t l =>
    rw [ha (by simp)]
    exact xrow_of hE h hx hA hFi hn hc hm
theorem xund_any {H r mc md mb k : Nat} (hE : EC H r mc md mb k) {lo hi q o n c : Nat} {a : Option Addr} {w : World} {z : RZ} {l : List Er} (s : ByteArray) (h : RSt H r mc md mb w z) (hx : OLp (OE w k) q lo hi o l) (hA : Ap H lo hi q) (hFi : Fi (k + 1) z) (hn : n = l.length) (hc : n ≤ c) (hm : n ≤ 1000000) (ha : l ≠ [] → a = some ⟨q, o, none⟩) : Calls Tryd.prog 59 #[.pointer (some ⟨r, 0, none⟩), .string s, .slice a n c] w (LP H r mc md mb k lo hi q o n (undS (thr (rxE k)) s z l) w) := by
  have hd0 := hFi.d0
  have hd1 := hFi.d1
  have h1 : Fi k (z.setB (z.depth + 1) s (z.depth + 1)) := hFi.setB s (by omega) (by push_cast at hd1; omega) (by omega) (by push_cast at hd1; omega)
  have hy : (thr (rxE k) (z.setB (z.depth + 1) s (z.depth + 1)) l).2.depth = z.depth + 1 := (thr_kp (rx_kp k) l _ h1).2
  refine (under_gen (s := s) (R := fun w' => OLp (OE w' k) q lo hi o (thr (rxE k) (z.setB (z.depth + 1) s (z.depth + 1)) l).1 ∧ Fr H (Foot lo hi q o (7 * n)) w w') h (hFi.down (by omega)) hy fun w1 hR1 hb1 => ?_).mono ?_
  · refine (xrow_any hE hR1 (hx.fr (Fr.of (fun _ _ => False) hb1) hA.b1 hA.h1 (fun _ _ _ h => h) fun _ _ _ _ h => h) hA h1 hn hc hm ha).mono ?_
    rintro e w' ⟨rfl, k1, k2, k3⟩
    exact ⟨rfl, k1, k2, (Fr.of _ hb1).trans k3⟩
  · rintro e w' ⟨rfl, k1, w3, ⟨k2, k3⟩, k4⟩
    exact ⟨rfl, k1, k2.fr (Fr.of (fun _ _ => False) k4) hA.b1 hA.h1 (fun _ _ _ h => h) fun _ _ _ _ h => h, k3.trans (Fr.of _ k4)⟩
/-- A node whose operands have been gone through. -/
theorem OE.ops {w w' : World} {H k lo hi b o q o' n : Nat} {t : Er} {l' : List Er} (hx : OE w (k + 1) lo hi b o t) (hA : Ap H lo hi b) {a : Option Addr} {c m : Nat} (h4 : w.cell? ⟨b, o + 4, none⟩ = some (.slice a m c)) (hq : lo ≤ q ∧ q < hi) (ha : a = some ⟨q, o', none⟩) (hl : l'.length = t.l.length) (hf : Fr H (Foot (q + 1) hi q o' n) w w') (h5 : OLp (OE w' k) q (q + 1) hi o' l') : OE w' (k + 1) lo hi b o (t.setL l') ∧ Fr H (Foot lo hi b o 7) w w' := by
  obtain ⟨a2, n2, c2, h1, h2, h3⟩ := hx
  have e := h1 4 _ rfl
  rw [h4] at e
  obtain ⟨rfl, rfl, rfl⟩ : a = a2 ∧ m = n2 ∧ c = c2 := by simpa using e
  have ho := hA.o1
  have hns : ∀ j, ¬ Foot (q + 1) hi q o' n b j := fun j h => by rcases h with ⟨g1, g2⟩ | ⟨g1, -⟩ <;> omega
  refine ⟨⟨a, m, c, fun j v hv => (hf.cell b (o + j) hA.b1 (hns _)).trans (h1 j v ?_), (hf.froz b _ hA.b1).trans h2, ?_⟩, hf.mono fun k' i hk => ?_⟩
  · rcases j with _ | _ | _ | _ | _ | _ | _ | j
    all_goals exact hv
  · obtain ⟨g1, g2, g3, g4, g5, g6⟩ := h3
    exact ⟨g1.trans hl.symm, g2, g3, g4, fun _ => ⟨q, o', ha, hq.1, hq.2, h5⟩, fun e => g6 (List.length_eq_zero_iff.1 (hl.symm.trans (by rw [show l' = [] from e]; rfl)))⟩
  · rcases hk with ⟨g1, g2⟩ | ⟨g1, g2, g3⟩ <;> exact .inl ⟨by omega, by omega⟩
theorem setL_self (t : Er) : t.setL t.l = t := by cases t; rfl
def ruleF (op : Int) : Nat := if op = 4 then 70 else if op = 5 then 71 else if op = 6 then 72 else if op = 25 then 73 else if op = 21 then 74 else if op = 23 ∨ op = 27 then 75 else 76
set_option maxRecDepth 100000 in
set_option maxHeartbeats 8000000 in
theorem ruleOf_any {w : World} {r : Nat} (op : Int) : Calls Tryd.prog 67 #[.pointer (some ⟨r, 0, none⟩), .int .i64 op] w fun e w' => e = .returned (.func (.func (ruleF op)) #[.pointer (some ⟨r, 0, none⟩)] #[]) ∧ w' = w := by
  by_cases h4 : op = 4
  · subst h4
    go_enter Tryd.func67, Tryd.ntmps67
    go_wp2
    go_ret
    exact ⟨rfl, rfl⟩
  have e4 : (op == 4) = false := by simpa using h4
  have d4 : decide (op = 4) = false := by simpa using h4
  by_cases h5 : op = 5
  · subst h5
    go_enter Tryd.func67, Tryd.ntmps67
    go_wp2
    go_ret
    exact ⟨rfl, rfl⟩
  have e5 : (op == 5) = false := by simpa using h5
  have d5 : decide (op = 5) = false := by simpa using h5
  by_cases h6 : op = 6
  · subst h6
    go_enter Tryd.func67, Tryd.ntmps67
    go_wp2
    go_ret
    exact ⟨rfl, rfl⟩
  have e6 : (op == 6) = false := by simpa using h6
  have d6 : decide (op = 6) = false := by simpa using h6
  by_cases h25 : op = 25
  · subst h25
    go_enter Tryd.func67, Tryd.ntmps67
    go_wp2
    go_ret
    exact ⟨rfl, rfl⟩
  have e25 : (op == 25) = false := by simpa using h25
  have d25 : decide (op = 25) = false := by simpa using h25
  by_cases h21 : op = 21
  · subst h21
    go_enter Tryd.func67, Tryd.ntmps67
    go_wp2
    go_ret
    exact ⟨rfl, rfl⟩
  have e21 : (op == 21) = false := by simpa using h21
  have d21 : decide (op = 21) = false := by simpa using h21
  by_cases h23 : op = 23
  · subst h23
    go_enter Tryd.func67, Tryd.ntmps67
    go_wp2
    go_ret
    exact ⟨rfl, rfl⟩
  have e23 : (op == 23) = false := by simpa using h23
  have d23 : decide (op = 23) = false := by simpa using h23
  by_cases h27 : op = 27
  · subst h27
    go_enter Tryd.func67, Tryd.ntmps67
    go_wp2
    go_ret
    exact ⟨rfl, rfl⟩
  have e27 : (op == 27) = false := by simpa using h27
  have d27 : decide (op = 27) = false := by simpa using h27
  have hF : ruleF op = 76 := by
    unfold ruleF
    rw [if_neg h4, if_neg h5, if_neg h6, if_neg h25, if_neg h21, if_neg (by omega)]
  rw [hF]
  clear hF
  go_enter Tryd.func67, Tryd.ntmps67
  go_wp2
  go_ret
  exact ⟨rfl, rfl⟩
set_option maxRecDepth 100000 in
set_option maxHeartbeats 8000000 in
theorem xops_any {H r mc md mb k lo hi b o : Nat} (hE : EC H r mc md mb k) {w : World} {z : RZ} {t : Er} (h : RSt H r mc md mb w z) (hx : OE w (k + 1) lo hi b o t) (hA : Ap H lo hi b) (hFi : Fi k z) : Calls Tryd.prog 76 #[.pointer (some ⟨r, 0, none⟩), .pointer (some ⟨b, o, none⟩)] w (EP H r mc md mb (k + 1) lo hi b o (opsS (rxE k) z t) w) := by
  obtain ⟨a, n, c, y0, y1, y4, y5, y6, yf, hs⟩ := hx.cells
  have HC : Hid (Calls Tryd.prog 58 #[.pointer (some ⟨r, 0, none⟩), .slice a n c] w (EP H r mc md mb (k + 1) lo hi b o (opsS (rxE k) z t) w)) := by
    obtain ⟨g1, g2, g3, g4, g5, -⟩ := hs
    by_cases hl : t.l = []
    · have e : opsS (rxE k) z t = (t, z) := by
        unfold opsS
        rw [hl]
        show (t.setL [], z) = (t, z)
        rw [← hl, setL_self]
      rw [e]
      rw [hl] at g1
      obtain rfl : n = 0 := g1
      refine (exprs_nil h).mono ?_
      rintro e w' ⟨rfl, h1, h2⟩
      exact unwritten hx hA h1 h2
    · obtain ⟨q, o', rfl, k1, k2, k3⟩ := g5 hl
      have hA2 : Ap H (q + 1) hi q := ⟨by have := hA.h1; omega, hA.h1, .inl (by omega)⟩
      refine (xrow_of hE h k3 hA2 hFi g1 g2 g3).mono ?_
      rintro e w' ⟨rfl, h1, h2, h3⟩
      have h4 := hx.ops hA y4 ⟨k1, k2⟩ rfl (thr_len _ _) h3 h2
      exact ⟨rfl, h1, h4.1, h4.2⟩
  clear h hx hA hFi hs hE y0 y1 y5 y6 yf
  go_enter Tryd.func76, Tryd.ntmps76
  go_wp2_with fail
  refine (unhide HC).mono ?_
  intro e w2 h2
  obtain rfl := h2.1
  have H2 := hide h2
  clear h2 HC
  go_wp2
  refine bodyPost_end (results_none rfl _ _ _) rfl ?_
  exact unhide H2
theorem EP.then {H r mc md mb k lo hi b o : Nat} {x : Er × RZ} {x2 : Er × RZ} {w w1 w2 : World} (h1 : Fr H (Foot lo hi b o 7) w w1) (h2 : EP H r mc md mb k lo hi b o x w1 (.returned (.tuple #[])) w2) : EP H r mc md mb k lo hi b o x w (.returned (.tuple #[])) w2 := ⟨rfl, h2.2.1, h2.2.2.1, h1.trans h2.2.2.2⟩
set_option maxRecDepth 100000 in
set_option maxHeartbeats 8000000 in
theorem xwri_any {H r mc md mb k lo hi b o : Nat} (hE : EC H r mc md mb k) {w : World} {z : RZ} {t : Er} (h : RSt H r mc md mb w z) (hx : OE w (k + 1) lo hi b o t) (hA : Ap H lo hi b) (hFi : Fi k z) : Calls Tryd.prog 73 #[.pointer (some ⟨r, 0, none⟩), .pointer (some ⟨b, o, none⟩)] w (EP H r mc md mb (k + 1) lo hi b o (opsS (rxE k) (numS z.cells z t).2 (numS z.cells z t).1) w) := by
  have HC := hide (cell_any h hx hA)
  have HE := hide (And.intro hE (And.intro hA (num_kp z.cells z t hFi).1))
  clear h hx hA hFi hE
  go_enter Tryd.func73, Tryd.ntmps73
  go_wp2_with fail
  refine (unhide HC).mono ?_
  intro e w2 h2
  obtain rfl := h2.1
  have HD := hide (xops_any (unhide HE).1 h2.2.1 h2.2.2.1 (unhide HE).2.1 (unhide HE).2.2)
  have H2 := hide h2.2.2.2
  clear h2 HC
  go_wp2_with fail
  refine (unhide HD).mono ?_
  intro e w3 h3
  obtain rfl := h3.1
  have H3 := hide (EP.then (x2 := (t, z)) (unhide H2) h3)
  clear h3 HD
  go_wp2
  refine bodyPost_end (results_none rfl _ _ _) rfl ?_
  exact unhide H3
set_option maxRecDepth 100000 in
set_option maxHeartbeats 8000000 in
theorem xcal_any {H r mc md mb k lo hi b o : Nat} (hE : EC H r mc md mb k) {w : World} {z : RZ} {t : Er} (h : RSt H r mc md mb w z) (hx : OE w (k + 1) lo hi b o t) (hA : Ap H lo hi b) (hFi : Fi k z) : Calls Tryd.prog 74 #[.pointer (some ⟨r, 0, none⟩), .pointer (some ⟨b, o, none⟩)] w (EP H r mc md mb (k + 1) lo hi b o (opsS (rxE k) (numS z.defs z t).2 (numS z.defs z t).1) w) := by
  obtain ⟨pw, x0, x1, x2, x3, x4, x5, hf, hw⟩ := h.cells
  obtain ⟨a, n, c, y0, y1, y4, y5, y6, yf, -⟩ := hx.cells
  have HC := hide (numberOf_any h h.nd y1 y6)
  have HY := hide (And.intro y5 yf)
  have HX := hide hx
  have HA := hide hA
  have HB := hide (show b < H from hA.b1)
  have HE := hide (And.intro hE (num_kp z.defs z t hFi).1)
  clear h hx hA hf hw y0 y1 y4 y5 y6 yf hE hFi
  go_enter Tryd.func74, Tryd.ntmps74
  go_wp2_with fail
  refine (unhide HC).mono ?_
  rintro e w2 ⟨rfl, hR2, hb2⟩
  have y5 := (hb2.cell (p := ⟨b, o + 5, none⟩) (unhide HB)).trans (unhide HY).1
  have yf := (hb2.frozen (p := ⟨b, o + 5, none⟩) (unhide HB)).trans (unhide HY).2
  have e3 : (t.setI (numS z.defs z t).1.i, (numS z.defs z t).2) = numS z.defs z t := by
    unfold numS
    cases lkI t.name z.defs <;> rfl
  have h2 := written (unhide HX) (unhide HA) hR2 hb2 (numS z.defs z t).1.i
  rw [e3] at h2
  have HD := hide (xops_any (unhide HE).1 h2.2.1 h2.2.2.1 (unhide HA) (unhide HE).2)
  have H2 := hide h2.2.2.2
  clear hR2 hb2 HC HY HX HB x0 x1 x2 x3 x4 x5 h2 e3
  go_wp2_with fail
  refine (unhide HD).mono ?_
  intro e w3 h3
  obtain rfl := h3.1
  have H3 := hide (EP.then (x2 := (t, z)) (unhide H2) h3)
  clear h3 HD
  go_wp2
  refine bodyPost_end (results_none rfl _ _ _) rfl ?_
  exact unhide H3
end Go.Proofs.YtljhpbjngbbjbaaDoor

/- Package scope: binding. -/
namespace Go.Proofs.YtljhpbjngbbjbaaDoor
open Go Go.RowKit
def BiP (b o : Nat) (s : ByteArray) (a : Option Addr) (n c : Nat) (w : World) : Prop := w.cell? ⟨b, o + 1, none⟩ = some (.string s) ∧ w.cell? ⟨b, o + 4, none⟩ = some (.slice a n c)
set_option maxRecDepth 100000 in
set_option maxHeartbeats 8000000 in
theorem xbin_one {r b o n c q o' : Nat} {s : ByteArray} {w : World} {R : World → Prop} (hn : 1 ≤ n) (hc : n ≤ c) (hm : n ≤ 1000000) (hc1 : ¬ c = 1) (hy : BiP b o s (some ⟨q, o', none⟩) n c w)
    (h1 : Calls Tryd.prog 58 #[.pointer (some ⟨r, 0, none⟩), .slice (some ⟨q, o', none⟩) 1 c] w fun e w1 => e = .returned (.tuple #[]) ∧ BiP b o s (some ⟨q, o', none⟩) n c w1 ∧ ∀ W, Below w1.heap.size w1 W →
      Calls Tryd.prog 59 #[.pointer (some ⟨r, 0, none⟩), .string s, .slice (some ⟨q, o' + 7, none⟩) (n - 1) (c - 1)] W fun e w2 => e = .returned (.tuple #[]) ∧ BiP b o s (some ⟨q, o', none⟩) n c w2 ∧ R w2) :
    Calls Tryd.prog 75 #[.pointer (some ⟨r, 0, none⟩), .pointer (some ⟨b, o, none⟩)] w fun e w' => e = .returned (.tuple #[]) ∧ R w' := by
  have g1 : (1 : Int) ≤ (n : Int) := by omega
  have g2 : (n : Int) ≤ 1000000 := by omega
  have g3 : (n : Int) ≤ (c : Int) := by omega
  have g4 : (1 : Int) ≤ (c : Int) := by omega
  have gm : min (n : Int) 1 = 1 := by omega
  have H1 := hide h1
  obtain ⟨y1, y4⟩ := hy
  clear h1
  go_enter Tryd.func75, Tryd.ntmps75
  go_wp2_with fail
  refine (unhide H1).mono ?_
  rintro e w1 ⟨rfl, hy, hU⟩
  have HU := hide hU
  obtain ⟨y1, y4⟩ := hy
  clear hU H1
  go_wp2_with fail
  go_region_held3 (fun w' => w'.cell? ⟨b, o + 1, none⟩ = some (.string s) ∧ w'.cell? ⟨b, o + 4, none⟩ = some (.slice (some ⟨q, o', none⟩) n c)) (first | assumption | exact ⟨y1, y4⟩) (first | (go_at_call 59; refine (unhide HU _ (Below.refl _ _).drew).mono ?_; rintro e w2 ⟨rfl, hk2, hR2⟩))
  all_goals
    clear HU
    go_wp2
    refine bodyPost_end (results_none rfl _ _ _) rfl ?_
    exact ⟨rfl, hR2⟩
set_option maxRecDepth 100000 in
set_option maxHeartbeats 8000000 in
theorem xbin_c1 {r b o q o' : Nat} {s : ByteArray} {w : World} {R : World → Prop} (hy : BiP b o s (some ⟨q, o', none⟩) 1 1 w)
    (h1 : Calls Tryd.prog 58 #[.pointer (some ⟨r, 0, none⟩), .slice (some ⟨q, o', none⟩) 1 1] w fun e w1 => e = .returned (.tuple #[]) ∧ BiP b o s (some ⟨q, o', none⟩) 1 1 w1 ∧ ∀ W, Below w1.heap.size w1 W →
      Calls Tryd.prog 59 #[.pointer (some ⟨r, 0, none⟩), .string s, .slice (some ⟨q, o', none⟩) 0 0] W fun e w2 => e = .returned (.tuple #[]) ∧ BiP b o s (some ⟨q, o', none⟩) 1 1 w2 ∧ R w2) :
    Calls Tryd.prog 75 #[.pointer (some ⟨r, 0, none⟩), .pointer (some ⟨b, o, none⟩)] w fun e w' => e = .returned (.tuple #[]) ∧ R w' := by
  have H1 := hide h1
  obtain ⟨y1, y4⟩ := hy
  clear h1
  go_enter Tryd.func75, Tryd.ntmps75
  go_wp2_with fail
  refine (unhide H1).mono ?_
  rintro e w1 ⟨rfl, hy, hU⟩
  have HU := hide hU
  obtain ⟨y1, y4⟩ := hy
  clear hU H1
  go_wp2_with fail
  go_region_held3 (fun w' => w'.cell? ⟨b, o + 1, none⟩ = some (.string s) ∧ w'.cell? ⟨b, o + 4, none⟩ = some (.slice (some ⟨q, o', none⟩) 1 1)) (first | assumption | exact ⟨y1, y4⟩) (first | (go_at_call 59; refine (unhide HU _ (Below.refl _ _).drew).mono ?_; rintro e w2 ⟨rfl, hk2, hR2⟩))
  all_goals
    clear HU
    go_wp2
    refine bodyPost_end (results_none rfl _ _ _) rfl ?_
    exact ⟨rfl, hR2⟩
set_option maxRecDepth 100000 in
set_option maxHeartbeats 8000000 in
theorem xbin_zero {r b o : Nat} {s : ByteArray} {w : World} {R : World → Prop} (hy : BiP b o s none 0 0 w)
    (h1 : Calls Tryd.prog 58 #[.pointer (some ⟨r, 0, none⟩), .slice none 0 0] w fun e w1 => e = .returned (.tuple #[]) ∧ BiP b o s none 0 0 w1 ∧ ∀ W, Below w1.heap.size w1 W →
      Calls Tryd.prog 59 #[.pointer (some ⟨r, 0, none⟩), .string s, .slice none 0 0] W fun e w2 => e = .returned (.tuple #[]) ∧ BiP b o s none 0 0 w2 ∧ R w2) :
    Calls Tryd.prog 75 #[.pointer (some ⟨r, 0, none⟩), .pointer (some ⟨b, o, none⟩)] w fun e w' => e = .returned (.tuple #[]) ∧ R w' := by
  have H1 := hide h1
  have gm : min (0 : Int) 1 = 0 := by decide
  obtain ⟨y1, y4⟩ := hy
  clear h1
  go_enter Tryd.func75, Tryd.ntmps75
  go_wp2_with fail
  refine (unhide H1).mono ?_
  rintro e w1 ⟨rfl, hy, hU⟩
  have HU := hide hU
  obtain ⟨y1, y4⟩ := hy
  clear hU H1
  go_wp2_with fail
  go_region_held3 (fun w' => w'.cell? ⟨b, o + 1, none⟩ = some (.string s) ∧ w'.cell? ⟨b, o + 4, none⟩ = some (.slice none 0 0)) (first | assumption | exact ⟨y1, y4⟩) (first | (go_at_call 59; refine (unhide HU _ (Below.refl _ _).drew).mono ?_; rintro e w2 ⟨rfl, hk2, hR2⟩))
  all_goals
    clear HU
    go_wp2
    refine bodyPost_end (results_none rfl _ _ _) rfl ?_
    exact ⟨rfl, hR2⟩
end Go.Proofs.YtljhpbjngbbjbaaDoor

/- Package scope: binding at a tree. -/
namespace Go.Proofs.YtljhpbjngbbjbaaDoor
open Go Go.RowKit
theorem BiP.of {w : World} {h lo hi b o n c : Nat} {a : Option Addr} {t : Er} (hx : OE w (h + 1) lo hi b o t) (y4 : w.cell? ⟨b, o + 4, none⟩ = some (.slice a n c)) : BiP b o t.name a n c w := by
  obtain ⟨a', n', c', -, y1, -⟩ := hx.cells
  exact ⟨y1, y4⟩
theorem BiP.low {H : Nat} {S : Nat → Nat → Prop} {w w' : World} {b o n c : Nat} {s : ByteArray} {a : Option Addr} (h : BiP b o s a n c w) (hf : Fr H S w w') (hb : b < H) (hs : ∀ j, ¬ S b j) : BiP b o s a n c w' := ⟨(hf.cell b _ hb (hs _)).trans h.1, (hf.cell b _ hb (hs _)).trans h.2⟩
theorem Fr.wide {H lo hi q o n lo' hi' q' o' n' : Nat} {w w' : World} (hf : Fr H (Foot lo hi q o n) w w') (h : ∀ k j, Foot lo hi q o n k j → Foot lo' hi' q' o' n' k j) : Fr H (Foot lo' hi' q' o' n') w w' := hf.mono h
theorem xbin_any {H r mc md mb k lo hi b o : Nat} (hE : EC H r mc md mb k) {w : World} {z : RZ} {t : Er} (h : RSt H r mc md mb w z) (hx : OE w (k + 1) lo hi b o t) (hA : Ap H lo hi b) (hFi : Fi (k + 1) z) : Calls Tryd.prog 75 #[.pointer (some ⟨r, 0, none⟩), .pointer (some ⟨b, o, none⟩)] w (EP H r mc md mb (k + 1) lo hi b o (binS (rxE k) z t) w) := by
  obtain ⟨a, n, c, y0, y1, y4, y5, y6, yf, hs⟩ := hx.cells
  have hB := BiP.of hx y4
  obtain ⟨g1, g2, g3, g4, g5, g6⟩ := hs
  have ho := hA.o1
  have hh := hA.h1
  have hF0 : Fi k z := hFi.down (by omega)
  obtain ⟨op, nm, nu, bl, l, i, at'⟩ := t
  dsimp only at g1 g5 g6
  cases l with
  | nil =>
    obtain rfl : n = 0 := g1
    obtain ⟨rfl, rfl⟩ := g6 rfl
    have e : binS (rxE k) z ⟨op, nm, nu, bl, [], i, at'⟩ = (⟨op, nm, nu, bl, [], i, at'⟩, (undS (thr (rxE k)) nm z []).2) := rfl
    rw [e]
    refine (xbin_zero (R := fun w' => EP H r mc md mb (k + 1) lo hi b o (⟨op, nm, nu, bl, [], i, at'⟩, (undS (thr (rxE k)) nm z []).2) w (.returned (.tuple #[])) w') hB ((exprs_nil h).mono ?_)).mono ?_
    · rintro e w1 ⟨rfl, h1, h2⟩
      have hB1 := hB.low (Fr.of (fun _ _ => False) h2) hA.b1 fun _ h => h
      refine ⟨rfl, hB1, fun W hW => ?_⟩
      have hR := h1.below hW
      have h2W : Below H w W := h2.trans (hW.mono h1.size)
      refine (xund_any hE (lo := 0) (hi := 0) (q := b) (o := 0) (n := 0) (l := []) nm hR rfl ⟨hA.b1, Nat.zero_le _, .inr (Nat.zero_le _)⟩ hFi rfl (Nat.zero_le _) (Nat.zero_le _) (fun h => absurd rfl h)).mono ?_
      rintro e w2 ⟨rfl, k1, -, k3⟩
      have k4 : Below H W w2 := k3.low (Nat.le_refl _) fun k' j hk => by rcases hk with ⟨q1, q2⟩ | ⟨q1, q2, q3⟩ <;> omega
      exact ⟨rfl, hB1.low (Fr.of (fun _ _ => False) ((hW.mono h1.size).trans k4)) hA.b1 fun _ h => h, unwritten hx hA k1 (h2W.trans k4)⟩
    · rintro e w' ⟨rfl, h⟩
      exact h
  | cons t0 l =>
    obtain ⟨q, o', rfl, k1, k2, m, k3, k4, k5⟩ := g5 (by simp)
    have l5 := OLp.le _ _ _ _ k5
    have hA1 : Ap H (q + 1) m q := ⟨by omega, by omega, .inl (by omega)⟩
    have hA2 : Ap H m hi q := ⟨by omega, by omega, .inl (by omega)⟩
    have hlen : n = l.length + 1 := g1
    have hx1 : OLp (OE w k) q (q + 1) m o' [t0] := ⟨m, k3, k4, rfl⟩
    have hthr := thr_kp (rx_kp k) [t0] z hF0
    have hF2 : Fi (k + 1) (thr (rxE k) z [t0]).2 := ⟨hthr.1.d0, by rw [hthr.2]; exact hFi.d1, hthr.1.b⟩
    have e : binS (rxE k) z ⟨op, nm, nu, bl, t0 :: l, i, at'⟩ = ((⟨op, nm, nu, bl, t0 :: l, i, at'⟩ : Er).setL ((thr (rxE k) z [t0]).1 ++ (undS (thr (rxE k)) nm (thr (rxE k) z [t0]).2 l).1), (undS (thr (rxE k)) nm (thr (rxE k) z [t0]).2 l).2) := rfl
    rw [e]
    have HU : ∀ (a2 : Option Addr) (c2 : Nat) (w1 W w2 : World) (e : Ending), l.length ≤ c2 → (l ≠ [] → a2 = some ⟨q, o' + 7, none⟩) → Below w1.heap.size w1 W → LP H r mc md mb k (q + 1) m q o' 1 (thr (rxE k) z [t0]) w (.returned (.tuple #[])) w1 →
        LP H r mc md mb k m hi q (o' + 7) l.length (undS (thr (rxE k)) nm (thr (rxE k) z [t0]).2 l) W e w2 → e = .returned (.tuple #[]) ∧ BiP b o nm (some ⟨q, o', none⟩) n c w2 ∧ EP H r mc md mb (k + 1) lo hi b o ((⟨op, nm, nu, bl, t0 :: l, i, at'⟩ : Er).setL ((thr (rxE k) z [t0]).1 ++ (undS (thr (rxE k)) nm (thr (rxE k) z [t0]).2 l).1), (undS (thr (rxE k)) nm (thr (rxE k) z [t0]).2 l).2) w (.returned (.tuple #[])) w2 := by
      intro a2 c2 w1 W w2 e hc2 ha2 hW ⟨_, p1, p2, p3⟩ ⟨he, s1, s2, s3⟩
      subst he
      have f1 : Fr H (Foot (q + 1) hi q o' (7 * n)) w w1 := p3.mono fun k' j hk => by
        rcases hk with ⟨q1, q2⟩ | ⟨q1, q2, q3⟩
        · exact .inl ⟨by omega, by omega⟩
        · exact .inr ⟨by omega, by omega, by omega⟩
      have f2 : Fr H (Foot (q + 1) hi q o' (7 * n)) W w2 := s3.mono fun k' j hk => by
        rcases hk with ⟨q1, q2⟩ | ⟨q1, q2, q3⟩
        · exact .inl ⟨by omega, by omega⟩
        · exact .inr ⟨by omega, by omega, by omega⟩
      have f3 : Fr H (Foot (q + 1) hi q o' (7 * n)) w w2 := (f1.trans (Fr.of _ (hW.mono p1.size))).trans f2
      have q2 : OLp (OE w2 k) q (q + 1) m o' (thr (rxE k) z [t0]).1 := by
        refine (p2.fr (Fr.of (fun _ _ => False) (hW.mono p1.size)) hA1.b1 hA1.h1 (fun _ _ _ h => h) fun _ _ _ _ h => h).fr s3 hA1.b1 hA1.h1 (fun j j1 j2 hk => ?_) fun k' j j1 j2 hk => ?_
        · have : (thr (rxE k) z [t0]).1.length = 1 := thr_len _ _
          rcases hk with ⟨q1, q2⟩ | ⟨q1, q2, q3⟩ <;> omega
        · rcases hk with ⟨q1, q2⟩ | ⟨q1, q2, q3⟩ <;> omega
      have hL : OLp (OE w2 k) q (q + 1) hi o' ((thr (rxE k) z [t0]).1 ++ (undS (thr (rxE k)) nm (thr (rxE k) z [t0]).2 l).1) := by
        refine (OLp.split _ _ _ _ _).2 ⟨m, q2, ?_⟩
        have : (thr (rxE k) z [t0]).1.length = 1 := thr_len _ _
        rw [this]
        exact s2
      have hu : (undS (thr (rxE k)) nm (thr (rxE k) z [t0]).2 l).1.length = l.length := thr_len l _
      have hv : (thr (rxE k) z [t0]).1.length = 1 := thr_len _ _
      have hop := hx.ops hA y4 ⟨k1, k2⟩ rfl (by rw [List.length_append, hu, hv]; simp; omega) f3 hL
      have hns : ∀ j, ¬ Foot (q + 1) hi q o' (7 * n) b j := fun j hk => by rcases hk with ⟨q1, q2⟩ | ⟨q1, q2, q3⟩ <;> omega
      exact ⟨rfl, hB.low f3 hA.b1 hns, rfl, s1, hop.1, hop.2⟩
    have hB1 : ∀ w1, LP H r mc md mb k (q + 1) m q o' 1 (thr (rxE k) z [t0]) w (.returned (.tuple #[])) w1 → BiP b o nm (some ⟨q, o', none⟩) n c w1 := fun w1 h1 => hB.low h1.2.2.2 hA.b1 fun j hk => by rcases hk with ⟨q1, q2⟩ | ⟨q1, q2, q3⟩ <;> omega
    have hxW : ∀ w1 W, LP H r mc md mb k (q + 1) m q o' 1 (thr (rxE k) z [t0]) w (.returned (.tuple #[])) w1 → Below w1.heap.size w1 W → OLp (OE W k) q m hi (o' + 7) l := fun w1 W h1 hW => by
      refine (k5.fr h1.2.2.2 hA2.b1 hA2.h1 (fun j j1 j2 hk => ?_) fun k' j j1 j2 hk => ?_).fr (Fr.of (fun _ _ => False) (hW.mono h1.2.1.size)) hA2.b1 hA2.h1 (fun _ _ _ h => h) fun _ _ _ _ h => h
      · rcases hk with ⟨q1, q2⟩ | ⟨q1, q2, q3⟩ <;> omega
      · rcases hk with ⟨q1, q2⟩ | ⟨q1, q2, q3⟩ <;> omega
    by_cases hc1 : c = 1
    · subst hc1
      obtain rfl : n = 1 := by omega
      have hl : l = [] := List.length_eq_zero_iff.1 (by omega)
      refine (xbin_c1 (R := fun w' => EP H r mc md mb (k + 1) lo hi b o ((⟨op, nm, nu, bl, t0 :: l, i, at'⟩ : Er).setL ((thr (rxE k) z [t0]).1 ++ (undS (thr (rxE k)) nm (thr (rxE k) z [t0]).2 l).1), (undS (thr (rxE k)) nm (thr (rxE k) z [t0]).2 l).2) w (.returned (.tuple #[])) w') hB ((xrow_of hE (n := 1) h hx1 hA1 hF0 rfl (by omega) (by omega)).mono ?_)).mono ?_
      · intro e w1 h1
        obtain rfl := h1.1
        refine ⟨rfl, hB1 w1 h1, fun W hW => ?_⟩
        refine (xund_any hE (o := o' + 7) (n := 0) nm (h1.2.1.below hW) (hxW w1 W h1 hW) hA2 hF2 (by omega) (by omega) (by omega) (fun h => absurd hl h)).mono ?_
        intro e w2 h2
        exact HU none 0 w1 W w2 e (by omega) (fun h => absurd hl h) hW h1 (by rw [hl] at h2 ⊢; exact h2)
      · rintro e w' ⟨rfl, h⟩
        exact h
    · refine (xbin_one (R := fun w' => EP H r mc md mb (k + 1) lo hi b o ((⟨op, nm, nu, bl, t0 :: l, i, at'⟩ : Er).setL ((thr (rxE k) z [t0]).1 ++ (undS (thr (rxE k)) nm (thr (rxE k) z [t0]).2 l).1), (undS (thr (rxE k)) nm (thr (rxE k) z [t0]).2 l).2) w (.returned (.tuple #[])) w') (by omega) g2 g3 hc1 hB ((xrow_of hE (n := 1) h hx1 hA1 hF0 rfl (by omega) (by omega)).mono ?_)).mono ?_
      · intro e w1 h1
        obtain rfl := h1.1
        refine ⟨rfl, hB1 w1 h1, fun W hW => ?_⟩
        have en : n - 1 = l.length := by omega
        rw [en]
        refine (xund_any hE (o := o' + 7) nm (h1.2.1.below hW) (hxW w1 W h1 hW) hA2 hF2 rfl (by omega) (by omega) (fun _ => rfl)).mono ?_
        intro e w2 h2
        exact HU (some ⟨q, o' + 7, none⟩) (c - 1) w1 W w2 e (by omega) (fun _ => rfl) hW h1 h2
      · rintro e w' ⟨rfl, h⟩
        exact h
end Go.Proofs.YtljhpbjngbbjbaaDoor

/- Package scope: expressions at every height. -/
namespace Go.Proofs.YtljhpbjngbbjbaaDoor
open Go Go.RowKit
/-- What the rule of an operator does. -/
theorem rule_all {H r mc md mb k lo hi b o : Nat} (hE : EC H r mc md mb k) {w : World} {z : RZ} {t : Er} (h : RSt H r mc md mb w z) (hx : OE w (k + 1) lo hi b o t) (hA : Ap H lo hi b) (hFi : Fi (k + 1) z) : Calls Tryd.prog (ruleF t.op) #[.pointer (some ⟨r, 0, none⟩), .pointer (some ⟨b, o, none⟩)] w (EP H r mc md mb (k + 1) lo hi b o (rxE (k + 1) z t) w) := by
  have hF0 : Fi k z := hFi.down (by omega)
  unfold ruleF rxE
  split
  · exact variable_any h hx hA hFi
  split
  · exact cell_any h hx hA
  split
  · exact old_any h hx hA
  split
  · exact xwri_any hE h hx hA hF0
  split
  · exact xcal_any hE h hx hA hF0
  split
  · exact xbin_any hE h hx hA hFi
  · exact xops_any hE h hx hA hF0
theorem ruleF_in (op : Int) : ruleF op = 70 ∨ ruleF op = 71 ∨ ruleF op = 72 ∨ ruleF op = 73 ∨ ruleF op = 74 ∨ ruleF op = 75 ∨ ruleF op = 76 := by
  unfold ruleF
  repeat' split
  all_goals simp
set_option maxRecDepth 100000 in
set_option maxHeartbeats 8000000 in
theorem ec_next {H r mc md mb k : Nat} (hE : EC H r mc md mb k) : EC H r mc md mb (k + 1) := by
  intro lo hi b o w z t h hx hA hFi
  obtain ⟨a, n, c, y0, y1, y4, y5, y6, yf, -⟩ := hx.cells
  have HC := hide (rule_all hE h hx hA hFi)
  have HR := hide (ruleOf_any (w := w) (r := r) t.op)
  have hI := ruleF_in t.op
  obtain ⟨f, hf⟩ : ∃ f, ruleF t.op = f := ⟨_, rfl⟩
  rw [hf] at HC HR hI
  clear h hx hA hFi hE hf y1 y4 y5 y6 yf
  go_enter Tryd.func60, Tryd.ntmps60
  go_wp2_with fail
  refine (unhide HR).mono ?_
  rintro e w1 ⟨rfl, rfl⟩
  rcases hI with rfl | rfl | rfl | rfl | rfl | rfl | rfl
  all_goals
    go_wp2_with fail
    refine (unhide HC).mono ?_
    intro e w2 h2
    obtain rfl := h2.1
    have H2 := hide h2
    clear h2 HC HR
    go_wp2
    refine bodyPost_end (results_none rfl _ _ _) rfl ?_
    exact unhide H2
theorem ec_all (H r mc md mb : Nat) : ∀ k, EC H r mc md mb k
  | 0 => fun _ _ _ _ _ _ _ _ hx _ _ => hx.elim
  | k + 1 => ec_next (ec_all H r mc md mb k)
end Go.Proofs.YtljhpbjngbbjbaaDoor

namespace Go.Proofs.YtljhpbjngbbjbaaDoor
open Go Go.RowKit
theorem infP6 : (Tryd.prog.info? 74).map (fun i => (i.zero.map fun z => z.cells.size, i.size, i.bytes)) = some (some 6, 6, 80) := by kernel_rfl
theorem infD22 : (Tryd.prog.info? 53).map (fun i => (i.zero.map fun z => z.cells.size, i.size, i.bytes)) = some (some 22, 22, 320) := by kernel_rfl
theorem infE6 : (Tryd.prog.info? 51).map (fun i => (i.zero.map fun z => z.cells.size, i.size, i.bytes)) = some (some 7, 7, 88) := by kernel_rfl
theorem unE : Tryd.prog.underlying 47 = some (.slice 51) := by kernel_rfl
theorem unP : Tryd.prog.underlying 46 = some (.slice 74) := by kernel_rfl
theorem unD : Tryd.prog.underlying 23 = some (.slice 53) := by kernel_rfl
theorem app_nil {w : World} {t e : TypeId} {s b : Nat} {a : Option Addr} {c : Nat} (ht : Tryd.prog.underlying t = some (.slice e)) (hi : (Tryd.prog.info? e).map (fun i => (i.zero.map fun z => z.cells.size, i.size, i.bytes)) = some (some s, s, b)) (ty : TypeId) : (Builtin.append_ #[t, t] ty #[.slice none 0 0, .slice a 0 c]).run Tryd.prog w = .ok (.slice none 0 0) w := by
  obtain ⟨i, h1, h2⟩ := Option.map_eq_some_iff.1 hi
  simp only [Prod.mk.injEq] at h2
  obtain ⟨z, h3, h4⟩ := Option.map_eq_some_iff.1 h2.1
  cases a with
  | none => simp [Builtin.append_, run_underlying ht, sizeOf, typeInfo, zeroValue, h1, h3, Builtin.lenOf, run_firstCells_none]
  | some p =>
    have hf : (Builtin.firstCells i.size 0 (.slice (some p) 0 c)).run Tryd.prog w = .ok #[] w := run_firstCells_some (P := Tryd.prog) (w := w) i.size 0 p 0 c [] (by simp) (fun _ _ h => by simp at h)
    simp [Builtin.append_, run_underlying ht, sizeOf, typeInfo, zeroValue, h1, h3, Builtin.lenOf, hf, storeCells]
/-- A row of n elements of s cells, copied. -/
theorem app_copy {w : World} {t e : TypeId} {s by' n c b off : Nat} (ht : Tryd.prog.underlying t = some (.slice e)) (hi : (Tryd.prog.info? e).map (fun i => (i.zero.map fun z => z.cells.size, i.size, i.bytes)) = some (some s, s, by')) (hs : 0 < s) (hs2 : s ≤ 22) (hb : by' ≤ 400) (h0 : n ≠ 0) (hn : n ≤ 1000000) (hc : ∀ j, j < n * s → ∃ u, w.cell? ⟨b, off + j, none⟩ = some u ∧ u.oneCell' = true) (ty : TypeId) :
    ∃ g cap w', (Builtin.append_ #[t, t] ty #[.slice none 0 0, .slice (some ⟨b, off, none⟩) n c]).run Tryd.prog w = .ok (.slice (some ⟨g, 0, none⟩) n cap) w' ∧ n ≤ cap ∧ w.heap.size ≤ g ∧ g < w'.heap.size ∧ Below w.heap.size w w' ∧ (∀ o, w'.frozen? ⟨g, o, none⟩ = false) ∧ ∀ j, j < n * s → w'.cell? ⟨g, j, none⟩ = w.cell? ⟨b, off + j, none⟩ := by
  obtain ⟨i, h1, h2⟩ := Option.map_eq_some_iff.1 hi
  simp only [Prod.mk.injEq] at h2
  obtain ⟨z, h3, h4⟩ := Option.map_eq_some_iff.1 h2.1
  obtain ⟨vs, hvl, hv⟩ : ∃ vs : List Value, vs.length = n * s ∧ ∀ j u, vs[j]? = some u → w.cell? ⟨b, off + j, none⟩ = some u ∧ u.oneCell' = true := by
    refine ⟨(List.range (n * s)).map fun j => (w.cell? ⟨b, off + j, none⟩).getD undef, by simp, fun j u hu => ?_⟩
    rw [List.getElem?_map] at hu
    obtain ⟨x, hx, rfl⟩ := Option.map_eq_some_iff.1 hu
    obtain ⟨hx1, hx2⟩ := List.getElem?_eq_some_iff.1 hx
    have hj : j < n * s := by simpa using hx1
    have ej : x = j := by rw [← hx2]; simp
    subst ej
    obtain ⟨u, hu1, hu2⟩ := hc x hj
    rw [hu1]
    exact ⟨rfl, hu2⟩
  obtain ⟨v', w', hr, ho, hg, _⟩ := run_append_own (P := Tryd.prog) w w.heap.size t ty e i z s by' ht h1 h3 h2.2.1 h2.2.2 h4 hs (.slice none 0 0) 0 [] ⟨by simp, .inl ⟨rfl, rfl⟩⟩ ⟨b, off, none⟩ n c vs hvl (fun j u hu => by rw [Addr.add_lit]; exact (hv j u hu).1) (fun u hu => by
      obtain ⟨j, hj, rfl⟩ := List.getElem_of_mem hu
      exact (hv j _ (List.getElem?_eq_getElem hj)).2) (by unfold maxLen; omega) (by
      have : (0 + n) * by' ≤ 1000000 * 400 := Nat.mul_le_mul (by omega) hb
      omega) (Nat.le_refl _)
  have hbe : Below w.heap.size w w' := (Below.refl _ w).grown hg (Nat.le_refl _) (fun k e => by cases e)
  obtain ⟨hlen, ⟨-, e0⟩ | ⟨g, cap, cur, rfl, hg1, hg2, hc1, hc2, hc3, hc4⟩⟩ := ho
  · omega
  have en : 0 + n = n := Nat.zero_add n
  rw [en] at hr hc1 hc4
  refine ⟨g, cap, w', hr, hc1, hg1, (Array.getElem?_eq_some_iff.1 hg2).1, hbe, fun o => by simp [World.frozen?, hg2], fun j hj => ?_⟩
  have hvj : vs[j]? = some vs[j] := List.getElem?_eq_getElem (by omega)
  have hw := (hv j _ hvj).1
  rw [hw]
  have h5 : (cur.toList.take (n * s))[j]? = some vs[j] := by rw [hc4, List.nil_append]; exact hvj
  rw [List.getElem?_take, if_pos hj] at h5
  exact (blk hg2).2.1 j _ (by rw [← Array.getElem?_toList]; exact h5)
end Go.Proofs.YtljhpbjngbbjbaaDoor
