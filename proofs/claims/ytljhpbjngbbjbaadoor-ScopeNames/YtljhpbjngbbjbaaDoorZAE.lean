/- Package scope: parameters are copied. -/
import Derived.Test.YtljhpbjngbbjbaaDoorZAD
import Derived.Test.YtljhpbjngbbjbaaDoorZAC
set_option linter.unusedVariables false
set_option linter.unusedSimpArgs false

/- Package scope: fitting. -/
namespace Go.Proofs.YtljhpbjngbbjbaaDoor
open Go Go.RowKit
/-- The copier: so many may still be copied. -/
def CpS (w : World) (cb : Nat) (L : Int) : Prop := w.heap[cb]? = some (.cells #[.int .i64 L] 91)
theorem CpS.set {w : World} {cb : Nat} {L : Int} (h : CpS w cb L) (M : Int) : CpS (w.setCell ⟨cb, 0, none⟩ (.int .i64 M)) cb M := set_block h _
theorem CpS.below {w w' : World} {cb : Nat} {L : Int} (h : CpS w cb L) (hb : Below w.heap.size w w') : CpS w' cb L := (hb.block cb (blk h).1).trans h
set_option maxRecDepth 100000 in
set_option maxHeartbeats 8000000 in
theorem fitE_walk {w w1 : World} {cb n c c2 : Nat} {L : Int} {a a2 : Option Addr} (hn : n ≤ c) (hm : n ≤ 1000000) (hC : CpS w cb L) (hL : (n : Int) ≤ L) (hL2 : L ≤ 1000000) (hc0 : ¬ c = 0) (hrun : (Builtin.append_ #[47, 47] 47 #[.slice none 0 0, .slice a n c]).run Tryd.prog w = .ok (.slice a2 n c2) w1) (hb : Below w.heap.size w w1) (ha : a.map (fun x => x.add 0) = a) : Calls Tryd.prog 56 #[.pointer (some ⟨cb, 0, none⟩), .slice a n c] w fun e w' => e = .returned (.slice a2 n c2) ∧ CpS w' cb (L - n) ∧ w' = w1.setCell ⟨cb, 0, none⟩ (.int .i64 (L - n)) := by
  have x0 : w.cell? ⟨cb, 0, none⟩ = some (.int .i64 L) := (blk hC).2.1 0 _ rfl
  have hC1 := hC.below hb
  have y0 : w1.cell? ⟨cb, 0, none⟩ = some (.int .i64 L) := (blk hC1).2.1 0 _ rfl
  have yf := (blk hC1).2.2 0
  have g1 : (0 : Int) ≤ (n : Int) := by omega
  have g2 : (n : Int) ≤ (c : Int) := by omega
  have g3 : (n : Int) ≤ 1000000 := by omega
  have gm : min (n : Int) L = n := by omega
  have gw : wrap64 (L - n) = L - n := by unfold wrap64; omega
  have HC := hide hC1
  have R1 := hide hrun
  clear hb hC hC1 hn hm hL hrun
  go_enter Tryd.func56, Tryd.ntmps56
  go_wp2_with (at_builtin; refine app_run _ _ _ rfl rfl rfl rfl (unhide R1) ?_; clear R1)
  go_wp2
  go_ret
  exact ⟨rfl, (unhide HC).set _, rfl⟩
set_option maxRecDepth 100000 in
set_option maxHeartbeats 8000000 in
theorem fitE_nil {w w1 : World} {cb c2 : Nat} {L : Int} {a a2 : Option Addr} (hC : CpS w cb L) (hL : 0 ≤ L) (hL2 : L ≤ 1000000) (hrun : (Builtin.append_ #[47, 47] 47 #[.slice none 0 0, .slice a 0 0]).run Tryd.prog w = .ok (.slice a2 0 c2) w1) (hb : Below w.heap.size w w1) : Calls Tryd.prog 56 #[.pointer (some ⟨cb, 0, none⟩), .slice a 0 0] w fun e w' => e = .returned (.slice a2 0 c2) ∧ CpS w' cb L ∧ w' = w1.setCell ⟨cb, 0, none⟩ (.int .i64 L) := by
  have x0 : w.cell? ⟨cb, 0, none⟩ = some (.int .i64 L) := (blk hC).2.1 0 _ rfl
  have hC1 := hC.below hb
  have y0 : w1.cell? ⟨cb, 0, none⟩ = some (.int .i64 L) := (blk hC1).2.1 0 _ rfl
  have yf := (blk hC1).2.2 0
  have gm : min (0 : Int) L = 0 := by omega
  have gw : wrap64 L = L := by unfold wrap64; omega
  have HC := hide hC1
  have R1 := hide hrun
  clear hb hC hC1 hL hrun
  go_enter Tryd.func56, Tryd.ntmps56
  go_wp2_with (at_builtin; refine app_run _ _ _ rfl rfl rfl rfl (unhide R1) ?_; clear R1)
  go_wp2
  go_ret
  exact ⟨rfl, (unhide HC).set _, rfl⟩
/-- A copy of a row, as far as it may be copied (all of it, here). -/
theorem fitE_any {w : World} {cb n c : Nat} {L : Int} {a : Option Addr} (hn : n ≤ c) (hm : n ≤ 1000000) (hC : CpS w cb L) (hL : (n : Int) ≤ L) (hL2 : L ≤ 1000000) (hr : n ≠ 0 → ∃ b off, a = some ⟨b, off, none⟩ ∧ ∀ j, j < n * 7 → ∃ u, w.cell? ⟨b, off + j, none⟩ = some u ∧ u.oneCell' = true) :
    Calls Tryd.prog 56 #[.pointer (some ⟨cb, 0, none⟩), .slice a n c] w fun e w' => ∃ a2 c2, e = .returned (.slice a2 n c2) ∧ n ≤ c2 ∧ CpS w' cb (L - n) ∧ But cb w w' ∧ (n = 0 → a2 = none ∧ c2 = 0) ∧ (n ≠ 0 → ∃ g b off, a2 = some ⟨g, 0, none⟩ ∧ a = some ⟨b, off, none⟩ ∧ w.heap.size ≤ g ∧ g < w'.heap.size ∧ (∀ o, w'.frozen? ⟨g, o, none⟩ = false) ∧ ∀ j, j < n * 7 → w'.cell? ⟨g, j, none⟩ = w.cell? ⟨b, off + j, none⟩) := by
  have hcb := (blk hC).1
  by_cases h0 : n = 0
  · subst h0
    have hrun := app_nil (w := w) (a := a) (c := c) unE infE6 47
    by_cases hc : c = 0
    · subst hc
      refine (fitE_nil hC (by omega) hL2 hrun (Below.refl _ _)).mono ?_
      rintro e w' ⟨rfl, h1, rfl⟩
      exact ⟨none, 0, rfl, Nat.le_refl _, by simpa using h1, (But.refl cb w).set 0 _, fun _ => ⟨rfl, rfl⟩, fun h => absurd rfl h⟩
    · refine (fitE_walk (Nat.zero_le _) (Nat.zero_le _) hC (by omega) hL2 hc hrun (Below.refl _ _) (by cases a <;> simp [Addr.add])).mono ?_
      rintro e w' ⟨rfl, h1, rfl⟩
      exact ⟨none, 0, rfl, Nat.le_refl _, h1, (But.refl cb w).set 0 _, fun _ => ⟨rfl, rfl⟩, fun h => absurd rfl h⟩
  · obtain ⟨b, off, rfl, hcell⟩ := hr h0
    obtain ⟨g, cap, w1, hrun, k1, k2, k3, k4, k5, k6⟩ := app_copy (c := c) unE infE6 (by omega) (by omega) (by omega) h0 hm hcell 47
    refine (fitE_walk hn hm hC hL hL2 (by omega) hrun k4 (by simp [Addr.add])).mono ?_
    rintro e w' ⟨rfl, h1, rfl⟩
    refine ⟨_, cap, rfl, k1, h1, (But.of k4).set 0 _, fun h => absurd h h0, fun _ => ⟨g, b, off, rfl, rfl, k2, by simpa using k3, fun o => by rw [World.frozen?_setCell]; exact k5 o, fun j hj => (cell_ne (.inl (by omega))).trans (k6 j hj)⟩⟩
set_option maxRecDepth 100000 in
set_option maxHeartbeats 8000000 in
theorem fitP_walk {w w1 : World} {cb n c c2 : Nat} {L : Int} {a a2 : Option Addr} (hn : n ≤ c) (hm : n ≤ 1000000) (hC : CpS w cb L) (hL : (n : Int) ≤ L) (hL2 : L ≤ 1000000) (hc0 : ¬ c = 0) (hrun : (Builtin.append_ #[46, 46] 46 #[.slice none 0 0, .slice a n c]).run Tryd.prog w = .ok (.slice a2 n c2) w1) (hb : Below w.heap.size w w1) (ha : a.map (fun x => x.add 0) = a) : Calls Tryd.prog 55 #[.pointer (some ⟨cb, 0, none⟩), .slice a n c] w fun e w' => e = .returned (.slice a2 n c2) ∧ CpS w' cb (L - n) ∧ w' = w1.setCell ⟨cb, 0, none⟩ (.int .i64 (L - n)) := by
  have x0 : w.cell? ⟨cb, 0, none⟩ = some (.int .i64 L) := (blk hC).2.1 0 _ rfl
  have hC1 := hC.below hb
  have y0 : w1.cell? ⟨cb, 0, none⟩ = some (.int .i64 L) := (blk hC1).2.1 0 _ rfl
  have yf := (blk hC1).2.2 0
  have g1 : (0 : Int) ≤ (n : Int) := by omega
  have g2 : (n : Int) ≤ (c : Int) := by omega
  have g3 : (n : Int) ≤ 1000000 := by omega
  have gm : min (n : Int) L = n := by omega
  have gw : wrap64 (L - n) = L - n := by unfold wrap64; omega
  have HC := hide hC1
  have R1 := hide hrun
  clear hb hC hC1 hn hm hL hrun
  go_enter Tryd.func55, Tryd.ntmps55
  go_wp2_with (at_builtin; refine app_run _ _ _ rfl rfl rfl rfl (unhide R1) ?_; clear R1)
  go_wp2
  go_ret
  exact ⟨rfl, (unhide HC).set _, rfl⟩
set_option maxRecDepth 100000 in
set_option maxHeartbeats 8000000 in
theorem fitP_nil {w w1 : World} {cb c2 : Nat} {L : Int} {a a2 : Option Addr} (hC : CpS w cb L) (hL : 0 ≤ L) (hL2 : L ≤ 1000000) (hrun : (Builtin.append_ #[46, 46] 46 #[.slice none 0 0, .slice a 0 0]).run Tryd.prog w = .ok (.slice a2 0 c2) w1) (hb : Below w.heap.size w w1) : Calls Tryd.prog 55 #[.pointer (some ⟨cb, 0, none⟩), .slice a 0 0] w fun e w' => e = .returned (.slice a2 0 c2) ∧ CpS w' cb L ∧ w' = w1.setCell ⟨cb, 0, none⟩ (.int .i64 L) := by
  have x0 : w.cell? ⟨cb, 0, none⟩ = some (.int .i64 L) := (blk hC).2.1 0 _ rfl
  have hC1 := hC.below hb
  have y0 : w1.cell? ⟨cb, 0, none⟩ = some (.int .i64 L) := (blk hC1).2.1 0 _ rfl
  have yf := (blk hC1).2.2 0
  have gm : min (0 : Int) L = 0 := by omega
  have gw : wrap64 L = L := by unfold wrap64; omega
  have HC := hide hC1
  have R1 := hide hrun
  clear hb hC hC1 hL hrun
  go_enter Tryd.func55, Tryd.ntmps55
  go_wp2_with (at_builtin; refine app_run _ _ _ rfl rfl rfl rfl (unhide R1) ?_; clear R1)
  go_wp2
  go_ret
  exact ⟨rfl, (unhide HC).set _, rfl⟩
/-- A copy of a row, as far as it may be copied (all of it, here). -/
theorem fitP_any {w : World} {cb n c : Nat} {L : Int} {a : Option Addr} (hn : n ≤ c) (hm : n ≤ 1000000) (hC : CpS w cb L) (hL : (n : Int) ≤ L) (hL2 : L ≤ 1000000) (hr : n ≠ 0 → ∃ b off, a = some ⟨b, off, none⟩ ∧ ∀ j, j < n * 6 → ∃ u, w.cell? ⟨b, off + j, none⟩ = some u ∧ u.oneCell' = true) :
    Calls Tryd.prog 55 #[.pointer (some ⟨cb, 0, none⟩), .slice a n c] w fun e w' => ∃ a2 c2, e = .returned (.slice a2 n c2) ∧ n ≤ c2 ∧ CpS w' cb (L - n) ∧ But cb w w' ∧ (n = 0 → a2 = none ∧ c2 = 0) ∧ (n ≠ 0 → ∃ g b off, a2 = some ⟨g, 0, none⟩ ∧ a = some ⟨b, off, none⟩ ∧ w.heap.size ≤ g ∧ g < w'.heap.size ∧ (∀ o, w'.frozen? ⟨g, o, none⟩ = false) ∧ ∀ j, j < n * 6 → w'.cell? ⟨g, j, none⟩ = w.cell? ⟨b, off + j, none⟩) := by
  have hcb := (blk hC).1
  by_cases h0 : n = 0
  · subst h0
    have hrun := app_nil (w := w) (a := a) (c := c) unP infP6 46
    by_cases hc : c = 0
    · subst hc
      refine (fitP_nil hC (by omega) hL2 hrun (Below.refl _ _)).mono ?_
      rintro e w' ⟨rfl, h1, rfl⟩
      exact ⟨none, 0, rfl, Nat.le_refl _, by simpa using h1, (But.refl cb w).set 0 _, fun _ => ⟨rfl, rfl⟩, fun h => absurd rfl h⟩
    · refine (fitP_walk (Nat.zero_le _) (Nat.zero_le _) hC (by omega) hL2 hc hrun (Below.refl _ _) (by cases a <;> simp [Addr.add])).mono ?_
      rintro e w' ⟨rfl, h1, rfl⟩
      exact ⟨none, 0, rfl, Nat.le_refl _, h1, (But.refl cb w).set 0 _, fun _ => ⟨rfl, rfl⟩, fun h => absurd rfl h⟩
  · obtain ⟨b, off, rfl, hcell⟩ := hr h0
    obtain ⟨g, cap, w1, hrun, k1, k2, k3, k4, k5, k6⟩ := app_copy (c := c) unP infP6 (by omega) (by omega) (by omega) h0 hm hcell 46
    refine (fitP_walk hn hm hC hL hL2 (by omega) hrun k4 (by simp [Addr.add])).mono ?_
    rintro e w' ⟨rfl, h1, rfl⟩
    refine ⟨_, cap, rfl, k1, h1, (But.of k4).set 0 _, fun h => absurd h h0, fun _ => ⟨g, b, off, rfl, rfl, k2, by simpa using k3, fun o => by rw [World.frozen?_setCell]; exact k5 o, fun j hj => (cell_ne (.inl (by omega))).trans (k6 j hj)⟩⟩
end Go.Proofs.YtljhpbjngbbjbaaDoor

/- Package scope: expressions are copied into blocks of their own. -/
namespace Go.Proofs.YtljhpbjngbbjbaaDoor
open Go Go.RowKit
theorem OLp.wide {p : Nat → Nat → Nat → Nat → Er → Prop} {q : Nat} (hp : ∀ lo hi hi' o t, hi ≤ hi' → p lo hi q o t → p lo hi' q o t) {hi' : Nat} : ∀ (l : List Er) (lo m o : Nat), l ≠ [] → OLp p q lo m o l → m ≤ hi' → OLp p q lo hi' o l
  | [], _, _, _, h, _, _ => absurd rfl h
  | [t], lo, m, o, _, ⟨k, h1, h2, h3⟩, hm => by
    obtain rfl : k = m := h3
    exact ⟨hi', Nat.le_trans h1 hm, hp _ _ _ _ _ hm h2, rfl⟩
  | t :: u :: l, lo, m, o, _, ⟨k, h1, h2, h3⟩, hm => ⟨k, h1, h2, OLp.wide hp (u :: l) k m (o + 7) (by simp) h3 hm⟩
theorem OE.wide {w : World} : ∀ {h lo hi lo' hi' b o : Nat} {t : Er}, OE w h lo hi b o t → lo' ≤ lo → hi ≤ hi' → OE w h lo' hi' b o t
  | 0, _, _, _, _, _, _, _, h, _, _ => h.elim
  | h + 1, lo, hi, lo', hi', b, o, t, ⟨a, n, c, h1, h2, h3, h4, h5, h6, h7, h8⟩, k1, k2 => by
    refine ⟨a, n, c, h1, h2, h3, h4, h5, by omega, fun hl => ?_, h8⟩
    obtain ⟨q, o', e, g1, g2, g3⟩ := h7 hl
    exact ⟨q, o', e, by omega, by omega, OLp.wide (p := OE w h) (fun _ _ _ _ _ g x => OE.wide x (Nat.le_refl _) g) _ _ _ _ hl g3 k2⟩
theorem OSp.wide {w : World} {h lo hi lo' hi' n c : Nat} {a : Option Addr} {l : List Er} (hx : OSp (OE w h) lo hi a n c l) (k1 : lo' ≤ lo) (k2 : hi ≤ hi') : OSp (OE w h) lo' hi' a n c l := by
  obtain ⟨h3, h4, h5, h6, h7, h8⟩ := hx
  refine ⟨h3, h4, h5, by omega, fun hl => ?_, h8⟩
  obtain ⟨q, o', e, g1, g2, g3⟩ := h7 hl
  exact ⟨q, o', e, by omega, by omega, OLp.wide (p := OE w h) (fun _ _ _ _ _ g x => OE.wide x (Nat.le_refl _) g) _ _ _ _ hl g3 k2⟩
/-- A row of expressions that are so high at most. -/
def LsH (w : World) (P : Nat → Prop) (k : Nat) (a : Option Addr) (n c : Nat) (l : List Ex) : Prop := n = l.length ∧ RowX w P a n c fun b o j => ∀ t, l[j]? = some t → ExAt w P k b o t
theorem LsH.keep {w w' : World} {P P' : Nat → Prop} {k n c : Nat} {a : Option Addr} {l : List Ex} (h : LsH w P k a n c l) (hb : StaysP P w w') (hl : ∀ b, P b → P' b) : LsH w' P' k a n c l :=
  ⟨h.1, h.2.mono hb.1 hl fun b o j hr hbl hj t ht => ExAt.keep hb hl k b o t hr hbl (hj t ht)⟩
theorem sumN_app (x y : List Nat) : sumN (x ++ y) = sumN x + sumN y := by
  induction x with
  | nil => simp [sumN]
  | cons a x ih => simp only [sumN, List.cons_append, List.foldr_cons] at ih ⊢; omega
/-- What hangs on the first ones. -/
def coU (h : Nat) (l : List Ex) : Nat := sumN (l.map fun t => coL h t.l)
theorem coL_succ (h : Nat) (l : List Ex) : coL (h + 1) l = l.length + coU h l := by
  unfold coL coU
  induction l with
  | nil => rfl
  | cons t l ih =>
    simp only [List.map_cons, sumN, List.foldr_cons, List.length_cons] at ih ⊢
    have : coE (h + 1) t = 1 + coL h t.l := rfl
    rw [this, ih]
    omega
theorem coU_take {h j : Nat} {l : List Ex} {t : Ex} (ht : l[j]? = some t) : coU h (l.take (j + 1)) = coU h (l.take j) + coL h t.l := by
  unfold coU
  rw [List.take_add_one, ht]
  simp only [Option.toList, List.map_append, sumN_app]
  simp [sumN]
theorem coU_take_le (h j : Nat) (l : List Ex) : coU h (l.take j) ≤ coU h l := by
  have := congrArg (coU h) (List.take_append_drop j l)
  unfold coU at this ⊢
  rw [List.map_append, sumN_app] at this
  omega
def XcP (cb k : Nat) (L : Int) (n : Nat) (l : List Ex) (w : World) (e : Ending) (w' : World) : Prop := ∃ a2 c2, e = .returned (.slice a2 n c2) ∧ OSp (OE w' k) w.heap.size w'.heap.size a2 n c2 (l.map (er k)) ∧ CpS w' cb (L - coL k l) ∧ But cb w w'
def XC (k : Nat) : Prop := ∀ (w : World) (cb : Nat) (L : Int) (a : Option Addr) (n c : Nat) (l : List Ex) (P : Nat → Prop), (∀ b, P b → b ≠ cb) → CpS w cb L → LsH w P k a n c l → (coL k l : Int) ≤ L → L ≤ 1000000 → Calls Tryd.prog 38 #[.pointer (some ⟨cb, 0, none⟩), .slice a n c] w (XcP cb k L n l w)
set_option maxRecDepth 100000 in
set_option maxHeartbeats 8000000 in
theorem xc_nil {w : World} {cb c k : Nat} {L : Int} {a : Option Addr} (hC : CpS w cb L) (h0 : 0 ≤ L) (hL2 : L ≤ 1000000) : Calls Tryd.prog 38 #[.pointer (some ⟨cb, 0, none⟩), .slice a 0 c] w (XcP cb k L 0 [] w) := by
  have HC := hide (fitE_any (n := 0) (c := c) (a := a) (Nat.zero_le _) (Nat.zero_le _) hC (by omega) hL2 (fun h => absurd rfl h))
  clear hC
  go_enter Tryd.func38, Tryd.ntmps38
  go_wp2_with fail
  refine (unhide HC).mono ?_
  rintro e w1 ⟨a2, c2, rfl, -, k1, k2, k3, -⟩
  obtain ⟨rfl, rfl⟩ := k3 trivial
  have H1 := hide (And.intro k1 k2)
  clear k1 k2 k3 HC
  go_wp2_with fail
  go_loopw [12] (fun iv wr => iv = .int .i64 (0 : Nat) ∧ Hid (wr = w1)) (fun iv _ => 0)
  case atStart => exact ⟨rfl, rfl⟩
  case round =>
    obtain ⟨rfl, HB⟩ := hrel
    go_wp2
    go_ret
    have e := unhide HB
    subst e
    obtain ⟨k1, k2⟩ := unhide H1
    exact ⟨none, 0, rfl, ⟨rfl, Nat.le_refl _, by omega, k2.size, fun h => absurd rfl h, fun _ => ⟨rfl, rfl⟩⟩, by simpa [coL, sumN] using k1, k2⟩
end Go.Proofs.YtljhpbjngbbjbaaDoor

/- Package scope: expressions are copied, at every height. -/
namespace Go.Proofs.YtljhpbjngbbjbaaDoor
open Go Go.RowKit
/-- The copy, while its first j elements have rows of their own. -/
structure XI (w : World) (P : Nat → Prop) (cb h g b off n : Nat) (L : Int) (l : List Ex) (j : Nat) (wr : World) : Prop where
  cp : CpS wr cb (L - n - coU h (l.take j))
  but : But cb w wr
  g0 : w.heap.size ≤ g
  g1 : g < wr.heap.size
  fr : ∀ o, wr.frozen? ⟨g, o, none⟩ = false
  rest : ∀ p, 7 * j ≤ p → p < 7 * n → wr.cell? ⟨g, p, none⟩ = w.cell? ⟨b, off + p, none⟩
  done : ∃ m, m ≤ wr.heap.size ∧ OLp (OE wr (h + 1)) g (g + 1) m 0 ((l.take j).map (er (h + 1)))
theorem exat_cells {w : World} {P : Nat → Prop} {h b o : Nat} {t : Ex} (hx : ExAt w P (h + 1) b o t) : ∃ a c, w.rangeAt b o [.int .i64 t.op, .string t.name, .string t.num, .bool t.b, .slice a t.l.length c, .int .i64 0, .int .i64 t.at'] ∧ LsH w P h a t.l.length c t.l := by
  obtain ⟨op, nm, nu, bl, l, i⟩ := t
  obtain ⟨a, c, h1, h2⟩ := hx
  exact ⟨a, c, h1, rfl, h2⟩
theorem LsH.bnd {w : World} {P : Nat → Prop} {k n c : Nat} {a : Option Addr} {l : List Ex} (h : LsH w P k a n c l) : LsH w (fun x => P x ∧ x < w.heap.size) k a n c l := by
  obtain ⟨h1, h2, h3, h4⟩ := h
  refine ⟨h1, h2, h3, fun h0 => ?_⟩
  obtain ⟨b, off, e, k1, k2, k3⟩ := h4 h0
  exact ⟨b, off, e, ⟨k1, k2⟩, k2, fun j hj t ht => ExAt.bnd _ _ _ _ (k3 j hj t ht)⟩
theorem XI.step {w : World} {P : Nat → Prop} {cb h g b off n j c2 : Nat} {L : Int} {l : List Ex} {wr w2 : World} {t : Ex} {a2 : Option Addr} {sa : Option Addr} {cs : Nat} (hI : XI w P cb h g b off n L l j wr) (hcb : cb < w.heap.size) (hjn : j < n) (ht : l[j]? = some t) (hr : w.rangeAt b (off + j * 7) [.int .i64 t.op, .string t.name, .string t.num, .bool t.b, .slice sa t.l.length cs, .int .i64 0, .int .i64 t.at'])
    (h2 : OSp (OE w2 h) wr.heap.size w2.heap.size a2 t.l.length c2 (t.l.map (er h))) (hc2 : CpS w2 cb (L - n - coU h (l.take j) - coL h t.l)) (hb2 : But cb wr w2) : XI w P cb h g b off n L l (j + 1) (w2.setCell ⟨g, j * 7 + 4, none⟩ (.slice a2 t.l.length c2)) := by
  have hs := hI.but.size
  have hs2 := hb2.size
  have hg := hI.g0
  have hg1 := hI.g1
  have hgc : g ≠ cb := by omega
  have hgs : ∀ o, w2.cell? ⟨g, o, none⟩ = wr.cell? ⟨g, o, none⟩ := fun o => cell_blk (hb2.block g hg1 hgc) o
  have hcell : ∀ x v, ([.int .i64 t.op, .string t.name, .string t.num, .bool t.b, .slice sa t.l.length cs, .int .i64 0, .int .i64 t.at'] : List Value)[x]? = some v → w2.cell? ⟨g, j * 7 + x, none⟩ = some v := fun x v hv => by
    have hx : x < 7 := (List.getElem?_eq_some_iff.1 hv).1
    rw [hgs, hI.rest (j * 7 + x) (by omega) (by omega), ← Nat.add_assoc]
    exact hr x v hv
  obtain ⟨m, hm, hd⟩ := hI.done
  have hl7 : ((l.take j).map (er (h + 1))).length = j := by
    have := (List.getElem?_eq_some_iff.1 ht).1
    simp
    omega
  have hgm := OLp.le _ _ _ _ hd
  refine ⟨?_, ?_, hg, by simp; omega, fun o => by rw [World.frozen?_setCell, froz_blk (hb2.block g hg1 hgc) o]; exact hI.fr o, fun p h3 h4 => ?_, w2.heap.size, by simp, ?_⟩
  · have e : L - n - (coU h (l.take (j + 1)) : Nat) = L - n - coU h (l.take j) - coL h t.l := by rw [coU_take ht]; push_cast; omega
    rw [e]
    exact (heap_set _ _ (Ne.symm hgc)).trans hc2
  · exact but_new (hI.but.trans ⟨hb2.os, hb2.tape, hb2.output, hb2.size, hb2.block⟩) hg _ _
  · rw [cell_ne (.inr (by omega)), hgs]
    exact hI.rest p (by omega) h4
  · rw [List.take_add_one, ht]
    simp only [Option.toList, List.map_append, List.map_cons, List.map_nil]
    rw [OLp.split]
    have hf : Fr (w2.heap.size + g + 1) (fun k i => k = g ∧ i = j * 7 + 4) w2 (w2.setCell ⟨g, j * 7 + 4, none⟩ (.slice a2 t.l.length c2)) := (Fr.refl _ _ _).set _ fun _ => ⟨rfl, rfl⟩
    refine ⟨m, ?_, w2.heap.size, by omega, ?_, rfl⟩
    · have hd2 : OLp (OE w2 (h + 1)) g (g + 1) m 0 ((l.take j).map (er (h + 1))) := OLp.imp _ _ _ _ hd fun lo' hi' o' t' k1 k2 k3 k4 k5 => k5.keep (fun i _ _ => ⟨hgs i, froz_blk (hb2.block g hg1 hgc) i⟩) fun k k6 k7 => hb2.block k (by omega) (by omega)
      refine hd2.fr hf (by omega) (by omega) (fun i k1 k2 => ?_) (fun k i k1 k2 => ?_)
      · rw [hl7] at k2
        intro hh
        omega
      · intro hh
        omega
    · rw [hl7]
      have hw : OSp (OE w2 h) m w2.heap.size a2 t.l.length c2 (t.l.map (er h)) := h2.wide (by omega) (Nat.le_refl _)
      refine ⟨a2, t.l.length, c2, fun x v hv => ?_, by rw [World.frozen?_setCell, froz_blk (hb2.block g hg1 hgc)]; exact hI.fr _, hw.fr hf (by omega) fun k i k1 k2 hh => by omega⟩
      have hx : x < 7 := (List.getElem?_eq_some_iff.1 hv).1
      have e0 : 0 + 7 * j + x = j * 7 + x := by omega
      rw [e0]
      rcases x with _ | _ | _ | _ | _ | _ | _ | x
      · exact (cell_ne (.inr (by omega))).trans (hcell 0 v hv)
      · exact (cell_ne (.inr (by omega))).trans (hcell 1 v hv)
      · exact (cell_ne (.inr (by omega))).trans (hcell 2 v hv)
      · exact (cell_ne (.inr (by omega))).trans (hcell 3 v hv)
      · have ev : v = .slice a2 t.l.length c2 := (Option.some.inj hv).symm
        subst ev
        exact World.cell?_setCell_same _ _ _ (hcell 4 _ rfl)
      · exact (cell_ne (.inr (by omega))).trans (hcell 5 v hv)
      · exact (cell_ne (.inr (by omega))).trans (hcell 6 v hv)
      · omega
set_option maxRecDepth 100000 in
set_option maxHeartbeats 8000000 in
theorem xc_some {h : Nat} (hX : XC h) {w : World} {cb n c b off : Nat} {L : Int} {l : List Ex} {P : Nat → Prop} (hP : ∀ b, P b → b ≠ cb) (hC : CpS w cb L) (hx : LsH w P (h + 1) (some ⟨b, off, none⟩) n c l) (h0 : n ≠ 0) (hL : (coL (h + 1) l : Int) ≤ L) (hL2 : L ≤ 1000000) : Calls Tryd.prog 38 #[.pointer (some ⟨cb, 0, none⟩), .slice (some ⟨b, off, none⟩) n c] w (XcP cb (h + 1) L n l w) := by
  obtain ⟨hn, hr1, hr2, hr3⟩ := hx
  obtain ⟨b', off', e, hPb, hbw, hrow⟩ := hr3 h0
  obtain ⟨rfl, rfl⟩ : b = b' ∧ off = off' := by simpa using e
  have hcb := (blk hC).1
  have hco := coL_succ h l
  have hn6 : n ≤ 1000000 := by omega
  have hcell : ∀ j, j < n * 7 → ∃ u, w.cell? ⟨b, off + j, none⟩ = some u ∧ u.oneCell' = true := fun j hj => by
    obtain ⟨t, ht⟩ : ∃ t, l[j / 7]? = some t := ⟨_, List.getElem?_eq_getElem (by omega)⟩
    obtain ⟨a, c', k1, -⟩ := exat_cells (hrow (j / 7) (by omega) t ht)
    obtain ⟨v, hv⟩ : ∃ v, ([.int .i64 t.op, .string t.name, .string t.num, .bool t.b, .slice a t.l.length c', .int .i64 0, .int .i64 t.at'] : List Value)[j % 7]? = some v := ⟨_, List.getElem?_eq_getElem (by simp; omega)⟩
    refine ⟨v, ?_, ?_⟩
    · have := k1 (j % 7) v hv
      rw [show off + j / 7 * 7 + j % 7 = off + j by omega] at this
      exact this
    · have hm := List.mem_of_getElem? hv
      simp only [List.mem_cons, List.not_mem_nil, or_false] at hm
      rcases hm with rfl | rfl | rfl | rfl | rfl | rfl | rfl <;> rfl
  have HF := hide (fitE_any (a := some ⟨b, off, none⟩) hr1 hn6 hC (by omega) hL2 fun _ => ⟨b, off, rfl, hcell⟩)
  have HR := hide (And.intro hrow (And.intro hP (And.intro hcb (And.intro hX (And.intro hn (And.intro hco (And.intro hL hPb)))))))
  have g4 : (n : Int) ≤ 1000000 := by omega
  clear hrow hP hcb hX hn hco hL hr1 hr2 hr3 hC hPb hbw hcell e
  go_enter Tryd.func38, Tryd.ntmps38
  generalize hQQ : bodyPost Tryd.prog Tryd.f38 (XcP cb (h + 1) L n l w) = QQ
  have HQQ := hide hQQ
  clear hQQ
  go_wp2_with fail
  refine (unhide HF).mono ?_
  rintro e w1 ⟨a2, c2, rfl, hc2, k1, k2, -, k3⟩
  obtain ⟨g, b', off', rfl, e, k4, k5, k6, k7⟩ := k3 h0
  obtain ⟨rfl, rfl⟩ : b = b' ∧ off = off' := by simpa using e
  have hI0 : XI w P cb h g b off n L l 0 w1 := ⟨by simpa [coU, sumN] using k1, k2, k4, k5, k6, fun p _ hp => k7 p (by omega), g + 1, by omega, rfl⟩
  have HI := hide hI0
  have HC2 := hide hc2
  clear k1 k2 k3 k4 k5 k6 k7 hI0 hc2 HF e
  go_wp2_with fail
  go_loopw [12] (fun iv wr => ∃ j : Nat, iv = .int .i64 j ∧ j ≤ n ∧ Hid (XI w P cb h g b off n L l j wr)) (fun iv _ => n - (intOf iv).toNat)
  case atStart => exact ⟨0, rfl, Nat.zero_le _, unhide HI⟩
  case round =>
    obtain ⟨j, rfl, hj, HB⟩ := hrel
    have g3 : (0 : Int) ≤ (j : Int) := by omega
    by_cases hjn : j < n
    rotate_left
    · have g1 : ¬ ((j : Int) < (n : Int)) := by omega
      have g2 : decide ((j : Int) < (n : Int)) = false := by simp; omega
      obtain rfl : j = n := by omega
      have H0 := hide h0
      clear HI hj hjn h0
      go_wp2
      rw [← unhide HQQ]
      go_ret
      obtain ⟨hrow, hP, hcb, hX, hn, hco, hL, hPb⟩ := unhide HR
      have hI := unhide HB
      obtain ⟨m, hm, hd⟩ := hI.done
      have et : l.take j = l := List.take_of_length_le (by omega)
      rw [et] at hd
      have hcp := hI.cp
      rw [et] at hcp
      refine ⟨_, _, rfl, ⟨by simpa using hn, unhide HC2, hn6, by have := hI.but.size; omega, fun hl => ⟨g, 0, rfl, hI.g0, hI.g1, ?_⟩, fun e => ?_⟩, ?_, hI.but⟩
      · exact OLp.wide (p := OE wr (h + 1)) (fun _ _ _ _ _ g x => OE.wide x (Nat.le_refl _) g) _ _ _ _ hl hd hm
      · have e0 : l.length = 0 := by simpa using congrArg List.length e
        exact absurd (hn.trans e0) (unhide H0)
      · rw [show L - (coL (h + 1) l : Nat) = L - j - coU h l by rw [hco, ← hn]; push_cast; omega]
        exact hcp
    · obtain ⟨hrow, hP, hcb, hX, hn, hco, hL, hPb⟩ := unhide HR
      have hI := unhide HB
      obtain ⟨t, ht⟩ : ∃ t, l[j]? = some t := ⟨_, List.getElem?_eq_getElem (by omega)⟩
      obtain ⟨sa, cs, hr, hls⟩ := exat_cells (hrow j hjn t ht)
      have hct : coU h (l.take (j + 1)) = coU h (l.take j) + coL h t.l := coU_take ht
      have hcl := coU_take_le h (j + 1) l
      have hlw : LsH wr (fun x => P x ∧ x < w.heap.size) h sa t.l.length cs t.l := by
        have hbnd : LsH w (fun x => P x ∧ x < w.heap.size) h sa t.l.length cs t.l := hls.bnd
        exact hbnd.keep ⟨hI.but.size, fun k hk _ => hI.but.block k hk.2 (hP k hk.1)⟩ fun _ h => h
      have HC := hide (hX wr cb (L - n - coU h (l.take j)) sa t.l.length cs t.l (fun x => P x ∧ x < w.heap.size) (fun x hx => hP x hx.1) hI.cp hlw (by omega) (by omega))
      have y4 : wr.cell? ⟨g, j * 7 + 4, none⟩ = some (.slice sa t.l.length cs) := by
        rw [hI.rest (j * 7 + 4) (by omega) (by omega), ← Nat.add_assoc]
        exact hr 4 _ rfl
      have HZ := hide (And.intro hI (And.intro hcb (And.intro ht (And.intro hr hjn))))
      have g1 : (j : Int) < (n : Int) := by omega
      have g2 : decide ((j : Int) < (n : Int)) = true := by simp; omega
      clear hrow hP hcb hX hn hco hL hPb hI ht hr hls hct hcl hlw hj HB HI HR h0
      have HJ := hide hjn
      clear hjn
      go_wp2_with fail
      refine (unhide HC).mono ?_
      rintro e w2 ⟨a3, c3, rfl, k1, k2, k3⟩
      obtain ⟨hI, hcb, ht, hr, hjn⟩ := unhide HZ
      have hg1 := hI.g1
      have hgc : g ≠ cb := by have := hI.g0; omega
      have y5 : w2.cell? ⟨g, j * 7 + 4, none⟩ = some (.slice sa t.l.length cs) := (cell_blk (k3.block g hg1 hgc) _).trans y4
      have yf : w2.frozen? ⟨g, j * 7 + 4, none⟩ = false := (froz_blk (k3.block g hg1 hgc) _).trans (hI.fr _)
      have HS := hide (hI.step hcb hjn ht hr k1 k2 k3)
      clear hI hcb ht hr hjn hg1 hgc k1 k2 k3 HC HZ y4
      go_wp2
      exact ⟨⟨j + 1, by push_cast; rfl, by have := unhide HJ; omega, unhide HS⟩, by simp only [intOf]; have := unhide HJ; omega⟩
theorem xc_zero {k : Nat} {w : World} {cb : Nat} {L : Int} {a : Option Addr} {n c : Nat} {l : List Ex} {P : Nat → Prop} (hC : CpS w cb L) (hx : LsH w P k a n c l) (h0 : n = 0) (hL : (coL k l : Int) ≤ L) (hL2 : L ≤ 1000000) : Calls Tryd.prog 38 #[.pointer (some ⟨cb, 0, none⟩), .slice a n c] w (XcP cb k L n l w) := by
  subst h0
  have hl : l = [] := List.length_eq_zero_iff.1 hx.1.symm
  subst hl
  exact xc_nil hC (by simp [coL, sumN] at hL; omega) hL2
theorem xc_all : ∀ k, XC k
  | 0 => fun w cb L a n c l P hP hC hx hL hL2 => by
    refine xc_zero hC hx ?_ hL hL2
    by_cases h0 : n = 0
    · exact h0
    · obtain ⟨h1, h2, h3, h4⟩ := hx
      obtain ⟨b, off, e, k1, k2, k3⟩ := h4 h0
      obtain ⟨t, ht⟩ : ∃ t, l[0]? = some t := ⟨_, List.getElem?_eq_getElem (by omega)⟩
      exact (k3 0 (by omega) t ht).elim
  | k + 1 => fun w cb L a n c l P hP hC hx hL hL2 => by
    by_cases h0 : n = 0
    · exact xc_zero hC hx h0 hL hL2
    · obtain ⟨b, off, e, -⟩ := hx.2.2.2 h0
      subst e
      exact xc_some (xc_all k) hP hC hx h0 hL hL2
end Go.Proofs.YtljhpbjngbbjbaaDoor

/- Package parse: a parameter's drawn region. -/
namespace Go.Proofs.YtljhpbjngbbjbaaDoor
open Go Go.RowKit
/-- A row of expressions in blocks of a kind. -/
def LsP (w : World) (P : Nat → Prop) (v : Value) (l : List Ex) : Prop := ∃ h a c, v = .slice a l.length c ∧ RowX w P a l.length c fun b o j => ∀ t, l[j]? = some t → ExAt w P h b o t
theorem LsP.keep {w w' : World} {P P' : Nat → Prop} {v : Value} {l : List Ex} (h : LsP w P v l) (hb : StaysP P w w') (hl : ∀ b, P b → P' b) : LsP w' P' v l := by
  obtain ⟨k, a, c, e, h2⟩ := h
  exact ⟨k, a, c, e, h2.mono hb.1 hl fun b o j hr hbl hj t ht => ExAt.keep hb hl k b o t hr hbl (hj t ht)⟩
theorem LsP.bnd {w : World} {P : Nat → Prop} {v : Value} {l : List Ex} (h : LsP w P v l) : LsP w (fun b => P b ∧ b < w.heap.size) v l := by
  obtain ⟨k, a, c, e, h1, h2, h3⟩ := h
  refine ⟨k, a, c, e, h1, h2, fun h0 => ?_⟩
  obtain ⟨b, off, e, hr, hb, hj⟩ := h3 h0
  exact ⟨b, off, e, ⟨hr, hb⟩, hb, fun j hjn t ht => ExAt.bnd k _ _ t (hj j hjn t ht)⟩
def TyP (w : World) (P : Nat → Prop) (v : Value) (t : Ty) : Prop := ∃ a n c, v = .agg #[.int .i64 t.kind, .string t.name, .slice a n c, .int .i64 t.at'] ∧ LsP w P (.slice a n c) t.r
theorem TyP.keep {w w' : World} {P P' : Nat → Prop} {v : Value} {t : Ty} (h : TyP w P v t) (hb : StaysP P w w') (hl : ∀ b, P b → P' b) : TyP w' P' v t := by
  obtain ⟨a, n, c, e, h⟩ := h
  exact ⟨a, n, c, e, h.keep hb hl⟩
theorem TyP.bnd {w : World} {P : Nat → Prop} {v : Value} {t : Ty} (h : TyP w P v t) : TyP w (fun b => P b ∧ b < w.heap.size) v t := by
  obtain ⟨a, n, c, e, h⟩ := h
  exact ⟨a, n, c, e, h.bnd⟩
theorem TyV.toP {w : World} {lo : Nat} {v : Value} {t : Ty} (h : TyV w lo v t) : TyP w (fun b => lo ≤ b) v t := h
section
variable {X : Exit → Act → World → Prop} {K : Act → World → Prop} {a0 : Act} {w : World} {dst : Option Tmp} {ty : TypeId} {pos : String} {af : Array Edge} {gd : Option (Nat × Bool)}
end
end Go.Proofs.YtljhpbjngbbjbaaDoor

/- Package parse: a parameter. -/
namespace Go.Proofs.YtljhpbjngbbjbaaDoor
open Go Go.RowKit
def setAll (x : Nat → Value) : List Nat → Array Value → Array Value
  | [], t => t
  | k :: ks, t => setAll x ks (t.setIfInBounds k (x k))
theorem setAll_size (x : Nat → Value) : ∀ (ks : List Nat) (t : Array Value), (setAll x ks t).size = t.size
  | [], _ => rfl
  | k :: ks, t => by
    show (setAll x ks (t.setIfInBounds k (x k))).size = t.size
    rw [setAll_size x ks, Array.size_setIfInBounds]
theorem setAll_off (x : Nat → Value) {i : Nat} : ∀ (ks : List Nat) (t : Array Value), i ∉ ks → (setAll x ks t)[i]? = t[i]?
  | [], _, _ => rfl
  | k :: ks, t, h => by
    show (setAll x ks (t.setIfInBounds k (x k)))[i]? = t[i]?
    rw [setAll_off x ks _ (fun e => h (List.mem_cons_of_mem _ e)), Array.getElem?_setIfInBounds, if_neg fun e => h (by rw [e]; exact List.mem_cons_self)]
theorem setAll_on (x : Nat → Value) {i : Nat} : ∀ (ks : List Nat) (t : Array Value), i ∈ ks → i < t.size → (setAll x ks t)[i]? = some (x i)
  | k :: ks, t, h, hi => by
    show (setAll x ks (t.setIfInBounds k (x k)))[i]? = some (x i)
    by_cases hm : i ∈ ks
    · exact setAll_on x ks _ hm (by rw [Array.size_setIfInBounds]; exact hi)
    · obtain rfl : i = k := (List.mem_cons.1 h).resolve_right hm
      rw [setAll_off x ks _ hm, Array.getElem?_setIfInBounds, if_pos rfl, if_pos hi]
/-- A frame that is another one but for some slots. -/
theorem act_set {N : Nat} {kept : List Nat} (ks : List Nat) {a a0 : Act} (hc : ((List.range N).all fun i => kept.contains i || ks.contains i) = true) (hd : a.defers = a0.defers) (hn : a.tmps.size = N) (hN : a0.tmps.size = N) (hk : ∀ k, k ∈ kept → a.tmps[k]? = a0.tmps[k]?) : ∃ x : Nat → Value, a = ⟨setAll x ks a0.tmps, a0.defers⟩ ∧ ∀ i, x i = a.tmps.getD i undef := by
  refine ⟨fun i => a.tmps.getD i undef, ?_, fun _ => rfl⟩
  obtain ⟨tm, df⟩ := a
  simp only at hd hn hk ⊢
  rw [hd]
  congr 1
  refine Array.ext_getElem? fun i => ?_
  by_cases h : i < N
  · by_cases hm : i ∈ ks
    · rw [setAll_on _ ks _ hm (by omega)]
      simp [Array.getD_eq_getD_getElem?, hn, h]
    · rw [setAll_off _ ks _ hm]
      refine hk i ?_
      have := List.all_eq_true.1 hc i (List.mem_range.2 h)
      simpa [hm] using this
  · rw [Array.getElem?_eq_none (by omega), Array.getElem?_eq_none (by rw [setAll_size]; omega)]
/-- A parameter as a value. -/
def PmV (w : World) (lo : Nat) (v : Value) (x : Pm) : Prop := ∃ a n c, v = .agg #[.string x.name, .int .i64 x.t.kind, .string x.t.name, .slice a n c, .int .i64 x.t.at', .int .i64 x.at'] ∧ IsLs w lo (.slice a n c) x.t.r
theorem PmV.keep (w w' : World) (lo lo' : Nat) (v : Value) (t : Pm) (h : PmV w lo v t) (hb : Stays lo w w') (hl : lo' ≤ lo) : PmV w' lo' v t := by
  obtain ⟨a, n, c, e, h⟩ := h
  exact ⟨a, n, c, e, h.keep hb hl⟩
end Go.Proofs.YtljhpbjngbbjbaaDoor

/- Package parse: rows that grow. -/
namespace Go.Proofs.YtljhpbjngbbjbaaDoor
open Go Go.RowKit
/-- A row of rows of k cells, in blocks of a kind. -/
def RowP (w : World) (k : Nat) (P : Nat → Prop) (v : Value) (n : Nat) (p : Nat → List Value → Prop) : Prop := ∃ a c, v = .slice a n c ∧ n ≤ c ∧ n ≤ 1000000 ∧ (n ≠ 0 → ∃ b off, a = some ⟨b, off, none⟩ ∧ P b ∧ b < w.heap.size ∧ ∀ j, j < n → ∃ cs, w.rangeAt b (off + j * k) cs ∧ p j cs)
theorem RowP.keep {w w' : World} {k n : Nat} {P P' : Nat → Prop} {v : Value} {p q : Nat → List Value → Prop} (h : RowP w k P v n p) (hb : StaysP P w w') (hl : ∀ b, P b → P' b) (hp : ∀ j cs, p j cs → q j cs) : RowP w' k P' v n q := by
  obtain ⟨a, c, e, h1, h2, h3⟩ := h
  refine ⟨a, c, e, h1, h2, fun h0 => ?_⟩
  obtain ⟨b, off, e2, h4, h5, h6⟩ := h3 h0
  refine ⟨b, off, e2, hl b h4, Nat.lt_of_lt_of_le h5 hb.1, fun j hj => ?_⟩
  obtain ⟨cs, h7, h8⟩ := h6 j hj
  exact ⟨cs, range_same h7 (hb.2 b h4 h5), hp j cs h8⟩
theorem RowP.bnd {w : World} {k n : Nat} {P : Nat → Prop} {v : Value} {p q : Nat → List Value → Prop} (h : RowP w k P v n p) (hp : ∀ j cs, p j cs → q j cs) : RowP w k (fun b => P b ∧ b < w.heap.size) v n q := by
  obtain ⟨a, c, e, h1, h2, h3⟩ := h
  refine ⟨a, c, e, h1, h2, fun h0 => ?_⟩
  obtain ⟨b, off, e2, h4, h5, h6⟩ := h3 h0
  refine ⟨b, off, e2, ⟨h4, h5⟩, h5, fun j hj => ?_⟩
  obtain ⟨cs, h7, h8⟩ := h6 j hj
  exact ⟨cs, h7, hp j cs h8⟩
def PmP (w : World) (P : Nat → Prop) (cs : List Value) (x : Pm) : Prop := ∃ a n c, cs = [.string x.name, .int .i64 x.t.kind, .string x.t.name, .slice a n c, .int .i64 x.t.at', .int .i64 x.at'] ∧ LsP w P (.slice a n c) x.t.r
theorem PmP.keep {w w' : World} {P P' : Nat → Prop} {cs : List Value} {x : Pm} (h : PmP w P cs x) (hb : StaysP P w w') (hl : ∀ b, P b → P' b) : PmP w' P' cs x := by
  obtain ⟨a, n, c, e, h⟩ := h
  exact ⟨a, n, c, e, h.keep hb hl⟩
theorem PmP.bnd {w : World} {P : Nat → Prop} {cs : List Value} {x : Pm} (h : PmP w P cs x) : PmP w (fun b => P b ∧ b < w.heap.size) cs x := by
  obtain ⟨a, n, c, e, h⟩ := h
  exact ⟨a, n, c, e, h.bnd⟩
def PsP (w : World) (P : Nat → Prop) (v : Value) (l : List Pm) : Prop := RowP w 6 P v l.length fun j cs => ∀ x, l[j]? = some x → PmP w P cs x
theorem PsP.keep {w w' : World} {P P' : Nat → Prop} {v : Value} {l : List Pm} (h : PsP w P v l) (hb : StaysP P w w') (hl : ∀ b, P b → P' b) : PsP w' P' v l := RowP.keep h hb hl fun _ _ h x hx => (h x hx).keep hb hl
theorem PsP.bnd {w : World} {P : Nat → Prop} {v : Value} {l : List Pm} (h : PsP w P v l) : PsP w (fun b => P b ∧ b < w.heap.size) v l := RowP.bnd h fun _ _ h x hx => (h x hx).bnd
theorem IsPs.form {w : World} {lo : Nat} {v : Value} {l : List Pm} (h : IsPs w lo v l) : ∃ (a : Option Addr) (n c : Nat), v = .slice a n c := by
  obtain ⟨a, c, e, -⟩ := h
  exact ⟨_, _, _, e⟩
structure DeInP (w : World) (P : Nat → Prop) (d : De) (x : DeV) : Prop where
  ps : PsP w P (.slice x.pa x.pn x.pc) d.ps
  ty : LsP w P (.slice x.ta x.tn x.tc) d.t.r
  req : LsP w P (.slice x.ra x.rn x.rc) d.req
  ens : LsP w P (.slice x.ea x.en x.ec) d.ens
  mea : LsP w P (.slice x.ma x.mn x.mc) d.mea
  body : LsP w P (.slice x.ba x.bn x.bc) d.body.l
theorem DeInP.keep {w w' : World} {P P' : Nat → Prop} {d : De} {x : DeV} (h : DeInP w P d x) (hb : StaysP P w w') (hl : ∀ b, P b → P' b) : DeInP w' P' d x := ⟨h.ps.keep hb hl, h.ty.keep hb hl, h.req.keep hb hl, h.ens.keep hb hl, h.mea.keep hb hl, h.body.keep hb hl⟩
theorem DeInP.bnd {w : World} {P : Nat → Prop} {d : De} {x : DeV} (h : DeInP w P d x) : DeInP w (fun b => P b ∧ b < w.heap.size) d x := ⟨h.ps.bnd, h.ty.bnd, h.req.bnd, h.ens.bnd, h.mea.bnd, h.body.bnd⟩
theorem DeIn.toP {w : World} {lo : Nat} {d : De} {x : DeV} (h : DeIn w lo d x) : DeInP w (fun b => lo ≤ b) d x := ⟨h.ps, h.ty, h.req, h.ens, h.mea, h.body⟩
theorem DeInP.toN {w : World} {lo : Nat} {d : De} {x : DeV} (h : DeInP w (fun b => lo ≤ b) d x) : DeIn w lo d x := ⟨h.ps, h.ty, h.req, h.ens, h.mea, h.body⟩
def DeP (w : World) (P : Nat → Prop) (cs : List Value) (d : De) : Prop := ∃ x, cs = deCells d x ∧ DeInP w P d x
theorem DeP.keep {w w' : World} {P P' : Nat → Prop} {cs : List Value} {d : De} (h : DeP w P cs d) (hb : StaysP P w w') (hl : ∀ b, P b → P' b) : DeP w' P' cs d := by
  obtain ⟨x, e, h⟩ := h
  exact ⟨x, e, h.keep hb hl⟩
theorem DeP.bnd {w : World} {P : Nat → Prop} {cs : List Value} {d : De} (h : DeP w P cs d) : DeP w (fun b => P b ∧ b < w.heap.size) cs d := by
  obtain ⟨x, e, h⟩ := h
  exact ⟨x, e, h.bnd⟩
theorem flat_k {k : Nat} : ∀ (vs : List (List Value)) (j : Nat) (v : List Value), (∀ v ∈ vs, v.length = k) → vs[j]? = some v → ∀ (i : Nat) u, v[i]? = some u → vs.flatten[j * k + i]? = some u
  | [], j, v, _, h => by simp at h
  | x :: vs, 0, v, hl, h => fun i u hu => by
    obtain rfl : x = v := by simpa using h
    rw [List.flatten_cons, Nat.zero_mul, Nat.zero_add, List.getElem?_append_left (List.getElem?_eq_some_iff.1 hu).1]
    exact hu
  | x :: vs, j + 1, v, hl, h => fun i u hu => by
    have h7 : x.length = k := hl x (by simp)
    have := flat_k vs j v (fun v hv => hl v (by simp [hv])) (by simpa using h) i u hu
    have e1 : (j + 1) * k + i = x.length + (j * k + i) := by rw [h7, Nat.succ_mul]; omega
    rw [List.flatten_cons, e1, List.getElem?_append_right (by omega), Nat.add_sub_cancel_left]
    exact this
section
variable {α : Type} {El : World → (Nat → Prop) → List Value → α → Prop} {ty : TypeId} {k : Nat} {w V V' : World} {r : Nat} {ts : List (Int × ByteArray × Int)} {p d lo q n : Nat} {C : Nat → List α → Nat → (Except (Int × Int) ((List α) × Nat))} {Y : (Except (Int × Int) ((List α) × Nat))} {v : Value} {l : List α} {vs : List (List Value)}
end
end Go.Proofs.YtljhpbjngbbjbaaDoor

namespace Go.Proofs.YtljhpbjngbbjbaaDoor
open Go Go.RowKit
/-- Elements of any kind that stand one behind the other in a block, with what hangs on them in blocks of an interval. -/
def OLg {α : Type} (st : Nat) (p : Nat → Nat → Nat → Nat → α → Prop) (q : Nat) : Nat → Nat → Nat → List α → Prop
  | lo, hi, _, [] => lo = hi
  | lo, hi, o, t :: l => ∃ m, lo ≤ m ∧ p lo m q o t ∧ OLg st p q m hi (o + st) l
def OSg {α : Type} (st : Nat) (p : Nat → Nat → Nat → Nat → α → Prop) (lo hi : Nat) (a : Option Addr) (n c : Nat) (l : List α) : Prop :=
  n = l.length ∧ n ≤ c ∧ n ≤ 1000000 ∧ lo ≤ hi ∧ (l ≠ [] → ∃ q o, a = some ⟨q, o, none⟩ ∧ lo ≤ q ∧ q < hi ∧ OLg st p q (q + 1) hi o l) ∧ (l = [] → a = none ∧ c = 0)
section
variable {α : Type} {st : Nat} {p p' : Nat → Nat → Nat → Nat → α → Prop} {q : Nat}
theorem OLg.le : ∀ (l : List α) (lo hi o : Nat), OLg st p q lo hi o l → lo ≤ hi
  | [], _, _, _, h => Nat.le_of_eq h
  | _ :: l, _, _, _, ⟨_, h1, _, h3⟩ => Nat.le_trans h1 (OLg.le l _ _ _ h3)
theorem OLg.split : ∀ (u l : List α) (lo hi o : Nat), OLg st p q lo hi o (u ++ l) ↔ ∃ m, OLg st p q lo m o u ∧ OLg st p q m hi (o + st * u.length) l
  | [], l, lo, hi, o => ⟨fun h => ⟨lo, rfl, by simpa using h⟩, fun ⟨m, h1, h2⟩ => by
      obtain rfl : lo = m := h1
      simpa using h2⟩
  | t :: u, l, lo, hi, o => by
    have e : o + st * (t :: u).length = o + st + st * u.length := by simp [Nat.mul_add]; omega
    rw [e]
    constructor
    · rintro ⟨k, h1, h2, h3⟩
      obtain ⟨m, h4, h5⟩ := (OLg.split u l k hi (o + st)).1 h3
      exact ⟨m, ⟨k, h1, h2, h4⟩, h5⟩
    · rintro ⟨m, ⟨k, h1, h2, h4⟩, h5⟩
      exact ⟨k, h1, h2, (OLg.split u l k hi (o + st)).2 ⟨m, h4, h5⟩⟩
theorem OLg.imp : ∀ (l : List α) (lo hi o : Nat), OLg st p q lo hi o l → (∀ lo' hi' o' t, lo ≤ lo' → hi' ≤ hi → o ≤ o' → o' + st ≤ o + st * l.length → p lo' hi' q o' t → p' lo' hi' q o' t) → OLg st p' q lo hi o l
  | [], _, _, _, h, _ => h
  | t :: l, lo, hi, o, ⟨m, h1, h2, h3⟩, k => by
    have e : o + st * (t :: l).length = o + st + st * l.length := by simp [Nat.mul_add]; omega
    exact ⟨m, h1, k _ _ _ _ (Nat.le_refl _) (OLg.le l _ _ _ h3) (Nat.le_refl _) (by rw [e]; omega) h2, OLg.imp l _ _ _ h3 fun lo' hi' o' t g1 g2 g3 g4 => k lo' hi' o' t (by omega) g2 (by omega) (by rw [e]; omega)⟩
theorem OLg.wide (hp : ∀ lo hi hi' o t, hi ≤ hi' → p lo hi q o t → p lo hi' q o t) {hi' : Nat} : ∀ (l : List α) (lo m o : Nat), l ≠ [] → OLg st p q lo m o l → m ≤ hi' → OLg st p q lo hi' o l
  | [], _, _, _, h, _, _ => absurd rfl h
  | [t], lo, m, o, _, ⟨k, h1, h2, h3⟩, hm => by
    obtain rfl : k = m := h3
    exact ⟨hi', Nat.le_trans h1 hm, hp _ _ _ _ _ hm h2, rfl⟩
  | t :: u :: l, lo, m, o, _, ⟨k, h1, h2, h3⟩, hm => ⟨k, h1, h2, OLg.wide hp (u :: l) k m (o + st) (by simp) h3 hm⟩
theorem OLg.at {lo hi o : Nat} {u rest : List α} {t : α} (h : OLg st p q lo hi o (u ++ t :: rest)) : ∃ m1 m2, OLg st p q lo m1 o u ∧ m1 ≤ m2 ∧ p m1 m2 q (o + st * u.length) t ∧ OLg st p q m2 hi (o + st * u.length + st) rest := by
  obtain ⟨m1, h1, m2, h2, h3, h4⟩ := (OLg.split _ _ _ _ _).1 h
  exact ⟨m1, m2, h1, h2, h3, h4⟩
end
def paC (p : Pr) (a : Option Addr) (n c : Nat) : List Value := [.string p.name, .int .i64 p.t.kind, .string p.t.name, .slice a n c, .int .i64 p.t.at', .int .i64 p.at']
/-- A parameter that lies in a block, what hangs on it in blocks of an interval. -/
def OPm (w : World) (K lo hi b o : Nat) (p : Pr) : Prop := ∃ a n c, w.rangeAt b o (paC p a n c) ∧ OSp (OE w K) lo hi a n c p.t.r
theorem OPm.le {w : World} {K lo hi b o : Nat} {p : Pr} (h : OPm w K lo hi b o p) : lo ≤ hi := by
  obtain ⟨_, _, _, _, h⟩ := h
  exact h.2.2.2.1
theorem OPm.fr {w w' : World} {K lo hi b o H : Nat} {p : Pr} {S : Nat → Nat → Prop} (hx : OPm w K lo hi b o p) (hf : Fr H S w w') (hb : b < H) (hh : hi ≤ H) (h1 : ∀ j, o ≤ j → j < o + 6 → ¬ S b j) (h2 : ∀ k j, lo ≤ k → k < hi → ¬ S k j) : OPm w' K lo hi b o p := by
  obtain ⟨a, n, c, k1, k2⟩ := hx
  refine ⟨a, n, c, fun j v hv => ?_, k2.fr hf hh h2⟩
  have hj : j < 6 := (List.getElem?_eq_some_iff.1 hv).1
  exact (hf.cell b (o + j) hb (h1 _ (by omega) (by omega))).trans (k1 j v hv)
theorem OPm.wide {w : World} {K lo hi lo' hi' b o : Nat} {p : Pr} (hx : OPm w K lo hi b o p) (k1 : lo' ≤ lo) (k2 : hi ≤ hi') : OPm w K lo' hi' b o p := by
  obtain ⟨a, n, c, h1, h2⟩ := hx
  exact ⟨a, n, c, h1, h2.wide k1 k2⟩
theorem OPl.fr {w w' : World} {K lo hi q o H : Nat} {l : List Pr} {S : Nat → Nat → Prop} (hx : OLg 6 (OPm w K) q lo hi o l) (hf : Fr H S w w') (hb : q < H) (hh : hi ≤ H) (h1 : ∀ j, o ≤ j → j < o + 6 * l.length → ¬ S q j) (h2 : ∀ k j, lo ≤ k → k < hi → ¬ S k j) : OLg 6 (OPm w' K) q lo hi o l :=
  OLg.imp l _ _ _ hx fun lo' hi' o' t g1 g2 g3 g4 g5 => g5.fr hf hb (by omega) (fun j k1 k2 => h1 j (by omega) (by omega)) fun k j k1 k2 => h2 k j (by omega) (by omega)
theorem OPs.fr {w w' : World} {K lo hi n c H : Nat} {a : Option Addr} {l : List Pr} {S : Nat → Nat → Prop} (hx : OSg 6 (OPm w K) lo hi a n c l) (hf : Fr H S w w') (hh : hi ≤ H) (h2 : ∀ k j, lo ≤ k → k < hi → ¬ S k j) : OSg 6 (OPm w' K) lo hi a n c l := by
  obtain ⟨h3, h4, h5, h6, h7, h8⟩ := hx
  refine ⟨h3, h4, h5, h6, fun hl => ?_, h8⟩
  obtain ⟨q, o, e, g1, g2, g3⟩ := h7 hl
  exact ⟨q, o, e, g1, g2, OPl.fr g3 hf (by omega) hh (fun j _ _ => h2 q j g1 g2) fun k j k1 k2 => h2 k j (by omega) k2⟩
theorem hiE_at {w : World} {P : Nat → Prop} : ∀ (K h b o : Nat) (t : Ex), ExAt w P h b o t → hiE K t = true → ExAt w P K b o t
  | 0, _, _, _, _, _, h => by cases h
  | K + 1, 0, _, _, _, hx, _ => hx.elim
  | K + 1, h + 1, b, o, .mk op nm nu bl l i, ⟨a, c, h1, h2⟩, hk => by
    refine ⟨a, c, h1, h2.1, h2.2.1, fun h0 => ?_⟩
    obtain ⟨b', off, e, k1, k2, k3⟩ := h2.2.2 h0
    refine ⟨b', off, e, k1, k2, fun j hj t ht => hiE_at K h b' _ t (k3 j hj t ht) ?_⟩
    exact List.all_eq_true.1 hk t (List.mem_of_getElem? ht)
theorem LsP.high {w : World} {P : Nat → Prop} {a : Option Addr} {n c K : Nat} {l : List Ex} (h : LsP w P (.slice a n c) l) (hk : l.all (hiE K) = true) : LsH w P K a n c l := by
  obtain ⟨k, a', c', e, h1, h2, h3⟩ := h
  obtain ⟨rfl, rfl, rfl⟩ : a = a' ∧ n = l.length ∧ c = c' := by simpa using e
  refine ⟨rfl, h1, h2, fun h0 => ?_⟩
  obtain ⟨b', off, e, k1, k2, k3⟩ := h3 h0
  exact ⟨b', off, e, k1, k2, fun j hj t ht => hiE_at K k b' _ t (k3 j hj t ht) (List.all_eq_true.1 hk t (List.mem_of_getElem? ht))⟩
end Go.Proofs.YtljhpbjngbbjbaaDoor
