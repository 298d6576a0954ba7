/- The walk of quoDigit: a magnitude by one digit. -/
import Derived.Test.YthgdmppmjnmiiaaGreatDoorZAA
import Derived.Deep.QuietTactic
import Derived.BigQuiet
import Derived.RangeFuncNested
import Derived.RangeFuncBound
import Derived.RangeFuncCalls
import Derived.RangeFuncLeaves
import Derived.Shelf.Abstract
import Derived.Shelf.RegionOpen
import Derived.OwnWalkIn
import Derived.TacticsInMore
import Derived.LoopNIn
import Derived.LoopIn
import Derived.Deep.RegionWith
set_option linter.unusedVariables false
set_option linter.unusedSimpArgs false

/- The walks of slices.Clone and takeAway: a magnitude copied; so many times another taken away in place. -/
namespace Go.Proofs.YthgdmppmjnmiiaaGreatDoor.Nm
open Go.RowKit
attribute [local go_sem] eqnil_some eqnil_none nenil_some nenil_none

/-- w' is w but for n cells of block b from off on. -/
structure InBlk (b off n : Nat) (w w' : World) : Prop where
  os : w'.os = w.os
  tape : w'.tape = w.tape
  output : w'.output = w.output
  size : w'.heap.size = w.heap.size
  block : ∀ k, k ≠ b → w'.heap[k]? = w.heap[k]?
  out : ∀ o, o < off ∨ off + n ≤ o → w'.cell? ⟨b, o, none⟩ = w.cell? ⟨b, o, none⟩
  frozen : ∀ o, w'.frozen? ⟨b, o, none⟩ = w.frozen? ⟨b, o, none⟩
theorem InBlk.refl (b off n : Nat) (w : World) : InBlk b off n w w := ⟨rfl, rfl, rfl, rfl, fun _ _ => rfl, fun _ _ => rfl, fun _ => rfl⟩
theorem InBlk.trans {b off n : Nat} {w w1 w2 : World} (h : InBlk b off n w w1) (k : InBlk b off n w1 w2) : InBlk b off n w w2 :=
  ⟨k.os.trans h.os, k.tape.trans h.tape, k.output.trans h.output, k.size.trans h.size, fun i hi => (k.block i hi).trans (h.block i hi), fun o ho => (k.out o ho).trans (h.out o ho), fun o => (k.frozen o).trans (h.frozen o)⟩
theorem InBlk.setCell {b off n : Nat} {w w1 : World} (h : InBlk b off n w w1) {o : Nat} (h1 : off ≤ o) (h2 : o < off + n) (v : Value) : InBlk b off n w (w1.setCell ⟨b, o, none⟩ v) :=
  h.trans ⟨rfl, rfl, rfl, by simp, fun k hk => Below.heap_setCell _ _ _ _ hk, fun p hp => World.cell?_setCell_other _ _ _ _ (by intro e; injection e; omega), fun p => World.frozen?_setCell _ _ _ _⟩
theorem InBlk.below {b off n B : Nat} {w w' : World} (h : InBlk b off n w w') (hB : B ≤ b) : Below B w w' :=
  ⟨h.os, h.tape, h.output, Nat.le_of_eq h.size.symm, fun k hk => h.block k (by omega)⟩
theorem InBlk.cell {b off n : Nat} {w w' : World} (h : InBlk b off n w w') {p : Addr} (hp : p.block ≠ b) : w'.cell? p = w.cell? p := World.cell?_of_block (w := w) (h.block p.block hp)

/-- The cells of block b from off on hold the uint32s xs. -/
def At (w : World) (b off : Nat) (xs : List Int) : Prop := ∀ j, j < xs.length → w.cell? ⟨b, off + j, none⟩ = some (.int .u32 (xs[j]?.getD 0))
theorem At.set {w : World} {b off : Nat} {zs : List Int} {x : Int} {rs : List Int} (h : At w b off (zs ++ x :: rs)) {k : Nat} (hz : zs.length = k) (d : Int) : At (w.setCell ⟨b, off + k, none⟩ (.int .u32 d)) b off (zs ++ d :: rs) := by
  subst hz
  intro j hj
  by_cases e : j = zs.length
  · subst e
    rw [World.cell?_setCell_same _ _ _ (h zs.length (by simp))]
    simp
  · rw [World.cell?_setCell_other _ _ _ _ (by intro h'; injection h'; omega), h j (by simpa using hj)]
    congr 2
    by_cases hlt : j < zs.length
    · rw [List.getElem?_append_left hlt, List.getElem?_append_left hlt]
    · rw [List.getElem?_append_right (by omega), List.getElem?_append_right (by omega)]
      obtain ⟨m, hm⟩ : ∃ m, j - zs.length = m + 1 := ⟨j - zs.length - 1, by omega⟩
      rw [hm]
      rfl
theorem At.mg {w : World} {b off cap : Nat} {xs : List Int} (h : At w b off xs) (hb : b < w.heap.size) (hc : xs.length ≤ cap) : Mg w (.slice (some ⟨b, off, none⟩) xs.length cap) xs :=
  ⟨_, cap, rfl, hc, fun _ => ⟨b, off, rfl, hb, h⟩⟩
theorem At.at {w : World} {b off : Nat} {zs : List Int} {x : Int} {rs : List Int} (h : At w b off (zs ++ x :: rs)) {k : Nat} (hz : zs.length = k) : w.cell? ⟨b, off + k, none⟩ = some (.int .u32 x) := by
  subst hz
  have := h zs.length (by simp)
  simpa using this

set_option maxHeartbeats 800000 in
theorem clone_some (b off len cap : Nat) (xs : List Int) (w : World) (hl : len = xs.length) (hb : b < w.heap.size) (hat : At w b off xs) (hlen : xs.length ≤ 100000) :
    Calls Tryz.prog 84 #[.slice (some ⟨b, off, none⟩) len cap] w fun e w' => ∃ v, e = .returned v ∧ Below w.heap.size w w' ∧ w'.ownsRow w.heap.size 118 1 v xs.length (xs.map (Value.int .u32)) ∧ v ≠ .slice none 0 0 := by
  subst hl
  obtain ⟨i0, hi, hz0, hz1, hz2⟩ := info_parts info32
  go_enter Tryz.func84, Tryz.ntmps84
  go_wp2_with (at_builtin; refine wpList_append_own _ rfl _ _ 47 rfl w.heap.size 118 i0 (.int .u32 0) 1 4 Tryz.underlying47 hi hz0 hz1 hz2 rfl (by decide) _ _ _ rfl (World.ownsRow_made w #[] 0 (Nat.le_refl _) (Nat.zero_le _) rfl) ⟨b, off, none⟩ xs.length cap (xs.map (Value.int .u32)) rfl (by simp) ?c1 (ints_oneCell _ _) ?c3 ?c4 ?c5 ?_)
  case c1 =>
    intro j u hj
    have hjl : j < xs.length := by
      have := (List.getElem?_eq_some_iff.1 hj).1
      simpa using this
    rw [Addr.add_lit, World.cell?_alloc_past _ _ _ hb, hat j hjl]
    simp [hjl] at hj
    simp [hjl, hj]
  case c3 => unfold maxLen; omega
  case c4 => omega
  case c5 => simp
  intro v' w1 hown' hgrow hnn
  have hB := ((Below.refl w.heap.size w).alloc (Nat.le_refl _) (.cells #[] 118)).grown hgrow (by simp) (fun k hk => by cases hk; exact Nat.le_refl _)
  have hne : v' ≠ .slice none 0 0 := fun e => by
    simp [e] at hnn
  clear hgrow hnn
  go_wp2
  go_ret
  exact ⟨_, rfl, hB, by simpa using hown', hne⟩

/-- What one step of taking away does to the numbers. -/
theorem take_step (X Y zs : List Int) (k : Nat) (t c x y : Int) (hz : zs.length = k) (hx : X[k]?.getD 0 = x) (hy : Y[k]?.getD 0 = y) (h : val zs = val (X.take k) - t * val (Y.take k) + pw k * c) :
    ∀ d c' : Int, x - (c + t * y) = d - 1000000000 * c' → val (zs ++ [d]) = val (X.take (k + 1)) - t * val (Y.take (k + 1)) + pw (k + 1) * c' := by
  intro d c' e
  rw [val_snoc, hz, val_take_succ', val_take_succ', hx, hy, h]
  simp only [pw]
  have e2 : pw k * x - (pw k * c + pw k * (t * y)) = pw k * d - pw k * (1000000000 * c') := by
    rw [← Int.mul_add, ← Int.mul_sub, ← Int.mul_sub, e]
  have e3 : pw k * (1000000000 * c') = 1000000000 * pw k * c' := by rw [← Int.mul_assoc, Int.mul_comm (pw k)]
  have e4 : t * (val (Y.take k) + pw k * y) = t * val (Y.take k) + pw k * (t * y) := by
    rw [Int.mul_add, ← Int.mul_assoc t, Int.mul_comm t (pw k), Int.mul_assoc]
  omega
theorem split_at (xs zs : List Int) (k : Nat) (x : Int) (hk : k < xs.length) (hx : xs[k]?.getD 0 = x) : zs ++ xs.drop k = zs ++ x :: xs.drop (k + 1) := by
  rw [List.drop_eq_getElem_cons hk]
  rw [List.getElem?_eq_getElem hk] at hx
  simp at hx
  rw [hx]
theorem mul_bd {t y : Int} (t0 : 0 ≤ t) (y0 : 0 ≤ y) (y1 : y < 1000000000) : 0 ≤ t * y ∧ t * y ≤ t * 999999999 :=
  ⟨Int.mul_nonneg t0 y0, Int.mul_le_mul_of_nonneg_left (by omega) t0⟩

set_option maxRecDepth 100000 in
set_option maxHeartbeats 1600000 in
theorem takeAway_any (b off cap : Nat) (ay : Option Addr) (capy : Nat) (xs ys : List Int) (t : Int) (w : World) (hdx : Dig xs) (hdy : Dig ys) (hlx : xs.length ≤ 100000) (hly : ys.length ≤ xs.length) (t0 : 0 ≤ t) (t1 : t ≤ 3000000000)
    (hat : At w b off xs) (hfz : ∀ j, j < xs.length → w.frozen? ⟨b, off + j, none⟩ = false)
    (haty : ys ≠ [] → ∃ yb oy, ay = some ⟨yb, oy, none⟩ ∧ yb ≠ b ∧ At w yb oy ys) :
    Calls Tryz.prog 85 #[.slice (some ⟨b, off, none⟩) xs.length cap, .slice ay ys.length capy, .int .u64 t] w fun e w' =>
      ∃ zs c, e = .returned (.bool (decide (0 < c))) ∧ InBlk b off xs.length w w' ∧ At w' b off zs ∧ zs.length = xs.length ∧ Dig zs ∧ 0 ≤ c ∧ val zs = val xs - t * val ys + pw xs.length * c := by
  go_enter Tryz.func85, Tryz.ntmps85
  go_wp2
  go_loopw [7, 13] (fun cv i wr => ∃ (k : Nat) (c : Int) (zs : List Int), k ≤ xs.length ∧ i = .int .i64 k ∧ cv = .int .u64 c ∧ 0 ≤ c ∧ c ≤ t + 1 ∧ zs.length = k ∧ At wr b off (zs ++ xs.drop k) ∧ InBlk b off xs.length w wr ∧ Dig zs ∧ val zs = val (xs.take k) - t * val (ys.take k) + pw k * c) (fun _ i _ => xs.length - (intOf i).toNat)
  case atStart => exact ⟨0, 0, [], Nat.zero_le _, rfl, rfl, by omega, by omega, rfl, by simpa using hat, InBlk.refl _ _ _ _, Dig.nil, by simp [val, pw]⟩
  case round =>
    obtain ⟨k, c, zs, hk, rfl, rfl, hc0, hc1, hzl, hatr, hin, hdz, hval⟩ := hrel
    obtain ⟨x, hx, hx0, hx1⟩ := hdx.get k
    obtain ⟨y, hy, hy0, hy1⟩ := hdy.get k
    have HV := hide hval
    have HZ := hide hzl
    have HX := hide hx
    have HY := hide hy
    clear hval hzl hx hy
    by_cases hlt : k < xs.length
    · have hs := hide (split_at xs zs k x hlt (unhide HX))
      have hatk : At wr b off (zs ++ x :: xs.drop (k + 1)) := by rw [← unhide hs]; exact hatr
      clear hs hatr
      have hcxk := hatk.at (unhide HZ)
      have hfk : wr.frozen? ⟨b, off + k, none⟩ = false := (hin.frozen _).trans (hfz k hlt)
      have key := hide (take_step xs ys zs k t c x y (unhide HZ) (unhide HX) (unhide HY) (unhide HV))
      by_cases hly' : k < ys.length
      · obtain ⟨yb, oy, rfl, hyb, hcy⟩ := haty (by intro e; subst e; simp at hly')
        have hcyk : wr.cell? ⟨yb, oy + k, none⟩ = some (.int .u32 y) := by rw [← unhide HY]; exact (hin.cell (p := ⟨yb, oy + k, none⟩) hyb).trans (hcy k hly')
        obtain ⟨hm0, hm1⟩ := mul_bd t0 hy0 hy1
        by_cases hge : x < (c + t * y) % 1000000000
        · go_wp2
          exact ⟨⟨k + 1, (c + t * y) / 1000000000 + 1, zs ++ [x + 1000000000 - (c + t * y) % 1000000000], by omega, by simp, rfl, by omega, by omega, by simp [unhide HZ], by rw [List.append_assoc]; exact (hatk.set (unhide HZ) _).set (unhide HZ) _, (hin.setCell (by omega) (by omega) _).setCell (by omega) (by omega) _, hdz.append (Dig.one (by omega) (by omega)), unhide key _ _ (by omega)⟩, by simp [intOf]; omega⟩
        · go_wp2
          exact ⟨⟨k + 1, (c + t * y) / 1000000000, zs ++ [x - (c + t * y) % 1000000000], by omega, by simp, rfl, by omega, by omega, by simp [unhide HZ], by rw [List.append_assoc]; exact hatk.set (unhide HZ) _, hin.setCell (by omega) (by omega) _, hdz.append (Dig.one (by omega) (by omega)), unhide key _ _ (by omega)⟩, by simp [intOf]; omega⟩
      · have hye : y = 0 := by rw [← unhide HY, List.getElem?_eq_none (by omega)]; rfl
        have hte : t * y = 0 := by rw [hye]; simp
        have HE := hide hte
        clear hye hte
        by_cases hge : x < c % 1000000000
        · go_wp2
          exact ⟨⟨k + 1, c / 1000000000 + 1, zs ++ [x + 1000000000 - c % 1000000000], by omega, by simp, rfl, by omega, by omega, by simp [unhide HZ], by rw [List.append_assoc]; exact (hatk.set (unhide HZ) _).set (unhide HZ) _, (hin.setCell (by omega) (by omega) _).setCell (by omega) (by omega) _, hdz.append (Dig.one (by omega) (by omega)), unhide key _ _ (by have := unhide HE; omega)⟩, by simp [intOf]; omega⟩
        · go_wp2
          exact ⟨⟨k + 1, c / 1000000000, zs ++ [x - c % 1000000000], by omega, by simp, rfl, by omega, by omega, by simp [unhide HZ], by rw [List.append_assoc]; exact hatk.set (unhide HZ) _, hin.setCell (by omega) (by omega) _, hdz.append (Dig.one (by omega) (by omega)), unhide key _ _ (by have := unhide HE; omega)⟩, by simp [intOf]; omega⟩
    · obtain rfl : k = xs.length := by omega
      have hv' : Hid (val zs = val xs - t * val ys + pw xs.length * c) := by
        have := unhide HV
        rw [List.take_of_length_le (Nat.le_refl _), List.take_of_length_le (by omega)] at this
        exact this
      have hA : At wr b off zs := by simpa using hatr
      clear hatr
      go_wp2
      go_ret
      exact ⟨_, c, rfl, hin, hA, unhide HZ, hdz, hc0, unhide hv'⟩

set_option maxRecDepth 100000 in
set_option maxHeartbeats 800000 in
theorem subMag_any (vx vy : Value) (xs ys : List Int) (w : World) (hmx : Mg w vx xs) (hmy : Mg w vy ys) (hdx : Dig xs) (hdy : Dig ys) (hlx : xs.length ≤ 10000) (hly : ys.length ≤ xs.length) (hne : xs ≠ []) (hle : val ys ≤ val xs) :
    Calls Tryz.prog 63 #[vx, vy] w fun e w' => ∃ v zs, e = .returned v ∧ Below w.heap.size w w' ∧ Mg w' v zs ∧ Dig zs ∧ Norm zs ∧ val zs = val xs - val ys ∧ zs.length ≤ xs.length := by
  obtain ⟨ax, capx, rfl, hcx, hatxs⟩ := hmx
  obtain ⟨ay, capy, rfl, hcy, hatys⟩ := hmy
  obtain ⟨bx, ox, rfl, hbx, hcellx⟩ := hatxs hne
  go_enter Tryz.func63, Tryz.ntmps63
  go_wp2_with (go_at_call 84; refine (clone_some bx ox xs.length capx xs w rfl hbx hcellx (by omega)).mono ?_)
  rintro e w1 ⟨v, rfl, hB, hown, hnn⟩
  rcases hown.2 with ⟨rfl, _⟩ | ⟨g, cap, cur, rfl, hg, hgg, hn, hcm, hcs, htk⟩
  · exact absurd rfl hnn
  have hgl : g < w1.heap.size := (Array.getElem?_eq_some_iff.1 hgg).1
  have hat : At w1 g 0 xs := by
    intro j hj
    have := hown.cells (g := g) rfl j (.int .u32 (xs[j]?.getD 0)) (by simp [hj])
    rw [Addr.add_lit] at this
    exact this
  have hfz : ∀ j, j < xs.length → w1.frozen? ⟨g, 0 + j, none⟩ = false := fun j _ => hown.frozenAt _
  have haty : ys ≠ [] → ∃ yb oy, ay = some ⟨yb, oy, none⟩ ∧ yb ≠ g ∧ At w1 yb oy ys := fun h => by
    obtain ⟨yb, oy, e, hyb, hcell⟩ := hatys h
    exact ⟨yb, oy, e, by omega, fun j hj => (hB.cell (p := ⟨yb, oy + j, none⟩) hyb).trans (hcell j hj)⟩
  clear htk hcs hown hnn
  go_wp2_with (go_at_call 85; refine (takeAway_any g 0 cap ay capy xs ys 1 w1 hdx hdy (by omega) hly (by omega) (by omega) hat hfz haty).mono ?_)
  rintro e w2 ⟨zs, c, rfl, hin, hatz, hzl, hdz, hc0, hval⟩
  have hc : c = 0 := by
    have h1 := val_lt hdz
    rw [hzl] at h1
    have h2 := pw_pos xs.length
    by_cases h : 1 ≤ c
    · have h3 := Int.mul_le_mul_of_nonneg_left h (Int.le_of_lt h2)
      omega
    · omega
  have hvz : Hid (val zs = val xs - val ys) := by
    show _ = _
    rw [hval, hc]; simp
  have hzle : zs.length ≤ xs.length := by omega
  have hm2 : Mg w2 (.slice (some ⟨g, 0, none⟩) xs.length cap) zs := by
    rw [← hzl]
    exact hatz.mg (by rw [hin.size]; exact hgl) (by omega)
  clear hval hc
  have hB2 := hB.trans (hin.below hg)
  clear hB hin hzl
  go_wp2_with (go_at_call 80; refine (trim_any _ zs w2 hm2 hdz (by omega)).mono ?_)
  rintro e w3 ⟨v3, ys3, rfl, rfl, hm3, hd3, hn3, hv3, hl3⟩
  have hv4 : Hid (val ys3 = val xs - val ys) := by show _ = _; rw [hv3]; exact hvz
  clear hv3 hvz
  go_wp2
  go_ret
  exact ⟨_, _, rfl, hB2, hm3, hd3, hn3, unhide hv4, by omega⟩

end Go.Proofs.YthgdmppmjnmiiaaGreatDoor.Nm

/- The walks of scaleMag and mulMag: a magnitude so many times, by one digit and by another magnitude. -/
namespace Go.Proofs.YthgdmppmjnmiiaaGreatDoor.Nm
open Go.RowKit

theorem At.set0 {w : World} {b : Nat} {zs : List Int} {x : Int} {rs : List Int} (h : At w b 0 (zs ++ x :: rs)) {k : Nat} (hz : zs.length = k) (d : Int) : At (w.setCell ⟨b, k, none⟩ (.int .u32 d)) b 0 (zs ++ d :: rs) := by
  have := h.set hz d
  rwa [Nat.zero_add] at this
theorem At.at0 {w : World} {b : Nat} {zs : List Int} {x : Int} {rs : List Int} (h : At w b 0 (zs ++ x :: rs)) {k : Nat} (hz : zs.length = k) : w.cell? ⟨b, k, none⟩ = some (.int .u32 x) := by
  have := h.at hz
  rwa [Nat.zero_add] at this
theorem At.drewN {w : World} {b off : Nat} {xs : List Int} (h : At w b off xs) (q : Nat) : At (w.drewN q) b off xs := fun j hj => by
  rw [World.cell?_drewN]; exact h j hj
theorem InBlk.drewN {b off n : Nat} {w w1 : World} (h : InBlk b off n w w1) (q : Nat) : InBlk b off n w (w1.drewN q) :=
  h.trans ⟨rfl, rfl, rfl, rfl, fun _ _ => rfl, fun _ _ => rfl, fun _ => rfl⟩
theorem mul_step (H Y ns : List Int) (j : Nat) (x c h y : Int) (hz : ns.length = j) (hh : H[j]?.getD 0 = h) (hy : Y[j]?.getD 0 = y) (hv : val ns + pw j * c = val (H.take j) + x * val (Y.take j)) :
    ∀ d c' : Int, c + (h + x * y) = d + 1000000000 * c' → val (ns ++ [d]) + pw (j + 1) * c' = val (H.take (j + 1)) + x * val (Y.take (j + 1)) := by
  intro d c' e
  rw [val_snoc, hz, val_take_succ', val_take_succ', hh, hy]
  simp only [pw]
  have e2 : pw j * c + (pw j * h + pw j * (x * y)) = pw j * d + pw j * (1000000000 * c') := by rw [← Int.mul_add, ← Int.mul_add, ← Int.mul_add, e]
  have e3 : pw j * (1000000000 * c') = 1000000000 * pw j * c' := by rw [← Int.mul_assoc, Int.mul_comm (pw j)]
  have e4 : x * (val (Y.take j) + pw j * y) = x * val (Y.take j) + pw j * (x * y) := by
    rw [Int.mul_add, ← Int.mul_assoc x, Int.mul_comm x (pw j), Int.mul_assoc]
  omega

set_option maxRecDepth 100000 in
set_option maxHeartbeats 1600000 in
theorem mulMag_any (vx vy : Value) (xs ys : List Int) (w : World) (hmx : Mg w vx xs) (hmy : Mg w vy ys) (hdxs : Dig xs) (hdys : Dig ys) (hlx : xs.length ≤ 10000) (hly : ys.length ≤ 10000) :
    Calls Tryz.prog 67 #[vx, vy] w fun e w' => ∃ v zs, e = .returned v ∧ Below w.heap.size w w' ∧ Mg w' v zs ∧ Dig zs ∧ Norm zs ∧ val zs = val xs * val ys ∧ zs.length ≤ xs.length + ys.length := by
  obtain ⟨i0, hi, hz0, hz1, hz2⟩ := info_parts info32
  obtain ⟨ax, capx, rfl, hcx, hatxs⟩ := hmx
  obtain ⟨ay, capy, rfl, hcy, hatys⟩ := hmy
  go_enter Tryz.func67, Tryz.ntmps67
  go_wp2_with (at_make; refine wpList_make_full _ rfl _ _ 47 rfl w.heap.size 118 i0 (.int .u32 0) 1 Tryz.underlying47 hi hz0 hz1 _ _ _ _ (xs.length + ys.length) rfl rfl (by omega) (by omega) ?b2 ?b3 ?b4 ?_)
  case b2 => rw [hz2]; omega
  case b3 => unfold maxLen; omega
  case b4 => exact Nat.le_refl _
  intro w0 hown0 hgrow0
  have hbel0 := (Below.refl w.heap.size w).grown hgrow0 (Nat.le_refl _) (fun k hk => by cases hk)
  have hg0 : w.heap.size < w0.heap.size := (hown0.lt w.heap.size rfl).2
  have hfz : ∀ o, w0.frozen? ⟨w.heap.size, o, none⟩ = false := fun o => hown0.frozenAt _
  have hat0 : At w0 w.heap.size 0 (List.replicate (xs.length + ys.length) 0) := by
    intro j hj
    have := hown0.cellAt j (by simpa using hj)
    have hj' : j < xs.length + ys.length := by simpa using hj
    rw [Nat.zero_add, this, toList_madeCells_one]
    simp [hj']
  clear hgrow0 hown0
  go_wp2
  go_loopw [18] (fun i wr => ∃ (k : Nat) (us : List Int), k ≤ xs.length ∧ i = .int .i64 k ∧ us.length = k + ys.length ∧ At wr w.heap.size 0 (us ++ List.replicate (xs.length - k) 0) ∧ InBlk w.heap.size 0 (xs.length + ys.length) w0 wr ∧ Dig us ∧ val us = val (xs.take k) * val ys) (fun i _ => xs.length - (intOf i).toNat)
  case atStart => exact ⟨0, List.replicate ys.length 0, Nat.zero_le _, rfl, by simp, by simpa [Nat.add_comm] using hat0, InBlk.refl _ _ _ _, Dig.replicate _, by simp [val, val_replicate]⟩
  case round =>
    obtain ⟨k, us, hk, rfl, hul, hatr, hin, hdu, hval⟩ := hrel
    obtain ⟨x, hx, hx0, hx1⟩ := hdxs.get k
    have HV := hide hval
    have HU := hide hul
    have HX := hide hx
    clear hval hul hx
    by_cases hlt : k < xs.length
    · obtain ⟨bx, ox, rfl, hbx, hcx⟩ := hatxs (by intro e; subst e; simp at hlt)
      have hcxk : wr.cell? ⟨bx, ox + k, none⟩ = some (.int .u32 x) := by rw [← unhide HX]; exact ((hin.cell (p := ⟨bx, ox + k, none⟩) (by simp; omega)).trans (hbel0.cell (p := ⟨bx, ox + k, none⟩) hbx)).trans (hcx k hlt)
      go_wp2
      go_loopw [8, 25] (fun cv i wq => ∃ (j : Nat) (c : Int) (ns : List Int), j ≤ ys.length ∧ i = .int .i64 j ∧ cv = .int .u64 c ∧ 0 ≤ c ∧ c < 1000000000 ∧ ns.length = j ∧ At wq w.heap.size 0 (us.take k ++ (ns ++ ((us.drop k).drop j ++ List.replicate (xs.length - k) 0))) ∧ InBlk w.heap.size 0 (xs.length + ys.length) w0 wq ∧ Dig ns ∧ val ns + pw j * c = val ((us.drop k).take j) + x * val (ys.take j)) (fun _ i _ => ys.length - (intOf i).toNat)
      case atStart => exact ⟨0, 0, [], Nat.zero_le _, rfl, rfl, by omega, by omega, rfl, by simpa [← List.append_assoc] using hatr, hin, Dig.nil, by simp [val, pw]⟩
      case round =>
        obtain ⟨j, c, ns, hj, rfl, rfl, hc0, hc1, hnl, hatq, hinq, hdn, hvq⟩ := hrel
        obtain ⟨h, hh, hh0, hh1⟩ := (hdu.drop k).get j
        obtain ⟨y, hy, hy0, hy1⟩ := hdys.get j
        have HQ := hide hvq
        have HN := hide hnl
        have HH := hide hh
        have HY := hide hy
        clear hvq hnl hh hy
        by_cases hjl : j < ys.length
        · obtain ⟨yb, oy, rfl, hby, hcy⟩ := hatys (by intro e; subst e; simp at hjl)
          have hcyk : wr.cell? ⟨yb, oy + j, none⟩ = some (.int .u32 y) := by rw [← unhide HY]; exact ((hinq.cell (p := ⟨yb, oy + j, none⟩) (by simp; omega)).trans (hbel0.cell (p := ⟨yb, oy + j, none⟩) hby)).trans (hcy j hjl)
          have hdr : (us.drop k).drop j = h :: (us.drop k).drop (j + 1) := by
            have hl : j < (us.drop k).length := by rw [List.length_drop, unhide HU]; omega
            rw [List.drop_eq_getElem_cons hl]
            have := unhide HH
            rw [List.getElem?_eq_getElem hl] at this
            simp only [Option.getD_some] at this
            rw [this]
          rw [hdr, List.cons_append, ← List.append_assoc (us.take k)] at hatq
          have hpl : (us.take k ++ ns).length = k + j := by
            rw [List.length_append, List.length_take, unhide HU, unhide HN]; omega
          have HP := hide hpl
          clear hdr hpl
          have hcok : wr.cell? ⟨w.heap.size, k + j, none⟩ = some (.int .u32 h) := hatq.at0 (unhide HP)
          have hfk : wr.frozen? ⟨w.heap.size, k + j, none⟩ = false := (hinq.frozen _).trans (hfz _)
          obtain ⟨hm0, hm1⟩ := mul_bd hx0 hy0 hy1
          have key := hide (mul_step (us.drop k) ys ns j x c h y (unhide HN) (unhide HH) (unhide HY) (unhide HQ))
          go_wp2
          go_quiet (fail)
          go_wp2
          refine ⟨⟨j + 1, (c + (h + x * y)) / 1000000000, ns ++ [(c + (h + x * y)) % 1000000000], by omega, by simp, rfl, by omega, by omega, by simp [unhide HN], ?_, (hinq.drewN _).setCell (by omega) (by omega) _, hdn.append (Dig.one (by omega) (by omega)), unhide key _ _ (by omega)⟩, by simp [intOf]; omega⟩
          have := (hatq.drewN nq).set0 (unhide HP) ((c + (h + x * y)) % 1000000000)
          simpa [List.append_assoc] using this
        · obtain rfl : j = ys.length := by omega
          have hdn0 : (us.drop k).drop ys.length = [] := List.drop_eq_nil_of_le (by rw [List.length_drop, unhide HU]; omega)
          obtain ⟨m, hm⟩ : ∃ m, xs.length - k = m + 1 := ⟨xs.length - k - 1, by omega⟩
          rw [hdn0, hm, List.replicate_succ, List.nil_append, ← List.append_assoc (us.take k)] at hatq
          have hpl : (us.take k ++ ns).length = k + ys.length := by
            rw [List.length_append, List.length_take, unhide HU, unhide HN]; omega
          have HP := hide hpl
          have HM := hide hm
          clear hdn0 hpl hm
          have hcok : wr.cell? ⟨w.heap.size, k + ys.length, none⟩ = some (.int .u32 0) := hatq.at0 (unhide HP)
          have hfk : wr.frozen? ⟨w.heap.size, k + ys.length, none⟩ = false := (hinq.frozen _).trans (hfz _)
          have hvu : Hid (val (us.take k ++ ns ++ [c]) = val (xs.take (k + 1)) * val ys) := by
            show _ = _
            have h1 := unhide HV
            have h2 := unhide HQ
            rw [List.take_of_length_le (by rw [List.length_drop, unhide HU]; omega), List.take_of_length_le (Nat.le_refl _)] at h2
            have h3 : val us = val (us.take k) + pw k * val (us.drop k) := by
              have := val_append (us.take k) (us.drop k)
              rw [List.take_append_drop, List.length_take, unhide HU, Nat.min_eq_left (by omega)] at this
              exact this
            rw [List.append_assoc, val_append, val_snoc, unhide HN, h2, List.length_take, unhide HU, Nat.min_eq_left (by omega), val_take_succ', unhide HX, Int.mul_add, Int.add_mul, ← h1, h3, Int.mul_assoc]
            omega
          go_wp2
          refine ⟨⟨k + 1, us.take k ++ ns ++ [c], by omega, by simp, ?_, ?_, hinq.setCell (by omega) (by omega) _, ((hdu.take k).append hdn).append (Dig.one hc0 hc1), unhide hvu⟩, by simp [intOf]; omega⟩
          · rw [List.length_append, unhide HP]; simp; omega
          · have e : xs.length - (k + 1) = m := by have := unhide HM; omega
            rw [e, List.append_assoc]
            exact hatq.set0 (unhide HP) c
    · obtain rfl : k = xs.length := by omega
      have hA : At wr w.heap.size 0 us := by simpa using hatr
      have hm2 : Mg wr (.slice (some ⟨w.heap.size, 0, none⟩) (xs.length + ys.length) (xs.length + ys.length)) us := by
        rw [← unhide HU]
        exact hA.mg (by rw [hin.size]; exact hg0) (Nat.le_refl _)
      have hv' : Hid (val us = val xs * val ys) := by
        have := unhide HV
        rw [List.take_of_length_le (Nat.le_refl _)] at this
        exact this
      have hul : us.length ≤ xs.length + ys.length := Nat.le_of_eq (unhide HU)
      have hB2 := hbel0.trans (hin.below (B := w.heap.size) (Nat.le_refl _))
      clear hatr hA hin
      go_wp2_with (go_at_call 80; refine (trim_any _ us _ hm2 hdu (by omega)).mono ?_)
      rintro e w3 ⟨v3, ys3, rfl, rfl, hm3, hd3, hn3, hv3, hl3⟩
      have hv4 : Hid (val ys3 = val xs * val ys) := by show _ = _; rw [hv3]; exact hv'
      clear hv3 hv'
      go_wp2
      go_ret
      exact ⟨_, _, rfl, hB2, hm3, hd3, hn3, unhide hv4, by omega⟩

end Go.Proofs.YthgdmppmjnmiiaaGreatDoor.Nm

/- The iterator slices.Backward over uint32s: its contract, for every loop body that keeps the slice. -/
namespace Go.Proofs.YthgdmppmjnmiiaaGreatDoor.Nm
open Go.RowKit Go.Shelf
attribute [local go_sem] Oper.semAt_some

/-- The indices below n, from the greatest down. -/
def dn (n : Nat) : List (Fin n) := (List.finRange n).reverse
theorem dn_length (n : Nat) : (dn n).length = n := by simp [dn]
theorem dn_take_succ (n k : Nat) (h : k < n) : (dn n).take (k + 1) = (dn n).take k ++ [⟨n - 1 - k, by omega⟩] := by
  rw [List.take_add_one]
  congr 1
  simp only [dn]
  rw [List.getElem?_reverse (by simpa using h)]
  have h2 : (List.finRange n).length - 1 - k < (List.finRange n).length := by simp; omega
  rw [List.getElem?_eq_getElem h2]
  simp

/-- The digit at a place. -/
def dg (xs : List Int) (i : Nat) : Int := xs[i]?.getD 0
theorem Dig.dg {xs : List Int} (h : Dig xs) (k : Nat) : 0 ≤ dg xs k ∧ dg xs k < 1000000000 := h.at k

/-- Two blocks are kept. -/
def Kp2 (p q : Nat) (W W' : World) : Prop := W'.heap[p]? = W.heap[p]? ∧ W'.heap[q]? = W.heap[q]?
theorem kp2_t {p q : Nat} {A B C : World} (h : Kp2 p q A B) (k : Kp2 p q B C) : Kp2 p q A C := ⟨k.1.trans h.1, k.2.trans h.2⟩
theorem kp2_b {p q : Nat} {w : World} (hp : p < w.heap.size) (hq : q < w.heap.size) (W : World) (l : Nat) (o o' : Obj) (hl : w.heap.size ≤ l) (_ : W.heap[l]? = some o) (_ : o.isCells = false) (_ : o.isWalk = false) : Kp2 p q W (W.putObj l o') :=
  ⟨World.putObj_heap_other (by omega), World.putObj_heap_other (by omega)⟩
theorem Kp2.refl (p q : Nat) (W : World) : Kp2 p q W W := ⟨rfl, rfl⟩
theorem Kp2.setCell {p q : Nat} {A W : World} (h : Kp2 p q A W) {a : Addr} (hp : p ≠ a.block) (hq : q ≠ a.block) (v : Value) : Kp2 p q A (W.setCell a v) :=
  kp2_t h ⟨Below.heap_setCell _ _ _ _ hp, Below.heap_setCell _ _ _ _ hq⟩

set_option maxRecDepth 100000 in
set_option maxHeartbeats 1000000 in
theorem back1_in (l Bs b off cap : Nat) (zs : List Int) (hl : zs.length ≤ 1000000) (J Jx : List (Fin zs.length) → World → Prop)
    (hY : ∀ pre (x : Fin zs.length) W, J pre W → pre.length < zs.length → YieldAt Fence.wide (9 - 1) Tryz.prog l #[.int .i64 (x.1 : Int), (.int .u32 (dg zs x.1))] W fun e W' =>
      (e = .returned (.bool true) ∧ J (pre ++ [x]) W' ∧ Kp2 Bs b W W') ∨ (e = .returned (.bool false) ∧ Jx (pre ++ [x]) W'))
    (W : World) (hBs : W.cell? ⟨Bs, 0, none⟩ = some (.slice (some ⟨b, off, none⟩) zs.length cap)) (hc : At W b off zs) (h0 : J [] W) :
    CallsIn Fence.wide 9 Tryz.prog 91 #[.func (.yield l) #[] #[], .pointer (some ⟨Bs, 0, none⟩)] W fun e W' => (∃ v, e = .returned v) ∧
      ((∃ ys, ys = dn zs.length ∧ J ys W') ∨ (∃ pre, (∃ k, k ≤ zs.length ∧ pre = (dn zs.length).take k) ∧ Jx pre W')) := by
  refine callsIn_of_wp Tryz.func91 rfl trivial ?_ rfl
  simp only [Tryz.ntmps91, List.size_toArray, List.length_cons, List.length_nil, Nat.reduceAdd, Nat.reduceSub, Array.replicate_succ, Array.replicate_zero, List.push_toArray, List.append_toArray, List.nil_append, List.cons_append]
  gi_wp2
  gi_loopw [3] (fun i wr => ∃ k : Nat, k ≤ zs.length ∧ i = .int .i64 ((zs.length : Int) - 1 - k) ∧ J ((dn zs.length).take k) wr ∧ Kp2 Bs b W wr)
    (fun i _ => (intOf i + 1).toNat)
  case atStart => exact ⟨0, Nat.zero_le _, by simp, by simpa using h0, Kp2.refl _ _ _⟩
  case round =>
    obtain ⟨k, hk, rfl, hJs, hkp⟩ := hrel
    have hBr : wr.cell? ⟨Bs, 0, none⟩ = some (.slice (some ⟨b, off, none⟩) zs.length cap) := (World.cell?_of_block (w := W) hkp.1).trans hBs
    have hcr : At wr b off zs := fun j hj => (World.cell?_of_block (w := W) (a := ⟨b, off + j, none⟩) hkp.2).trans (hc j hj)
    by_cases hlt : k < zs.length
    · obtain ⟨fn, tmps, assign, body, hy, hR⟩ := hY _ (⟨zs.length - 1 - k, by omega⟩ : Fin zs.length) wr hJs (by rw [List.length_take, dn_length]; omega)
      dsimp only at hy
      have hcx : wr.cell? ⟨b, off + (zs.length - 1 - k), none⟩ = some (.int .u32 (dg zs (zs.length - 1 - k))) := hcr (zs.length - 1 - k) (by omega)
      have hix : (zs.length : Int) - 1 - k = ((zs.length - 1 - k : Nat) : Int) := by omega
      have hnn : (0 : Int) ≤ (zs.length : Int) - 1 - k := by omega
      rw [hix]
      gi_wp2
      refine hR.mono ?_
      rintro e W3 (⟨rfl, hJ3, hk3⟩ | ⟨rfl, hJx3⟩)
      · gi_wp2
        go_roundw
        case rel => exact ⟨k + 1, by omega, by simp; omega, by rw [dn_take_succ _ _ hlt]; exact hJ3, kp2_t hkp hk3⟩
        case measure => simp [intOf] <;> omega
      · gi_wp2
        refine bodyPost_ret (results_none rfl _ _ _) rfl ?_
        exact ⟨⟨_, rfl⟩, .inr ⟨_, ⟨k + 1, by omega, (dn_take_succ _ _ hlt).symm⟩, hJx3⟩⟩
    · obtain rfl : k = zs.length := by omega
      gi_wp2
      go_end0
      exact ⟨⟨_, rfl⟩, .inl ⟨_, by rw [List.take_of_length_le (by rw [dn_length]; omega)], hJs⟩⟩

/-- .. where there is no digit: no round. -/
theorem back1_nil_in (l Bs : Nat) (a : Option Addr) (cap : Nat) (J : List (Fin 0) → World → Prop) (W : World) (hBs : W.cell? ⟨Bs, 0, none⟩ = some (.slice a 0 cap)) (h0 : J [] W) :
    CallsIn Fence.wide 9 Tryz.prog 91 #[.func (.yield l) #[] #[], .pointer (some ⟨Bs, 0, none⟩)] W fun e W' => (∃ v, e = .returned v) ∧ J [] W' := by
  refine callsIn_of_wp Tryz.func91 rfl trivial ?_ rfl
  simp only [Tryz.ntmps91, List.size_toArray, List.length_cons, List.length_nil, Nat.reduceAdd, Nat.reduceSub, Array.replicate_succ, Array.replicate_zero, List.push_toArray, List.append_toArray, List.nil_append, List.cons_append]
  gi_wp2
  gi_loopw [3] (fun i wr => i = .int .i64 (-1) ∧ J [] wr) (fun _ _ => 0)
  case atStart => exact ⟨rfl, h0⟩
  case round =>
    obtain ⟨rfl, hJs⟩ := hrel
    gi_wp2
    go_end0
    exact ⟨⟨_, rfl⟩, hJs⟩

set_option maxHeartbeats 1000000 in
/-- slices.Backward boxes the slice value; the function value captures the box. -/
theorem back_any (a : Option Addr) (len cap : Nat) (w : World) :
    Calls Tryz.prog 70 #[.slice a len cap] w fun e w' => e = .returned (.func (.func 91) #[] #[.pointer (some ⟨w.heap.size, 0, none⟩)]) ∧ w' = w.alloc (.cells #[.slice a len cap] 47) := by
  have hmf : ∀ (fn : Fn) (first cap : Array Value) (w : World), (Instr.makeFunc fn first cap).run Tryz.prog w = .ok (.func fn first cap) w := fun _ _ _ _ => rfl
  go_enter Tryz.func70, Tryz.ntmps70
  go_wp2
  go_ret
  exact ⟨rfl, rfl⟩

/-- What slices.Backward tells, its box in block Bs: each digit with its place, from the top down; or the first of them. -/
theorem back_stops (Bs b : Nat) (a : Option Addr) (cap : Nat) (zs : List Int) (hl : zs.length ≤ 1000000) (w : World) (hBs : Bs < w.heap.size) (hb : b < w.heap.size)
    (hc : w.cell? ⟨Bs, 0, none⟩ = some (.slice a zs.length cap)) (hI : zs ≠ [] → ∃ off, a = some ⟨b, off, none⟩ ∧ At w b off zs) :
    SeqStopsK Fence.wide 9 Tryz.prog 91 #[.pointer (some ⟨Bs, 0, none⟩)] (fun x : Fin zs.length => #[Value.int .i64 (x.1 : Int), Value.int .u32 (dg zs x.1)]) (Kp2 Bs b) (fun ys => ys = dn zs.length)
      (fun pre => ∃ k, k ≤ zs.length ∧ pre = (dn zs.length).take k) zs.length w := fun l J Jx W hW _ _ hY h0 => by
  have hc' := (hW.cell (p := ⟨Bs, 0, none⟩) hBs).trans hc
  by_cases hne : zs = []
  · subst hne
    exact (back1_nil_in l Bs a cap J W hc' h0).mono fun e W' ⟨he, hj⟩ => ⟨he, .inl ⟨_, rfl, hj⟩⟩
  · obtain ⟨off, rfl, hat⟩ := hI hne
    exact back1_in l Bs b off cap zs hl J Jx hY W hc' (fun j hj => (hW.cell (p := ⟨b, off + j, none⟩) hb).trans (hat j hj)) h0

end Go.Proofs.YthgdmppmjnmiiaaGreatDoor.Nm

/- The walk of smallMag: the number of a magnitude that is small. -/
namespace Go.Proofs.YthgdmppmjnmiiaaGreatDoor.Nm
open Go.RowKit Go.Shelf
attribute [local go_sem] Oper.semAt_some

/-- What the uint64 is when the digits at these places have come. -/
def accU (xs : List Int) (pre : List (Fin xs.length)) : Int := pre.foldl (fun s i => (s * 1000000000 + dg xs i.1) % 18446744073709551616) 0
theorem accU_snoc (xs : List Int) (pre : List (Fin xs.length)) (i : Fin xs.length) : accU xs (pre ++ [i]) = (accU xs pre * 1000000000 + dg xs i.1) % 18446744073709551616 := by simp [accU]
theorem accU_bd (xs : List Int) (pre : List (Fin xs.length)) : 0 ≤ accU xs pre ∧ accU xs pre < 18446744073709551616 := by
  rcases List.eq_nil_or_concat pre with rfl | ⟨q, i, rfl⟩
  · simp [accU]
  · rw [List.concat_eq_append, accU_snoc]; omega
theorem accU_take (xs : List Int) (k : Nat) (hk : k ≤ xs.length) : accU xs ((dn xs.length).take k) = val (xs.drop (xs.length - k)) % 18446744073709551616 := by
  induction k with
  | zero => simp [accU, val]
  | succ k ih =>
    rw [dn_take_succ _ _ (by omega), accU_snoc, ih (by omega)]
    have e : xs.drop (xs.length - (k + 1)) = (dg xs (xs.length - 1 - k)) :: xs.drop (xs.length - k) := by
      have h1 : xs.length - (k + 1) < xs.length := by omega
      rw [List.drop_eq_getElem_cons h1]
      rw [show xs.length - 1 - k = xs.length - (k + 1) by omega, dg, List.getElem?_eq_getElem h1, show xs.length - (k + 1) + 1 = xs.length - k by omega]
      simp
    rw [e]
    simp only [val]
    omega
theorem accU_all (xs : List Int) : accU xs (dn xs.length) = val xs % 18446744073709551616 := by
  have := accU_take xs xs.length (Nat.le_refl _)
  rw [List.take_of_length_le (by rw [dn_length]; omega)] at this
  simpa using this

set_option maxRecDepth 100000 in
set_option maxHeartbeats 1000000 in
theorem smallMag_yes (a : Option Addr) (cap : Nat) (xs : List Int) (w : World) (hat : xs ≠ [] → ∃ b off, a = some ⟨b, off, none⟩ ∧ b < w.heap.size ∧ At w b off xs) (hd : Dig xs) (hl : xs.length ≤ 3) (h9 : xs.length = 3 → xs[2]?.getD 0 ≤ 9) (hv : val xs < 18446744073709551616) :
    Calls Tryz.prog 79 #[.slice a xs.length cap] w fun e w' => e = .returned (.tuple #[.int .u64 (val xs), .bool true]) ∧ Below w.heap.size w w' := by
  refine (callsIn_wide (n := 10)).1 ?_
  refine callsIn_of_wp_marks Tryz.func79 rfl trivial ?_ rfl
  simp only [Tryz.ntmps79, List.size_toArray, List.length_cons, List.length_nil, Nat.reduceAdd, Nat.reduceSub, Array.replicate_succ, Array.replicate_zero, List.push_toArray, List.append_toArray, List.nil_append, List.cons_append]
  by_cases h3 : xs.length = 3
  · have h3' : ((xs.length : Int) == 3) = true := by simp; omega
    obtain ⟨b0, off0, rfl, hb0, hc0⟩ := hat (by intro e; subst e; simp at h3)
    have hc2 := hc0 2 (by omega)
    have h92 := h9 h3
    obtain ⟨d2, hd2, hd20, hd21⟩ := hd.get 2
    rw [hd2] at hc2 h92
    have H3 := hide h3
    clear h3 h9 hd2
    have h3i : (2 : Int) < (xs.length : Int) := by have := unhide H3; omega
    have h3j : ¬ (3 : Int) < (xs.length : Int) := by have := unhide H3; omega
    have hq : decide ((9 : Int) < d2) = false := by simp; omega
    gi_wp2_with fail
    refine ⟨trivial, (callsIn_wide.2 (back_any _ _ _ _)).mono ?_⟩
    rintro e w' ⟨rfl, rfl⟩
    gi_wp2
    generalize ha : some (⟨b0, off0, none⟩ : Addr) = a at *
    have bS := Boxed.new w 86 (.int .u64 0)
    have bN := Boxed.new (w.alloc (.cells #[.int .u64 0] 86)) 47 (.slice a xs.length cap)
    rw [World.size_alloc] at bN
    have hB0 : Below w.heap.size w ((w.alloc (.cells #[.int .u64 0] 86)).alloc (.cells #[.slice a xs.length cap] 47)) := ((Below.refl _ w).alloc (Nat.le_refl _) _).alloc (by simp) _
    obtain ⟨b, hbw, hI⟩ : ∃ b, b < w.heap.size + 1 + 1 ∧ b ≠ w.heap.size ∧ (xs ≠ [] → ∃ off, a = some ⟨b, off, none⟩ ∧ At ((w.alloc (.cells #[.int .u64 0] 86)).alloc (.cells #[.slice a xs.length cap] 47)) b off xs) := by
      by_cases hne : xs = []
      · exact ⟨w.heap.size + 1, by omega, by omega, fun h => absurd hne h⟩
      · obtain ⟨b, off, e, hb, hc⟩ := hat hne
        exact ⟨b, by omega, by omega, fun _ => ⟨off, e, fun j hj => (hB0.cell (p := ⟨b, off + j, none⟩) hb).trans (hc j hj)⟩⟩
    obtain ⟨hbn, hI⟩ := hI
    refine wpIn_rangeFunc_ownG rfl (by decide) (gf := 91) (lb := #[.pointer (some ⟨w.heap.size + 1, 0, none⟩)]) rfl trivial (enters_of Tryz.func91 (by kernel_rfl) rfl)
      (back_stops (w.heap.size + 1) b a cap xs (by omega) _ (by simp) (by simp; omega) bN.cell hI) kp2_t (kp2_b (by simp) (by simp; omega)) (Below.refl _ _) (fun _ => rfl)
      (fun pre W => (W.cell? ⟨w.heap.size, 0, none⟩ = some (.int .u64 (accU xs pre)) ∧ W.frozen? ⟨w.heap.size, 0, none⟩ = false) ∧ Below w.heap.size w W)
      (fun _ _ _ => False)
      (OwnFrom.and (Own.from (fun s A B row hs hg hr => ⟨cell_kept hs.1 hg hr, (frozen_kept hs.1 hg hr).trans hs.2⟩) _) (ownFrom_below (Nat.le_refl _) (by simp; omega)))
      (fun _ _ _ _ _ hs _ _ => hs)
      ⟨⟨(bS.alloc _).cell, (bS.alloc _).frozen⟩, hB0⟩
      (fun x => { tmps := #[.slice a xs.length cap, undef, .int .u64 0, .bool false, .pointer (some ⟨w.heap.size, 0, none⟩), undef, .int .u32 (dg xs x.1), .slice a xs.length cap, .int .i64 xs.length, .bool false, .bool false, .slice a xs.length cap, .int .i64 xs.length, .bool true, .bool true, .slice a xs.length cap, .pointer (some ⟨b0, off0 + 2, none⟩), .int .u32 d2, .bool false, .bool false, .bool false, .slice a xs.length cap, .func (.func 91) #[] #[.pointer (some ⟨w.heap.size + 1, 0, none⟩)], .int .i64 (x.1 : Int), .int .u32 (dg xs x.1), undef, undef, undef, undef, undef, undef], defers := [] }) ?assign ?body ?done ?stop
    case assign =>
      intro l x W K hK
      gi_wp2
      exact hK
    case body =>
      rintro l pre x W ⟨⟨hc, hf⟩, hB⟩ _
      obtain ⟨hd0, hd1⟩ := hd.dg x.1
      have hacc := accU_bd xs pre
      gi_wp2
      refine ⟨(KeepsOthers.setCell _ _ _).from _, (Kp2.refl _ _ _).setCell (by simp) (by simpa using hbn) _, ⟨?_, by rw [World.frozen?_setCell]; exact hf⟩, hB.setCell (p := ⟨w.heap.size, 0, none⟩) (Nat.le_refl _) _⟩
      rw [accU_snoc, World.cell?_setCell_same _ _ _ hc]
      congr 2
      simp only [IntKind.wrap_u64]
      omega
    case done =>
      rintro D ys W hD rfl ⟨⟨hc, _⟩, hB⟩ hK
      gi_wp2
      refine ⟨by simp, .inl ⟨_, _, rfl, run_takeDeferred hK, ?_⟩⟩
      refine ⟨_, results_tmp2 rfl _ _ _, ?_, hB.trans (belowK_b (w := w) (Nat.le_refl _) W D _ _ (by simp at hD; omega) hK rfl rfl)⟩
      have e : accU xs (dn xs.length) = val xs := by rw [accU_all]; have := val_nonneg hd; omega
      rw [← e]
      rfl
    case stop =>
      rintro D c pre W _ _ h _
      exact h.elim

  · have h3' : ((xs.length : Int) == 3) = false := by simp; omega
    have h3'' : ¬ (3 : Int) < (xs.length : Int) := by omega
    clear h9
    gi_wp2_with fail
    refine ⟨trivial, (callsIn_wide.2 (back_any _ _ _ _)).mono ?_⟩
    rintro e w' ⟨rfl, rfl⟩
    gi_wp2
    have bS := Boxed.new w 86 (.int .u64 0)
    have bN := Boxed.new (w.alloc (.cells #[.int .u64 0] 86)) 47 (.slice a xs.length cap)
    rw [World.size_alloc] at bN
    have hB0 : Below w.heap.size w ((w.alloc (.cells #[.int .u64 0] 86)).alloc (.cells #[.slice a xs.length cap] 47)) := ((Below.refl _ w).alloc (Nat.le_refl _) _).alloc (by simp) _
    obtain ⟨b, hbw, hI⟩ : ∃ b, b < w.heap.size + 1 + 1 ∧ b ≠ w.heap.size ∧ (xs ≠ [] → ∃ off, a = some ⟨b, off, none⟩ ∧ At ((w.alloc (.cells #[.int .u64 0] 86)).alloc (.cells #[.slice a xs.length cap] 47)) b off xs) := by
      by_cases hne : xs = []
      · exact ⟨w.heap.size + 1, by omega, by omega, fun h => absurd hne h⟩
      · obtain ⟨b, off, e, hb, hc⟩ := hat hne
        exact ⟨b, by omega, by omega, fun _ => ⟨off, e, fun j hj => (hB0.cell (p := ⟨b, off + j, none⟩) hb).trans (hc j hj)⟩⟩
    obtain ⟨hbn, hI⟩ := hI
    refine wpIn_rangeFunc_ownG rfl (by decide) (gf := 91) (lb := #[.pointer (some ⟨w.heap.size + 1, 0, none⟩)]) rfl trivial (enters_of Tryz.func91 (by kernel_rfl) rfl)
      (back_stops (w.heap.size + 1) b a cap xs (by omega) _ (by simp) (by simp; omega) bN.cell hI) kp2_t (kp2_b (by simp) (by simp; omega)) (Below.refl _ _) (fun _ => rfl)
      (fun pre W => (W.cell? ⟨w.heap.size, 0, none⟩ = some (.int .u64 (accU xs pre)) ∧ W.frozen? ⟨w.heap.size, 0, none⟩ = false) ∧ Below w.heap.size w W)
      (fun _ _ _ => False)
      (OwnFrom.and (Own.from (fun s A B row hs hg hr => ⟨cell_kept hs.1 hg hr, (frozen_kept hs.1 hg hr).trans hs.2⟩) _) (ownFrom_below (Nat.le_refl _) (by simp; omega)))
      (fun _ _ _ _ _ hs _ _ => hs)
      ⟨⟨(bS.alloc _).cell, (bS.alloc _).frozen⟩, hB0⟩
      (fun x => { tmps := #[.slice a xs.length cap, undef, .int .u64 0, .bool false, .pointer (some ⟨w.heap.size, 0, none⟩), undef, .int .u32 (dg xs x.1), .slice a xs.length cap, .int .i64 xs.length, .bool false, .bool false, .slice a xs.length cap, .int .i64 xs.length, .bool false, .bool false, undef, undef, undef, undef, .bool false, .bool false, .slice a xs.length cap, .func (.func 91) #[] #[.pointer (some ⟨w.heap.size + 1, 0, none⟩)], .int .i64 (x.1 : Int), .int .u32 (dg xs x.1), undef, undef, undef, undef, undef, undef], defers := [] }) ?assign ?body ?done ?stop
    case assign =>
      intro l x W K hK
      gi_wp2
      exact hK
    case body =>
      rintro l pre x W ⟨⟨hc, hf⟩, hB⟩ _
      obtain ⟨hd0, hd1⟩ := hd.dg x.1
      have hacc := accU_bd xs pre
      gi_wp2
      refine ⟨(KeepsOthers.setCell _ _ _).from _, (Kp2.refl _ _ _).setCell (by simp) (by simpa using hbn) _, ⟨?_, by rw [World.frozen?_setCell]; exact hf⟩, hB.setCell (p := ⟨w.heap.size, 0, none⟩) (Nat.le_refl _) _⟩
      rw [accU_snoc, World.cell?_setCell_same _ _ _ hc]
      congr 2
      simp only [IntKind.wrap_u64]
      omega
    case done =>
      rintro D ys W hD rfl ⟨⟨hc, _⟩, hB⟩ hK
      gi_wp2
      refine ⟨by simp, .inl ⟨_, _, rfl, run_takeDeferred hK, ?_⟩⟩
      refine ⟨_, results_tmp2 rfl _ _ _, ?_, hB.trans (belowK_b (w := w) (Nat.le_refl _) W D _ _ (by simp at hD; omega) hK rfl rfl)⟩
      have e : accU xs (dn xs.length) = val xs := by rw [accU_all]; have := val_nonneg hd; omega
      rw [← e]
      rfl
    case stop =>
      rintro D c pre W _ _ h _
      exact h.elim

end Go.Proofs.YthgdmppmjnmiiaaGreatDoor.Nm

/- The walk of cmpMag: which of two magnitudes is greater. -/
namespace Go.Proofs.YthgdmppmjnmiiaaGreatDoor.Nm
open Go.RowKit Go.Shelf
attribute [local go_sem] Oper.semAt_some

theorem mem_dn_take (n k j : Nat) (hk : k ≤ n) (hj : j < n) (h : n - k ≤ j) : (⟨j, hj⟩ : Fin n) ∈ (dn n).take k := by
  induction k with
  | zero => omega
  | succ k ih =>
    rw [dn_take_succ n k (by omega)]
    by_cases e : j = n - 1 - k
    · subst e; simp
    · exact List.mem_append_left _ (ih (by omega) (by omega))
theorem val_lt_of_len {xs ys : List Int} (hx : Dig xs) (hy : Dig ys) (ny : Norm ys) (h : xs.length < ys.length) : val xs < val ys := by
  have h1 := val_lt hx
  have h2 := le_val hy ny (by intro e; subst e; simp at h)
  have h3 : pw xs.length ≤ pw (ys.length - 1) := pw_mono (by omega)
  omega
theorem val_split (xs : List Int) (k : Nat) (hk : k < xs.length) : val xs = val (xs.take k) + pw k * dg xs k + pw (k + 1) * val (xs.drop (k + 1)) := by
  have h1 := val_append (xs.take (k + 1)) (xs.drop (k + 1))
  rw [List.take_append_drop, List.length_take, Nat.min_eq_left (by omega), val_take_succ xs k hk] at h1
  exact h1
theorem drop_eq {xs ys : List Int} (hl : xs.length = ys.length) (k : Nat) (h : ∀ j, k ≤ j → j < xs.length → dg xs j = dg ys j) : xs.drop k = ys.drop k := by
  apply List.ext_getElem
  · simp [hl]
  · intro i h1 h2
    have := h (k + i) (by omega) (by simp at h1; omega)
    simp only [dg] at this
    rw [List.getElem?_eq_getElem (by simp at h1; omega), List.getElem?_eq_getElem (by simp at h1; omega)] at this
    simpa using this
theorem cmp_digit {xs ys : List Int} (hx : Dig xs) (hy : Dig ys) (hl : xs.length = ys.length) (k : Nat) (hk : k < xs.length) (h : ∀ j, k + 1 ≤ j → j < xs.length → dg xs j = dg ys j) (hlt : dg xs k < dg ys k) : val xs < val ys := by
  have h1 := val_split xs k hk
  have h2 := val_split ys k (by omega)
  rw [drop_eq hl (k + 1) h] at h1
  have h3 := val_lt (hx.take k)
  have h4 := val_nonneg (hy.take k)
  rw [List.length_take, Nat.min_eq_left (by omega)] at h3
  have h5 := Int.mul_le_mul_of_nonneg_left (show dg xs k + 1 ≤ dg ys k by omega) (Int.le_of_lt (pw_pos k))
  rw [Int.mul_add] at h5
  omega
theorem cmpI_lt {x y : Int} (h : x < y) : cmpI x y = -1 := by unfold cmpI; rw [if_pos h]
theorem cmpI_gt {x y : Int} (h : y < x) : cmpI x y = 1 := by unfold cmpI; rw [if_neg (by omega), if_pos h]
theorem cmpI_eq {x y : Int} (h : x = y) : cmpI x y = 0 := by unfold cmpI; rw [if_neg (by omega), if_neg (by omega)]

set_option maxHeartbeats 400000 in
theorem cmpMag_len (ax ay : Option Addr) (capx capy : Nat) (xs ys : List Int) (w : World) (hdx : Dig xs) (hdy : Dig ys) (hnx : Norm xs) (hny : Norm ys) (_hlx : xs.length ≤ 100000) (_hly : ys.length ≤ 100000) (hne : xs.length ≠ ys.length) :
    Calls Tryz.prog 62 #[.slice ax xs.length capx, .slice ay ys.length capy] w fun e w' => e = .returned (.int .i64 (cmpI (val xs) (val ys))) ∧ Below w.heap.size w w' := by
  have hq : ((xs.length : Int) != (ys.length : Int)) = true := by rw [bne_iff_ne]; omega
  have hv : cmpI (xs.length : Int) (ys.length : Int) = cmpI (val xs) (val ys) := by
    rcases Nat.lt_or_gt_of_ne hne with h | h
    · rw [cmpI_lt (by omega), cmpI_lt (val_lt_of_len hdx hdy hny h)]
    · rw [cmpI_gt (by omega), cmpI_gt (val_lt_of_len hdy hdx hnx h)]
  have HV := hide hv
  clear hv
  go_enter Tryz.func62, Tryz.ntmps62
  go_wp2_with fail
  refine (cmpInt_any _ _ _).mono ?_
  rintro e w1 ⟨rfl, hw1⟩
  subst hw1
  go_wp2
  refine bodyPost_ret (v := .int .i64 (cmpI (xs.length : Int) (ys.length : Int))) ?_ rfl ?_
  · simp [results, Tryz.results62, go_sem]
  · exact ⟨ret_int (unhide HV), ((Below.refl _ _).alloc (Nat.le_refl _) _).alloc (by simp) _⟩

set_option maxRecDepth 100000 in
set_option maxHeartbeats 1000000 in
theorem cmpMag_same (ax ay : Option Addr) (capx capy : Nat) (xs ys : List Int) (w : World) (hdx : Dig xs) (hdy : Dig ys) (hlx : xs.length ≤ 100000) (hl : xs.length = ys.length)
    (hatx : xs ≠ [] → ∃ b off, ax = some ⟨b, off, none⟩ ∧ b < w.heap.size ∧ At w b off xs) (haty : ys ≠ [] → ∃ b off, ay = some ⟨b, off, none⟩ ∧ b < w.heap.size ∧ At w b off ys) :
    Calls Tryz.prog 62 #[.slice ax xs.length capx, .slice ay ys.length capy] w fun e w' => e = .returned (.int .i64 (cmpI (val xs) (val ys))) ∧ Below w.heap.size w w' := by
  have hq : ((xs.length : Int) != (ys.length : Int)) = false := by simp [hl]
  refine (callsIn_wide (n := 10)).1 ?_
  refine callsIn_of_wp_marks Tryz.func62 rfl trivial ?_ rfl
  simp only [Tryz.ntmps62, List.size_toArray, List.length_cons, List.length_nil, Nat.reduceAdd, Nat.reduceSub, Array.replicate_succ, Array.replicate_zero, List.push_toArray, List.append_toArray, List.nil_append, List.cons_append]
  have HL := hide hl
  clear hl
  gi_wp2_with fail
  refine ⟨trivial, (callsIn_wide.2 (back_any _ _ _ _)).mono ?_⟩
  rintro e w' ⟨rfl, rfl⟩
  gi_wp2
  have bY := Boxed.new w 47 (.slice ay ys.length capy)
  have bR := Boxed.new (w.alloc (.cells #[.slice ay ys.length capy] 47)) 3 (.int .i64 0)
  have bN := Boxed.new ((w.alloc (.cells #[.slice ay ys.length capy] 47)).alloc (.cells #[.int .i64 0] 3)) 47 (.slice ax xs.length capx)
  simp only [World.size_alloc] at bR bN
  have hB0 : Below w.heap.size w (((w.alloc (.cells #[.slice ay ys.length capy] 47)).alloc (.cells #[.int .i64 0] 3)).alloc (.cells #[.slice ax xs.length capx] 47)) := (((Below.refl _ w).alloc (Nat.le_refl _) _).alloc (by simp) _).alloc (by simp <;> omega) _
  obtain ⟨b, hbw, hbn, hI⟩ : ∃ b, b < w.heap.size + 1 + 1 + 1 ∧ b ≠ w.heap.size + 1 ∧ (xs ≠ [] → ∃ off, ax = some ⟨b, off, none⟩ ∧ At (((w.alloc (.cells #[.slice ay ys.length capy] 47)).alloc (.cells #[.int .i64 0] 3)).alloc (.cells #[.slice ax xs.length capx] 47)) b off xs) := by
    by_cases hne : xs = []
    · exact ⟨w.heap.size + 1 + 1, by omega, by omega, fun h => absurd hne h⟩
    · obtain ⟨b, off, e, hb, hc⟩ := hatx hne
      exact ⟨b, by omega, by omega, fun _ => ⟨off, e, fun j hj => (hB0.cell (p := ⟨b, off + j, none⟩) hb).trans (hc j hj)⟩⟩
  refine wpIn_rangeFunc_ownG rfl (by decide) (gf := 91) (lb := #[.pointer (some ⟨w.heap.size + 1 + 1, 0, none⟩)]) rfl trivial (enters_of Tryz.func91 (by kernel_rfl) rfl)
    (back_stops (w.heap.size + 1 + 1) b ax capx xs (by omega) _ (by simp) (by simp; omega) bN.cell hI) kp2_t (kp2_b (by simp) (by simp; omega)) (Below.refl _ _) (fun _ => rfl)
    (fun pre W => ((∀ i ∈ pre, dg xs i.1 = dg ys i.1) ∧ W.cell? ⟨w.heap.size, 0, none⟩ = some (.slice ay ys.length capy) ∧ W.cell? ⟨w.heap.size + 1, 0, none⟩ = some (.int .i64 0) ∧ W.frozen? ⟨w.heap.size + 1, 0, none⟩ = false) ∧ Below w.heap.size w W)
    (fun c pre W => (c = .ret ∧ ∃ ini last, pre = ini ++ [last] ∧ (∀ i ∈ ini, dg xs i.1 = dg ys i.1) ∧ dg xs last.1 ≠ dg ys last.1 ∧ W.cell? ⟨w.heap.size + 1, 0, none⟩ = some (.int .i64 (cmpI (dg xs last.1) (dg ys last.1)))) ∧ Below w.heap.size w W)
    (OwnFrom.and (Own.from (fun s A B row hs hg hr => ⟨hs.1, cell_kept hs.2.1 hg hr, cell_kept hs.2.2.1 hg hr, (frozen_kept hs.2.2.1 hg hr).trans hs.2.2.2⟩) _) (ownFrom_below (Nat.le_refl _) (by simp; omega)))
    (fun c => OwnFrom.and (Own.from (fun s A B row hs hg hr => by obtain ⟨hc, ini, last, e1, e2, e3, e4⟩ := hs; exact ⟨hc, ini, last, e1, e2, e3, cell_kept e4 hg hr⟩) _) (ownFrom_below (Nat.le_refl _) (by simp; omega)))
    ⟨⟨by simp, ((bY.alloc _).alloc _).cell, (bR.alloc _).cell, (bR.alloc _).frozen⟩, hB0⟩
    (fun x => { tmps := #[.slice ax xs.length capx, .slice ay ys.length capy, undef, .pointer (some ⟨w.heap.size, 0, none⟩), .pointer (some ⟨w.heap.size + 1, 0, none⟩), .int .i64 (x.1 : Int), .int .u32 (dg xs x.1), .slice ax xs.length capx, .int .i64 xs.length, .slice ay ys.length capy, .int .i64 ys.length, .bool false, undef, undef, undef, undef, undef, .slice ax xs.length capx, .func (.func 91) #[] #[.pointer (some ⟨w.heap.size + 1 + 1, 0, none⟩)], .int .i64 (x.1 : Int), .int .u32 (dg xs x.1), undef, undef, undef, undef, undef, undef, undef, undef, undef, undef, undef, undef], defers := [] }) ?assign ?body ?done ?stop
  case assign =>
    intro l x W K hK
    gi_wp2
    exact hK
  case body =>
    rintro l pre x W ⟨⟨hp, hcy, hcr, hfr⟩, hB⟩ _
    have hxl : x.1 < ys.length := by rw [← unhide HL]; exact x.2
    obtain ⟨yb, yo, rfl, hyb, hya⟩ := haty (by intro e; subst e; simp at hxl)
    have hcyk : W.cell? ⟨yb, yo + x.1, none⟩ = some (.int .u32 (dg ys x.1)) := (hB.cell (p := ⟨yb, yo + x.1, none⟩) hyb).trans (hya x.1 hxl)
    by_cases he : dg xs x.1 = dg ys x.1
    · have he' : (dg xs x.1 != dg ys x.1) = false := by simp [he]
      have HE := hide he
      clear he
      gi_wp2
      exact ⟨KeepsFrom.refl _ _, Kp2.refl _ _ _, ⟨fun p hp' => (List.mem_append.1 hp').elim (hp p) (fun e => by simp at e; subst e; exact unhide HE), hcy, hcr, hfr⟩, hB⟩
    · have he' : (dg xs x.1 != dg ys x.1) = true := by simp [he]
      gi_wp2_with fail
      refine ⟨trivial, (CallsIn.inRound l (callsIn_wide.2 (cmp32_any _ _ _))).mono ?_⟩
      rintro e w1 ⟨rfl, hw1⟩
      subst hw1
      gi_wp2
      exact ⟨(KeepsOthers.setCell _ _ _).from _, ⟨rfl, pre, x, rfl, hp, he, World.cell?_setCell_same' _ _ _ (by rw [hcr]; rfl)⟩, hB.setCell (p := ⟨w.heap.size + 1, 0, none⟩) (by simp) _⟩
  case done =>
    rintro D ys' W hD rfl ⟨⟨hne, hcy, hcr, hfr⟩, hB⟩ hK
    gi_wp2
    have hK' := (KeepsOthers.setCell W ⟨w.heap.size + 1, 0, none⟩ (.int .i64 0)).same D _ hK rfl
    refine ⟨by simp, .inl ⟨_, _, rfl, run_takeDeferred hK', ?_⟩⟩
    have hc5 := cell_kept (World.cell?_setCell_same' W ⟨w.heap.size + 1, 0, none⟩ (.int .i64 0) (by rw [hcr]; rfl)) (grownBy_putObj' _ D (.deferred none)) (fun r e => by cases e; exact ⟨_, hK', rfl⟩)
    have hv : val xs = val ys := by
      have := drop_eq (unhide HL) 0 (fun j _ hj => hne ⟨j, hj⟩ (by have := mem_dn_take xs.length xs.length j (Nat.le_refl _) hj (by omega); rwa [List.take_of_length_le (by rw [dn_length]; omega)] at this))
      simp only [List.drop_zero] at this
      rw [this]
    refine ⟨.int .i64 0, ?_, by rw [cmpI_eq hv], (hB.setCell (p := ⟨w.heap.size + 1, 0, none⟩) (by simp) _).trans (belowK_b (w := w) (Nat.le_refl _) _ D _ _ (by simp at hD; omega) hK' rfl rfl)⟩
    simp [results, Tryz.f62, go_sem, hc5]
  case stop =>
    rintro D c pre W hD ⟨k, hk, rfl⟩ ⟨⟨rfl, ini, last, e1, e2, e3, hcr⟩, hB⟩ hK
    gi_wp2
    refine ⟨by simp, .inl ⟨_, _, rfl, run_takeDeferred hK, ?_⟩⟩
    have hc5 := cell_kept hcr (grownBy_putObj' _ D (.deferred none)) (fun r e => by cases e; exact ⟨_, hK, rfl⟩)
    obtain ⟨k', rfl⟩ : ∃ k', k = k' + 1 := by
      cases k with
      | zero => simp at e1
      | succ k' => exact ⟨k', rfl⟩
    rw [dn_take_succ _ _ (by omega)] at e1
    obtain ⟨rfl, e5⟩ := List.append_inj' e1 rfl
    obtain rfl : (⟨xs.length - 1 - k', by omega⟩ : Fin xs.length) = last := by simpa using e5
    have hup : ∀ j, xs.length - 1 - k' + 1 ≤ j → j < xs.length → dg xs j = dg ys j := fun j h1 h2 => e2 ⟨j, h2⟩ (mem_dn_take _ _ _ (by omega) h2 (by omega))
    have hv : cmpI (dg xs (xs.length - 1 - k')) (dg ys (xs.length - 1 - k')) = cmpI (val xs) (val ys) := by
      rcases Int.lt_or_gt_of_ne e3 with h | h
      · rw [cmpI_lt h, cmpI_lt (cmp_digit hdx hdy (unhide HL) _ (by omega) hup h)]
      · rw [cmpI_gt h, cmpI_gt (cmp_digit hdy hdx (unhide HL).symm _ (by rw [← unhide HL]; omega) (fun j h1 h2 => (hup j h1 (by rw [unhide HL]; exact h2)).symm) h)]
    refine ⟨.int .i64 (cmpI (val xs) (val ys)), ?_, rfl, hB.trans (belowK_b (w := w) (Nat.le_refl _) W D _ _ (by simp at hD; omega) hK rfl rfl)⟩
    rw [← hv]
    simp [results, Tryz.f62, go_sem, hc5]

/-- Which of two magnitudes is greater. -/
theorem cmpMag_any (vx vy : Value) (xs ys : List Int) (w : World) (hmx : Mg w vx xs) (hmy : Mg w vy ys) (hdx : Dig xs) (hdy : Dig ys) (hnx : Norm xs) (hny : Norm ys) (hlx : xs.length ≤ 100000) (hly : ys.length ≤ 100000) :
    Calls Tryz.prog 62 #[vx, vy] w fun e w' => e = .returned (.int .i64 (cmpI (val xs) (val ys))) ∧ Below w.heap.size w w' := by
  obtain ⟨ax, capx, rfl, _, hax⟩ := hmx
  obtain ⟨ay, capy, rfl, _, hay⟩ := hmy
  by_cases hl : xs.length = ys.length
  · exact cmpMag_same ax ay capx capy xs ys w hdx hdy hlx hl hax hay
  · exact cmpMag_len ax ay capx capy xs ys w hdx hdy hnx hny hlx hly hl

end Go.Proofs.YthgdmppmjnmiiaaGreatDoor.Nm

namespace Go.Proofs.YthgdmppmjnmiiaaGreatDoor.Nm
open Go.RowKit Go.Shelf
attribute [local go_sem] Oper.semAt_some

theorem At.other {w : World} {b off : Nat} {xs : List Int} (h : At w b off xs) {p : Addr} (hp : p.block ≠ b) (v : Value) : At (w.setCell p v) b off xs := fun j hj => by
  rw [World.cell?_setCell_other _ _ _ _ (by intro e; exact hp (by rw [e]))]
  exact h j hj
theorem Mg.put {w w' : World} {v : Value} {xs : List Int} {row : Option Nat} (h : Mg w v xs) (hg : w.grownBy w' row) (hr : ∀ r, row = some r → ∃ o : Obj, w.heap[r]? = some o ∧ o.isCells = false) : Mg w' v xs := by
  obtain ⟨a, cap, e, hc, hat⟩ := h
  refine ⟨a, cap, e, hc, fun hne => ?_⟩
  obtain ⟨b, off, ea, hb, hcell⟩ := hat hne
  exact ⟨b, off, ea, Nat.lt_of_lt_of_le hb hg.size, fun j hj => cell_kept (hcell j hj) hg hr⟩
theorem Mg.drewN {w : World} {v : Value} {xs : List Int} (h : Mg w v xs) (q : Nat) : Mg (w.drewN q) v xs := h
theorem At.setAt {w : World} {b : Nat} {O : List Int} (h : At w b 0 O) {i : Nat} (hi : i < O.length) (d : Int) : At (w.setCell ⟨b, i, none⟩ (.int .u32 d)) b 0 (O.set i d) := by
  intro j hj
  rw [List.length_set] at hj
  rw [Nat.zero_add]
  by_cases e : j = i
  · subst e
    have h0 := h j hi
    rw [Nat.zero_add] at h0
    rw [World.cell?_setCell_same _ _ _ h0]
    simp [hi]
  · rw [World.cell?_setCell_other _ _ _ _ (by intro h'; injection h' with _ h2; exact e h2.symm)]
    have h0 := h j hj
    rw [Nat.zero_add] at h0
    rw [h0, List.getElem?_set_ne (fun e' => e e'.symm)]
theorem mk32 (n : Nat) (w : World) (hn : n ≤ 1000000) : (Instr.makeSlice 47 (.int .i64 (n : Int)) (.int .i64 (n : Int))).run Tryz.prog w = .ok (.slice (some ⟨w.heap.size, 0, none⟩) n n) (w.alloc (.cells (madeCells #[.int .u32 0] n) 118)) := by
  obtain ⟨i0, hi, hz0, hz1, hz2⟩ := info_parts info32
  have hr := run_make (P := Tryz.prog) w 47 118 i0 (.int .u32 0) Tryz.underlying47 hi hz0 .i64 .i64 n n (by omega) (Int.le_refl _) (by rw [hz2]; omega) (by omega)
  rw [hz1] at hr
  simp only [Int.toNat_natCast, Nat.mul_one] at hr
  exact hr
theorem at_made (w : World) (n : Nat) : At (w.alloc (.cells (madeCells #[.int .u32 0] n) 118)) w.heap.size 0 (List.replicate n 0) := by
  intro j hj
  have hj' : j < n := by simpa using hj
  rw [Nat.zero_add, World.cell?_alloc_at _ _ _ _ rfl]
  have : (madeCells #[Value.int .u32 0] n).toList[j]? = some (.int .u32 0) := by rw [toList_madeCells_one]; simp [hj']
  simpa [hj'] using this

end Go.Proofs.YthgdmppmjnmiiaaGreatDoor.Nm
