/- The walks of slices.Clone and takeAway: a magnitude copied; so many times another taken away in place. -/
import Derived.Test.YtlcfldkmojpkpaaGreatDoorC
namespace Go.Proofs.YtlcfldkmojpkpaaGreatDoor
open Go.RowKit
attribute [local go_sem] eqnil_some eqnil_none nenil_some nenil_none

/-- w' is w but for n cells of block b from off on. -/
structure InBlk (b off n : Nat) (w w' : World) : Prop where
  os : w'.os = w.os
  tape : w'.tape = w.tape
  output : w'.output = w.output
  size : w'.heap.size = w.heap.size
  block : ∀ k, k ≠ b → w'.heap[k]? = w.heap[k]?
  out : ∀ o, o < off ∨ off + n ≤ o → w'.cell? ⟨b, o, none⟩ = w.cell? ⟨b, o, none⟩
  frozen : ∀ o, w'.frozen? ⟨b, o, none⟩ = w.frozen? ⟨b, o, none⟩
theorem InBlk.refl (b off n : Nat) (w : World) : InBlk b off n w w := ⟨rfl, rfl, rfl, rfl, fun _ _ => rfl, fun _ _ => rfl, fun _ => rfl⟩
theorem InBlk.trans {b off n : Nat} {w w1 w2 : World} (h : InBlk b off n w w1) (k : InBlk b off n w1 w2) : InBlk b off n w w2 :=
  ⟨k.os.trans h.os, k.tape.trans h.tape, k.output.trans h.output, k.size.trans h.size, fun i hi => (k.block i hi).trans (h.block i hi), fun o ho => (k.out o ho).trans (h.out o ho), fun o => (k.frozen o).trans (h.frozen o)⟩
theorem InBlk.setCell {b off n : Nat} {w w1 : World} (h : InBlk b off n w w1) {o : Nat} (h1 : off ≤ o) (h2 : o < off + n) (v : Value) : InBlk b off n w (w1.setCell ⟨b, o, none⟩ v) :=
  h.trans ⟨rfl, rfl, rfl, by simp, fun k hk => Below.heap_setCell _ _ _ _ hk, fun p hp => World.cell?_setCell_other _ _ _ _ (by intro e; injection e; omega), fun p => World.frozen?_setCell _ _ _ _⟩
theorem InBlk.below {b off n B : Nat} {w w' : World} (h : InBlk b off n w w') (hB : B ≤ b) : Below B w w' :=
  ⟨h.os, h.tape, h.output, Nat.le_of_eq h.size.symm, fun k hk => h.block k (by omega)⟩
theorem InBlk.cell {b off n : Nat} {w w' : World} (h : InBlk b off n w w') {p : Addr} (hp : p.block ≠ b) : w'.cell? p = w.cell? p := World.cell?_of_block (w := w) (h.block p.block hp)

/-- The cells of block b from off on hold the uint32s xs. -/
def At (w : World) (b off : Nat) (xs : List Int) : Prop := ∀ j, j < xs.length → w.cell? ⟨b, off + j, none⟩ = some (.int .u32 (xs[j]?.getD 0))
theorem At.set {w : World} {b off : Nat} {zs : List Int} {x : Int} {rs : List Int} (h : At w b off (zs ++ x :: rs)) {k : Nat} (hz : zs.length = k) (d : Int) : At (w.setCell ⟨b, off + k, none⟩ (.int .u32 d)) b off (zs ++ d :: rs) := by
  subst hz
  intro j hj
  by_cases e : j = zs.length
  · subst e
    rw [World.cell?_setCell_same _ _ _ (h zs.length (by simp))]
    simp
  · rw [World.cell?_setCell_other _ _ _ _ (by intro h'; injection h'; omega), h j (by simpa using hj)]
    congr 2
    by_cases hlt : j < zs.length
    · rw [List.getElem?_append_left hlt, List.getElem?_append_left hlt]
    · rw [List.getElem?_append_right (by omega), List.getElem?_append_right (by omega)]
      obtain ⟨m, hm⟩ : ∃ m, j - zs.length = m + 1 := ⟨j - zs.length - 1, by omega⟩
      rw [hm]
      rfl
theorem At.mg {w : World} {b off cap : Nat} {xs : List Int} (h : At w b off xs) (hb : b < w.heap.size) (hc : xs.length ≤ cap) : Mg w (.slice (some ⟨b, off, none⟩) xs.length cap) xs :=
  ⟨_, cap, rfl, hc, fun _ => ⟨b, off, rfl, hb, h⟩⟩
theorem At.at {w : World} {b off : Nat} {zs : List Int} {x : Int} {rs : List Int} (h : At w b off (zs ++ x :: rs)) {k : Nat} (hz : zs.length = k) : w.cell? ⟨b, off + k, none⟩ = some (.int .u32 x) := by
  subst hz
  have := h zs.length (by simp)
  simpa using this

set_option maxHeartbeats 800000 in
theorem clone_some (b off len cap : Nat) (xs : List Int) (w : World) (hl : len = xs.length) (hb : b < w.heap.size) (hat : At w b off xs) (hlen : xs.length ≤ 100000) :
    Calls Tryz.prog 66 #[.slice (some ⟨b, off, none⟩) len cap] w fun e w' => ∃ v, e = .returned v ∧ Below w.heap.size w w' ∧ w'.ownsRow w.heap.size 88 1 v xs.length (xs.map (Value.int .u32)) ∧ v ≠ .slice none 0 0 := by
  subst hl
  obtain ⟨i0, hi, hz0, hz1, hz2⟩ := info_parts info32
  go_enter Tryz.func66, Tryz.ntmps66
  go_wp2_with (at_builtin; refine wpList_append_own _ rfl _ _ 24 rfl w.heap.size 88 i0 (.int .u32 0) 1 4 Tryz.underlying24 hi hz0 hz1 hz2 rfl (by decide) _ _ _ rfl (World.ownsRow_made w #[] 0 (Nat.le_refl _) (Nat.zero_le _) rfl) ⟨b, off, none⟩ xs.length cap (xs.map (Value.int .u32)) rfl (by simp) ?c1 (ints_oneCell _ _) ?c3 ?c4 ?c5 ?_)
  case c1 =>
    intro j u hj
    have hjl : j < xs.length := by
      have := (List.getElem?_eq_some_iff.1 hj).1
      simpa using this
    rw [Addr.add_lit, World.cell?_alloc_past _ _ _ hb, hat j hjl]
    simp [hjl] at hj
    simp [hjl, hj]
  case c3 => unfold maxLen; omega
  case c4 => omega
  case c5 => simp
  intro v' w1 hown' hgrow hnn
  have hB := ((Below.refl w.heap.size w).alloc (Nat.le_refl _) (.cells #[] 88)).grown hgrow (by simp) (fun k hk => by cases hk; exact Nat.le_refl _)
  have hne : v' ≠ .slice none 0 0 := fun e => by
    simp [e] at hnn
  clear hgrow hnn
  go_wp2
  go_ret
  exact ⟨_, rfl, hB, by simpa using hown', hne⟩

set_option maxHeartbeats 400000 in
theorem clone_none (w : World) :
    Calls Tryz.prog 66 #[.slice none 0 0] w fun e w' => e = .returned (.slice none 0 0) ∧ w' = w := by
  go_enter Tryz.func66, Tryz.ntmps66
  go_wp2
  go_ret
  exact ⟨rfl, rfl⟩

/-- What one step of taking away does to the numbers. -/
theorem take_step (X Y zs : List Int) (k : Nat) (t c x y : Int) (hz : zs.length = k) (hx : X[k]?.getD 0 = x) (hy : Y[k]?.getD 0 = y) (h : val zs = val (X.take k) - t * val (Y.take k) + pw k * c) :
    ∀ d c' : Int, x - (c + t * y) = d - 1000000000 * c' → val (zs ++ [d]) = val (X.take (k + 1)) - t * val (Y.take (k + 1)) + pw (k + 1) * c' := by
  intro d c' e
  rw [val_snoc, hz, val_take_succ', val_take_succ', hx, hy, h]
  simp only [pw]
  have e2 : pw k * x - (pw k * c + pw k * (t * y)) = pw k * d - pw k * (1000000000 * c') := by
    rw [← Int.mul_add, ← Int.mul_sub, ← Int.mul_sub, e]
  have e3 : pw k * (1000000000 * c') = 1000000000 * pw k * c' := by rw [← Int.mul_assoc, Int.mul_comm (pw k)]
  have e4 : t * (val (Y.take k) + pw k * y) = t * val (Y.take k) + pw k * (t * y) := by
    rw [Int.mul_add, ← Int.mul_assoc t, Int.mul_comm t (pw k), Int.mul_assoc]
  omega
theorem split_at (xs zs : List Int) (k : Nat) (x : Int) (hk : k < xs.length) (hx : xs[k]?.getD 0 = x) : zs ++ xs.drop k = zs ++ x :: xs.drop (k + 1) := by
  rw [List.drop_eq_getElem_cons hk]
  rw [List.getElem?_eq_getElem hk] at hx
  simp at hx
  rw [hx]
theorem mul_bd {t y : Int} (t0 : 0 ≤ t) (y0 : 0 ≤ y) (y1 : y < 1000000000) : 0 ≤ t * y ∧ t * y ≤ t * 999999999 :=
  ⟨Int.mul_nonneg t0 y0, Int.mul_le_mul_of_nonneg_left (by omega) t0⟩

set_option maxRecDepth 100000 in
set_option maxHeartbeats 1600000 in
theorem takeAway_any (b off cap : Nat) (ay : Option Addr) (capy : Nat) (xs ys : List Int) (t : Int) (w : World) (hdx : Dig xs) (hdy : Dig ys) (hlx : xs.length ≤ 100000) (hly : ys.length ≤ xs.length) (t0 : 0 ≤ t) (t1 : t ≤ 3000000000)
    (hat : At w b off xs) (hfz : ∀ j, j < xs.length → w.frozen? ⟨b, off + j, none⟩ = false)
    (haty : ys ≠ [] → ∃ yb oy, ay = some ⟨yb, oy, none⟩ ∧ yb ≠ b ∧ At w yb oy ys) :
    Calls Tryz.prog 87 #[.slice (some ⟨b, off, none⟩) xs.length cap, .slice ay ys.length capy, .int .u64 t] w fun e w' =>
      ∃ zs c, e = .returned (.bool (decide (0 < c))) ∧ InBlk b off xs.length w w' ∧ At w' b off zs ∧ zs.length = xs.length ∧ Dig zs ∧ 0 ≤ c ∧ val zs = val xs - t * val ys + pw xs.length * c := by
  go_enter Tryz.func87, Tryz.ntmps87
  go_wp2
  go_loopw [7, 13] (fun cv i wr => ∃ (k : Nat) (c : Int) (zs : List Int), k ≤ xs.length ∧ i = .int .i64 k ∧ cv = .int .u64 c ∧ 0 ≤ c ∧ c ≤ t + 1 ∧ zs.length = k ∧ At wr b off (zs ++ xs.drop k) ∧ InBlk b off xs.length w wr ∧ Dig zs ∧ val zs = val (xs.take k) - t * val (ys.take k) + pw k * c) (fun _ i _ => xs.length - (intOf i).toNat)
  case atStart => exact ⟨0, 0, [], Nat.zero_le _, rfl, rfl, by omega, by omega, rfl, by simpa using hat, InBlk.refl _ _ _ _, Dig.nil, by simp [val, pw]⟩
  case round =>
    obtain ⟨k, c, zs, hk, rfl, rfl, hc0, hc1, hzl, hatr, hin, hdz, hval⟩ := hrel
    obtain ⟨x, hx, hx0, hx1⟩ := hdx.get k
    obtain ⟨y, hy, hy0, hy1⟩ := hdy.get k
    have HV := hide hval
    have HZ := hide hzl
    have HX := hide hx
    have HY := hide hy
    clear hval hzl hx hy
    by_cases hlt : k < xs.length
    · have hs := hide (split_at xs zs k x hlt (unhide HX))
      have hatk : At wr b off (zs ++ x :: xs.drop (k + 1)) := by rw [← unhide hs]; exact hatr
      clear hs hatr
      have hcxk := hatk.at (unhide HZ)
      have hfk : wr.frozen? ⟨b, off + k, none⟩ = false := (hin.frozen _).trans (hfz k hlt)
      have key := hide (take_step xs ys zs k t c x y (unhide HZ) (unhide HX) (unhide HY) (unhide HV))
      by_cases hly' : k < ys.length
      · obtain ⟨yb, oy, rfl, hyb, hcy⟩ := haty (by intro e; subst e; simp at hly')
        have hcyk : wr.cell? ⟨yb, oy + k, none⟩ = some (.int .u32 y) := by rw [← unhide HY]; exact (hin.cell (p := ⟨yb, oy + k, none⟩) hyb).trans (hcy k hly')
        obtain ⟨hm0, hm1⟩ := mul_bd t0 hy0 hy1
        by_cases hge : x < (c + t * y) % 1000000000
        · go_wp2
          exact ⟨⟨k + 1, (c + t * y) / 1000000000 + 1, zs ++ [x + 1000000000 - (c + t * y) % 1000000000], by omega, by simp, rfl, by omega, by omega, by simp [unhide HZ], by rw [List.append_assoc]; exact (hatk.set (unhide HZ) _).set (unhide HZ) _, (hin.setCell (by omega) (by omega) _).setCell (by omega) (by omega) _, hdz.append (Dig.one (by omega) (by omega)), unhide key _ _ (by omega)⟩, by simp [intOf]; omega⟩
        · go_wp2
          exact ⟨⟨k + 1, (c + t * y) / 1000000000, zs ++ [x - (c + t * y) % 1000000000], by omega, by simp, rfl, by omega, by omega, by simp [unhide HZ], by rw [List.append_assoc]; exact hatk.set (unhide HZ) _, hin.setCell (by omega) (by omega) _, hdz.append (Dig.one (by omega) (by omega)), unhide key _ _ (by omega)⟩, by simp [intOf]; omega⟩
      · have hye : y = 0 := by rw [← unhide HY, List.getElem?_eq_none (by omega)]; rfl
        have hte : t * y = 0 := by rw [hye]; simp
        have HE := hide hte
        clear hye hte
        by_cases hge : x < c % 1000000000
        · go_wp2
          exact ⟨⟨k + 1, c / 1000000000 + 1, zs ++ [x + 1000000000 - c % 1000000000], by omega, by simp, rfl, by omega, by omega, by simp [unhide HZ], by rw [List.append_assoc]; exact (hatk.set (unhide HZ) _).set (unhide HZ) _, (hin.setCell (by omega) (by omega) _).setCell (by omega) (by omega) _, hdz.append (Dig.one (by omega) (by omega)), unhide key _ _ (by have := unhide HE; omega)⟩, by simp [intOf]; omega⟩
        · go_wp2
          exact ⟨⟨k + 1, c / 1000000000, zs ++ [x - c % 1000000000], by omega, by simp, rfl, by omega, by omega, by simp [unhide HZ], by rw [List.append_assoc]; exact hatk.set (unhide HZ) _, hin.setCell (by omega) (by omega) _, hdz.append (Dig.one (by omega) (by omega)), unhide key _ _ (by have := unhide HE; omega)⟩, by simp [intOf]; omega⟩
    · obtain rfl : k = xs.length := by omega
      have hv' : Hid (val zs = val xs - t * val ys + pw xs.length * c) := by
        have := unhide HV
        rw [List.take_of_length_le (Nat.le_refl _), List.take_of_length_le (by omega)] at this
        exact this
      have hA : At wr b off zs := by simpa using hatr
      clear hatr
      go_wp2
      go_ret
      exact ⟨_, c, rfl, hin, hA, unhide HZ, hdz, hc0, unhide hv'⟩

set_option maxRecDepth 100000 in
set_option maxHeartbeats 800000 in
theorem subMag_any (vx vy : Value) (xs ys : List Int) (w : World) (hmx : Mg w vx xs) (hmy : Mg w vy ys) (hdx : Dig xs) (hdy : Dig ys) (hlx : xs.length ≤ 10000) (hly : ys.length ≤ xs.length) (hne : xs ≠ []) (hle : val ys ≤ val xs) :
    Calls Tryz.prog 61 #[vx, vy] w fun e w' => ∃ v zs, e = .returned v ∧ Below w.heap.size w w' ∧ Mg w' v zs ∧ Dig zs ∧ Norm zs ∧ val zs = val xs - val ys ∧ zs.length ≤ xs.length := by
  obtain ⟨ax, capx, rfl, hcx, hatxs⟩ := hmx
  obtain ⟨ay, capy, rfl, hcy, hatys⟩ := hmy
  obtain ⟨bx, ox, rfl, hbx, hcellx⟩ := hatxs hne
  go_enter Tryz.func61, Tryz.ntmps61
  go_wp2_with (go_at_call 66; refine (clone_some bx ox xs.length capx xs w rfl hbx hcellx (by omega)).mono ?_)
  rintro e w1 ⟨v, rfl, hB, hown, hnn⟩
  rcases hown.2 with ⟨rfl, _⟩ | ⟨g, cap, cur, rfl, hg, hgg, hn, hcm, hcs, htk⟩
  · exact absurd rfl hnn
  have hgl : g < w1.heap.size := (Array.getElem?_eq_some_iff.1 hgg).1
  have hat : At w1 g 0 xs := by
    intro j hj
    have := hown.cells (g := g) rfl j (.int .u32 (xs[j]?.getD 0)) (by simp [hj])
    rw [Addr.add_lit] at this
    exact this
  have hfz : ∀ j, j < xs.length → w1.frozen? ⟨g, 0 + j, none⟩ = false := fun j _ => hown.frozenAt _
  have haty : ys ≠ [] → ∃ yb oy, ay = some ⟨yb, oy, none⟩ ∧ yb ≠ g ∧ At w1 yb oy ys := fun h => by
    obtain ⟨yb, oy, e, hyb, hcell⟩ := hatys h
    exact ⟨yb, oy, e, by omega, fun j hj => (hB.cell (p := ⟨yb, oy + j, none⟩) hyb).trans (hcell j hj)⟩
  clear htk hcs hown hnn
  go_wp2_with (go_at_call 87; refine (takeAway_any g 0 cap ay capy xs ys 1 w1 hdx hdy (by omega) hly (by omega) (by omega) hat hfz haty).mono ?_)
  rintro e w2 ⟨zs, c, rfl, hin, hatz, hzl, hdz, hc0, hval⟩
  have hc : c = 0 := by
    have h1 := val_lt hdz
    rw [hzl] at h1
    have h2 := pw_pos xs.length
    by_cases h : 1 ≤ c
    · have h3 := Int.mul_le_mul_of_nonneg_left h (Int.le_of_lt h2)
      omega
    · omega
  have hvz : Hid (val zs = val xs - val ys) := by
    show _ = _
    rw [hval, hc]; simp
  have hzle : zs.length ≤ xs.length := by omega
  have hm2 : Mg w2 (.slice (some ⟨g, 0, none⟩) xs.length cap) zs := by
    rw [← hzl]
    exact hatz.mg (by rw [hin.size]; exact hgl) (by omega)
  clear hval hc
  have hB2 := hB.trans (hin.below hg)
  clear hB hin hzl
  go_wp2_with (go_at_call 84; refine (trim_any _ zs w2 hm2 hdz (by omega)).mono ?_)
  rintro e w3 ⟨v3, ys3, rfl, rfl, hm3, hd3, hn3, hv3, hl3⟩
  have hv4 : Hid (val ys3 = val xs - val ys) := by show _ = _; rw [hv3]; exact hvz
  clear hv3 hvz
  go_wp2
  go_ret
  exact ⟨_, _, rfl, hB2, hm3, hd3, hn3, unhide hv4, by omega⟩

end Go.Proofs.YtlcfldkmojpkpaaGreatDoor
