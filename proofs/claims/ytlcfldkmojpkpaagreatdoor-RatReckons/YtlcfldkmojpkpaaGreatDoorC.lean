/- The walk of addMag: two magnitudes together. -/
import Derived.Test.YtlcfldkmojpkpaaGreatDoorB
namespace Go.Proofs.YtlcfldkmojpkpaaGreatDoor
open Go.RowKit

theorem add_step (X Y zs : List Int) (k : Nat) (cr x y : Int) (hz : zs.length = k) (hx : X[k]?.getD 0 = x) (hy : Y[k]?.getD 0 = y) (h : val zs + pw k * cr = val (X.take k) + val (Y.take k)) :
    ∀ d c : Int, x + cr + y = d + 1000000000 * c → val (zs ++ [d]) + pw (k + 1) * c = val (X.take (k + 1)) + val (Y.take (k + 1)) := by
  intro d c e
  rw [val_snoc, hz, val_take_succ', val_take_succ', hx, hy]
  simp only [pw]
  have e2 : pw k * x + pw k * cr + pw k * y = pw k * d + pw k * (1000000000 * c) := by
    rw [← Int.mul_add, ← Int.mul_add, ← Int.mul_add, e]
  have e3 : pw k * (1000000000 * c) = 1000000000 * pw k * c := by rw [← Int.mul_assoc, Int.mul_comm (pw k)]
  omega

set_option maxRecDepth 100000 in
set_option maxHeartbeats 1600000 in
theorem addMag_any (vx vy : Value) (xs ys : List Int) (w : World) (hmx : Mg w vx xs) (hmy : Mg w vy ys) (hdxs : Dig xs) (hdys : Dig ys) (hlx : xs.length ≤ 10000) (hly : ys.length ≤ 10000) :
    Calls Tryz.prog 59 #[vx, vy] w fun e w' => ∃ v zs, e = .returned v ∧ Below w.heap.size w w' ∧ Mg w' v zs ∧ Dig zs ∧ Norm zs ∧ val zs = val xs + val ys ∧ zs.length ≤ xs.length + ys.length + 1 := by
  obtain ⟨i0, hi, hz0, hz1, hz2⟩ := info_parts info32
  obtain ⟨ax, capx, rfl, hcx, hatxs⟩ := hmx
  obtain ⟨ay, capy, rfl, hcy, hatys⟩ := hmy
  by_cases hsw : xs.length < ys.length
  · go_enter Tryz.func59, Tryz.ntmps59
    go_wp2_with (at_make; refine wpList_make_own _ rfl _ _ 24 rfl w.heap.size 88 i0 (.int .u32 0) 1 Tryz.underlying24 hi hz0 hz1 _ _ _ (ys.length + 1) rfl rfl (by omega) ?b2 ?b3 ?b4 ?_)
    case b2 => rw [hz2]; omega
    case b3 => unfold maxLen; omega
    case b4 => exact Nat.le_refl _
    intro w0 hown0 hgrow0
    have hbel0 := (Below.refl w.heap.size w).grown hgrow0 (Nat.le_refl _) (fun k hk => by cases hk)
    clear hgrow0
    go_wp2
    go_loopw [5, 6, 23] (fun o c i wr => ∃ (k : Nat) (cr : Int) (zs : List Int), k ≤ ys.length ∧ i = .int .i64 k ∧ c = .int .u32 cr ∧ 0 ≤ cr ∧ cr ≤ 1 ∧ zs.length = k ∧ wr.ownsRow w.heap.size 88 1 o zs.length (zs.map (Value.int .u32)) ∧ Below w.heap.size w wr ∧ Dig zs ∧ val zs + pw k * cr = val (ys.take k) + val (xs.take k)) (fun _ _ i _ => ys.length - (intOf i).toNat)
    case atStart => exact ⟨0, 0, [], Nat.zero_le _, rfl, rfl, by omega, by omega, rfl, hown0, hbel0, Dig.nil, by simp [val, pw]⟩
    case round =>
      obtain ⟨k, cr, zs, hk, rfl, rfl, hc0, hc1, hzl, hown, hbel, hdz, hval⟩ := hrel
      obtain ⟨x, hx, hx0, hx1⟩ := hdys.get k
      obtain ⟨y, hy, hy0, hy1⟩ := hdxs.get k
      have HV := hide hval
      have hzle : zs.length ≤ 100000 := by omega
      have HZ := hide hzl
      have HX := hide hx
      have HY := hide hy
      clear hval hzl hx hy
      by_cases hlt : k < ys.length
      · obtain ⟨bx, ox, rfl, hbx, hcx⟩ := hatys (by intro e; subst e; simp at hlt)
        have hcxk : wr.cell? ⟨bx, ox + k, none⟩ = some (.int .u32 x) := by rw [← unhide HX]; exact (hbel.cell (p := ⟨bx, ox + k, none⟩) hbx).trans (hcx k hlt)
        have key := hide (add_step ys xs zs k cr x y (unhide HZ) (unhide HX) (unhide HY) (unhide HV))
        by_cases hly : k < xs.length
        · obtain ⟨yb, oy, rfl, hby, hcy⟩ := hatxs (by intro e; subst e; simp at hly)
          have hcyk : wr.cell? ⟨yb, oy + k, none⟩ = some (.int .u32 y) := by rw [← unhide HY]; exact (hbel.cell (p := ⟨yb, oy + k, none⟩) hby).trans (hcy k hly)
          by_cases hge : 1000000000 ≤ x + cr + y
          · go_wp2_with (at_builtin; refine wpList_append_own _ rfl _ _ 24 rfl w.heap.size 88 i0 (.int .u32 0) 1 4 Tryz.underlying24 hi hz0 hz1 hz2 rfl (by decide) _ _ _ rfl (hown.alloc _) ⟨wr.heap.size, 0, none⟩ 1 1 [.int .u32 (x + cr + y - 1000000000)] rfl rfl (cell_one_new _ _ _) (one32 _) ?c3 ?c4 ?c5 ?_)
            case c3 => unfold maxLen; omega
            case c4 => omega
            case c5 => have := hbel.size; simp; omega
            intro v' w1 hown' hgrow _
            have hB := (hbel.alloc hbel.size (.cells #[.int .u32 (x + cr + y - 1000000000)] 88)).grown hgrow (by have := hbel.size; simp; omega) (fun k hk => (hown.lt k hk).1)
            have hO := own_snoc hown'
            clear hown' hgrow hown hbel
            go_wp2
            exact ⟨⟨k + 1, 1, zs ++ [x + cr + y - 1000000000], by omega, by simp, rfl, by omega, by omega, by simp [unhide HZ], hO, hB, hdz.append (Dig.one (by omega) (by omega)), unhide key _ 1 (by omega)⟩, by simp [intOf]; omega⟩

          · go_wp2_with (at_builtin; refine wpList_append_own _ rfl _ _ 24 rfl w.heap.size 88 i0 (.int .u32 0) 1 4 Tryz.underlying24 hi hz0 hz1 hz2 rfl (by decide) _ _ _ rfl (hown.alloc _) ⟨wr.heap.size, 0, none⟩ 1 1 [.int .u32 (x + cr + y)] rfl rfl (cell_one_new _ _ _) (one32 _) ?c3 ?c4 ?c5 ?_)
            case c3 => unfold maxLen; omega
            case c4 => omega
            case c5 => have := hbel.size; simp; omega
            intro v' w1 hown' hgrow _
            have hB := (hbel.alloc hbel.size (.cells #[.int .u32 (x + cr + y)] 88)).grown hgrow (by have := hbel.size; simp; omega) (fun k hk => (hown.lt k hk).1)
            have hO := own_snoc hown'
            clear hown' hgrow hown hbel
            go_wp2
            exact ⟨⟨k + 1, 0, zs ++ [x + cr + y], by omega, by simp, rfl, by omega, by omega, by simp [unhide HZ], hO, hB, hdz.append (Dig.one (by omega) (by omega)), unhide key _ 0 (by omega)⟩, by simp [intOf]; omega⟩

        · have hye : y = 0 := by rw [← unhide HY, List.getElem?_eq_none (by omega)]; rfl
          have HE := hide hye
          clear hye
          by_cases hge : 1000000000 ≤ x + cr
          · go_wp2_with (at_builtin; refine wpList_append_own _ rfl _ _ 24 rfl w.heap.size 88 i0 (.int .u32 0) 1 4 Tryz.underlying24 hi hz0 hz1 hz2 rfl (by decide) _ _ _ rfl (hown.alloc _) ⟨wr.heap.size, 0, none⟩ 1 1 [.int .u32 (x + cr - 1000000000)] rfl rfl (cell_one_new _ _ _) (one32 _) ?c3 ?c4 ?c5 ?_)
            case c3 => unfold maxLen; omega
            case c4 => omega
            case c5 => have := hbel.size; simp; omega
            intro v' w1 hown' hgrow _
            have hB := (hbel.alloc hbel.size (.cells #[.int .u32 (x + cr - 1000000000)] 88)).grown hgrow (by have := hbel.size; simp; omega) (fun k hk => (hown.lt k hk).1)
            have hO := own_snoc hown'
            clear hown' hgrow hown hbel
            go_wp2
            exact ⟨⟨k + 1, 1, zs ++ [x + cr - 1000000000], by omega, by simp, rfl, by omega, by omega, by simp [unhide HZ], hO, hB, hdz.append (Dig.one (by omega) (by omega)), unhide key _ 1 (by have := unhide HE; omega)⟩, by simp [intOf]; omega⟩

          · go_wp2_with (at_builtin; refine wpList_append_own _ rfl _ _ 24 rfl w.heap.size 88 i0 (.int .u32 0) 1 4 Tryz.underlying24 hi hz0 hz1 hz2 rfl (by decide) _ _ _ rfl (hown.alloc _) ⟨wr.heap.size, 0, none⟩ 1 1 [.int .u32 (x + cr)] rfl rfl (cell_one_new _ _ _) (one32 _) ?c3 ?c4 ?c5 ?_)
            case c3 => unfold maxLen; omega
            case c4 => omega
            case c5 => have := hbel.size; simp; omega
            intro v' w1 hown' hgrow _
            have hB := (hbel.alloc hbel.size (.cells #[.int .u32 (x + cr)] 88)).grown hgrow (by have := hbel.size; simp; omega) (fun k hk => (hown.lt k hk).1)
            have hO := own_snoc hown'
            clear hown' hgrow hown hbel
            go_wp2
            exact ⟨⟨k + 1, 0, zs ++ [x + cr], by omega, by simp, rfl, by omega, by omega, by simp [unhide HZ], hO, hB, hdz.append (Dig.one (by omega) (by omega)), unhide key _ 0 (by have := unhide HE; omega)⟩, by simp [intOf]; omega⟩

      · obtain rfl : k = ys.length := by omega
        go_wp2_with (at_builtin; refine wpList_append_own _ rfl _ _ 24 rfl w.heap.size 88 i0 (.int .u32 0) 1 4 Tryz.underlying24 hi hz0 hz1 hz2 rfl (by decide) _ _ _ rfl (hown.alloc _) ⟨wr.heap.size, 0, none⟩ 1 1 [.int .u32 (cr)] rfl rfl (cell_one_new _ _ _) (one32 _) ?c3 ?c4 ?c5 ?_)
        case c3 => unfold maxLen; omega
        case c4 => omega
        case c5 => have := hbel.size; simp; omega
        intro v' w1 hown' hgrow _
        have hB := (hbel.alloc hbel.size (.cells #[.int .u32 (cr)] 88)).grown hgrow (by have := hbel.size; simp; omega) (fun k hk => (hown.lt k hk).1)
        have hO := own_snoc hown'
        clear hown' hgrow hown hbel
        have hdz' : Dig (zs ++ [cr]) := hdz.append (Dig.one (by omega) (by omega))
        have hv' : Hid (val (zs ++ [cr]) = val xs + val ys) := by
          have := unhide HV
          rw [List.take_of_length_le (Nat.le_refl _), List.take_of_length_le (by omega)] at this
          show _ = _
          rw [val_snoc, unhide HZ]
          omega
        have hl' : (zs ++ [cr]).length ≤ ys.length + 1 := by simp [unhide HZ]
        go_wp2_with (go_at_call 84; refine (trim_any _ _ _ (Mg.of_owns hO) hdz' (by omega)).mono ?_)
        rintro e w2 ⟨v2, ys2, rfl, rfl, hm2, hd2, hn2, hv2, hl2⟩
        have hv3 : Hid (val ys2 = val xs + val ys) := by show _ = _; rw [hv2]; exact hv'
        clear hv2 hv'
        go_wp2
        go_ret
        exact ⟨_, _, rfl, hB, hm2, hd2, hn2, unhide hv3, by omega⟩

  · go_enter Tryz.func59, Tryz.ntmps59
    go_wp2_with (at_make; refine wpList_make_own _ rfl _ _ 24 rfl w.heap.size 88 i0 (.int .u32 0) 1 Tryz.underlying24 hi hz0 hz1 _ _ _ (xs.length + 1) rfl rfl (by omega) ?b2 ?b3 ?b4 ?_)
    case b2 => rw [hz2]; omega
    case b3 => unfold maxLen; omega
    case b4 => exact Nat.le_refl _
    intro w0 hown0 hgrow0
    have hbel0 := (Below.refl w.heap.size w).grown hgrow0 (Nat.le_refl _) (fun k hk => by cases hk)
    clear hgrow0
    go_wp2
    go_loopw [5, 6, 23] (fun o c i wr => ∃ (k : Nat) (cr : Int) (zs : List Int), k ≤ xs.length ∧ i = .int .i64 k ∧ c = .int .u32 cr ∧ 0 ≤ cr ∧ cr ≤ 1 ∧ zs.length = k ∧ wr.ownsRow w.heap.size 88 1 o zs.length (zs.map (Value.int .u32)) ∧ Below w.heap.size w wr ∧ Dig zs ∧ val zs + pw k * cr = val (xs.take k) + val (ys.take k)) (fun _ _ i _ => xs.length - (intOf i).toNat)
    case atStart => exact ⟨0, 0, [], Nat.zero_le _, rfl, rfl, by omega, by omega, rfl, hown0, hbel0, Dig.nil, by simp [val, pw]⟩
    case round =>
      obtain ⟨k, cr, zs, hk, rfl, rfl, hc0, hc1, hzl, hown, hbel, hdz, hval⟩ := hrel
      obtain ⟨x, hx, hx0, hx1⟩ := hdxs.get k
      obtain ⟨y, hy, hy0, hy1⟩ := hdys.get k
      have HV := hide hval
      have hzle : zs.length ≤ 100000 := by omega
      have HZ := hide hzl
      have HX := hide hx
      have HY := hide hy
      clear hval hzl hx hy
      by_cases hlt : k < xs.length
      · obtain ⟨bx, ox, rfl, hbx, hcx⟩ := hatxs (by intro e; subst e; simp at hlt)
        have hcxk : wr.cell? ⟨bx, ox + k, none⟩ = some (.int .u32 x) := by rw [← unhide HX]; exact (hbel.cell (p := ⟨bx, ox + k, none⟩) hbx).trans (hcx k hlt)
        have key := hide (add_step xs ys zs k cr x y (unhide HZ) (unhide HX) (unhide HY) (unhide HV))
        by_cases hly : k < ys.length
        · obtain ⟨yb, oy, rfl, hby, hcy⟩ := hatys (by intro e; subst e; simp at hly)
          have hcyk : wr.cell? ⟨yb, oy + k, none⟩ = some (.int .u32 y) := by rw [← unhide HY]; exact (hbel.cell (p := ⟨yb, oy + k, none⟩) hby).trans (hcy k hly)
          by_cases hge : 1000000000 ≤ x + cr + y
          · go_wp2_with (at_builtin; refine wpList_append_own _ rfl _ _ 24 rfl w.heap.size 88 i0 (.int .u32 0) 1 4 Tryz.underlying24 hi hz0 hz1 hz2 rfl (by decide) _ _ _ rfl (hown.alloc _) ⟨wr.heap.size, 0, none⟩ 1 1 [.int .u32 (x + cr + y - 1000000000)] rfl rfl (cell_one_new _ _ _) (one32 _) ?c3 ?c4 ?c5 ?_)
            case c3 => unfold maxLen; omega
            case c4 => omega
            case c5 => have := hbel.size; simp; omega
            intro v' w1 hown' hgrow _
            have hB := (hbel.alloc hbel.size (.cells #[.int .u32 (x + cr + y - 1000000000)] 88)).grown hgrow (by have := hbel.size; simp; omega) (fun k hk => (hown.lt k hk).1)
            have hO := own_snoc hown'
            clear hown' hgrow hown hbel
            go_wp2
            exact ⟨⟨k + 1, 1, zs ++ [x + cr + y - 1000000000], by omega, by simp, rfl, by omega, by omega, by simp [unhide HZ], hO, hB, hdz.append (Dig.one (by omega) (by omega)), unhide key _ 1 (by omega)⟩, by simp [intOf]; omega⟩

          · go_wp2_with (at_builtin; refine wpList_append_own _ rfl _ _ 24 rfl w.heap.size 88 i0 (.int .u32 0) 1 4 Tryz.underlying24 hi hz0 hz1 hz2 rfl (by decide) _ _ _ rfl (hown.alloc _) ⟨wr.heap.size, 0, none⟩ 1 1 [.int .u32 (x + cr + y)] rfl rfl (cell_one_new _ _ _) (one32 _) ?c3 ?c4 ?c5 ?_)
            case c3 => unfold maxLen; omega
            case c4 => omega
            case c5 => have := hbel.size; simp; omega
            intro v' w1 hown' hgrow _
            have hB := (hbel.alloc hbel.size (.cells #[.int .u32 (x + cr + y)] 88)).grown hgrow (by have := hbel.size; simp; omega) (fun k hk => (hown.lt k hk).1)
            have hO := own_snoc hown'
            clear hown' hgrow hown hbel
            go_wp2
            exact ⟨⟨k + 1, 0, zs ++ [x + cr + y], by omega, by simp, rfl, by omega, by omega, by simp [unhide HZ], hO, hB, hdz.append (Dig.one (by omega) (by omega)), unhide key _ 0 (by omega)⟩, by simp [intOf]; omega⟩

        · have hye : y = 0 := by rw [← unhide HY, List.getElem?_eq_none (by omega)]; rfl
          have HE := hide hye
          clear hye
          by_cases hge : 1000000000 ≤ x + cr
          · go_wp2_with (at_builtin; refine wpList_append_own _ rfl _ _ 24 rfl w.heap.size 88 i0 (.int .u32 0) 1 4 Tryz.underlying24 hi hz0 hz1 hz2 rfl (by decide) _ _ _ rfl (hown.alloc _) ⟨wr.heap.size, 0, none⟩ 1 1 [.int .u32 (x + cr - 1000000000)] rfl rfl (cell_one_new _ _ _) (one32 _) ?c3 ?c4 ?c5 ?_)
            case c3 => unfold maxLen; omega
            case c4 => omega
            case c5 => have := hbel.size; simp; omega
            intro v' w1 hown' hgrow _
            have hB := (hbel.alloc hbel.size (.cells #[.int .u32 (x + cr - 1000000000)] 88)).grown hgrow (by have := hbel.size; simp; omega) (fun k hk => (hown.lt k hk).1)
            have hO := own_snoc hown'
            clear hown' hgrow hown hbel
            go_wp2
            exact ⟨⟨k + 1, 1, zs ++ [x + cr - 1000000000], by omega, by simp, rfl, by omega, by omega, by simp [unhide HZ], hO, hB, hdz.append (Dig.one (by omega) (by omega)), unhide key _ 1 (by have := unhide HE; omega)⟩, by simp [intOf]; omega⟩

          · go_wp2_with (at_builtin; refine wpList_append_own _ rfl _ _ 24 rfl w.heap.size 88 i0 (.int .u32 0) 1 4 Tryz.underlying24 hi hz0 hz1 hz2 rfl (by decide) _ _ _ rfl (hown.alloc _) ⟨wr.heap.size, 0, none⟩ 1 1 [.int .u32 (x + cr)] rfl rfl (cell_one_new _ _ _) (one32 _) ?c3 ?c4 ?c5 ?_)
            case c3 => unfold maxLen; omega
            case c4 => omega
            case c5 => have := hbel.size; simp; omega
            intro v' w1 hown' hgrow _
            have hB := (hbel.alloc hbel.size (.cells #[.int .u32 (x + cr)] 88)).grown hgrow (by have := hbel.size; simp; omega) (fun k hk => (hown.lt k hk).1)
            have hO := own_snoc hown'
            clear hown' hgrow hown hbel
            go_wp2
            exact ⟨⟨k + 1, 0, zs ++ [x + cr], by omega, by simp, rfl, by omega, by omega, by simp [unhide HZ], hO, hB, hdz.append (Dig.one (by omega) (by omega)), unhide key _ 0 (by have := unhide HE; omega)⟩, by simp [intOf]; omega⟩

      · obtain rfl : k = xs.length := by omega
        go_wp2_with (at_builtin; refine wpList_append_own _ rfl _ _ 24 rfl w.heap.size 88 i0 (.int .u32 0) 1 4 Tryz.underlying24 hi hz0 hz1 hz2 rfl (by decide) _ _ _ rfl (hown.alloc _) ⟨wr.heap.size, 0, none⟩ 1 1 [.int .u32 (cr)] rfl rfl (cell_one_new _ _ _) (one32 _) ?c3 ?c4 ?c5 ?_)
        case c3 => unfold maxLen; omega
        case c4 => omega
        case c5 => have := hbel.size; simp; omega
        intro v' w1 hown' hgrow _
        have hB := (hbel.alloc hbel.size (.cells #[.int .u32 (cr)] 88)).grown hgrow (by have := hbel.size; simp; omega) (fun k hk => (hown.lt k hk).1)
        have hO := own_snoc hown'
        clear hown' hgrow hown hbel
        have hdz' : Dig (zs ++ [cr]) := hdz.append (Dig.one (by omega) (by omega))
        have hv' : Hid (val (zs ++ [cr]) = val xs + val ys) := by
          have := unhide HV
          rw [List.take_of_length_le (Nat.le_refl _), List.take_of_length_le (by omega)] at this
          show _ = _
          rw [val_snoc, unhide HZ]
          omega
        have hl' : (zs ++ [cr]).length ≤ xs.length + 1 := by simp [unhide HZ]
        go_wp2_with (go_at_call 84; refine (trim_any _ _ _ (Mg.of_owns hO) hdz' (by omega)).mono ?_)
        rintro e w2 ⟨v2, ys2, rfl, rfl, hm2, hd2, hn2, hv2, hl2⟩
        have hv3 : Hid (val ys2 = val xs + val ys) := by show _ = _; rw [hv2]; exact hv'
        clear hv2 hv'
        go_wp2
        go_ret
        exact ⟨_, _, rfl, hB, hm2, hd2, hn2, unhide hv3, by omega⟩

end Go.Proofs.YtlcfldkmojpkpaaGreatDoor
