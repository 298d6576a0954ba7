/- putBack: one time of a divisor added in place. -/
import Derived.Test.YtlcfldkmojpkpaaGreatDoorD
import Derived.BigRegion
namespace Go.Proofs.YtlcfldkmojpkpaaGreatDoor
open Go.RowKit

theorem InBlk.drew {b off n : Nat} {w w1 : World} (h : InBlk b off n w w1) : InBlk b off n w w1.drew :=
  h.trans ⟨rfl, rfl, rfl, rfl, fun _ _ => rfl, fun _ _ => rfl, fun _ => rfl⟩
theorem put_step (X Y zs : List Int) (k : Nat) (cr x y : Int) (hz : zs.length = k) (hx : X[k]?.getD 0 = x) (hy : Y[k]?.getD 0 = y) (h : val zs + pw k * cr = val (X.take k) + val (Y.take k)) :
    ∀ d c : Int, x + cr + y = d + 1000000000 * c → val (zs ++ [d]) + pw (k + 1) * c = val (X.take (k + 1)) + val (Y.take (k + 1)) := add_step X Y zs k cr x y hz hx hy h

set_option maxRecDepth 100000 in
set_option maxHeartbeats 1600000 in
theorem putBack_any (b off cap : Nat) (ay : Option Addr) (capy : Nat) (xs ys : List Int) (w : World) (hdx : Dig xs) (hdy : Dig ys) (hlx : xs.length ≤ 100000) (hly : ys.length ≤ xs.length)
    (hat : At w b off xs) (hfz : ∀ j, j < xs.length → w.frozen? ⟨b, off + j, none⟩ = false)
    (haty : ys ≠ [] → ∃ yb oy, ay = some ⟨yb, oy, none⟩ ∧ yb ≠ b ∧ At w yb oy ys) :
    Calls Tryz.prog 116 #[.slice (some ⟨b, off, none⟩) xs.length cap, .slice ay ys.length capy] w fun e w' =>
      ∃ zs c, e = .returned (.tuple #[]) ∧ InBlk b off xs.length w w' ∧ At w' b off zs ∧ zs.length = xs.length ∧ Dig zs ∧ 0 ≤ c ∧ c ≤ 1 ∧ val zs + pw xs.length * c = val xs + val ys := by
  go_enter Tryz.func116, Tryz.ntmps116
  go_wp2
  go_loopw [4, 8] (fun cv i wr => ∃ (k : Nat) (c : Int) (zs : List Int), k ≤ xs.length ∧ i = .int .i64 k ∧ cv = .int .u32 c ∧ 0 ≤ c ∧ c ≤ 1 ∧ zs.length = k ∧ At wr b off (zs ++ xs.drop k) ∧ InBlk b off xs.length w wr ∧ Dig zs ∧ val zs + pw k * c = val (xs.take k) + val (ys.take k)) (fun _ i _ => xs.length - (intOf i).toNat)
  case atStart => exact ⟨0, 0, [], Nat.zero_le _, rfl, rfl, by omega, by omega, rfl, by simpa using hat, InBlk.refl _ _ _ _, Dig.nil, by simp [val, pw]⟩
  case round =>
    obtain ⟨k, c, zs, hk, rfl, rfl, hc0, hc1, hzl, hatr, hin, hdz, hval⟩ := hrel
    obtain ⟨x, hx, hx0, hx1⟩ := hdx.get k
    obtain ⟨y, hy, hy0, hy1⟩ := hdy.get k
    have HV := hide hval
    have HZ := hide hzl
    have HX := hide hx
    have HY := hide hy
    clear hval hzl hx hy
    by_cases hlt : k < xs.length
    · have hs := hide (split_at xs zs k x hlt (unhide HX))
      have hatk : At wr b off (zs ++ x :: xs.drop (k + 1)) := by rw [← unhide hs]; exact hatr
      clear hs hatr
      have hcxk := hatk.at (unhide HZ)
      have hfk : wr.frozen? ⟨b, off + k, none⟩ = false := (hin.frozen _).trans (hfz k hlt)
      have key := hide (put_step xs ys zs k c x y (unhide HZ) (unhide HX) (unhide HY) (unhide HV))
      by_cases hly' : k < ys.length
      · obtain ⟨yb, oy, rfl, hyb, hcy⟩ := haty (by intro e; subst e; simp at hly')
        have hcyk : wr.cell? ⟨yb, oy + k, none⟩ = some (.int .u32 y) := by rw [← unhide HY]; exact (hin.cell (p := ⟨yb, oy + k, none⟩) hyb).trans (hcy k hly')
        have hcy2 : ∀ v, (wr.setCell ⟨b, off + k, none⟩ v).cell? ⟨yb, oy + k, none⟩ = some (.int .u32 y) := fun v => by
          rw [World.cell?_setCell_other _ _ _ _ (by intro h'; injection h' with h1; exact hyb h1.symm)]; exact hcyk
        have hwr : IntKind.u32.wrap (x + c + y) = x + c + y := by rw [IntKind.wrap_u32]; omega
        by_cases hge : 1000000000 ≤ x + c + y
        · go_wp2
          go_region
          all_goals
            go_wp2
            exact ⟨⟨k + 1, 1, zs ++ [x + c + y - 1000000000], by omega, by simp, rfl, by omega, by omega, by simp [unhide HZ], by rw [List.append_assoc]; exact ((hatk.set (unhide HZ) _).set (unhide HZ) _).set (unhide HZ) _, (((hin.setCell (by omega) (by omega) _).setCell (by omega) (by omega) _).setCell (by omega) (by omega) _).drew, hdz.append (Dig.one (by omega) (by omega)), unhide key _ _ (by omega)⟩, by simp [intOf]; omega⟩
        · have hgd : decide (1000000000 ≤ x + c + y) = false := by simp; omega
          go_wp2
          go_region
          all_goals
            go_wp2
            exact ⟨⟨k + 1, 0, zs ++ [x + c + y], by omega, by simp, rfl, by omega, by omega, by simp [unhide HZ], by rw [List.append_assoc]; exact (hatk.set (unhide HZ) _).set (unhide HZ) _, ((hin.setCell (by omega) (by omega) _).setCell (by omega) (by omega) _).drew, hdz.append (Dig.one (by omega) (by omega)), unhide key _ _ (by omega)⟩, by simp [intOf]; omega⟩
      · have hye : y = 0 := by rw [← unhide HY, List.getElem?_eq_none (by omega)]; rfl
        have HE := hide hye
        clear hye
        by_cases hge : 1000000000 ≤ x + c
        · go_wp2
          exact ⟨⟨k + 1, 1, zs ++ [x + c - 1000000000], by omega, by simp, rfl, by omega, by omega, by simp [unhide HZ], by rw [List.append_assoc]; exact (hatk.set (unhide HZ) _).set (unhide HZ) _, (hin.setCell (by omega) (by omega) _).setCell (by omega) (by omega) _, hdz.append (Dig.one (by omega) (by omega)), unhide key _ _ (by have := unhide HE; omega)⟩, by simp [intOf]; omega⟩
        · have hgd : decide (1000000000 ≤ x + c) = false := by simp; omega
          go_wp2
          exact ⟨⟨k + 1, 0, zs ++ [x + c], by omega, by simp, rfl, by omega, by omega, by simp [unhide HZ], by rw [List.append_assoc]; exact hatk.set (unhide HZ) _, hin.setCell (by omega) (by omega) _, hdz.append (Dig.one (by omega) (by omega)), unhide key _ _ (by have := unhide HE; omega)⟩, by simp [intOf]; omega⟩
    · obtain rfl : k = xs.length := by omega
      have hv' : Hid (val zs + pw xs.length * c = val xs + val ys) := by
        have := unhide HV
        rw [List.take_of_length_le (Nat.le_refl _), List.take_of_length_le (by omega)] at this
        exact this
      have hA : At wr b off zs := by simpa using hatr
      clear hatr
      go_wp2
      go_end0
      exact ⟨zs, c, rfl, hin, hA, unhide HZ, hdz, hc0, hc1, unhide hv'⟩

end Go.Proofs.YtlcfldkmojpkpaaGreatDoor
