/- The walks of trim, magOf, slices.Clone: magnitudes that are made and cut. -/
import Derived.Test.YtlcfldkmojpkpaaGreatDoorA
namespace Go.Proofs.YtlcfldkmojpkpaaGreatDoor
open Go.RowKit

/-- The length in a slot that holds a slice. -/
def lenOf : Value → Nat | .slice _ n _ => n | _ => 0

theorem Mg.take {w : World} {a : Option Addr} {n cap : Nat} {xs : List Int} (h : Mg w (.slice a n cap) xs) {k : Nat} (hk : k ≤ xs.length) : Mg w (.slice a k cap) (xs.take k) := by
  obtain ⟨a', cap', e, hc, hr⟩ := h
  simp only [Value.slice.injEq] at e
  obtain ⟨rfl, rfl, rfl⟩ := e
  have hlen : (xs.take k).length = k := by simp; omega
  refine ⟨a, cap, by rw [hlen], by omega, fun hne => ?_⟩
  obtain ⟨b, off, ea, hlt, hcell⟩ := hr (by intro e; subst e; exact hne (by simp))
  refine ⟨b, off, ea, hlt, fun j hj => ?_⟩
  rw [hlen] at hj
  rw [hcell j (by omega), List.getElem?_take, if_pos hj]

/-- How many of the first k digits are left without the noughts at the top. -/
def tl : Nat → List Int → Nat
  | 0, _ => 0
  | k + 1, xs => if xs[k]?.getD 0 = 0 then tl k xs else k + 1
theorem tl_le (k : Nat) (xs : List Int) : tl k xs ≤ k := by
  induction k with
  | zero => exact Nat.le_refl _
  | succ k ih =>
    unfold tl
    split
    · omega
    · exact Nat.le_refl _
theorem tl_top (k : Nat) (xs : List Int) (h : 0 < tl k xs) : xs[tl k xs - 1]?.getD 0 ≠ 0 := by
  induction k with
  | zero => simp [tl] at h
  | succ k ih =>
    unfold tl at h ⊢
    split
    · rename_i e
      rw [if_pos e] at h
      exact ih h
    · rename_i e
      simpa using e
theorem tl_zero (k : Nat) (xs : List Int) : ∀ j, tl k xs ≤ j → j < k → xs[j]?.getD 0 = 0 := by
  induction k with
  | zero => intro j _ h; omega
  | succ k ih =>
    intro j h1 h2
    unfold tl at h1
    split at h1
    · rename_i e
      by_cases hj : j = k
      · rw [hj]; exact e
      · exact ih j h1 (by omega)
    · omega

set_option maxHeartbeats 800000 in
theorem trim_val (a : Option Addr) (cap : Nat) (xs : List Int) (w : World) (hm : Mg w (.slice a xs.length cap) xs) (_hd : Dig xs) (hl : xs.length ≤ 1000000) :
    Calls Tryz.prog 84 #[.slice a xs.length cap] w fun e w' => e = .returned (.slice a (tl xs.length xs) cap) ∧ w' = w := by
  obtain ⟨a', cap', e', hcap, hat⟩ := hm
  simp only [Value.slice.injEq] at e'
  obtain ⟨rfl, _, rfl⟩ := e'
  go_enter Tryz.func84, Tryz.ntmps84
  go_wp2
  go_loop [0] (fun s => ∃ k : Nat, k ≤ xs.length ∧ s = .slice a k cap ∧ tl xs.length xs = tl k xs) (fun s => lenOf s)
  case atStart => exact ⟨xs.length, Nat.le_refl _, rfl, rfl⟩
  case round =>
    obtain ⟨k, hk, rfl, hz⟩ := hrel
    have HZ := hide hz
    clear hz
    have hcap' : k ≤ cap := by omega
    by_cases hk0 : 0 < k
    · obtain ⟨b, off, rfl, hb, hc⟩ := hat (by intro e; subst e; simp at hk; omega)
      have hck := hc (k - 1) (by omega)
      have hin : (k : Int) - 1 = ((k - 1 : Nat) : Int) := by omega
      have hst : Hid (tl k xs = if xs[k - 1]?.getD 0 = 0 then tl (k - 1) xs else k) := by
        obtain ⟨m, rfl⟩ : ∃ m, k = m + 1 := ⟨k - 1, by omega⟩
        show tl (m + 1) xs = _
        rfl
      by_cases hv : xs[k - 1]?.getD 0 = 0
      · have hv' : (xs[k - 1]?.getD 0 == 0) = true := by simp [hv]
        have hst' : Hid (tl xs.length xs = tl (k - 1) xs) := by
          show _ = _
          rw [unhide HZ, unhide hst, if_pos hv]
        go_wp2
        exact ⟨⟨k - 1, by omega, rfl, unhide hst'⟩, by simp [lenOf]; omega⟩
      · have hv' : (xs[k - 1]?.getD 0 == 0) = false := by simp [hv]
        have hst' : Hid (tl xs.length xs = k) := by
          show _ = _
          rw [unhide HZ, unhide hst, if_neg hv]
        go_wp2
        go_ret
        exact ⟨by rw [unhide hst']; rfl, rfl⟩
    · obtain rfl : k = 0 := by omega
      go_wp2
      go_ret
      exact ⟨by rw [unhide HZ]; rfl, rfl⟩

/-- What is left of a magnitude without the noughts at its top. -/
theorem tl_spec {w : World} {a : Option Addr} {cap : Nat} {xs : List Int} (hm : Mg w (.slice a xs.length cap) xs) (hd : Dig xs) :
    Mg w (.slice a (tl xs.length xs) cap) (xs.take (tl xs.length xs)) ∧ Dig (xs.take (tl xs.length xs)) ∧ Norm (xs.take (tl xs.length xs)) ∧ val (xs.take (tl xs.length xs)) = val xs ∧ (xs.take (tl xs.length xs)).length ≤ xs.length :=
  ⟨hm.take (tl_le _ _), hd.take _, Norm.take (tl_le _ _) (tl_top _ _), val_take_of_zero xs _ (tl_zero _ _), by simp; omega⟩
theorem trim_any (v : Value) (xs : List Int) (w : World) (hm : Mg w v xs) (hd : Dig xs) (hl : xs.length ≤ 1000000) :
    Calls Tryz.prog 84 #[v] w fun e w' => ∃ v' ys, e = .returned v' ∧ w' = w ∧ Mg w v' ys ∧ Dig ys ∧ Norm ys ∧ val ys = val xs ∧ ys.length ≤ xs.length := by
  have hm' := hm
  obtain ⟨a, cap, rfl, hcap, hat⟩ := hm
  refine (trim_val a cap xs w hm' hd hl).mono ?_
  rintro e w1 ⟨rfl, rfl⟩
  exact ⟨_, _, rfl, rfl, tl_spec hm' hd⟩

theorem Norm.snoc {xs : List Int} {d : Int} (h : d ≠ 0) : Norm (xs ++ [d]) := by
  intro hne
  simpa using h
theorem one32 (d : Int) : ∀ u ∈ [Value.int .u32 d], u.oneCell' = true := by
  intro u hu
  simp at hu
  subst hu
  rfl
theorem own_snoc {w : World} {base : Nat} {v : Value} {xs : List Int} {d : Int} (h : w.ownsRow base 88 1 v (xs.length + 1) (xs.map (Value.int .u32) ++ [.int .u32 d])) :
    w.ownsRow base 88 1 v (xs ++ [d]).length ((xs ++ [d]).map (Value.int .u32)) := by simpa using h

set_option maxHeartbeats 800000 in
theorem magOf_any (n : Int) (w : World) (h0 : 0 ≤ n) (h1 : n < 18446744073709551616) :
    Calls Tryz.prog 82 #[.int .u64 n] w fun e w' => ∃ v xs, e = .returned v ∧ Below w.heap.size w w' ∧ Mg w' v xs ∧ Dig xs ∧ Norm xs ∧ val xs = n ∧ xs.length ≤ 3 := by
  obtain ⟨i0, hi, hz0, hz1, hz2⟩ := info_parts info32
  go_enter Tryz.func82, Tryz.ntmps82
  go_wp2
  go_loopw [0, 3] (fun s v wr => ∃ (m : Int) (xs : List Int), 0 ≤ m ∧ m < 18446744073709551616 ∧ s = .int .u64 m ∧ wr.ownsRow w.heap.size 88 1 v xs.length (xs.map (Value.int .u32)) ∧ Below w.heap.size w wr ∧ Dig xs ∧ n = val xs + pw xs.length * m ∧ (m = 0 → Norm xs)) (fun s _ _ => (intOf s).toNat)
  case atStart => exact ⟨n, [], h0, h1, rfl, World.ownsRow_nil _ _ _ _, Below.refl _ _, Dig.nil, by simp [val, pw], fun _ => Norm.nil⟩
  case round =>
    obtain ⟨m, xs, hm0, hm1, rfl, hown, hbel, hd, hn, hno⟩ := hrel
    have hlen : xs.length ≤ 3 := by
      have hp3 : (18446744073709551616 : Int) < pw 3 := by decide
      by_cases hm : 0 < m
      · have h2 := val_nonneg hd
        have h3 := Int.mul_le_mul_of_nonneg_left (show (1 : Int) ≤ m by omega) (Int.le_of_lt (pw_pos xs.length))
        have h4 : pw xs.length < pw 3 := by omega
        have := pw_lt_imp h4
        omega
      · obtain rfl : m = 0 := by omega
        exact len_le hd (hno rfl) (by simp at hn; omega)
    by_cases hm : 0 < m
    · clear hno
      have HN := hide hn
      clear hn
      go_wp2_with (at_builtin; refine wpList_append_own _ rfl _ _ 24 rfl w.heap.size 88 i0 (.int .u32 0) 1 4 Tryz.underlying24 hi hz0 hz1 hz2 rfl (by decide) _ _ _ rfl (hown.alloc _) ⟨wr.heap.size, 0, none⟩ 1 1 [.int .u32 (m % 1000000000)] rfl rfl (cell_one_new _ _ _) (one32 _) ?c3 ?c4 ?c5 ?_)
      case c3 => unfold maxLen; omega
      case c4 => omega
      case c5 => have := hbel.size; simp; omega
      intro v' w1 hown' hgrow _
      have hB := (hbel.alloc hbel.size (.cells #[.int .u32 (m % 1000000000)] 88)).grown hgrow (by have := hbel.size; simp; omega) (fun k hk => (hown.lt k hk).1)
      have hO := own_snoc hown'
      clear hown' hgrow hown hbel
      go_wp2
      refine ⟨⟨m / 1000000000, xs ++ [m % 1000000000], by omega, by omega, rfl, hO, hB, hd.append (Dig.one (by omega) (by omega)), ?_, fun h => Norm.snoc (by omega)⟩, by simp [intOf]; omega⟩
      rw [unhide HN, val_snoc]
      simp only [List.length_append, List.length_cons, List.length_nil, Nat.zero_add, pw]
      have e : m = m % 1000000000 + 1000000000 * (m / 1000000000) := by omega
      have e2 : pw xs.length * m = pw xs.length * (m % 1000000000) + pw xs.length * (1000000000 * (m / 1000000000)) := by rw [← Int.mul_add, ← e]
      rw [e2, Int.add_assoc, Int.mul_assoc 1000000000, ← Int.mul_assoc (pw xs.length), Int.mul_comm (pw xs.length) 1000000000, Int.mul_assoc]
    · obtain rfl : m = 0 := by omega
      have F : Mg wr u3 xs := Mg.of_owns hown
      have hv : val xs = n := by simp at hn; omega
      have hN := hno rfl
      clear hn hno
      have HV := hide hv
      clear hv
      go_wp2
      go_ret
      exact ⟨_, rfl, hbel, xs, F, hd, hN, unhide HV, hlen⟩

end Go.Proofs.YtlcfldkmojpkpaaGreatDoor
