/- Add of small numbers; Add. -/
import Derived.Test.YtlcfldkmojpkpaaGreatDoorS1
import Derived.Test.YtlcfldkmojpkpaaGreatDoorS2
namespace Go.Proofs.YtlcfldkmojpkpaaGreatDoor
open Go.RowKit
attribute [local go_sem] eqnil_some eqnil_none nenil_some nenil_none

theorem toInt_small (a : Int) (h0 : -9223372036854775808 ≤ a) (h1 : a ≤ 9223372036854775807) : (BitVec.ofInt 64 a).toInt = a := by
  rw [BitVec.toInt_ofInt]
  have e : ((2 ^ 64 : Nat) : Int) = 18446744073709551616 := by decide
  unfold Int.bmod
  rw [e]
  simp only []
  split <;> omega
theorem msb_iff (a : Int) (h0 : -9223372036854775808 ≤ a) (h1 : a ≤ 9223372036854775807) : (BitVec.ofInt 64 a).msb = decide (a < 0) := by
  rw [BitVec.msb_eq_toInt, toInt_small a h0 h1]
theorem wrap_toInt (v : BitVec 64) : ((v.toNat : Int) + 9223372036854775808) % 18446744073709551616 - 9223372036854775808 = v.toInt := by
  have h1 := v.isLt
  rw [BitVec.toInt_eq_toNat_cond]
  have e : ((2 ^ 64 : Nat) : Int) = 18446744073709551616 := by decide
  split <;> omega

theorem bits_sign (v : BitVec 64) : (IntKind.i64.wrap (v.toNat : Int) < 0) = (v.msb = true) := by
  rw [IntKind.wrap_i64, wrap_toInt, BitVec.msb_eq_toInt]
  simp
theorem bits_range (v : BitVec 64) : -9223372036854775808 ≤ IntKind.i64.wrap (v.toNat : Int) ∧ IntKind.i64.wrap (v.toNat : Int) ≤ 9223372036854775807 := by
  rw [IntKind.wrap_i64]; omega
/-- A sum that wrapped round has the sign of neither. -/
theorem ov_iff (a b : Int) (ha0 : -9223372036854775808 ≤ a) (ha1 : a ≤ 9223372036854775807) (hb0 : -9223372036854775808 ≤ b) (hb1 : b ≤ 9223372036854775807) :
    (bits .and .i64 (bits .xor .i64 (wrap64 (a + b)) a) (bits .xor .i64 (wrap64 (a + b)) b) < 0) = (a + b < -9223372036854775808 ∨ 9223372036854775807 < a + b) := by
  have hs0 : -9223372036854775808 ≤ wrap64 (a + b) ∧ wrap64 (a + b) ≤ 9223372036854775807 := by unfold wrap64; omega
  generalize hs : wrap64 (a + b) = s at *
  have e1 : ∀ x y : Int, bits .xor .i64 x y = IntKind.i64.wrap ((BitVec.ofInt 64 x ^^^ BitVec.ofInt 64 y).toNat : Int) := fun _ _ => rfl
  have e2 : ∀ x y : Int, bits .and .i64 x y = IntKind.i64.wrap ((BitVec.ofInt 64 x &&& BitVec.ofInt 64 y).toNat : Int) := fun _ _ => rfl
  have hx : ∀ y : Int, -9223372036854775808 ≤ y → y ≤ 9223372036854775807 → (BitVec.ofInt 64 (bits .xor .i64 s y)).msb = (decide (s < 0) ^^ decide (y < 0)) := by
    intro y h0 h1
    rw [e1]
    have hr := bits_range (BitVec.ofInt 64 s ^^^ BitVec.ofInt 64 y)
    have hb := bits_sign (BitVec.ofInt 64 s ^^^ BitVec.ofInt 64 y)
    rw [msb_iff _ hr.1 hr.2]
    have h2 : (BitVec.ofInt 64 s ^^^ BitVec.ofInt 64 y).msb = (decide (s < 0) ^^ decide (y < 0)) := by
      rw [BitVec.msb_xor, msb_iff s hs0.1 hs0.2, msb_iff y h0 h1]
    rw [← h2]
    cases h : (BitVec.ofInt 64 s ^^^ BitVec.ofInt 64 y).msb
    · rw [h] at hb; simp only [Bool.false_eq_true, eq_iff_iff, iff_false] at hb; simpa using hb
    · rw [h] at hb; simp only [eq_iff_iff, iff_true] at hb; simpa using hb
  rw [e2, bits_sign, BitVec.msb_and, hx a ha0 ha1, hx b hb0 hb1]
  have hw : s = wrap64 (a + b) := hs.symm
  unfold wrap64 at hw
  apply propext
  by_cases h1 : s < 0
  · by_cases h2 : a < 0
    · by_cases h3 : b < 0
      · simp [h1, h2, h3]; omega
      · simp [h1, h2, h3]; omega
    · by_cases h3 : b < 0
      · simp [h1, h2, h3]; omega
      · simp [h1, h2, h3]; omega
  · by_cases h2 : a < 0
    · by_cases h3 : b < 0
      · simp [h1, h2, h3]; omega
      · simp [h1, h2, h3]; omega
    · by_cases h3 : b < 0
      · simp [h1, h2, h3]; omega
      · simp [h1, h2, h3]; omega
theorem IsI.small {w : World} {n : Int} {z : Int} (h : IsI w (.agg #[.int .i64 n, .slice none 0 0]) z) : n = z ∧ -9223372036854775808 ≤ z ∧ z ≤ 9223372036854775807 := by
  rcases h with ⟨e, h1, h2⟩ | ⟨b, off, cap, xs, e, _⟩
  · simp at e; exact ⟨e, h1, h2⟩
  · simp at e
theorem ov_bits {w : World} {na nb za zb : Int} (hA : IsI w (.agg #[.int .i64 na, .slice none 0 0]) za) (hB : IsI w (.agg #[.int .i64 nb, .slice none 0 0]) zb) (hov : za + zb < -9223372036854775808 ∨ 9223372036854775807 < za + zb) : bits .and .i64 (bits .xor .i64 (wrap64 (na + nb)) na) (bits .xor .i64 (wrap64 (na + nb)) nb) < 0 := by
  obtain ⟨rfl, h1, h2⟩ := hA.small
  obtain ⟨rfl, h3, h4⟩ := hB.small
  rw [ov_iff _ _ h1 h2 h3 h4]
  exact hov
theorem ov_signs {w : World} {na nb za zb : Int} (hA : IsI w (.agg #[.int .i64 na, .slice none 0 0]) za) (hB : IsI w (.agg #[.int .i64 nb, .slice none 0 0]) zb) (hov : za + zb < -9223372036854775808 ∨ 9223372036854775807 < za + zb) : (za < 0 ∧ zb < 0) ∨ (0 ≤ za ∧ 0 ≤ zb) := by
  obtain ⟨_, h1, h2⟩ := hA.small
  obtain ⟨_, h3, h4⟩ := hB.small
  omega

set_option maxRecDepth 100000 in
set_option maxHeartbeats 1000000 in
theorem add_small (za zb : Int) (w : World) (h1 : -9223372036854775808 ≤ za) (h2 : za ≤ 9223372036854775807) (h3 : -9223372036854775808 ≤ zb) (h4 : zb ≤ 9223372036854775807) (h5 : -9223372036854775808 ≤ za + zb) (h6 : za + zb ≤ 9223372036854775807) :
    Calls Tryz.prog 30 #[.agg #[.int .i64 za, .slice none 0 0], .agg #[.int .i64 zb, .slice none 0 0]] w fun e w' => ∃ r, e = .returned r ∧ Below w.heap.size w w' ∧ IsI w' r (za + zb) := by
  have hnn : 0 ≤ bits .and .i64 (bits .xor .i64 (wrap64 (za + zb)) za) (bits .xor .i64 (wrap64 (za + zb)) zb) := by
    apply Int.not_lt.1
    rw [ov_iff za zb h1 h2 h3 h4]
    omega
  have hw : wrap64 (za + zb) = za + zb := by unfold wrap64; omega
  rw [hw] at hnn
  obtain ⟨W1, hW0, S⟩ := setup2 w (.int .i64 za) (.slice none 0 0) (.int .i64 zb) (.slice none 0 0)
  have HW := hide hW0
  clear hW0
  go_enter Tryz.func30, Tryz.ntmps30
  go_wp2_with fail
  rw [unhide HW]
  obtain ⟨hB0, gA0, gA1, gB0, gB1, gR0, gR1, gf0, gf1, hRb, hz0, hz1, hz2⟩ := S
  have HRb := hide hRb
  clear hRb
  refine (of_any _ _).mono ?_
  rintro e w2 ⟨rfl, hb2⟩
  have kR0 := (hb2.cell (p := ⟨w.heap.size + 1 + 1, 0, none⟩) hz2).trans gR0
  have kR1 := (hb2.cell (p := ⟨w.heap.size + 1 + 1, 1, none⟩) hz2).trans gR1
  have kf0 := (hb2.frozen (p := ⟨w.heap.size + 1 + 1, 0, none⟩) hz2).trans gf0
  have kf1 := (hb2.frozen (p := ⟨w.heap.size + 1 + 1, 1, none⟩) hz2).trans gf1
  go_wp2
  refine bodyPost_ret (v := .agg #[.int .i64 (za + zb), .slice none 0 0]) ?_ rfl ?_
  · simp [results, Tryz.results30, go_sem, kR0, kR1]
  · have hrb2 := (hb2.block (w.heap.size + 1 + 1) hz2).trans (unhide HRb)
    exact ⟨_, rfl, ret_store (hB0.trans (hb2.mono (B' := w.heap.size) (Nat.le_of_lt hz0))) (.inl ⟨rfl, h5, h6⟩) (by omega) hrb2 _ _⟩

set_option maxRecDepth 100000 in
set_option maxHeartbeats 4000000 in
theorem add_over (na nb : Int) (za zb : Int) (w : World) (hA : IsI w (.agg #[.int .i64 na, .slice none 0 0]) za) (hB : IsI w (.agg #[.int .i64 nb, .slice none 0 0]) zb) (hza : (za.natAbs : Int) < pw 4000) (hzb : (zb.natAbs : Int) < pw 4000) (hov : za + zb < -9223372036854775808 ∨ 9223372036854775807 < za + zb) :
    Calls Tryz.prog 30 #[.agg #[.int .i64 na, .slice none 0 0], .agg #[.int .i64 nb, .slice none 0 0]] w fun e w' => ∃ r, e = .returned r ∧ Below w.heap.size w w' ∧ IsI w' r (za + zb) := by
  have HZA := hide hza
  have HZB := hide hzb
  clear hza hzb
  have hx3 := ov_bits hA hB hov
  have hdd : decide (0 ≤ bits BinOp.and IntKind.i64 (bits BinOp.xor IntKind.i64 (wrap64 (na + nb)) na) (bits BinOp.xor IntKind.i64 (wrap64 (na + nb)) nb)) = false := by simp; omega
  have HOV := hide (ov_signs hA hB hov)
  clear hov
  obtain ⟨W1, hW0, S⟩ := setup2 w (.int .i64 na) (.slice none 0 0) (.int .i64 nb) (.slice none 0 0)
  have HW := hide hW0
  clear hW0
  go_enter Tryz.func30, Tryz.ntmps30
  go_wp2_with fail
  rw [unhide HW]
  generalize bits BinOp.and IntKind.i64 (bits BinOp.xor IntKind.i64 (wrap64 (na + nb)) na) (bits BinOp.xor IntKind.i64 (wrap64 (na + nb)) nb) = x3 at *
  generalize bits BinOp.xor IntKind.i64 (wrap64 (na + nb)) na = x1
  generalize bits BinOp.xor IntKind.i64 (wrap64 (na + nb)) nb = x2
  generalize wrap64 (na + nb) = sm
  refine wp_mono (Q := nrm (fun a' W' => ∃ m1 m2 xs ys, a' = { tmps := #[.agg #[.int .i64 na, .slice none 0 0], .agg #[.int .i64 nb, .slice none 0 0], .pointer (some ⟨w.heap.size, 0, none⟩), .pointer (some ⟨w.heap.size + 1, 0, none⟩), .pointer (some ⟨w.heap.size + 1 + 1, 0, none⟩), .int .i64 sm, m1, m2, .pointer (some ⟨w.heap.size, 1, none⟩), .slice none 0 0, .bool true, .bool true, .pointer (some ⟨w.heap.size + 1, 1, none⟩), .slice none 0 0, .bool true, .bool true, .pointer (some ⟨w.heap.size, 0, none⟩), .int .i64 na, .pointer (some ⟨w.heap.size + 1, 0, none⟩), .int .i64 nb, .int .i64 sm, .int .i64 sm, .pointer (some ⟨w.heap.size, 0, none⟩), .int .i64 na, .int .i64 x1, .int .i64 sm, .pointer (some ⟨w.heap.size + 1, 0, none⟩), .int .i64 nb, .int .i64 x2, .int .i64 x3, .bool false, undef, undef, .agg #[.int .i64 na, .slice none 0 0], m1, .agg #[.int .i64 nb, .slice none 0 0], m2, undef, undef, undef, undef, undef, undef, undef, undef, undef, undef, undef, undef, undef, undef, undef, undef, undef, undef, undef, undef, undef, undef, undef, undef, undef, undef, undef, undef, undef, undef, undef, undef], defers := [] } ∧ Below W1.heap.size W1 W' ∧ Mg W' m1 xs ∧ Dig xs ∧ Norm xs ∧ val xs = za.natAbs ∧ Mg W' m2 ys ∧ Dig ys ∧ Norm ys ∧ val ys = zb.natAbs)) ?reg ?go
  case reg =>
    obtain ⟨hB0, gA0, gA1, gB0, gB1, gR0, gR1, gf0, gf1, hRb, hz0, hz1, hz2⟩ := S
    have HRb := hide hRb
    have hA0 : IsI W1.drew (.agg #[.int .i64 na, .slice none 0 0]) za := hA.below hB0.drew
    have hB1 : IsI W1.drew (.agg #[.int .i64 nb, .slice none 0 0]) zb := hB.below hB0.drew
    clear hRb hA hB
    go_region_with (first
      | (go_at_call_of 57 (Value.agg #[Value.int IntKind.i64 na, Value.slice none 0 0]); refine (magnitude_any _ za _ ?_).mono ?_; exact hA0; rintro e w1 ⟨m1, xs, rfl, hb1, hm1, hd1, hn1, hv1⟩; have HV1 := hide hv1; clear hv1; have hbT1 := hb1; have kB01 := (hbT1.cell (p := ⟨w.heap.size + 1, 0, none⟩) hz1).trans gB0; have kB11 := (hbT1.cell (p := ⟨w.heap.size + 1, 1, none⟩) hz1).trans gB1)
      | (go_at_call_of 57 (Value.agg #[Value.int IntKind.i64 nb, Value.slice none 0 0]); refine (magnitude_any _ zb _ ?_).mono ?_; exact hB1.below hb1; rintro e w2 ⟨m2, ys, rfl, hb2, hm2, hd2, hn2, hv2⟩; have HV2 := hide hv2; clear hv2; have hbT2 := hbT1.trans (hb2.mono hbT1.size)))
    all_goals exact nrm_mk ⟨m1, m2, xs, ys, rfl, ⟨hbT2.os, hbT2.tape, hbT2.output, hbT2.size, hbT2.block⟩, hm1.below hb2, hd1, hn1, unhide HV1, hm2, hd2, hn2, unhide HV2⟩
  case go =>
    intro e a' W2 h9
    obtain ⟨rfl, h9⟩ := nrm_out h9
    obtain ⟨m1, m2, xs, ys, rfl, hb2, hm1, hd1, hn1, hv1, hm2, hd2, hn2, hv2⟩ := h9
    have HV1 := hide hv1
    have HV2 := hide hv2
    clear hv1 hv2
    obtain ⟨hB0, fA0, fA1, fB0, fB1, fR0, fR1, ff0, ff1, hRb1, hy0, hy1, hy2⟩ := S
    have gA0 := (hb2.cell (p := ⟨w.heap.size, 0, none⟩) hy0).trans fA0
    have gB0 := (hb2.cell (p := ⟨w.heap.size + 1, 0, none⟩) hy1).trans fB0
    have gR0 := (hb2.cell (p := ⟨w.heap.size + 1 + 1, 0, none⟩) hy2).trans fR0
    have gR1 := (hb2.cell (p := ⟨w.heap.size + 1 + 1, 1, none⟩) hy2).trans fR1
    have gf0 := (hb2.frozen (p := ⟨w.heap.size + 1 + 1, 0, none⟩) hy2).trans ff0
    have gf1 := (hb2.frozen (p := ⟨w.heap.size + 1 + 1, 1, none⟩) hy2).trans ff1
    have HRb := hide ((hb2.block (w.heap.size + 1 + 1) hy2).trans hRb1)
    have hz0 : w.heap.size < W2.heap.size := Nat.lt_of_lt_of_le hy0 hb2.size
    have hz1 : w.heap.size + 1 < W2.heap.size := Nat.lt_of_lt_of_le hy1 hb2.size
    have hz2 : w.heap.size + 1 + 1 < W2.heap.size := Nat.lt_of_lt_of_le hy2 hb2.size
    have hB2 := hB0.trans (hb2.mono (B' := w.heap.size) (Nat.le_of_lt hy0))
    have HN := hide (And.intro hA.below0 hB.below0)
    clear fA0 fA1 fB0 fB1 fR0 fR1 ff0 ff1 hRb1 hB0 hb2 hy0 hy1 hy2 hA hB
    have hlx := lenk hd1 hn1 (unhide HV1) (unhide HZA)
    have hly := lenk hd2 hn2 (unhide HV2) (unhide HZB)
    have hsg : (decide (na < 0) == decide (nb < 0)) = true := by
      have h8 := unhide HOV
      have h9 := unhide HN
      simp only [h9.1, h9.2]
      rcases h8 with h8 | h8
      · simp; omega
      · simp; omega
    have HSG : Hid ((za < 0) = (zb < 0)) := by
      have h9 := unhide HN
      show _ = _
      rw [← h9.1, ← h9.2]
      simpa using hsg
    have hlen3 : xs.length + ys.length + 1 ≤ 100000 := by omega
    go_wp2
    go_region_with (first
      | (go_at_call 59; refine (addMag_any _ _ xs ys _ ?_ ?_ hd1 hd2 hlx hly).mono ?_; exact hm1; exact hm2; rintro e w3 ⟨m3, zs, rfl, hb3, hm3, hd3, hn3, hv3, hl3⟩; have HV3 := hide hv3; clear hv3; have hbT3 := hb3; have kA03 := (hbT3.cell (p := ⟨w.heap.size, 0, none⟩) hz0).trans gA0; have kB03 := (hbT3.cell (p := ⟨w.heap.size + 1, 0, none⟩) hz1).trans gB0)
      | (go_at_call 58; refine (ofMag_any _ _ zs _ hm3 hd3 hn3 ?_).mono ?_; exact Nat.le_trans hl3 hlen3; rintro e w4 ⟨r4, rfl, hb4, hI4⟩; obtain ⟨n4, a4, l4, c4, rfl⟩ := hI4.form; have hbT4 := hbT3.trans (hb4.mono hbT3.size); have HI4 := hide hI4; clear hI4; have kR0 := (hbT4.cell (p := ⟨w.heap.size + 1 + 1, 0, none⟩) hz2).trans gR0; have kR1 := (hbT4.cell (p := ⟨w.heap.size + 1 + 1, 1, none⟩) hz2).trans gR1; have kf0 := (hbT4.frozen (p := ⟨w.heap.size + 1 + 1, 0, none⟩) hz2).trans gf0; have kf1 := (hbT4.frozen (p := ⟨w.heap.size + 1 + 1, 1, none⟩) hz2).trans gf1))
    all_goals
      go_wp2
      refine bodyPost_ret (v := .agg #[.int .i64 n4, .slice a4 l4 c4]) ?_ rfl ?_
      · simp [results, Tryz.results30, go_sem, kR0, kR1]
      · have hI4 := unhide HI4
        have hrb4 := (hbT4.block (w.heap.size + 1 + 1) hz2).trans (unhide HRb)
        have e9 := add_same (unhide HSG) (unhide HN).1 (unhide HV1) (unhide HV2) (unhide HV3)
        rw [e9] at hI4
        exact ⟨_, rfl, ret_store (hB2.drew.trans (hbT4.mono (B' := w.heap.size) (Nat.le_of_lt hz0))) hI4 (by omega) hrb4 _ _⟩

/-- Add. -/
theorem add_any (va vb : Value) (za zb : Int) (w : World) (hA : IsI w va za) (hB : IsI w vb zb) (hza : (za.natAbs : Int) < pw 4000) (hzb : (zb.natAbs : Int) < pw 4000) :
    Calls Tryz.prog 30 #[va, vb] w fun e w' => ∃ r, e = .returned r ∧ Below w.heap.size w w' ∧ IsI w' r (za + zb) := by
  have hA' := hA
  have hB' := hB
  rcases hA with ⟨rfl, h1, h2⟩ | ⟨b, off, cap, xs, rfl, _⟩
  · rcases hB with ⟨rfl, h3, h4⟩ | ⟨b, off, cap, xs, rfl, _⟩
    · by_cases h : -9223372036854775808 ≤ za + zb ∧ za + zb ≤ 9223372036854775807
      · exact add_small za zb w h1 h2 h3 h4 h.1 h.2
      · exact add_over za zb za zb w hA' hB' hza hzb (by omega)
    · exact add_big2 _ _ _ _ _ za zb w hA' hB' hza hzb
  · obtain ⟨nb, ab, lb, cb, rfl⟩ := hB.form
    exact add_big1 _ _ _ _ _ _ _ _ za zb w hA' hB' hza hzb

end Go.Proofs.YtlcfldkmojpkpaaGreatDoor
