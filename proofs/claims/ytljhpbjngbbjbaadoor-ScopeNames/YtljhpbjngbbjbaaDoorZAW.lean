/- The package-level variables that the rows list, as the walks want them: the signs, errors.errorType, the two tables of unicode/utf8. -/
import Derived.Test.YtljhpbjngbbjbaaDoorZAV
import Derived.Test.YtljhpbjngbbjbaaDoorRows
import Derived.Test.YtljhpbjngbbjbaaDoorZAB
import Derived.Lib.LaidU8T
import Derived.LaidHandle
import Derived.LaidLaws
import Derived.OpenShut
import Derived.ChangeArms
set_option linter.unusedVariables false
set_option linter.unusedSimpArgs false

/- ScopeNames: from behind its first loop. -/
namespace Go.Proofs.YtljhpbjngbbjbaaDoor
open Go Go.RowKit
/-- What the kernel's part says of all texts. -/
def NmAll : Prop := ∀ (y : Bool) (d k : Nat), d ≤ 20 → k < d → ckNm y d k = true
theorem nmA_x (i : Nat) : nmA false (i + 1) = nmA false i ++ ⟨#[108, 101, 116, 32, 120]⟩ ++ numF 2 i ++ ⟨#[32, 61, 32]⟩ ++ numF 2 i ++ ⟨#[32, 105, 110, 32]⟩ := rfl
theorem nmA_y (i : Nat) : nmA true (i + 1) = nmA true i ++ ⟨#[108, 101, 116, 32, 121]⟩ ++ numF 2 (100 - i) ++ ⟨#[32, 61, 32]⟩ ++ numF 2 i ++ ⟨#[32, 105, 110, 32]⟩ := rfl
theorem nmT_x (d k : Nat) : nmT false d k = ⟨#[108, 101, 116, 32, 102, 32, 58, 32, 80, 117, 114, 101, 32, 105, 110, 116, 32, 105, 115, 32]⟩ ++ nmA false d ++ ⟨#[120]⟩ ++ numF 2 k ++ ⟨#[59, 59]⟩ := rfl
theorem nmT_y (d k : Nat) : nmT true d k = ⟨#[108, 101, 116, 32, 102, 32, 58, 32, 80, 117, 114, 101, 32, 105, 110, 116, 32, 105, 115, 32]⟩ ++ nmA true d ++ ⟨#[121]⟩ ++ numF 2 (100 - k) ++ ⟨#[59, 59]⟩ := rfl
theorem nmA_size (y : Bool) : ∀ d, (nmA y d).size ≤ 18 * d
  | 0 => Nat.zero_le _
  | d + 1 => by
    show (nmA y d ++ nmH y ++ numF 2 (nmN y d) ++ ⟨#[32, 61, 32]⟩ ++ numF 2 d ++ ⟨#[32, 105, 110, 32]⟩).size ≤ _
    have h1 := nmA_size y d
    have h2 := numF_size 2 (nmN y d)
    have h3 := numF_size 2 d
    have h4 : (nmH y).size = 5 := by cases y <;> rfl
    have h5 : (⟨#[32, 61, 32]⟩ : ByteArray).size = 3 := rfl
    have h6 : (⟨#[32, 105, 110, 32]⟩ : ByteArray).size = 4 := rfl
    simp only [ByteArray.size_append]
    omega
/-- What stands behind the first loop. -/
def nMid (f : Func) : Code := nR (nR (nR (nR (nR (nR (f.body.getD .skip))))))
set_option maxRecDepth 100000 in
set_option maxHeartbeats 16000000 in
theorem names_mid {W : World} {i k : Nat} {x2 x3 x7 x21 x22 x23 x24 x25 x26 x27 x28 x29 x30 x31 x32 x33 x34 x35 x36 x37 x38 x39 x40 x41 x42 x43 x44 x45 x46 x47 x48 x49 x50 x51 x52 x53 x54 : Value} {Q : Exit → Act → World → Prop} (hall : NmAll) (hi20 : i ≤ 20) (hki : k < i) (hU : Lib.Utf8Tabs 1 2 W)
    (hQ : ∀ (a : Act) (w' : World), a.tmps[4]? = some (.bool true) → a.defers = [] → Below W.heap.size W w' → Q .ret a w') :
    Code.wp Tryd.prog (nMid Tryd.f5) Q { tmps := #[.int .i64 (i : Int), .int .i64 (k : Int), x2, x3, .bool false, .string (nmA false i), .string (nmA true i), x7, undef, undef, undef, undef, undef, undef, undef, undef, undef, undef, undef, undef, undef, x21, x22, x23, x24, x25, x26, x27, x28, x29, x30, x31, x32, x33, x34, x35, x36, x37, x38, x39, x40, x41, x42, x43, x44, x45, x46, x47, x48, x49, x50, x51, x52, x53, x54, undef, undef, undef, undef, undef, undef, undef, undef, undef, undef, undef, undef, undef, undef, undef, undef, undef, undef, undef, undef, undef, undef, undef, undef, undef, undef, undef, undef, undef, undef, undef, undef, undef, undef, undef, undef, undef, undef, undef, undef, undef, undef, undef, undef, undef, undef, undef, undef, undef, undef, undef, undef, undef, undef, undef, undef, undef, undef, undef, undef, undef, undef, undef, undef, undef, undef, undef, undef, undef, undef, undef, undef, undef, undef, undef, undef, undef, undef, undef, undef, undef, undef, undef, undef, undef, undef, undef, undef, undef, undef, undef, undef, undef, undef, undef, undef, undef, undef, undef, undef, undef, undef], defers := [] } W := by
  have HQ := hide hQ
  clear hQ
  have K1 := ckNm_of hi20 (by omega) (hall false i k hi20 hki)
  have K2 := ckNm_of hi20 (by omega) (hall true i k hi20 hki)
  have HKK := hide (And.intro K1 (And.intro K2 (And.intro hki hi20)))
  have N1 := hide (num_any 2 k W (by omega) (by omega))
  have e100 : wrap64 (100 - (k : Int)) = ((100 - k : Nat) : Int) := by unfold wrap64; omega
  have C1 := hide (rprog_any (nmT false i k) W hU)
  have HU := hide (And.intro hU (u8_lt hU))
  rw [nmT_x] at C1
  have za := nmA_size false i
  have zb := nmA_size true i
  have zn := numF_size 2 k
  have zm := numF_size 2 (100 - k)
  have hk100 : 100 - k < 10 ^ 3 := by omega
  have hkk : k < 10 ^ 3 := by omega
  obtain ⟨sa, hsa⟩ : ∃ s, nmA false i = s := ⟨_, rfl⟩
  obtain ⟨sb, hsb⟩ : ∃ s, nmA true i = s := ⟨_, rfl⟩
  obtain ⟨sn, hsn⟩ : ∃ s, numF 2 k = s := ⟨_, rfl⟩
  obtain ⟨sm, hsm⟩ : ∃ s, numF 2 (100 - k) = s := ⟨_, rfl⟩
  rw [hsa] at za C1 ⊢
  rw [hsb] at zb ⊢
  rw [hsn] at zn N1 C1
  rw [hsm] at zm
  have r1 : ¬ 9223372036854775807 < 20 + sa.size := by omega
  have r2 : ¬ 9223372036854775807 < 20 + sa.size + 1 := by omega
  have r3 : ¬ 9223372036854775807 < 20 + sa.size + 1 + sn.size := by omega
  have r4 : ¬ 9223372036854775807 < 20 + sa.size + 1 + sn.size + 2 := by omega
  have t1 : ¬ 9223372036854775807 < 20 + sb.size := by omega
  have t2 : ¬ 9223372036854775807 < 20 + sb.size + 1 := by omega
  have t3 : ¬ 9223372036854775807 < 20 + sb.size + 1 + sm.size := by omega
  have t4 : ¬ 9223372036854775807 < 20 + sb.size + 1 + sm.size + 2 := by omega
  have HS := hide (And.intro hsa (And.intro hsb (And.intro hsn (And.intro hsm hk100))))
  clear hki hall hi20 K1 K2 hU za zb zn zm hk100 hkk hsa hsb hsn hsm
  conv => arg 2; whnf
  go_wp2_with fail
  refine (unhide N1).mono ?_
  rintro e w2 ⟨rfl, hw⟩
  rw [hw]
  clear hw N1
  go_wp2_with fail
  refine (unhide C1).mono ?_
  rintro e w2 ⟨hb2, h2⟩
  obtain ⟨l1, z1, el1, hi1, co1, len1, rx1, dp1⟩ := (unhide HKK).1
  obtain ⟨hsa, hsb, hsn, hsm, hk100⟩ := unhide HS
  rw [← hsa, ← hsn, ← nmT_x, el1] at h2
  obtain ⟨v1, rfl, hv1⟩ := h2
  have hq1 := hv1.toQ
  obtain ⟨a1, c1, rfl, -⟩ := id hq1
  rw [len1] at hq1
  rw [len1]
  have hw2 := hb2
  have C2 := hide (rprog_any (nmT true i k) w2 (u8_below (unhide HU).1 hw2 (unhide HU).2))
  rw [nmT_y, hsb, hsm] at C2
  have N2 := hide (num_any 2 (100 - k) w2 hk100 (by omega))
  rw [hsm] at N2
  have HQ1 := hide (And.intro hq1 (And.intro hi1 (And.intro co1 rx1)))
  have HDP1 := hide dp1
  have H2 := hide (And.intro hw2 hb2)
  clear hq1 hw2 hi1 co1 rx1 dp1 hb2 hv1 el1 len1 C1 hsa hsb hsn hsm hk100 r1 r2 r3 r4
  go_wp2_with fail
  refine (unhide N2).mono ?_
  rintro e w2' ⟨rfl, hw⟩
  rw [hw]
  clear hw N2
  go_wp2_with fail
  refine (unhide C2).mono ?_
  rintro e w3 ⟨hb3, h3⟩
  obtain ⟨l2, z2, el2, hi2, co2, len2, rx2, dp2⟩ := (unhide HKK).2.1
  obtain ⟨hsa, hsb, hsn, hsm, hk100⟩ := unhide HS
  rw [← hsb, ← hsm, ← nmT_y, el2] at h3
  obtain ⟨v2, rfl, hv2⟩ := h3
  have hq2 := hv2.toQ
  obtain ⟨a2, c2, rfl, -⟩ := id hq2
  rw [len2] at hq2
  rw [len2]
  have hq13 := (unhide HQ1).1.below hb3
  have C3 := hide (resolve_any (K := 30) hq13 (unhide HQ1).2.1 (unhide HQ1).2.2.1 (by omega))
  have HQ2 := hide (And.intro hq2 (And.intro hi2 (And.intro co2 rx2)))
  have HDP2 := hide dp2
  have H3 := hide (And.intro ((unhide H2).1.trans (hb3.mono (unhide H2).1.size)) (unhide HQ1).2.2.2)
  clear hq2 hq13 hi2 co2 rx2 dp2 hb3 hv2 el2 len2 C2 hsa hsb hsn hsm hk100 t1 t2 t3 t4 HQ1 H2 e100
  go_wp2_with fail
  refine (unhide C3).mono ?_
  rintro e w4 ⟨hb4, h4⟩
  rw [(unhide H3).2] at h4
  obtain ⟨a3, c3, hh3, rfl, ho3, hs3⟩ := h4
  have hq24 := (unhide HQ2).1.below hb4
  have C4 := hide (resolve_any (K := 30) hq24 (unhide HQ2).2.1 (unhide HQ2).2.2.1 (by omega))
  have hc3 : 1 ≤ c3 := ho3.2.1
  obtain ⟨q3, o3, rfl, hB3⟩ := od_node (j := 0) ho3 rfl
  have H4 := hide (And.intro ((unhide H3).1.trans (hb4.mono (unhide H3).1.size)) (And.intro (unhide HQ2).2.2.2 (And.intro (hB3.up (Below.refl _ _) hs3) hc3)))
  clear hq24 ho3 hb4 C3 H3 HQ2 hB3 hs3
  go_wp2_with fail
  refine (unhide C4).mono ?_
  rintro e w5 ⟨hb5, h5⟩
  rw [(unhide H4).2.1] at h5
  obtain ⟨a4, c4, hh4, rfl, ho4, hs4⟩ := h5
  have hc4 : 1 ≤ c4 := ho4.2.1
  obtain ⟨q4, o4, rfl, hB4⟩ := od_node (j := 0) ho4 rfl
  have hN1 := (unhide H4).2.2.1.up hb5 hb5.size
  have hN2 := hB4.up (Below.refl _ _) hs4
  obtain ⟨s3, r3, b3, m3⟩ := hN1.box
  obtain ⟨s4, r4, b4, m4⟩ := hN2.box
  have HR := hide (And.intro r3 (And.intro b3 (And.intro m3 (And.intro r4 (And.intro b4 m4)))))
  have HB := hide ((unhide H4).1.trans (hb5.mono (unhide H4).1.size))
  have gc3 : (1 : Int) ≤ (c3 : Int) := by have := (unhide H4).2.2.2; omega
  have gc4 : (1 : Int) ≤ (c4 : Int) := by omega
  clear hb5 ho4 hs4 hB4 C4 H4 hN1 hN2 r3 b3 m3 r4 b4 m4 hc4
  go_wp2_with fail
  rename_i K1 hK1
  refine names_r17 (t1 := z1.body) (t2 := z2.body) (s1 := s3) (s2 := s4) rfl rfl rfl (unhide HR).1 (unhide HR).2.2.2.1 (unhide HR).2.1 (unhide HR).2.2.2.2.1 ?_
  intro a6 w6 qx qy hdf hk hsz h18 h19 hne hqx hqy hb6 hX hY
  obtain ⟨x, hae, hxx⟩ := act157 rfl hdf hsz hk
  have hx18 : x 18 = .pointer (some ⟨qx, 0, none⟩) := by rw [hxx, Array.getD_eq_getD_getElem?, h18]; rfl
  have hx19 : x 19 = .pointer (some ⟨qy, 0, none⟩) := by rw [hxx, Array.getD_eq_getD_getElem?, h19]; rfl
  subst hae
  have M1 := (unhide HR).2.2.1 w6 hb6 qx hX
  have M2 := (unhide HR).2.2.2.2.2 w6 hb6 qy hY
  have HB6 := (unhide HB).trans (hb6.mono (unhide HB).size)
  rw [hx18, hx19]
  obtain ⟨-, -, hki, hi20⟩ := unhide HKK
  change K1 _ _
  refine hK1 _ _ ?_
  change Code.wp _ (nTail Tryd.f5) _ _ _
  refine names_tail (H := w5.heap.size) (t1 := z1.body) (t2 := z2.body) hi20 hki hne hqx hqy M1 M2 (unhide HDP1) (unhide HDP2) ?_
  intro a w' ha hd hb
  exact unhide HQ a w' ha hd (HB6.trans (hb.mono (unhide HB).size))
end Go.Proofs.YtljhpbjngbbjbaaDoor

/- ScopeNames: for every input the law returns true. -/
namespace Go.Proofs.YtljhpbjngbbjbaaDoor
open Go Go.RowKit
theorem results_tmp_at {ts : Array Value} {w : World} {v : Value} (h : ts[4]? = some v) : (results Tryd.f5 ts).run Tryd.prog w = .ok v w := by
  rw [results_tmp (t := 4) rfl, show ts.getD 4 undef = v by simp [Array.getD_eq_getD_getElem?, h]]
set_option maxRecDepth 100000 in
set_option maxHeartbeats 16000000 in
theorem names_walk (hall : NmAll) (a b : Int) (w : World) (hlaid : EH w ∧ Lib.Utf8Tabs 1 2 w) : Calls Tryd.prog 5 #[.int .i64 a, .int .i64 b] w fun e w' => e = .returned (.bool true) ∧ Below w.heap.size w w' := by
  obtain ⟨n, hn, hn20⟩ : ∃ n : Nat, plc a 20 = (n : Int) ∧ n < 20 := ⟨(plc a 20).toNat, by have := plc_in a (n := 20) (by omega); omega, by have := plc_in a (n := 20) (by omega); omega⟩
  obtain ⟨d, hd⟩ : ∃ d, n + 1 = d := ⟨_, rfl⟩
  obtain ⟨k, hk, hkd⟩ : ∃ k : Nat, plc b (d : Int) = (k : Int) ∧ k < d := ⟨(plc b (d : Int)).toNat, by have := plc_in b (n := (d : Int)) (by omega); omega, by have := plc_in b (n := (d : Int)) (by omega); omega⟩
  obtain ⟨hE, hU⟩ := hlaid
  have h1w := u8_lt hU
  have C0 := hide (known17_any w hU hE)
  have HP1 := hide (fun w => hn ▸ place_any a 20 w (by omega) (by omega))
  have HP2 := hide (fun w => hk ▸ place_any b (d : Int) w (by omega) (by omega))
  have HGE := hide (And.intro hU (And.intro hE h1w))
  have hw1 : wrap64 (1 + (n : Int)) = (d : Int) := by unfold wrap64; omega
  have HK := hide (And.intro hd (And.intro hn20 (And.intro hkd hall)))
  clear hU hE h1w hn hk hd hn20 hkd hall
  go_enter Tryd.func5, Tryd.ntmps5
  generalize hQQ : bodyPost Tryd.prog Tryd.f5 (fun e w' => e = .returned (.bool true) ∧ Below w.heap.size w w') = QQ
  have HQQ := hide hQQ
  clear hQQ
  go_wp2_with fail
  refine (unhide C0).mono ?_
  rintro e w1 ⟨rfl, hb1⟩
  go_wp2_with fail
  refine (unhide HP1 w1).mono ?_
  rintro e w1' ⟨rfl, hw⟩
  rw [hw]
  clear hw
  go_wp2_with fail
  rw [hw1]
  refine (unhide HP2 w1).mono ?_
  rintro e w1' ⟨rfl, hw⟩
  rw [hw]
  clear hw
  have HB1 := hide hb1
  clear C0 HP1 HP2 hb1 hw1
  go_wp2_with fail
  rename_i K3 hK3
  replace hK3 := hide hK3
  go_loopw [5, 6, 7] (fun sv tv iv wr => ∃ i : Nat, iv = .int .i64 i ∧ i ≤ d ∧ sv = .string (nmA false i) ∧ tv = .string (nmA true i) ∧ Hid (wr = w1)) (fun _ _ iv _ => d - (intOf iv).toNat)
  case atStart => exact ⟨0, rfl, Nat.zero_le _, rfl, rfl, rfl⟩
  case round =>
    obtain ⟨i, rfl, hi, rfl, rfl, HB⟩ := hrel
    have hwr := unhide HB
    rw [hwr]
    clear hwr HB
    have g5 : (0 : Int) ≤ (i : Int) := by omega
    by_cases hid : i < d
    · have d1 : (i : Int) < (d : Int) := by omega
      have d2 : decide ((i : Int) < (d : Int)) = true := by simp; omega
      have hi20 : i < 20 := by have := unhide HK; omega
      have g6 : (i : Int) ≤ 20 := by omega
      have hwi : wrap64 ((i : Int) + 1) = (i : Int) + 1 := by unfold wrap64; omega
      have N1 := hide (num_any 2 i w1 (by omega) (by omega))
      have N2 := num_any 2 (100 - i) w1 (by omega) (by omega)
      rw [show ((100 - i : Nat) : Int) = 100 - (i : Int) by omega] at N2
      replace N2 := hide N2
      have za := nmA_size false i
      have zb := nmA_size true i
      have zn := numF_size 2 i
      have zm := numF_size 2 (100 - i)
      obtain ⟨sa, hsa⟩ : ∃ s, nmA false i = s := ⟨_, rfl⟩
      obtain ⟨sb, hsb⟩ : ∃ s, nmA true i = s := ⟨_, rfl⟩
      obtain ⟨sn, hsn⟩ : ∃ s, numF 2 i = s := ⟨_, rfl⟩
      obtain ⟨sm, hsm⟩ : ∃ s, numF 2 (100 - i) = s := ⟨_, rfl⟩
      rw [hsa] at za ⊢
      rw [hsb] at zb ⊢
      rw [hsn] at zn N1
      rw [hsm] at zm N2
      have q5 : (⟨#[108, 101, 116, 32, 120]⟩ : ByteArray).size ≤ 5 := Nat.le_refl _
      have q6 : (⟨#[108, 101, 116, 32, 121]⟩ : ByteArray).size ≤ 5 := Nat.le_refl _
      have q3 : (⟨#[32, 61, 32]⟩ : ByteArray).size ≤ 3 := Nat.le_refl _
      have q4 : (⟨#[32, 105, 110, 32]⟩ : ByteArray).size ≤ 4 := Nat.le_refl _
      have f1 : sa.size ≤ 400 := by omega
      have f2 : sb.size ≤ 400 := by omega
      have r1 : ¬ 9223372036854775807 < sa.size + 5 := by omega
      have r2 : ¬ 9223372036854775807 < sa.size + 5 + sn.size := by omega
      have r3 : ¬ 9223372036854775807 < sa.size + 5 + sn.size + 3 := by omega
      have r4 : ¬ 9223372036854775807 < sa.size + 5 + sn.size + 3 + sn.size := by omega
      have r5 : ¬ 9223372036854775807 < sa.size + 5 + sn.size + 3 + sn.size + 4 := by omega
      have t1 : ¬ 9223372036854775807 < sb.size + 5 := by omega
      have t2 : ¬ 9223372036854775807 < sb.size + 5 + sm.size := by omega
      have t3 : ¬ 9223372036854775807 < sb.size + 5 + sm.size + 3 := by omega
      have t4 : ¬ 9223372036854775807 < sb.size + 5 + sm.size + 3 + sn.size := by omega
      have t5 : ¬ 9223372036854775807 < sb.size + 5 + sm.size + 3 + sn.size + 4 := by omega
      have HS := hide (And.intro hsa (And.intro hsb (And.intro hsn hsm)))
      have HJ := hide hid
      clear hid hi hi20 za zb zn zm hsa hsb hsn hsm q5 q6 q3 q4 f1 f2
      go_wp2_with fail
      refine (unhide N1).mono ?_
      rintro e w2 ⟨rfl, hw⟩
      rw [hw]
      clear hw
      go_wp2_with fail
      refine (unhide N1).mono ?_
      rintro e w2 ⟨rfl, hw⟩
      rw [hw]
      clear hw
      go_wp2_with fail
      refine (unhide N2).mono ?_
      rintro e w2 ⟨rfl, hw⟩
      rw [hw]
      clear hw
      go_wp2_with fail
      refine (unhide N1).mono ?_
      rintro e w2 ⟨rfl, hw⟩
      rw [hw]
      clear hw
      go_wp2
      obtain ⟨hsa, hsb, hsn, hsm⟩ := unhide HS
      refine ⟨⟨i + 1, by push_cast; rfl, by have := unhide HJ; omega, ?_, ?_, by first | exact trivial | exact rfl⟩, by simp only [intOf]; have := unhide HJ; omega⟩
      · rw [nmA_x, hsa, hsn]
      · rw [nmA_y, hsb, hsn, hsm]
    · have d1 : ¬ ((i : Int) < (d : Int)) := by omega
      have d2 : decide ((i : Int) < (d : Int)) = false := by simp; omega
      obtain rfl : i = d := by omega
      obtain ⟨hdn, hn20, hki, hall⟩ := unhide HK
      obtain ⟨hU, hE, h1w⟩ := unhide HGE
      have hU1 := u8_below hU (unhide HB1) h1w
      have hi20 : i ≤ 20 := by omega
      have HF := hide (And.intro hU1 (And.intro hi20 (And.intro hki hall)))
      clear hid hi hdn hn20 hki hall hi20 hU hE h1w HK hU1
      go_wp2_with fail
      refine unhide hK3 _ _ ?_
      change Code.wp _ (nMid Tryd.f5) _ _ _
      refine names_mid (unhide HF).2.2.2 (unhide HF).2.1 (unhide HF).2.2.1 (unhide HF).1 ?_
      intro a w' h4 hdf hb
      rw [← unhide HQQ]
      refine bodyPost_ret (results_tmp_at h4) hdf ⟨rfl, (unhide HB1).trans (hb.mono (unhide HB1).size)⟩
end Go.Proofs.YtljhpbjngbbjbaaDoor

/- ScopeNames: what the kernel says of all texts. -/
namespace Go.Proofs.YtljhpbjngbbjbaaDoor
open Go Go.RowKit
theorem nm_of {y : Bool} {d k : Nat} (h : ((List.range d).all fun k => ckNm y d k) = true) (hk : k < d) : ckNm y d k = true := List.all_eq_true.1 h k (List.mem_range.2 hk)
theorem nm_all : NmAll := fun y d k hd hk => by
  have hc : d = 1 ∨ d = 2 ∨ d = 3 ∨ d = 4 ∨ d = 5 ∨ d = 6 ∨ d = 7 ∨ d = 8 ∨ d = 9 ∨ d = 10 ∨ d = 11 ∨ d = 12 ∨ d = 13 ∨ d = 14 ∨ d = 15 ∨ d = 16 ∨ d = 17 ∨ d = 18 ∨ d = 19 ∨ d = 20 := by omega
  cases y
  · rcases hc with rfl | rfl | rfl | rfl | rfl | rfl | rfl | rfl | rfl | rfl | rfl | rfl | rfl | rfl | rfl | rfl | rfl | rfl | rfl | rfl
    · exact nm_of nka_1 hk
    · exact nm_of nka_2 hk
    · exact nm_of nka_3 hk
    · exact nm_of nka_4 hk
    · exact nm_of nka_5 hk
    · exact nm_of nka_6 hk
    · exact nm_of nka_7 hk
    · exact nm_of nka_8 hk
    · exact nm_of nka_9 hk
    · exact nm_of nka_10 hk
    · exact nm_of nka_11 hk
    · exact nm_of nka_12 hk
    · exact nm_of nkb_13 hk
    · exact nm_of nkb_14 hk
    · exact nm_of nkb_15 hk
    · exact nm_of nkc_16 hk
    · exact nm_of nkc_17 hk
    · exact nm_of nkc_18 hk
    · exact nm_of nkd_19 hk
    · exact nm_of nkd_20 hk
  · rcases hc with rfl | rfl | rfl | rfl | rfl | rfl | rfl | rfl | rfl | rfl | rfl | rfl | rfl | rfl | rfl | rfl | rfl | rfl | rfl | rfl
    · exact nm_of nke_1 hk
    · exact nm_of nke_2 hk
    · exact nm_of nke_3 hk
    · exact nm_of nke_4 hk
    · exact nm_of nke_5 hk
    · exact nm_of nke_6 hk
    · exact nm_of nke_7 hk
    · exact nm_of nke_8 hk
    · exact nm_of nke_9 hk
    · exact nm_of nke_10 hk
    · exact nm_of nke_11 hk
    · exact nm_of nke_12 hk
    · exact nm_of nkf_13 hk
    · exact nm_of nkf_14 hk
    · exact nm_of nkf_15 hk
    · exact nm_of nkg_16 hk
    · exact nm_of nkg_17 hk
    · exact nm_of nkg_18 hk
    · exact nm_of nkh_19 hk
    · exact nm_of nkh_20 hk
end Go.Proofs.YtljhpbjngbbjbaaDoor

namespace Go.Proofs.YtljhpbjngbbjbaaDoor
open Go Go.RowKit

theorem la_et : Tryd.prog.globalNamed "errors.errorType" = some 0 := by kernel_rfl
theorem la_rt : (Tryd.prog.cutTypes.find? (·.1 == "internal/reflectlite.rtype")).map (·.2) = some 123 := by kernel_rfl
theorem la_one : ((List.range Tryd.prog.types.size).filter fun t => Tryd.prog.rowNamed t [101, 114, 114, 111, 114]) = [27] := by kernel_rfl
theorem eh_of {W : World} (h : handlesMet Tryd.prog [("errors.errorType", Rows.laid_errors_errorType)] W) : EH W := by
  obtain ⟨name, u, ty, e1, e2, e3, e4, e5⟩ := h _ (List.mem_singleton.2 rfl)
  have en : name = [101, 114, 114, 111, 114] := (Option.some.inj e1).symm
  subst en
  obtain rfl := Option.some.inj (la_rt.symm.trans e2)
  have hm : ty ∈ (List.range Tryd.prog.types.size).filter fun t => Tryd.prog.rowNamed t [101, 114, 114, 111, 114] := List.mem_filter.2 ⟨List.mem_range.2 e3, e4⟩
  rw [la_one] at hm
  obtain rfl := List.mem_singleton.1 hm
  have hh : typeHandle Tryd.prog 27 = .pointer (some ⟨3, 27, none⟩) := by kernel_rfl
  rw [hh] at e5
  have := World.var?_cell la_et e5 0
  simpa [EH] using this
theorem u8x : U8Extra Tryd.prog Tryd.lays197_ren := { n3 := by kernel_rfl, n4 := by kernel_rfl, y3 := by kernel_rfl, y4 := by kernel_rfl, c5 := by kernel_rfl, c119 := by kernel_rfl, c138 := by kernel_rfl }
theorem u8t : U8Types Tryd.prog Tryd.lays197_ren := { Tryd.lays197 with }
theorem first_data : (Rows.laid_unicode_utf8_first : DataW Unit) = Lib.firstData := by kernel_rfl
theorem acc_data : (Rows.laid_unicode_utf8_acceptRanges : DataW Unit) = Lib.acceptData := by kernel_rfl
theorem u8_of {W : World} (h1 : Lib.VarReads Tryd.prog W "unicode/utf8.first" Rows.laid_unicode_utf8_first) (h2 : Lib.VarReads Tryd.prog W "unicode/utf8.acceptRanges" Rows.laid_unicode_utf8_acceptRanges) : Lib.Utf8Tabs 1 2 W := by
  rw [first_data] at h1
  rw [acc_data] at h2
  exact utf8Tabs_of_readsT u8t u8x h1 h2
/-- A row that lists errors.errorType and the tables of unicode/utf8. -/
theorem three_of {W : World} (h : laidMetH Tryd.prog [("unicode/utf8.acceptRanges", Rows.laid_unicode_utf8_acceptRanges), ("errors.errorType", Rows.laid_errors_errorType), ("unicode/utf8.first", Rows.laid_unicode_utf8_first)] W) : EH W ∧ Lib.Utf8Tabs 1 2 W := by
  have h' : laidMet Tryd.prog [("unicode/utf8.acceptRanges", Rows.laid_unicode_utf8_acceptRanges), ("unicode/utf8.first", Rows.laid_unicode_utf8_first)] W ∧ handlesMet Tryd.prog [("errors.errorType", Rows.laid_errors_errorType)] W := h
  exact ⟨eh_of h'.2, u8_of (Lib.laidMet.reads h'.1 (by simp)) (Lib.laidMet.reads h'.1 (by simp))⟩
end Go.Proofs.YtljhpbjngbbjbaaDoor
