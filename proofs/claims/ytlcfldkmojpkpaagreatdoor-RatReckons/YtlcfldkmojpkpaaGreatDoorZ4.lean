/- Gcd: the greatest common divisor. -/
import Derived.Test.YtlcfldkmojpkpaaGreatDoorW4
import Derived.Test.YtlcfldkmojpkpaaGreatDoorX
import Derived.Test.YtlcfldkmojpkpaaGreatDoorN1
import Derived.Deep.QuietTactic
import Derived.BigQuiet
namespace Go.Proofs.YtlcfldkmojpkpaaGreatDoor
open Go.RowKit
attribute [local go_sem] eqnil_some eqnil_none nenil_some nenil_none

theorem Set2.bx {w W : World} {na nb : Int} {aa ab : Option Addr} {la ca lb cb : Nat} (h : ((w.alloc (Obj.cells #[.int .i64 na, .slice aa la ca] 26)).alloc (Obj.cells #[.int .i64 nb, .slice ab lb cb] 26)).alloc (Obj.cells #[.int .i64 0, .slice none 0 0] 26) = W) :
    Bx W w.heap.size (.agg #[.int .i64 na, .slice aa la ca]) ∧ Bx W (w.heap.size + 1) (.agg #[.int .i64 nb, .slice ab lb cb]) ∧ Bx W (w.heap.size + 1 + 1) (.agg #[.int .i64 0, .slice none 0 0]) := by
  subst h
  refine ⟨((Bx.new w na aa la ca).alloc _).alloc _, ?_, ?_⟩
  · have := (Bx.new (w.alloc (Obj.cells #[.int .i64 na, .slice aa la ca] 26)) nb ab lb cb).alloc (Obj.cells #[.int .i64 0, .slice none 0 0] 26)
    rwa [World.size_alloc] at this
  · have := Bx.new ((w.alloc (Obj.cells #[.int .i64 na, .slice aa la ca] 26)).alloc (Obj.cells #[.int .i64 nb, .slice ab lb cb] 26)) 0 none 0 0
    rwa [World.size_alloc, World.size_alloc] at this
theorem IsI.smallN {w : World} {n z : Int} {l c : Nat} (h : IsI w (.agg #[.int .i64 n, .slice none l c]) z) : n = z ∧ l = 0 ∧ c = 0 ∧ -9223372036854775808 ≤ z ∧ z ≤ 9223372036854775807 := by
  rcases h with ⟨e, h1, h2⟩ | ⟨b, off, cap, xs, e, _⟩
  · simp only [Value.agg.injEq, Array.mk.injEq, List.cons.injEq, Value.int.injEq, Value.slice.injEq, true_and, and_true] at e
    exact ⟨e.1, e.2.1, e.2.2, h1, h2⟩
  · simp at e
theorem gcd_step (a b : Int) (ha : 0 ≤ a) (hb : 0 ≤ b) : Int.gcd b (a % b) = Int.gcd a b := by
  obtain ⟨m, rfl⟩ := Int.eq_ofNat_of_zero_le ha
  obtain ⟨n, rfl⟩ := Int.eq_ofNat_of_zero_le hb
  rw [← Int.natCast_emod, Int.gcd_natCast_natCast, Int.gcd_natCast_natCast, Nat.gcd_comm n, ← Nat.gcd_rec, Nat.gcd_comm]

set_option maxRecDepth 100000 in
set_option maxHeartbeats 4000000 in
theorem gcd_any (hql : QuoLongSaid) (va vb : Value) (za zb : Int) (w : World) (hA : IsI w va za) (hB : IsI w vb zb) (hza : (za.natAbs : Int) < pw 4000) (hzb : (zb.natAbs : Int) < pw 4000) :
    Calls Tryz.prog 48 #[va, vb] w fun e w' => ∃ r, e = .returned r ∧ Below w.heap.size w w' ∧ IsI w' r (Int.gcd za zb) := by
  obtain ⟨bxNat, bxNat_eq'⟩ := bx_nat
  have HBN : Hid (∀ (W : World) (R : Nat) (v : Value) (z : Int), Bx W R v → IsI W v z → bxNat W R = z.natAbs) := fun _ _ _ _ h k => bxNat_eq' h k
  clear bxNat_eq'
  obtain ⟨na, aa, la, ca, rfl⟩ := hA.form
  obtain ⟨nb, ab, lb, cb, rfl⟩ := hB.form
  obtain ⟨W1, hW0, S⟩ := setup2 w (.int .i64 na) (.slice aa la ca) (.int .i64 nb) (.slice ab lb cb)
  obtain ⟨xA, xB, xR⟩ := Set2.bx hW0
  have HZA := hide hza
  have HZB := hide hzb
  clear hza hzb
  have HW := hide hW0
  clear hW0
  go_enter Tryz.func48, Tryz.ntmps48
  go_wp2_with fail
  rw [unhide HW]
  clear HW
  refine wp_mono (Q := nrm (fun a' W' => ∃ r1 r2, a' = { tmps := #[.agg #[.int .i64 na, .slice aa la ca], .agg #[.int .i64 nb, .slice ab lb cb], .pointer (some ⟨w.heap.size, 0, none⟩), .pointer (some ⟨w.heap.size + 1, 0, none⟩), .pointer (some ⟨w.heap.size + 1 + 1, 0, none⟩), undef, undef, undef, undef, .agg #[.int .i64 na, .slice aa la ca], r1, .agg #[.int .i64 nb, .slice ab lb cb], r2, undef, undef, undef, undef, undef, undef, undef, undef, undef, undef, undef, undef, undef, undef, undef, undef, undef, undef, undef, undef, undef, undef, undef, undef, undef, undef, undef, undef, undef, undef, undef, undef], defers := [] } ∧ Below w.heap.size w W' ∧ Bx W' w.heap.size r1 ∧ Bx W' (w.heap.size + 1) r2 ∧ Bx W' (w.heap.size + 1 + 1) (.agg #[.int .i64 0, .slice none 0 0]) ∧ IsI W' r1 za.natAbs ∧ IsI W' r2 zb.natAbs)) ?reg ?go
  case reg =>
    obtain ⟨hB0, gA0, gA1, gB0, gB1, gR0, gR1, gf0, gf1, hRb, hz0, hz1, hz2⟩ := S
    have hA0 : IsI W1.drew (.agg #[.int .i64 na, .slice aa la ca]) za := hA.below hB0.drew
    have hB1 : IsI W1.drew (.agg #[.int .i64 nb, .slice ab lb cb]) zb := hB.below hB0.drew
    clear hRb hA hB
    go_region_with (first
      | (go_at_call_of 71 (Value.agg #[Value.int IntKind.i64 na, Value.slice aa la ca]); refine (abs_any _ za _ ?_ (unhide HZA)).mono ?_; exact hA0; rintro e w1 ⟨r1, rfl, hb1, hI1⟩; have HI1 := hide hI1; clear hI1; obtain ⟨n1, a1, l1, c1, rfl⟩ := (unhide HI1).form; have yA := xA.drew.below hb1; have yB := xB.drew.below hb1; have yR := xR.drew.below hb1; obtain ⟨kA0, kA1, kAf0, kAf1⟩ := yA.facts; obtain ⟨kB0, kB1, kBf0, kBf1⟩ := yB.facts)
      | (go_at_call_of 71 (Value.agg #[Value.int IntKind.i64 nb, Value.slice ab lb cb]); refine (abs_any _ zb _ ?_ (unhide HZB)).mono ?_; exact hB1.below hb1; rintro e w2 ⟨r2, rfl, hb2, hI2⟩; have HI2 := hide hI2; clear hI2; obtain ⟨n2, a2, l2, c2, rfl⟩ := (unhide HI2).form; have uA := yA.below hb2; have uB := yB.below hb2; have uR := yR.below hb2; obtain ⟨mA0, mA1, mAf0, mAf1⟩ := uA.facts; obtain ⟨mB0, mB1, mBf0, mBf1⟩ := uB.facts))
    all_goals
      have p1 := uA.set n1 a1 l1 c1
      have p2 := uB.other (p := ⟨w.heap.size, 0, none⟩) (by show w.heap.size ≠ w.heap.size + 1; omega) (.int .i64 n1)
      have p3 := p2.other (p := ⟨w.heap.size, 1, none⟩) (by show w.heap.size ≠ w.heap.size + 1; omega) (.slice a1 l1 c1)
      have hbT := (hB0.drew.trans (hb1.mono (Nat.le_of_lt hz0))).trans (hb2.mono (Nat.le_trans (Nat.le_of_lt hz0) hb1.size))
      exact nrm_mk ⟨_, _, rfl, below_put (below_put hbT (Nat.le_refl _) _ _) (Nat.le_succ _) _ _, (p1.other (p := ⟨w.heap.size + 1, 0, none⟩) (by show w.heap.size + 1 ≠ w.heap.size; omega) _).other (p := ⟨w.heap.size + 1, 1, none⟩) (by show w.heap.size + 1 ≠ w.heap.size; omega) _, p3.set n2 a2 l2 c2,
        (((uR.other (p := ⟨w.heap.size, 0, none⟩) (by show w.heap.size ≠ w.heap.size + 1 + 1; omega) _).other (p := ⟨w.heap.size, 1, none⟩) (by show w.heap.size ≠ w.heap.size + 1 + 1; omega) _).other (p := ⟨w.heap.size + 1, 0, none⟩) (by show w.heap.size + 1 ≠ w.heap.size + 1 + 1; omega) _).other (p := ⟨w.heap.size + 1, 1, none⟩) (by show w.heap.size + 1 ≠ w.heap.size + 1 + 1; omega) _,
        (((unhide HI1).below hb2).put uA _ _).put p3 _ _, ((unhide HI2).put uA _ _).put p3 _ _⟩
  case go =>
    intro e a' W2 h9
    obtain ⟨rfl, h9⟩ := nrm_out h9
    obtain ⟨r1, r2, rfl, hbel, yA, yB, yR, i1, i2⟩ := h9
    have hgz : Hid (Int.gcd (za.natAbs : Int) (zb.natAbs : Int) = Int.gcd za zb) := by
      show _ = _
      rw [Int.gcd_natCast_natCast]; rfl
    clear xA xB xR S
    have hp4 : 0 ≤ (za.natAbs : Int) := by omega
    have hp5 : 0 ≤ (zb.natAbs : Int) := by omega
    generalize hA9 : (za.natAbs : Int) = A at *
    generalize hB9 : (zb.natAbs : Int) = B at *
    clear hA9 hB9 hA hB
    go_wp2_with fail
    go_loopw [5] (fun _ wr => ∃ u1 u2 x y, Below w.heap.size w wr ∧ Bx wr w.heap.size u1 ∧ Bx wr (w.heap.size + 1) u2 ∧ Bx wr (w.heap.size + 1 + 1) (.agg #[.int .i64 0, .slice none 0 0]) ∧ IsI wr u1 x ∧ IsI wr u2 y ∧ 0 ≤ x ∧ x < pw 4000 ∧ 0 ≤ y ∧ y < pw 4000 ∧ Int.gcd x y = Int.gcd za zb) (fun _ wr => bxNat wr (w.heap.size + 1))
    case atStart => exact ⟨r1, r2, A, B, hbel, yA, yB, yR, i1, i2, hp4, unhide HZA, hp5, unhide HZB, unhide hgz⟩
    case round =>
      obtain ⟨u1, u2, x, y, hbl, bA, bB, bR, iX, iY, x0, x1, y0, y1, hg⟩ := hrel
      obtain ⟨n1, a1, l1, c1, rfl⟩ := iX.form
      obtain ⟨n2, a2, l2, c2, rfl⟩ := iY.form
      obtain ⟨kA0, kA1, kAf0, kAf1⟩ := bA.facts
      obtain ⟨kB0, kB1, kBf0, kBf1⟩ := bB.facts
      obtain ⟨kR0, kR1, kRf0, kRf1⟩ := bR.facts
      have HX := hide (And.intro x1 y1)
      have HG := hide hg
      clear x1 y1 hg
      cases a1 with
      | some ad1 =>
        go_wp2_with fail
        refine (sign_any _ y _ iY).mono ?_
        rintro e w1 ⟨rfl, hb1⟩
        have cA := bA.below hb1
        have cB := bB.below hb1
        have cR := bR.below hb1
        have hbl1 := hbl.trans (hb1.mono hbl.size)
        have jX := iX.below hb1
        have jY := iY.below hb1
        clear kA0 kA1 kAf0 kAf1 kB0 kB1 kBf0 kBf1 kR0 kR1 kRf0 kRf1
        obtain ⟨kA0, kA1, kAf0, kAf1⟩ := cA.facts
        obtain ⟨kB0, kB1, kBf0, kBf1⟩ := cB.facts
        obtain ⟨kR0, kR1, kRf0, kRf1⟩ := cR.facts
        by_cases hy : y = 0
        · have hs : (sgn y == 0) = true := by rw [hy]; rfl
          have HY := hide hy
          clear hy
          go_wp2
          refine bodyPost_ret (v := .agg #[.int .i64 n1, .slice (some ad1) l1 c1]) ?_ rfl ?_
          · simp [results, Tryz.results48, go_sem, kR0, kR1]
          · have e9 : x = (Int.gcd za zb : Int) := by
              rw [← unhide HG, unhide HY, Int.gcd_zero_right]; omega
            exact ⟨_, rfl, below_put hbl1 (by omega) _ _, by rw [← e9]; exact jX.put cR _ _⟩
        · have hs : (sgn y == 0) = false := by
            unfold sgn
            by_cases h : y < 0
            · omega
            · simp [h]; omega
          have hq := quo_any hql _ _ x y _ jX jY (by rw [show ((x.natAbs : Nat) : Int) = x by omega]; exact (unhide HX).1) (by rw [show ((y.natAbs : Nat) : Int) = y by omega]; exact (unhide HX).2)
          have HQ := hide hq
          have HY := hide hy
          clear hq hy
          go_wp2_with fail
          refine (unhide HQ).mono ?_
          rintro e w2 ⟨q1, q2, rfl, hb2, iQ, iM⟩
          obtain ⟨m1, d1, f1, g1, rfl⟩ := iQ.form
          obtain ⟨m2, d2, f2, g2, rfl⟩ := iM.form
          have dA := cA.below hb2
          have dB := cB.below hb2
          have dR := cR.below hb2
          have hbl2 := hbl1.trans (hb2.mono hbl1.size)
          have lY := jY.below hb2
          clear kA0 kA1 kAf0 kAf1 kB0 kB1 kBf0 kBf1 kR0 kR1 kRf0 kRf1
          obtain ⟨kA0, kA1, kAf0, kAf1⟩ := dA.facts
          obtain ⟨kB0, kB1, kBf0, kBf1⟩ := dB.facts
          have hsA := dA.lt
          have hsB := dB.lt
          clear iQ
          have HI := hide iM
          clear iM
          go_wp2_with fail
          have eA := (dA.alloc (.cells #[.int .i64 m1, .slice d1 f1 g1] 26)).alloc (.cells #[.int .i64 m2, .slice d2 f2 g2] 26)
          have eB := (dB.alloc (.cells #[.int .i64 m1, .slice d1 f1 g1] 26)).alloc (.cells #[.int .i64 m2, .slice d2 f2 g2] 26)
          have eR := (dR.alloc (.cells #[.int .i64 m1, .slice d1 f1 g1] 26)).alloc (.cells #[.int .i64 m2, .slice d2 f2 g2] 26)
          have eL := Bx.new (w2.alloc (.cells #[.int .i64 m1, .slice d1 f1 g1] 26)) m2 d2 f2 g2
          rw [World.size_alloc] at eL
          have hb5 : Below w2.heap.size w2 ((w2.alloc (.cells #[.int .i64 m1, .slice d1 f1 g1] 26)).alloc (.cells #[.int .i64 m2, .slice d2 f2 g2] 26)) := ((Below.refl _ _).alloc (Nat.le_refl _) _).alloc (by simp) _
          have hbl5 := hbl2.trans (hb5.mono hbl2.size)
          have oY := lY.below hb5
          have HI5 := hide ((unhide HI).below hb5)
          clear kA0 kA1 kAf0 kAf1 kB0 kB1 kBf0 kBf1 HI dA dB dR lY hb5 hbl2 hsA hsB
          generalize ((w2.alloc (.cells #[.int .i64 m1, .slice d1 f1 g1] 26)).alloc (.cells #[.int .i64 m2, .slice d2 f2 g2] 26)) = W5 at *
          obtain ⟨kA0, kA1, kAf0, kAf1⟩ := eA.facts
          obtain ⟨kB0, kB1, kBf0, kBf1⟩ := eB.facts
          obtain ⟨kL0, kL1, kLf0, kLf1⟩ := eL.facts
          have hLA : w2.heap.size + 1 ≠ w.heap.size := by have := hb2.size; have := hb1.size; have := hbl.size; omega
          have hLB : w2.heap.size + 1 ≠ w.heap.size + 1 := by have := hb2.size; have := cB.lt; omega
          have hz9 : ((0 : Int) ≤ x % y ∧ x % y < y) := ⟨Int.emod_nonneg _ (unhide HY), Int.emod_lt_of_pos _ (by have := unhide HY; omega)⟩
          have hg9 : Hid (Int.gcd y (x % y) = Int.gcd za zb) := by
            show _ = _
            rw [gcd_step x y x0 y0]; exact unhide HG
          have hm9 : Hid (bxNat wr (w.heap.size + 1) = y.natAbs) := unhide HBN _ _ _ _ bB iY
          have pB1 := eB.drew.other (p := ⟨w.heap.size, 0, none⟩) (by show w.heap.size ≠ w.heap.size + 1; omega) (.int .i64 n2)
          have pB2 := pB1.other (p := ⟨w.heap.size, 1, none⟩) (by show w.heap.size ≠ w.heap.size + 1; omega) (.slice a2 l2 c2)
          have pB3 := pB2.set m2 d2 f2 g2
          have pA3 := ((eA.drew.set n2 a2 l2 c2).other (p := ⟨w.heap.size + 1, 0, none⟩) (by show w.heap.size + 1 ≠ w.heap.size; omega) (.int .i64 m2)).other (p := ⟨w.heap.size + 1, 1, none⟩) (by show w.heap.size + 1 ≠ w.heap.size; omega) (.slice d2 f2 g2)
          have pR3 := (((eR.drew.other (p := ⟨w.heap.size, 0, none⟩) (by show w.heap.size ≠ w.heap.size + 1 + 1; omega) (.int .i64 n2)).other (p := ⟨w.heap.size, 1, none⟩) (by show w.heap.size ≠ w.heap.size + 1 + 1; omega) (.slice a2 l2 c2)).other (p := ⟨w.heap.size + 1, 0, none⟩) (by show w.heap.size + 1 ≠ w.heap.size + 1 + 1; omega) (.int .i64 m2)).other (p := ⟨w.heap.size + 1, 1, none⟩) (by show w.heap.size + 1 ≠ w.heap.size + 1 + 1; omega) (.slice d2 f2 g2)
          have iY3 : IsI W5.drew (.agg #[.int .i64 n2, .slice a2 l2 c2]) y := oY
          have iM3 : IsI W5.drew (.agg #[.int .i64 m2, .slice d2 f2 g2]) (x % y) := unhide HI5
          have jY3 := (iY3.put eA.drew (.int .i64 n2) (.slice a2 l2 c2)).put pB2 (.int .i64 m2) (.slice d2 f2 g2)
          have jM3 := (iM3.put eA.drew (.int .i64 n2) (.slice a2 l2 c2)).put pB2 (.int .i64 m2) (.slice d2 f2 g2)
          have hb3 := below_put (below_put hbl5.drew (Nat.le_refl _) (.int .i64 n2) (.slice a2 l2 c2)) (Nat.le_succ _) (.int .i64 m2) (.slice d2 f2 g2)
          have hfin := hide (And.intro pA3 (And.intro pB3 (And.intro pR3 (And.intro jY3 (And.intro jM3 hb3)))))
          clear pB1 pB2 pB3 pA3 pR3 iY3 iM3 jY3 jM3 hb3 eA eB eL eR oY hbl5 HI5
          go_region
          all_goals
            go_wp2
            obtain ⟨pA3, pB3, pR3, jY3, jM3, hb3⟩ := unhide hfin
            exact ⟨⟨_, _, y, x % y, hb3, pA3, pB3, pR3, jY3, jM3, y0, (unhide HX).2, hz9.1, by have := (unhide HX).2; omega, unhide hg9⟩, by have h1 := unhide HBN _ _ _ _ pB3 jM3; have h2 := unhide hm9; refine Nat.lt_of_le_of_lt (Nat.le_of_eq h1) ?_; rw [h2]; omega⟩
      | none =>
        cases a2 with
        | some ad2 =>
          go_wp2_with fail
          refine (sign_any _ y _ iY).mono ?_
          rintro e w1 ⟨rfl, hb1⟩
          have cA := bA.below hb1
          have cB := bB.below hb1
          have cR := bR.below hb1
          have hbl1 := hbl.trans (hb1.mono hbl.size)
          have jX := iX.below hb1
          have jY := iY.below hb1
          clear kA0 kA1 kAf0 kAf1 kB0 kB1 kBf0 kBf1 kR0 kR1 kRf0 kRf1
          obtain ⟨kA0, kA1, kAf0, kAf1⟩ := cA.facts
          obtain ⟨kB0, kB1, kBf0, kBf1⟩ := cB.facts
          obtain ⟨kR0, kR1, kRf0, kRf1⟩ := cR.facts
          by_cases hy : y = 0
          · have hs : (sgn y == 0) = true := by rw [hy]; rfl
            have HY := hide hy
            clear hy
            go_wp2
            refine bodyPost_ret (v := .agg #[.int .i64 n1, .slice none l1 c1]) ?_ rfl ?_
            · simp [results, Tryz.results48, go_sem, kR0, kR1]
            · have e9 : x = (Int.gcd za zb : Int) := by
                rw [← unhide HG, unhide HY, Int.gcd_zero_right]; omega
              exact ⟨_, rfl, below_put hbl1 (by omega) _ _, by rw [← e9]; exact jX.put cR _ _⟩
          · have hs : (sgn y == 0) = false := by
              unfold sgn
              by_cases h : y < 0
              · omega
              · simp [h]; omega
            have hq := quo_any hql _ _ x y _ jX jY (by rw [show ((x.natAbs : Nat) : Int) = x by omega]; exact (unhide HX).1) (by rw [show ((y.natAbs : Nat) : Int) = y by omega]; exact (unhide HX).2)
            have HQ := hide hq
            have HY := hide hy
            clear hq hy
            go_wp2_with fail
            refine (unhide HQ).mono ?_
            rintro e w2 ⟨q1, q2, rfl, hb2, iQ, iM⟩
            obtain ⟨m1, d1, f1, g1, rfl⟩ := iQ.form
            obtain ⟨m2, d2, f2, g2, rfl⟩ := iM.form
            have dA := cA.below hb2
            have dB := cB.below hb2
            have dR := cR.below hb2
            have hbl2 := hbl1.trans (hb2.mono hbl1.size)
            have lY := jY.below hb2
            clear kA0 kA1 kAf0 kAf1 kB0 kB1 kBf0 kBf1 kR0 kR1 kRf0 kRf1
            obtain ⟨kA0, kA1, kAf0, kAf1⟩ := dA.facts
            obtain ⟨kB0, kB1, kBf0, kBf1⟩ := dB.facts
            have hsA := dA.lt
            have hsB := dB.lt
            clear iQ
            have HI := hide iM
            clear iM
            go_wp2_with fail
            have eA := (dA.alloc (.cells #[.int .i64 m1, .slice d1 f1 g1] 26)).alloc (.cells #[.int .i64 m2, .slice d2 f2 g2] 26)
            have eB := (dB.alloc (.cells #[.int .i64 m1, .slice d1 f1 g1] 26)).alloc (.cells #[.int .i64 m2, .slice d2 f2 g2] 26)
            have eR := (dR.alloc (.cells #[.int .i64 m1, .slice d1 f1 g1] 26)).alloc (.cells #[.int .i64 m2, .slice d2 f2 g2] 26)
            have eL := Bx.new (w2.alloc (.cells #[.int .i64 m1, .slice d1 f1 g1] 26)) m2 d2 f2 g2
            rw [World.size_alloc] at eL
            have hb5 : Below w2.heap.size w2 ((w2.alloc (.cells #[.int .i64 m1, .slice d1 f1 g1] 26)).alloc (.cells #[.int .i64 m2, .slice d2 f2 g2] 26)) := ((Below.refl _ _).alloc (Nat.le_refl _) _).alloc (by simp) _
            have hbl5 := hbl2.trans (hb5.mono hbl2.size)
            have oY := lY.below hb5
            have HI5 := hide ((unhide HI).below hb5)
            clear kA0 kA1 kAf0 kAf1 kB0 kB1 kBf0 kBf1 HI dA dB dR lY hb5 hbl2 hsA hsB
            generalize ((w2.alloc (.cells #[.int .i64 m1, .slice d1 f1 g1] 26)).alloc (.cells #[.int .i64 m2, .slice d2 f2 g2] 26)) = W5 at *
            obtain ⟨kA0, kA1, kAf0, kAf1⟩ := eA.facts
            obtain ⟨kB0, kB1, kBf0, kBf1⟩ := eB.facts
            obtain ⟨kL0, kL1, kLf0, kLf1⟩ := eL.facts
            have hLA : w2.heap.size + 1 ≠ w.heap.size := by have := hb2.size; have := hb1.size; have := hbl.size; omega
            have hLB : w2.heap.size + 1 ≠ w.heap.size + 1 := by have := hb2.size; have := cB.lt; omega
            have hz9 : ((0 : Int) ≤ x % y ∧ x % y < y) := ⟨Int.emod_nonneg _ (unhide HY), Int.emod_lt_of_pos _ (by have := unhide HY; omega)⟩
            have hg9 : Hid (Int.gcd y (x % y) = Int.gcd za zb) := by
              show _ = _
              rw [gcd_step x y x0 y0]; exact unhide HG
            have hm9 : Hid (bxNat wr (w.heap.size + 1) = y.natAbs) := unhide HBN _ _ _ _ bB iY
            have pB1 := eB.drew.other (p := ⟨w.heap.size, 0, none⟩) (by show w.heap.size ≠ w.heap.size + 1; omega) (.int .i64 n2)
            have pB2 := pB1.other (p := ⟨w.heap.size, 1, none⟩) (by show w.heap.size ≠ w.heap.size + 1; omega) (.slice (some ad2) l2 c2)
            have pB3 := pB2.set m2 d2 f2 g2
            have pA3 := ((eA.drew.set n2 (some ad2) l2 c2).other (p := ⟨w.heap.size + 1, 0, none⟩) (by show w.heap.size + 1 ≠ w.heap.size; omega) (.int .i64 m2)).other (p := ⟨w.heap.size + 1, 1, none⟩) (by show w.heap.size + 1 ≠ w.heap.size; omega) (.slice d2 f2 g2)
            have pR3 := (((eR.drew.other (p := ⟨w.heap.size, 0, none⟩) (by show w.heap.size ≠ w.heap.size + 1 + 1; omega) (.int .i64 n2)).other (p := ⟨w.heap.size, 1, none⟩) (by show w.heap.size ≠ w.heap.size + 1 + 1; omega) (.slice (some ad2) l2 c2)).other (p := ⟨w.heap.size + 1, 0, none⟩) (by show w.heap.size + 1 ≠ w.heap.size + 1 + 1; omega) (.int .i64 m2)).other (p := ⟨w.heap.size + 1, 1, none⟩) (by show w.heap.size + 1 ≠ w.heap.size + 1 + 1; omega) (.slice d2 f2 g2)
            have iY3 : IsI W5.drew (.agg #[.int .i64 n2, .slice (some ad2) l2 c2]) y := oY
            have iM3 : IsI W5.drew (.agg #[.int .i64 m2, .slice d2 f2 g2]) (x % y) := unhide HI5
            have jY3 := (iY3.put eA.drew (.int .i64 n2) (.slice (some ad2) l2 c2)).put pB2 (.int .i64 m2) (.slice d2 f2 g2)
            have jM3 := (iM3.put eA.drew (.int .i64 n2) (.slice (some ad2) l2 c2)).put pB2 (.int .i64 m2) (.slice d2 f2 g2)
            have hb3 := below_put (below_put hbl5.drew (Nat.le_refl _) (.int .i64 n2) (.slice (some ad2) l2 c2)) (Nat.le_succ _) (.int .i64 m2) (.slice d2 f2 g2)
            have hfin := hide (And.intro pA3 (And.intro pB3 (And.intro pR3 (And.intro jY3 (And.intro jM3 hb3)))))
            clear pB1 pB2 pB3 pA3 pR3 iY3 iM3 jY3 jM3 hb3 eA eB eL eR oY hbl5 HI5
            go_region
            all_goals
              go_wp2
              obtain ⟨pA3, pB3, pR3, jY3, jM3, hb3⟩ := unhide hfin
              exact ⟨⟨_, _, y, x % y, hb3, pA3, pB3, pR3, jY3, jM3, y0, (unhide HX).2, hz9.1, by have := (unhide HX).2; omega, unhide hg9⟩, by have h1 := unhide HBN _ _ _ _ pB3 jM3; have h2 := unhide hm9; refine Nat.lt_of_le_of_lt (Nat.le_of_eq h1) ?_; rw [h2]; omega⟩
        | none =>
          obtain ⟨rfl, rfl, rfl, x2, x3⟩ := iX.smallN
          obtain ⟨rfl, rfl, rfl, y2, y3⟩ := iY.smallN
          have hbR := bR
          clear iX iY bA bB
          go_wp2_with fail
          go_quiet (fail)
          have bR2 : Bx (wr.drewN nq) (w.heap.size + 1 + 1) (.agg #[.int .i64 0, .slice none 0 0]) := bR
          have hbl3 : Below w.heap.size w (wr.drewN nq) := ⟨hbl.os, hbl.tape, hbl.output, hbl.size, hbl.block⟩
          clear bR hbR hbl kA0 kA1 kAf0 kAf1 kB0 kB1 kBf0 kBf1 kR0 kR1 kRf0 kRf1
          generalize wr.drewN nq = V at *
          go_wp2
          go_loopw [7, 8] (fun xv yv wq => ∃ p q : Int, xv = .int .i64 p ∧ yv = .int .i64 q ∧ Below w.heap.size w wq ∧ Bx wq (w.heap.size + 1 + 1) (.agg #[.int .i64 0, .slice none 0 0]) ∧ 0 ≤ p ∧ p ≤ 9223372036854775807 ∧ 0 ≤ q ∧ q ≤ 9223372036854775807 ∧ Int.gcd p q = Int.gcd za zb) (fun _ yv _ => (intOf yv).toNat)
          case atStart => exact ⟨_, _, rfl, rfl, hbl3, bR2, x0, x3, y0, y3, unhide HG⟩
          case round =>
            obtain ⟨p, q, rfl, rfl, hbq, hRq, p0, p1, q0, q1, hgq⟩ := hrel
            have HGQ := hide hgq
            clear hgq
            by_cases hq : q = 0
            · have hq' : (q != 0) = false := by simp [hq]
              have HQ0 := hide hq
              clear hq
              go_wp2_with fail
              refine (of_any _ _).mono ?_
              rintro e w9 ⟨rfl, hb9⟩
              have hR9 := hRq.below hb9
              obtain ⟨kR0, kR1, kRf0, kRf1⟩ := hR9.facts
              have hb10 := hbq.trans (hb9.mono hbq.size)
              go_wp2
              refine bodyPost_ret (v := .agg #[.int .i64 p, .slice none 0 0]) ?_ rfl ?_
              · simp [results, Tryz.results48, go_sem, kR0, kR1]
              · have e9 : p = (Int.gcd za zb : Int) := by
                  rw [← unhide HGQ, unhide HQ0, Int.gcd_zero_right]; omega
                exact ⟨_, rfl, below_put hb10 (by omega) _ _, by rw [← e9]; exact .inl ⟨rfl, by omega, by omega⟩⟩
            · have hq' : (q != 0) = true := by simp [hq]
              have hqz : (q == 0) = false := by simp [hq]
              have hm : p.tmod q = p % q := Int.tmod_eq_emod_of_nonneg p0
              have hz9 : ((0 : Int) ≤ p % q ∧ p % q < q) := ⟨Int.emod_nonneg _ hq, Int.emod_lt_of_pos _ (by omega)⟩
              have hg9 : Hid (Int.gcd q (p % q) = Int.gcd za zb) := by
                show _ = _
                rw [gcd_step p q p0 q0]; exact unhide HGQ
              go_wp2_with fail
              go_quiet (fail)
              go_wp2
              refine ⟨⟨q, p % q, rfl, ?_, ⟨hbq.os, hbq.tape, hbq.output, hbq.size, hbq.block⟩, hRq, q0, q1, hz9.1, by omega, unhide hg9⟩, ?_⟩
              · rfl
              · simp [intOf]; omega

end Go.Proofs.YtlcfldkmojpkpaaGreatDoor
