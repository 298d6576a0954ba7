/- The document's propagation: the walk of Follows, of a whole clause. -/
import Derived.Test.YtmkkhpoedlbafaaQA
set_option linter.unusedVariables false
set_option linter.unusedSimpArgs false

/- The document's propagation: literals, whole clauses. -/
namespace Go.Proofs.Ytmkkhpoedlbafaa
open Go Go.RowKit

set_option maxRecDepth 100000 in
set_option maxHeartbeats 1600000 in
theorem worth_any (r1 r2 : Nat) (S T : Int → Bool) (x : Int) (w : World) (h1 : MI w r1 S) (h2 : MI w r2 T) (hx : -9223372036854775808 < x) (hx2 : x ≤ 9223372036854775807) :
    Calls Try.prog 18 #[.map (some r1), .map (some r2), .int .i64 x] w fun e w' => e = .returned (.int .i64 (wor S T x)) ∧ w' = w := by
  have l1 := lk (k := x) h1
  have l2 := lk (k := x) h2
  have l3 := lk (k := -x) h1
  have l4 := lk (k := -x) h2
  have hw : IntKind.i64.wrap (-x) = -x := by simp only [IntKind.wrap_i64]; omega
  clear h1 h2
  rcases Int.lt_trichotomy x 0 with h | h | h
  · have d1 : decide (0 < x) = false := by simp; omega
    have d2 : decide (x < 0) = true := by simp; omega
    cases e1 : T (-x) <;> cases e2 : S (-x) <;> rw [e1] at l4 <;> rw [e2] at l3 <;> clear l1 l2
    all_goals
      go_enter Try.func18, Try.ntmps18
      go_wp2
      go_ret
      refine ⟨?_, rfl⟩
      have d3 : ¬ 0 < x := by omega
      simp [wor, h, d3, e1, e2]
  · subst h
    go_enter Try.func18, Try.ntmps18
    go_wp2
    go_ret
    exact ⟨by simp [wor], rfl⟩
  · have d1 : decide (0 < x) = true := by simp; omega
    have d2 : decide (x < 0) = false := by simp; omega
    cases e1 : T x <;> cases e2 : S x <;> rw [e1] at l2 <;> rw [e2] at l1 <;> clear l3 l4
    all_goals
      go_enter Try.func18, Try.ntmps18
      go_wp2
      go_ret
      refine ⟨?_, rfl⟩
      have d3 : ¬ x < 0 := by omega
      simp [wor, h, d3, e1, e2]
def litOk (x : Int) : Bool := !(x == 0) && !(x == -9223372036854775808)
set_option maxRecDepth 100000 in
set_option maxHeartbeats 1600000 in
theorem whole_any (B : Nat) (v : Value) (xs : List Int) (w : World) (hS : Sl w B v xs) :
    Calls Try.prog 19 #[v] w fun e w' => e = .returned (.bool (xs.all litOk)) ∧ w' = w := by
  obtain ⟨a, cap, rfl, hmax, hcell⟩ := hS.open
  clear hS
  have HC := hide hcell
  obtain ⟨n, hn⟩ : ∃ n, xs.length = n := ⟨_, rfl⟩
  rw [hn] at hmax ⊢
  have HN := hide hn
  clear hcell hn
  go_enter Try.func19, Try.ntmps19
  go_wp2
  go_loop [3] (fun iv => ∃ i : Nat, i ≤ n ∧ iv = .int .i64 i ∧ (xs.take i).all litOk = true) (fun iv => n - (intOf iv).toNat)
  case atStart => exact ⟨0, Nat.zero_le _, rfl, by simp⟩
  case round =>
    obtain ⟨i, hi0, rfl, hall⟩ := hrel
    by_cases hi : i < n
    · obtain ⟨b, off, rfl, hc, _⟩ := unhide HC i (by rw [unhide HN]; exact hi)
      obtain ⟨x, hx⟩ : ∃ x, x = xs[i]'(by rw [unhide HN]; exact hi) := ⟨_, rfl⟩
      rw [← hx] at hc
      have hs : xs.take (i + 1) = xs.take i ++ [x] := by rw [hx, List.take_succ_eq_append_getElem]
      have HX := hide hx
      have HA := hide hall
      have HS := hide hs
      clear hx hall hs
      cases e : litOk x with
      | true =>
        have e1 : (x == 0) = false := by unfold litOk at e; revert e; cases (x == 0) <;> simp
        have e2 : (x == -9223372036854775808) = false := by unfold litOk at e; revert e; cases (x == -9223372036854775808) <;> simp
        have HE := hide e
        clear e
        go_wp2
        refine ⟨⟨i + 1, by omega, by simp, by rw [unhide HS]; simp [unhide HA, unhide HE]⟩, by simp [intOf]; omega⟩
      | false =>
        have hf : Hid (xs.all litOk = false) := by
          rw [List.all_eq_false]
          exact ⟨x, by rw [unhide HX]; exact List.getElem_mem _, by rw [e]; simp⟩
        cases e1 : (x == 0) with
        | true =>
          clear e
          go_wp2
          go_ret
          exact ⟨by rw [unhide hf]; rfl, rfl⟩
        | false =>
          have e2 : (x == -9223372036854775808) = true := by unfold litOk at e; revert e; rw [e1]; cases (x == -9223372036854775808) <;> simp
          clear e
          go_wp2
          go_ret
          exact ⟨by rw [unhide hf]; rfl, rfl⟩
    · have hok : Hid (xs.all litOk = true) := by rw [List.take_of_length_le (by rw [unhide HN]; omega)] at hall; exact hall
      clear hall
      go_wp2
      go_ret
      exact ⟨by rw [unhide hok]; rfl, rfl⟩
end Go.Proofs.Ytmkkhpoedlbafaa

/- The document's propagation: the walk of Follows. -/
namespace Go.Proofs.Ytmkkhpoedlbafaa
open Go Go.RowKit

theorem lit_ok {x : Int} : litOk x = true ↔ LitOk x := by
  unfold litOk LitOk
  simp
theorem whole_all {xs : List Int} : xs.all litOk = true ↔ Whole xs := by
  rw [List.all_eq_true]
  exact ⟨fun h x hx => lit_ok.1 (h x hx), fun h x hx => lit_ok.2 (h x hx)⟩
theorem lit_false {x : Int} (h : litOk x = false) : (x == 0) = true ∨ ((x == 0) = false ∧ (x == -9223372036854775808) = true) := by
  unfold litOk at h
  cases e : (x == 0) with
  | true => exact .inl rfl
  | false =>
    rw [e] at h
    cases e2 : (x == -9223372036854775808) with
    | true => exact .inr ⟨rfl, rfl⟩
    | false => rw [e2] at h; cases h
theorem lit_true {x : Int} (h : litOk x = true) : (x == 0) = false ∧ (x == -9223372036854775808) = false := by
  have := lit_ok.1 h
  unfold LitOk at this
  simp [this]
set_option maxRecDepth 100000 in
set_option maxHeartbeats 16000000 in
theorem follows_no (B : Nat) (vl v : Value) (xs : List Int) (w : World) (hS : Sl w B v xs) (hbad : xs.all litOk = false) :
    Calls Try.prog 12 #[vl, v] w fun e w' => e = .returned (.bool false) ∧ w' = w := by
  obtain ⟨a, cap, rfl, hmax, hcell⟩ := hS.open
  clear hS
  have HC := hide hcell
  obtain ⟨n, hn⟩ : ∃ n, xs.length = n := ⟨_, rfl⟩
  rw [hn] at hmax ⊢
  have HN := hide hn
  have HB := hide hbad
  clear hcell hn hbad
  go_enter Try.func12, Try.ntmps12
  go_wp2
  go_loop [5] (fun iv => ∃ i : Nat, i ≤ n ∧ iv = .int .i64 i ∧ (xs.take i).all litOk = true) (fun iv => n - (intOf iv).toNat)
  case atStart => exact ⟨0, Nat.zero_le _, rfl, by simp⟩
  case round =>
    obtain ⟨i, hi0, rfl, hall⟩ := hrel
    by_cases hi : i < n
    · obtain ⟨b, off, rfl, hc, _⟩ := unhide HC i (by rw [unhide HN]; exact hi)
      obtain ⟨x, hx⟩ : ∃ x, x = xs[i]'(by rw [unhide HN]; exact hi) := ⟨_, rfl⟩
      rw [← hx] at hc
      have hs : xs.take (i + 1) = xs.take i ++ [x] := by rw [hx, List.take_succ_eq_append_getElem]
      have HA := hide hall
      have HS := hide hs
      clear hx hall hs
      cases e : litOk x with
      | true =>
        obtain ⟨e1, e2⟩ := lit_true e
        have HE := hide e
        clear e
        go_wp2
        refine ⟨⟨i + 1, by omega, by simp, by rw [unhide HS]; simp [unhide HA, unhide HE]⟩, by simp [intOf]; omega⟩
      | false =>
        rcases lit_false e with e1 | ⟨e1, e2⟩
        · clear e
          go_wp2
          go_ret
          exact ⟨rfl, rfl⟩
        · clear e
          go_wp2
          go_ret
          exact ⟨rfl, rfl⟩
    · have hok : xs.all litOk = true := by rw [List.take_of_length_le (by rw [unhide HN]; omega)] at hall; exact hall
      rw [unhide HB] at hok
      cases hok
end Go.Proofs.Ytmkkhpoedlbafaa

namespace Go.Proofs.Ytmkkhpoedlbafaa
open Go Go.RowKit
/-- What Follows answers. -/
def FPost (ls : List (List Int)) (xs : List Int) (w : World) (e : Ending) (w' : World) : Prop := ∃ b, e = .returned (.bool b) ∧ (b = true ↔ Fol ls xs) ∧ Below w.heap.size w w'
theorem FPost.yes {ls : List (List Int)} {xs : List Int} {w w' : World} {e : Ending} (he : e = .returned (.bool true)) (h : Fol ls xs) (hb : Below w.heap.size w w') : FPost ls xs w e w' := ⟨true, he, ⟨fun _ => h, fun _ => rfl⟩, hb⟩
theorem FPost.no {ls : List (List Int)} {xs : List Int} {w w' : World} {e : Ending} (he : e = .returned (.bool false)) (h : ¬ Fol ls xs) (hb : Below w.heap.size w w') : FPost ls xs w e w' := ⟨false, he, ⟨fun h => (by cases h), fun k => absurd k h⟩, hb⟩
def bN : Value → Nat
  | .bool true => 1
  | _ => 0
set_option maxRecDepth 100000 in
set_option maxHeartbeats 16000000 in
theorem follows_yes (B : Nat) (vl v : Value) (ls : List (List Int)) (xs : List Int) (w : World) (hBw : B ≤ w.heap.size) (hL : Sl2 w B vl ls) (hS : Sl w B v xs) (hgood : xs.all litOk = true) :
    Calls Try.prog 12 #[vl, v] w (FPost ls xs w) := by
  obtain ⟨a, cap, rfl, hmax, hcell⟩ := hS.open
  obtain ⟨al, capl, rfl, hmaxl, hcelll⟩ := hL.open
  have HL := hide hL
  have HW := hide (whole_all.1 hgood)
  have HC := hide hcell
  have HCL := hide hcelll
  have HSl := hide hS
  obtain ⟨n, hn⟩ : ∃ n, xs.length = n := ⟨_, rfl⟩
  obtain ⟨m, hm⟩ : ∃ m, ls.length = m := ⟨_, rfl⟩
  rw [hn] at hmax ⊢
  rw [hm] at hmaxl ⊢
  have HN := hide hn
  have HM := hide hm
  have HG := hide hgood
  clear hcell hn hgood hcelll hm hS hL
  go_enter Try.func12, Try.ntmps12
  go_wp2
  go_loop [5] (fun iv => ∃ i : Nat, i ≤ n ∧ iv = .int .i64 i) (fun iv => n - (intOf iv).toNat)
  case atStart => exact ⟨0, Nat.zero_le _, rfl⟩
  case round =>
    obtain ⟨i, hi0, rfl⟩ := hrel
    by_cases hi : i < n
    · obtain ⟨b, off, rfl, hc, _⟩ := unhide HC i (by rw [unhide HN]; exact hi)
      obtain ⟨x, hx⟩ : ∃ x, x = xs[i]'(by rw [unhide HN]; exact hi) := ⟨_, rfl⟩
      rw [← hx] at hc
      have e : litOk x = true := by rw [hx]; exact List.all_eq_true.1 (unhide HG) _ (List.getElem_mem _)
      obtain ⟨e1, e2⟩ := lit_true e
      clear e hx
      go_wp2
      refine ⟨⟨i + 1, by omega, by simp⟩, by simp [intOf]; omega⟩
    · have hi' : i = n := by omega
      subst hi'
      clear hi hi0
      have km1 : (Instr.makeMap 40 none).run Try.prog w = .ok (.map (some w.heap.size)) (w.alloc (.map #[] 0)) := rfl
      have km2 : (Instr.makeMap 40 none).run Try.prog (w.alloc (.map #[] 0)) = .ok (.map (some (w.heap.size + 1))) ((w.alloc (.map #[] 0)).alloc (.map #[] 0)) := by rw [← World.size_alloc w (.map #[] 0)]; rfl
      go_wp2
      clear km1 km2
      have hM1 := (MI.new w).below ((Below.refl _ _).alloc (Nat.le_refl _) (.map #[] 0))
      have hM2 := MI.new (w.alloc (.map #[] 0))
      rw [World.size_alloc] at hM2
      have hB0 : Below w.heap.size w ((w.alloc (.map #[] 0)).alloc (.map #[] 0)) := ((Below.refl _ w).alloc (Nat.le_refl _) _).alloc (by simp) _
      generalize ((w.alloc (.map #[] 0)).alloc (.map #[] 0)) = w0 at *
      have HM1 := hide hM1
      have HM2 := hide hM2
      have HB0 := hide hB0
      clear hM1 hM2 hB0
      go_loopw [8] (fun iv wr => ∃ (j : Nat) (S T : Int → Bool), j ≤ i ∧ iv = .int .i64 j ∧ Below w.heap.size w wr ∧ MI wr w.heap.size S ∧ MI wr (w.heap.size + 1) T ∧ Begun xs j S T) (fun iv _ => i - (intOf iv).toNat)
      case atStart => exact ⟨0, _, _, Nat.zero_le _, rfl, unhide HB0, unhide HM1, unhide HM2, Begun.zero xs⟩
      case round =>
        obtain ⟨j, S, T, hj0, rfl, hb, h1, h2, hbeg⟩ := hrel
        by_cases hj : j < i
        · have hjx : j < xs.length := by rw [unhide HN]; exact hj
          obtain ⟨b, off, rfl, hc0, hbB⟩ := unhide HC j hjx
          have hc := (hb.cell (p := ⟨b, off + j, none⟩) (show b < w.heap.size by omega)).trans hc0
          obtain ⟨_, hx0, hx1⟩ := (unhide HSl).2 j hjx
          obtain ⟨x, hx⟩ : ∃ x, x = xs[j]'hjx := ⟨_, rfl⟩
          rw [← hx] at hc hx0 hx1
          have hl : LitOk x := by rw [hx]; exact unhide HW _ (List.getElem_mem _)
          have hxm : -9223372036854775808 < x := by have := hl.2; omega
          have HX := hide hx
          have HBeg := hide hbeg
          have HB := hide hb
          have HL1 := hide hl
          have H1 := hide h1
          have H2 := hide h2
          clear hx hbeg hb hl hc0 h1 h2
          go_wp2_with fail
          refine (worth_any _ _ S T x _ (unhide H1) (unhide H2) hxm hx1).mono ?_
          rintro e w1 ⟨rfl, rfl⟩
          rcases wor_cases S T x with ⟨e0, ht⟩ | hother
          · have e1 : (wor S T x == 1) = true := by rw [e0]; rfl
            have HT := hide ht
            clear ht e0
            go_wp2
            go_ret
            exact FPost.yes rfl ((unhide HBeg).pair (unhide HW) hjx (by rw [← unhide HX]; exact unhide HT) ls) (unhide HB)
          · have e1 : (wor S T x == 1) = false := by rcases hother with ⟨e0, _⟩ | ⟨e0, _⟩ <;> rw [e0] <;> rfl
            have ht : ¬ Tr S T x := by rcases hother with ⟨_, h, _⟩ | ⟨_, h, _⟩ <;> exact h
            have HT := hide ht
            clear ht hother
            by_cases hp : 0 < x
            · have d1 : decide (0 < x) = true := by simp; omega
              obtain ⟨w2, hr, hput, hM⟩ := mu (k := x) (unhide H2)
              have HR := hide (And.intro hput hM)
              clear hput hM
              go_wp2
              refine ⟨⟨j + 1, S, ins T x, by omega, by simp, (unhide HR).1.below (unhide HB) (by omega), (unhide H1).put (unhide HR).1 (by omega), (unhide HR).2, ?_⟩, by simp [intOf]; omega⟩
              have := (unhide HBeg).pos hjx (by rw [← unhide HX]; exact unhide HT) (by rw [← unhide HX]; exact hp)
              rw [← unhide HX] at this
              exact this
            · have d1 : decide (0 < x) = false := by simp; omega
              have hw : IntKind.i64.wrap (-x) = -x := by simp only [IntKind.wrap_i64]; omega
              obtain ⟨w2, hr, hput, hM⟩ := mu (k := -x) (unhide H1)
              have HR := hide (And.intro hput hM)
              clear hput hM
              go_wp2
              refine ⟨⟨j + 1, ins S (-x), T, by omega, by simp, (unhide HR).1.below (unhide HB) (by omega), (unhide HR).2, (unhide H2).put (unhide HR).1 (by omega), ?_⟩, by simp [intOf]; omega⟩
              have h0 := (unhide HL1).1
              have := (unhide HBeg).mns hjx (by rw [← unhide HX]; exact unhide HT) (by rw [← unhide HX]; omega)
              rw [← unhide HX] at this
              exact this
        · have hj' : j = i := by omega
          subst hj'
          have hT := hbeg.told (by rw [unhide HN]; omega) (unhide HW) ls
          clear hj hj0 hbeg
          have HT := hide hT
          have HB := hide hb
          have H1 := hide h1
          have H2 := hide h2
          clear hT hb h1 h2
          go_wp2
          go_loopw [9] (fun gv wr => ∃ (g : Bool) (S T : Int → Bool), gv = .bool g ∧ Below w.heap.size w wr ∧ MI wr w.heap.size S ∧ MI wr (w.heap.size + 1) T ∧ Told ls xs S T ∧ (g = false → ∀ d ∈ ls, Whole d → Sated S T d)) (fun gv wr => 2 * cnt ls (told wr w.heap.size) (told wr (w.heap.size + 1)) + bN gv)
          case atStart => exact ⟨true, _, _, rfl, unhide HB, unhide H1, unhide H2, unhide HT, fun h => by cases h⟩
          case round =>
            clear HT HB H1 H2
            obtain ⟨g, S, T, rfl, hb, h1, h2, hT, hg⟩ := hrel
            have HT := hide hT
            have HB := hide hb
            have H1 := hide h1
            have H2 := hide h2
            have HGd := hide hg
            clear hT hb h1 h2 hg
            cases g with
            | false =>
              go_wp2
              go_ret
              exact FPost.no rfl ((unhide HT).not (unhide HGd (by simp))) (unhide HB)
            | true =>
              clear HGd
              go_wp2
              go_loopw [9, 10] (fun gv iv wq => ∃ (g : Bool) (i : Nat) (S' T' : Int → Bool), gv = .bool g ∧ i ≤ m ∧ iv = .int .i64 i ∧ Below w.heap.size w wq ∧ MI wq w.heap.size S' ∧ MI wq (w.heap.size + 1) T' ∧ Told ls xs S' T' ∧ ((g = false ∧ S' = S ∧ T' = T ∧ ∀ k (hk : k < ls.length), k < i → Whole ls[k] → Sated S T ls[k]) ∨ (g = true ∧ cnt ls S' T' < cnt ls S T))) (fun _ iv _ => m - (intOf iv).toNat)
              case atStart => exact ⟨false, 0, S, T, rfl, Nat.zero_le _, rfl, unhide HB, unhide H1, unhide H2, unhide HT, .inl ⟨rfl, rfl, rfl, fun k _ h => absurd h (Nat.not_lt_zero _)⟩⟩
              case round =>
                have HS1 := hide (And.intro (unhide H1) (unhide H2))
                clear HT HB H1 H2
                obtain ⟨g, i, S', T', rfl, hi0, rfl, hb, h1, h2, hT, hcase⟩ := hrel
                have HT := hide hT
                have HB := hide hb
                have H1 := hide h1
                have H2 := hide h2
                have HCs := hide hcase
                clear hT hb h1 h2 hcase
                by_cases hi : i < m
                · have hil : i < ls.length := by rw [unhide HM]; exact hi
                  obtain ⟨bl, offl, u, rfl, hcl0, hblB, hSu0⟩ := unhide HCL i hil
                  have hcl := ((unhide HB).cell (p := ⟨bl, offl + i, none⟩) (show bl < w.heap.size by omega)).trans hcl0
                  have hSu := hSu0.below ((unhide HB).mono hBw)
                  obtain ⟨d, hd⟩ : ∃ d, d = ls[i]'hil := ⟨_, rfl⟩
                  rw [← hd] at hSu hSu0
                  have HD := hide hd
                  have HSu := hide hSu
                  clear hcl0 hd hSu hSu0
                  go_wp2_with fail
                  refine (whole_any B u d _ (unhide HSu)).mono ?_
                  rintro e w1 ⟨rfl, rfl⟩
                  cases hwd : d.all litOk with
                  | false =>
                    have hnw : ¬ Whole d := fun h => by rw [whole_all.2 h] at hwd; cases hwd
                    have HNW := hide hnw
                    clear hnw hwd
                    go_wp2
                    refine ⟨⟨g, i + 1, S', T', rfl, by omega, by simp, unhide HB, unhide H1, unhide H2, unhide HT, ?_⟩, by simp [intOf]; omega⟩
                    rcases unhide HCs with ⟨hg, hS, hTe, hall⟩ | h
                    · refine .inl ⟨hg, hS, hTe, fun k hk hki hwk => ?_⟩
                      by_cases e : k = i
                      · subst e
                        exact absurd (by rw [unhide HD]; exact hwk) (unhide HNW)
                      · exact hall k hk (by omega) hwk
                    · exact .inr h
                  | true =>
                    have HWd := hide (whole_all.1 hwd)
                    clear hwd
                    obtain ⟨au, capu, hu, hmaxu, hcellu⟩ := (unhide HSu).open
                    have HBd := hide (unhide HSu).2
                    have HCu := hide hcellu
                    subst hu
                    obtain ⟨q, hq⟩ : ∃ q, d.length = q := ⟨_, rfl⟩
                    rw [hq] at hmaxu hcl ⊢
                    have HQ := hide hq
                    clear hcellu hq HSu
                    go_wp2
                    go_loop [11, 12, 13] (fun ov sv kv => ∃ (o : Int) (s : Bool) (k : Nat), ov = .int .i64 o ∧ sv = .bool s ∧ kv = .int .i64 k ∧ k ≤ q ∧ Scan S' T' d k o s) (fun _ _ kv => q - (intOf kv).toNat)
                    case atStart => exact ⟨0, false, 0, rfl, rfl, rfl, Nat.zero_le _, Scan.zero S' T' d⟩
                    case round =>
                      obtain ⟨o, s, k, rfl, rfl, rfl, hk0, hsc⟩ := hrel
                      have HSc := hide hsc
                      clear hsc
                      by_cases hk : k < q
                      · have hkd : k < d.length := by rw [unhide HQ]; exact hk
                        obtain ⟨bu, offu, rfl, hcu, hbuB⟩ := unhide HCu k hkd
                        obtain ⟨_, hy0, hy1⟩ := unhide HBd k hkd
                        obtain ⟨y, hy⟩ : ∃ y, y = d[k]'hkd := ⟨_, rfl⟩
                        rw [← hy] at hcu hy0 hy1
                        have hly : LitOk y := by rw [hy]; exact unhide HWd _ (List.getElem_mem _)
                        have hym : -9223372036854775808 < y := by have := hly.2; omega
                        have HY := hide hy
                        have HLy := hide hly
                        clear hy hly
                        go_wp2_with fail
                        refine (worth_any _ _ S' T' y _ (unhide H1) (unhide H2) hym hy1).mono ?_
                        rintro e w1 ⟨rfl, rfl⟩
                        rcases wor_cases S' T' y with ⟨e0, _⟩ | ⟨e0, _⟩ | ⟨e0, _⟩
                        · have e1 : (wor S' T' y == 1) = true := by rw [e0]; rfl
                          have HE := hide e0
                          clear e0
                          go_wp2
                          refine ⟨⟨o, true, k + 1, rfl, rfl, by simp, by omega, (unhide HSc).one hkd (by rw [← unhide HY]; exact unhide HE)⟩, by simp [intOf]; omega⟩
                        · have e1 : (wor S' T' y == 1) = false := by rw [e0]; rfl
                          have e2 : (wor S' T' y == 0) = false := by rw [e0]; rfl
                          have HE := hide e0
                          clear e0
                          go_wp2
                          refine ⟨⟨o, s, k + 1, rfl, rfl, by simp, by omega, (unhide HSc).mns hkd (by rw [← unhide HY]; exact unhide HE)⟩, by simp [intOf]; omega⟩
                        · have e1 : (wor S' T' y == 1) = false := by rw [e0]; rfl
                          have e2 : (wor S' T' y == 0) = true := by rw [e0]; rfl
                          have HE := hide e0
                          clear e0
                          by_cases ho : o = 0
                          · have e3 : (o != 0) = false := by simp [ho]
                            have HO := hide ho
                            clear ho
                            go_wp2
                            refine ⟨⟨y, s, k + 1, rfl, rfl, by simp, by omega, ?_⟩, by simp [intOf]; omega⟩
                            have := (unhide HSc).open hkd (by rw [← unhide HY]; exact unhide HE) (.inl (unhide HO)) (by rw [← unhide HY]; exact (unhide HLy).1)
                            rw [← unhide HY] at this
                            exact this
                          · have e3 : (o != 0) = true := by simp [ho]
                            by_cases hoy : o = y
                            · have e4 : (o != y) = false := by simp [hoy]
                              have HO := hide hoy
                              clear hoy ho
                              go_wp2
                              refine ⟨⟨y, s, k + 1, rfl, rfl, by simp, by omega, ?_⟩, by simp [intOf]; omega⟩
                              have := (unhide HSc).open hkd (by rw [← unhide HY]; exact unhide HE) (.inr (by rw [← unhide HY]; exact unhide HO)) (by rw [← unhide HY]; exact (unhide HLy).1)
                              rw [← unhide HY] at this
                              exact this
                            · have e4 : (o != y) = true := by simp [hoy]
                              have HO := hide (And.intro ho hoy)
                              clear hoy ho
                              go_wp2
                              refine ⟨⟨y, true, k + 1, rfl, rfl, by simp, by omega, ?_⟩, by simp [intOf]; omega⟩
                              have := (unhide HSc).two hkd (by rw [← unhide HY]; exact unhide HE) (unhide HO).1 (by rw [← unhide HY]; exact (unhide HO).2)
                              rw [← unhide HY] at this
                              exact this
                      · have hk' : k = q := by omega
                        subst hk'
                        clear hk hk0
                        have hfull : d.take k = d := List.take_of_length_le (by rw [unhide HQ]; omega)
                        have HF := hide hfull
                        clear hfull
                        have hin : d ∈ ls := by rw [unhide HD]; exact List.getElem_mem _
                        have HIn := hide hin
                        clear hin
                        cases s with
                        | true =>
                          go_wp2
                          refine ⟨⟨g, i + 1, S', T', rfl, by omega, by simp, unhide HB, unhide H1, unhide H2, unhide HT, ?_⟩, by simp [intOf]; omega⟩
                          rcases unhide HCs with ⟨hg, hS, hTe, hall⟩ | h
                          · refine .inl ⟨hg, hS, hTe, fun k hk hki hwk => ?_⟩
                            by_cases e : k = i
                            · subst e
                              rw [← unhide HD, ← hS, ← hTe]
                              exact (unhide HSc).yes rfl
                            · exact hall k hk (by omega) hwk
                          · exact .inr h
                        | false =>
                          obtain ⟨hno1, hno2⟩ := (unhide HSc).no rfl
                          rw [unhide HF] at hno1
                          by_cases ho : o = 0
                          · have e3 : (o == 0) = true := by simp [ho]
                            have HFol := hide ((unhide HT).yes (unhide HW) (unhide HIn) (unhide HWd) fun y hy => (hno1 y hy).resolve_right fun h => h.2 ho)
                            clear ho hno1 hno2
                            go_wp2
                            go_ret
                            exact FPost.yes rfl (unhide HFol) (unhide HB)
                          · have e3 : (o == 0) = false := by simp [ho]
                            obtain ⟨hod, hn1, hn2⟩ := hno2 ho
                            have hoth : ∀ y ∈ d, y ≠ o → Tr S' T' (-y) := fun y hy hne => (hno1 y hy).resolve_right fun h => hne h.1
                            have hlo := unhide HWd o hod
                            have hob : -9223372036854775808 ≤ o ∧ o ≤ 9223372036854775807 := by
                              obtain ⟨j0, hj0, hje⟩ := List.getElem_of_mem hod
                              have := (unhide HBd j0 hj0).2
                              rwa [hje] at this
                            obtain ⟨ho0, ho1⟩ := hob
                            have HAdd := hide (fun (S2 T2 : Int → Bool) (he : ∀ x, Tr S2 T2 x ↔ x = o ∨ Tr S' T' x) => And.intro ((unhide HT).add (unhide HIn) (unhide HWd) hod hoth hn2 he) (cnt_less (unhide HIn) hod hn1 he))
                            have hlast : ∀ (S2 T2 : Int → Bool), cnt ls S2 T2 < cnt ls S' T' → cnt ls S2 T2 < cnt ls S T := by
                              intro S2 T2 hlt
                              rcases unhide HCs with ⟨_, hS, hTe, _⟩ | ⟨_, h⟩
                              · rw [hS, hTe] at hlt; exact hlt
                              · omega
                            have HLast := hide hlast
                            have h0 := hlo.1
                            have hmn := hlo.2
                            clear hno1 hno2 hod hn1 hn2 hoth hlo hlast ho
                            by_cases hp : 0 < o
                            · have d1 : decide (0 < o) = true := by simp; omega
                              obtain ⟨w2, hr, hput, hM⟩ := mu (k := o) (unhide H1)
                              have HR := hide (And.intro hput hM)
                              clear hput hM
                              go_wp2
                              obtain ⟨hA1, hA2⟩ := unhide HAdd _ _ fun x => Tr.pos hp
                              exact ⟨⟨true, i + 1, ins S' o, T', rfl, by omega, by simp, (unhide HR).1.below (unhide HB) (by omega), (unhide HR).2, (unhide H2).put (unhide HR).1 (by omega), hA1, .inr ⟨rfl, unhide HLast _ _ hA2⟩⟩, by simp [intOf]; omega⟩
                            · have d1 : decide (0 < o) = false := by simp; omega
                              have hneg : o < 0 := by omega
                              have hw : IntKind.i64.wrap (-o) = -o := by simp only [IntKind.wrap_i64]; omega
                              obtain ⟨w2, hr, hput, hM⟩ := mu (k := -o) (unhide H2)
                              have HR := hide (And.intro hput hM)
                              clear hput hM
                              go_wp2
                              obtain ⟨hA1, hA2⟩ := unhide HAdd _ _ fun x => Tr.mns hneg
                              exact ⟨⟨true, i + 1, S', ins T' (-o), rfl, by omega, by simp, (unhide HR).1.below (unhide HB) (by omega), (unhide H1).put (unhide HR).1 (by omega), (unhide HR).2, hA1, .inr ⟨rfl, unhide HLast _ _ hA2⟩⟩, by simp [intOf]; omega⟩
                · have hi' : i = m := by omega
                  subst hi'
                  clear hi hi0
                  go_wp2
                  refine ⟨⟨g, S', T', rfl, unhide HB, unhide H1, unhide H2, unhide HT, fun hg d hd hwd => ?_⟩, ?_⟩
                  · rcases unhide HCs with ⟨_, hS, hTe, hall⟩ | ⟨h, _⟩
                    · obtain ⟨k, hk, rfl⟩ := List.getElem_of_mem hd
                      rw [hS, hTe]
                      exact hall k hk (by rw [← unhide HM]; exact hk) hwd
                    · rw [hg] at h; cases h
                  · rw [(unhide H1).told, (unhide H2).told, (unhide HS1).1.told, (unhide HS1).2.told]
                    rcases unhide HCs with ⟨rfl, rfl, rfl, _⟩ | ⟨rfl, h⟩
                    · simp [bN]
                    · simp [bN]; omega
end Go.Proofs.Ytmkkhpoedlbafaa
