/- Parse at right texts. -/
import Derived.Test.YtdkenobgfgmepaaDoorZAE
import Derived.Laws.Strings
import Derived.Lib.Builder
import Derived.Lib.UnsafeStr
import Derived.Lib.AppendStr
import Derived.Laws.AppendOwn
import Derived.Shelf.RegionOpenPlain
import Derived.Test.YtdkenobgfgmepaaDoorZAB
set_option linter.unusedVariables false
set_option linter.unusedSimpArgs false

/- The document's words: avowref3.Word. -/
namespace Go.Proofs.YtdkenobgfgmepaaDoor
open Go Go.RowKit
theorem nil_of (s : ByteArray) (h : s.size = 0) : (s.toList == []) = true := by
  rw [ByteArray.toList_eq]
  have h2 : s.data.toList.length = s.size := by simp
  rw [List.length_eq_zero_iff.1 (h2.trans h)]
  rfl
theorem nil_not (s : ByteArray) (h : s.size ≠ 0) : (s.toList == []) = false := by
  rw [ByteArray.toList_eq]
  have h2 : s.data.toList.length = s.size := by simp
  cases hl : s.data.toList with
  | nil => rw [hl] at h2; exact absurd h2.symm h
  | cons a l => rfl
def rsv : List ByteArray := [{ data := #[110, 111, 116] }, { data := #[97, 110, 100] }, { data := #[111, 114] }, { data := #[105, 102, 102] }, { data := #[105, 116, 101] }, { data := #[110, 101, 103] }, { data := #[102, 111, 114, 97, 108, 108] }, { data := #[112, 97, 116, 116, 101, 114, 110] }, { data := #[116, 114, 117, 101] }, { data := #[102, 97, 108, 115, 101] }, { data := #[105, 110, 116] }, { data := #[98, 111, 111, 108] }, { data := #[111, 98, 106] }]
theorem isRes_any (s : ByteArray) : isRes s = rsv.any (fun x => x.toList == s.toList) := by
  have hc : ∀ x : List UInt8, (x == s.data.toList) = (s.data.toList == x) := fun x => by
    rw [Bool.eq_iff_iff, beq_iff_eq, beq_iff_eq]
    exact eq_comm
  simp only [rsv, List.any_cons, List.any_nil, isRes, ByteArray.toList_eq, hc, Bool.or_assoc, Bool.or_false]
set_option maxRecDepth 100000 in
set_option maxHeartbeats 16000000 in
theorem Word_any (s : ByteArray) (w : World) (hs : s.size ≤ 9223372036854775807) : Calls Tryd.prog 33 #[.string s] w (BPost (IsWord s) w) := by
  by_cases h0 : s.size = 0
  · have d0 := nil_of s h0
    have hw := hide (show ¬ IsWord s from fun h => by have := h.1; omega)
    go_enter Tryd.func33, Tryd.ntmps33
    go_wp2
    go_ret
    exact ⟨false, rfl, ⟨fun h => (by cases h), fun h => absurd h (unhide hw)⟩, Below.refl _ _⟩
  have d0 := nil_not s h0
  by_cases h1 : 40 < s.size
  · have d1 : decide (40 < (s.size : Int)) = true := by simp; omega
    have hw := hide (show ¬ IsWord s from fun h => by have := h.2.1; omega)
    go_enter Tryd.func33, Tryd.ntmps33
    go_wp2
    go_ret
    exact ⟨false, rfl, ⟨fun h => (by cases h), fun h => absurd h (unhide hw)⟩, Below.refl _ _⟩
  have d1 : decide (40 < (s.size : Int)) = false := by simp; omega
  have hp : 0 < s.size := by omega
  have hb : s.size ≤ 40 := by omega
  clear hs h0 h1
  have HNd := hide (show (¬ (48 ≤ (s[0]'hp).toNat ∧ (s[0]'hp).toNat ≤ 57)) ∨ ¬ IsWord s from by
    by_cases hd : 48 ≤ (s[0]'hp).toNat ∧ (s[0]'hp).toNat ≤ 57
    · right
      intro h
      have h3 := h.2.2.2 0 hp hp
      unfold isLetter isDig at h3
      omega
    · exact .inl hd)
  by_cases hd : 48 ≤ (s[0]'hp).toNat ∧ (s[0]'hp).toNat ≤ 57
  · have hw := hide (show ¬ IsWord s from (unhide HNd).resolve_left fun h => h hd)
    have t0 : decide ((48 : Int) ≤ ((s[0]'hp).toNat : Int)) = true := by simp; omega
    have t1 : decide (((s[0]'hp).toNat : Int) ≤ (57 : Int)) = true := by simp; omega
    go_enter Tryd.func33, Tryd.ntmps33
    go_wp2
    go_ret
    exact ⟨false, rfl, ⟨fun h => (by cases h), fun h => absurd h (unhide hw)⟩, Below.refl _ _⟩
  have HF := hide hd
  have hcc : decide ((48 : Int) ≤ ((s[0]'hp).toNat : Int)) = false ∨ (decide ((48 : Int) ≤ ((s[0]'hp).toNat : Int)) = true ∧ decide (((s[0]'hp).toNat : Int) ≤ (57 : Int)) = false) := by
    by_cases h : 48 ≤ (s[0]'hp).toNat
    · right
      simp
      omega
    · left
      simp
      omega
  clear hd HNd
  rcases hcc with t0 | ⟨t0, t1⟩
  all_goals
    go_enter Tryd.func33, Tryd.ntmps33
    go_wp2
    clear t0
    try clear t1
    go_loop [3] (fun iv => ∃ i : Nat, i ≤ s.size ∧ iv = .int .i64 i ∧ ∀ j, j < i → okAt s j) (fun iv => s.size - (intOf iv).toNat)
    case atStart => exact ⟨0, Nat.zero_le _, rfl, fun j hj => by omega⟩
    case round =>
      obtain ⟨i, hi0, rfl, hall⟩ := hrel
      have HAll := hide hall
      clear hall
      by_cases hi : i < s.size
      · have hfirst := hide (show i = 0 → ¬ isDig (s[i]'hi).toNat from fun e => by subst e; exact unhide HF)
        have HI := hide (show okAt s i → ∀ j, j < i + 1 → okAt s j from fun hok j hj => by
          by_cases he : j < i
          · exact unhide HAll j he
          · rw [show j = i by omega]; exact hok)
        have HBd := hide (show ¬ (isLetter (s[i]'hi).toNat ∨ isDig (s[i]'hi).toNat) → ¬ IsWord s from fun hg hw => by
          rcases hw.2.2.2 i hi hi with h | h
          · exact hg (.inl h)
          · exact hg (.inr h.1))
        have hcase : (s[i]'hi).toNat ≤ 47 ∨ (48 ≤ (s[i]'hi).toNat ∧ (s[i]'hi).toNat ≤ 57) ∨ (58 ≤ (s[i]'hi).toNat ∧ (s[i]'hi).toNat ≤ 64) ∨ (65 ≤ (s[i]'hi).toNat ∧ (s[i]'hi).toNat ≤ 90) ∨ (91 ≤ (s[i]'hi).toNat ∧ (s[i]'hi).toNat ≤ 94) ∨ (s[i]'hi).toNat = 95 ∨ (s[i]'hi).toNat = 96 ∨ (97 ≤ (s[i]'hi).toNat ∧ (s[i]'hi).toNat ≤ 122) ∨ 123 ≤ (s[i]'hi).toNat := by omega
        rcases hcase with hc | hc | hc | hc | hc | hc | hc | hc | hc
        · have t0 : decide ((97 : Int) ≤ ((s[i]'hi).toNat : Int)) = false := by simp; omega
          have t1 : decide (((s[i]'hi).toNat : Int) ≤ (122 : Int)) = true := by simp; omega
          have t2 : decide ((65 : Int) ≤ ((s[i]'hi).toNat : Int)) = false := by simp; omega
          have t3 : decide (((s[i]'hi).toNat : Int) ≤ (90 : Int)) = true := by simp; omega
          have t4 : decide ((48 : Int) ≤ ((s[i]'hi).toNat : Int)) = false := by simp; omega
          have t5 : decide (((s[i]'hi).toNat : Int) ≤ (57 : Int)) = true := by simp; omega
          have t6 : (((s[i]'hi).toNat : Int) == (95 : Int)) = false := beq_eq_false_iff_ne.2 (by omega)
          have hw := hide (unhide HBd (by unfold isLetter isDig; omega))
          clear hc
          go_wp2
          go_ret
          exact ⟨false, rfl, ⟨fun h => (by cases h), fun h => absurd h (unhide hw)⟩, Below.refl _ _⟩
        · have t0 : decide ((97 : Int) ≤ ((s[i]'hi).toNat : Int)) = false := by simp; omega
          have t1 : decide (((s[i]'hi).toNat : Int) ≤ (122 : Int)) = true := by simp; omega
          have t2 : decide ((65 : Int) ≤ ((s[i]'hi).toNat : Int)) = false := by simp; omega
          have t3 : decide (((s[i]'hi).toNat : Int) ≤ (90 : Int)) = true := by simp; omega
          have t4 : decide ((48 : Int) ≤ ((s[i]'hi).toNat : Int)) = true := by simp; omega
          have t5 : decide (((s[i]'hi).toNat : Int) ≤ (57 : Int)) = true := by simp; omega
          have t6 : (((s[i]'hi).toNat : Int) == (95 : Int)) = false := beq_eq_false_iff_ne.2 (by omega)
          have hok := hide (show okAt s i from fun h => .inr ⟨by unfold isDig; omega, fun e => unhide hfirst e (by unfold isDig; omega)⟩)
          clear hc
          go_wp2
          exact ⟨⟨i + 1, by omega, by simp, unhide HI (unhide hok)⟩, by simp [intOf]; omega⟩
        · have t0 : decide ((97 : Int) ≤ ((s[i]'hi).toNat : Int)) = false := by simp; omega
          have t1 : decide (((s[i]'hi).toNat : Int) ≤ (122 : Int)) = true := by simp; omega
          have t2 : decide ((65 : Int) ≤ ((s[i]'hi).toNat : Int)) = false := by simp; omega
          have t3 : decide (((s[i]'hi).toNat : Int) ≤ (90 : Int)) = true := by simp; omega
          have t4 : decide ((48 : Int) ≤ ((s[i]'hi).toNat : Int)) = true := by simp; omega
          have t5 : decide (((s[i]'hi).toNat : Int) ≤ (57 : Int)) = false := by simp; omega
          have t6 : (((s[i]'hi).toNat : Int) == (95 : Int)) = false := beq_eq_false_iff_ne.2 (by omega)
          have hw := hide (unhide HBd (by unfold isLetter isDig; omega))
          clear hc
          go_wp2
          go_ret
          exact ⟨false, rfl, ⟨fun h => (by cases h), fun h => absurd h (unhide hw)⟩, Below.refl _ _⟩
        · have t0 : decide ((97 : Int) ≤ ((s[i]'hi).toNat : Int)) = false := by simp; omega
          have t1 : decide (((s[i]'hi).toNat : Int) ≤ (122 : Int)) = true := by simp; omega
          have t2 : decide ((65 : Int) ≤ ((s[i]'hi).toNat : Int)) = true := by simp; omega
          have t3 : decide (((s[i]'hi).toNat : Int) ≤ (90 : Int)) = true := by simp; omega
          have t4 : decide ((48 : Int) ≤ ((s[i]'hi).toNat : Int)) = true := by simp; omega
          have t5 : decide (((s[i]'hi).toNat : Int) ≤ (57 : Int)) = false := by simp; omega
          have t6 : (((s[i]'hi).toNat : Int) == (95 : Int)) = false := beq_eq_false_iff_ne.2 (by omega)
          have hok := hide (show okAt s i from fun h => .inl (by unfold isLetter; omega))
          clear hc
          go_wp2
          exact ⟨⟨i + 1, by omega, by simp, unhide HI (unhide hok)⟩, by simp [intOf]; omega⟩
        · have t0 : decide ((97 : Int) ≤ ((s[i]'hi).toNat : Int)) = false := by simp; omega
          have t1 : decide (((s[i]'hi).toNat : Int) ≤ (122 : Int)) = true := by simp; omega
          have t2 : decide ((65 : Int) ≤ ((s[i]'hi).toNat : Int)) = true := by simp; omega
          have t3 : decide (((s[i]'hi).toNat : Int) ≤ (90 : Int)) = false := by simp; omega
          have t4 : decide ((48 : Int) ≤ ((s[i]'hi).toNat : Int)) = true := by simp; omega
          have t5 : decide (((s[i]'hi).toNat : Int) ≤ (57 : Int)) = false := by simp; omega
          have t6 : (((s[i]'hi).toNat : Int) == (95 : Int)) = false := beq_eq_false_iff_ne.2 (by omega)
          have hw := hide (unhide HBd (by unfold isLetter isDig; omega))
          clear hc
          go_wp2
          go_ret
          exact ⟨false, rfl, ⟨fun h => (by cases h), fun h => absurd h (unhide hw)⟩, Below.refl _ _⟩
        · have t0 : decide ((97 : Int) ≤ ((s[i]'hi).toNat : Int)) = false := by simp; omega
          have t1 : decide (((s[i]'hi).toNat : Int) ≤ (122 : Int)) = true := by simp; omega
          have t2 : decide ((65 : Int) ≤ ((s[i]'hi).toNat : Int)) = true := by simp; omega
          have t3 : decide (((s[i]'hi).toNat : Int) ≤ (90 : Int)) = false := by simp; omega
          have t4 : decide ((48 : Int) ≤ ((s[i]'hi).toNat : Int)) = true := by simp; omega
          have t5 : decide (((s[i]'hi).toNat : Int) ≤ (57 : Int)) = false := by simp; omega
          have t6 : (((s[i]'hi).toNat : Int) == (95 : Int)) = true := by rw [hc]; rfl
          have hok := hide (show okAt s i from fun h => .inl (by unfold isLetter; omega))
          clear hc
          go_wp2
          exact ⟨⟨i + 1, by omega, by simp, unhide HI (unhide hok)⟩, by simp [intOf]; omega⟩
        · have t0 : decide ((97 : Int) ≤ ((s[i]'hi).toNat : Int)) = false := by simp; omega
          have t1 : decide (((s[i]'hi).toNat : Int) ≤ (122 : Int)) = true := by simp; omega
          have t2 : decide ((65 : Int) ≤ ((s[i]'hi).toNat : Int)) = true := by simp; omega
          have t3 : decide (((s[i]'hi).toNat : Int) ≤ (90 : Int)) = false := by simp; omega
          have t4 : decide ((48 : Int) ≤ ((s[i]'hi).toNat : Int)) = true := by simp; omega
          have t5 : decide (((s[i]'hi).toNat : Int) ≤ (57 : Int)) = false := by simp; omega
          have t6 : (((s[i]'hi).toNat : Int) == (95 : Int)) = false := beq_eq_false_iff_ne.2 (by omega)
          have hw := hide (unhide HBd (by unfold isLetter isDig; omega))
          clear hc
          go_wp2
          go_ret
          exact ⟨false, rfl, ⟨fun h => (by cases h), fun h => absurd h (unhide hw)⟩, Below.refl _ _⟩
        · have t0 : decide ((97 : Int) ≤ ((s[i]'hi).toNat : Int)) = true := by simp; omega
          have t1 : decide (((s[i]'hi).toNat : Int) ≤ (122 : Int)) = true := by simp; omega
          have t2 : decide ((65 : Int) ≤ ((s[i]'hi).toNat : Int)) = true := by simp; omega
          have t3 : decide (((s[i]'hi).toNat : Int) ≤ (90 : Int)) = false := by simp; omega
          have t4 : decide ((48 : Int) ≤ ((s[i]'hi).toNat : Int)) = true := by simp; omega
          have t5 : decide (((s[i]'hi).toNat : Int) ≤ (57 : Int)) = false := by simp; omega
          have t6 : (((s[i]'hi).toNat : Int) == (95 : Int)) = false := beq_eq_false_iff_ne.2 (by omega)
          have hok := hide (show okAt s i from fun h => .inl (by unfold isLetter; omega))
          clear hc
          go_wp2
          exact ⟨⟨i + 1, by omega, by simp, unhide HI (unhide hok)⟩, by simp [intOf]; omega⟩
        · have t0 : decide ((97 : Int) ≤ ((s[i]'hi).toNat : Int)) = true := by simp; omega
          have t1 : decide (((s[i]'hi).toNat : Int) ≤ (122 : Int)) = false := by simp; omega
          have t2 : decide ((65 : Int) ≤ ((s[i]'hi).toNat : Int)) = true := by simp; omega
          have t3 : decide (((s[i]'hi).toNat : Int) ≤ (90 : Int)) = false := by simp; omega
          have t4 : decide ((48 : Int) ≤ ((s[i]'hi).toNat : Int)) = true := by simp; omega
          have t5 : decide (((s[i]'hi).toNat : Int) ≤ (57 : Int)) = false := by simp; omega
          have t6 : (((s[i]'hi).toNat : Int) == (95 : Int)) = false := beq_eq_false_iff_ne.2 (by omega)
          have hw := hide (unhide HBd (by unfold isLetter isDig; omega))
          clear hc
          go_wp2
          go_ret
          exact ⟨false, rfl, ⟨fun h => (by cases h), fun h => absurd h (unhide hw)⟩, Below.refl _ _⟩
      · have HOk := hide (show ∀ j, j < s.size → okAt s j from fun j hj => unhide HAll j (by omega))
        clear HAll
        go_wp2
        obtain ⟨W, eW, hbW, hsW, hcW, hhW⟩ := box_new w (rsv.map Value.string).toArray 9
        rw [show w.alloc (.cells (rsv.map Value.string).toArray 9) = w.alloc (.cells #[Value.string { data := #[110, 111, 116] }, Value.string { data := #[97, 110, 100] }, Value.string { data := #[111, 114] }, Value.string { data := #[105, 102, 102] }, Value.string { data := #[105, 116, 101] }, Value.string { data := #[110, 101, 103] }, Value.string { data := #[102, 111, 114, 97, 108, 108] }, Value.string { data := #[112, 97, 116, 116, 101, 114, 110] }, Value.string { data := #[116, 114, 117, 101] }, Value.string { data := #[102, 97, 108, 115, 101] }, Value.string { data := #[105, 110, 116] }, Value.string { data := #[98, 111, 111, 108] }, Value.string { data := #[111, 98, 106] }] 9) from rfl] at eW
        rw [eW]
        have HC := hide (show ∀ j (h : j < rsv.length), W.cell? ⟨w.heap.size, j, none⟩ = some (.string rsv[j]) from fun j h => hcW j _ (by simp [h]))
        have HBW := hide hbW
        clear eW hbW hcW hhW hsW
        go_loop [6] (fun iv => ∃ i : Nat, i ≤ 13 ∧ iv = .int .i64 i ∧ ∀ j (h : j < rsv.length), j < i → (rsv[j].toList == s.toList) = false) (fun iv => 13 - (intOf iv).toNat)
        case atStart => exact ⟨0, by omega, rfl, fun j h hj => by omega⟩
        case round =>
          obtain ⟨m, hm0, rfl, hno⟩ := hrel
          have HNo := hide hno
          clear hno
          by_cases hm : m < 13
          · have hcell := unhide HC m hm
            have hml : m < rsv.length := hm
            cases e : (rsv[m].toList == s.toList) with
            | true =>
              have hw := hide (show ¬ IsWord s from fun h => by
                have h3 := h.2.2.1
                rw [isRes_any, List.any_eq_false] at h3
                exact h3 _ (List.getElem_mem hml) e)
              generalize rsv[m] = x at *
              go_wp2
              go_ret
              exact ⟨false, rfl, ⟨fun h => (by cases h), fun h => absurd h (unhide hw)⟩, unhide HBW⟩
            | false =>
              have HN2 := hide (show ∀ j (h : j < rsv.length), j < m + 1 → (rsv[j].toList == s.toList) = false from fun j h hj => by
                by_cases he : j < m
                · exact unhide HNo j h he
                · obtain rfl : j = m := by omega
                  exact e)
              generalize rsv[m] = x at *
              go_wp2
              exact ⟨⟨m + 1, by omega, by simp, unhide HN2⟩, by simp [intOf]; omega⟩
          · have hw := hide (show IsWord s from ⟨hp, hb, by
              rw [isRes_any, List.any_eq_false]
              intro x hx
              obtain ⟨j, hj, rfl⟩ := List.mem_iff_getElem.1 hx
              rw [unhide HNo j hj (by have : rsv.length = 13 := rfl; omega)]
              decide, unhide HOk⟩)
            go_wp2
            go_ret
            exact ⟨true, rfl, ⟨fun _ => unhide hw, fun _ => rfl⟩, unhide HBW⟩
end Go.Proofs.YtdkenobgfgmepaaDoor

/- Small functions: sorts' words, a TAll's body. -/
namespace Go.Proofs.YtdkenobgfgmepaaDoor
open Go Go.RowKit
set_option maxRecDepth 100000 in
set_option maxHeartbeats 16000000 in
theorem knownS_any (x : Int) (w : World) : Calls Tryd.prog 62 #[.int .i64 x] w fun e w' => e = .returned (.bool (decide (1 ≤ x) && decide (x ≤ 3))) ∧ w' = w := by
  cases d1 : decide (1 ≤ x) <;> cases d2 : decide (x ≤ 3)
  all_goals
    go_enter Tryd.func62, Tryd.ntmps62
    go_wp2
    go_ret
    exact ⟨rfl, rfl⟩
/-- A sort's word. -/
def sortW (x : Int) : ByteArray := if x = 1 then ⟨#[105, 110, 116]⟩ else if x = 2 then ⟨#[98, 111, 111, 108]⟩ else if x = 3 then ⟨#[111, 98, 106]⟩ else ⟨#[63]⟩
set_option maxRecDepth 100000 in
set_option maxHeartbeats 16000000 in
theorem sortWord_any (x : Int) (w : World) : Calls Tryd.prog 88 #[.int .i64 x] w fun e w' => e = .returned (.string (sortW x)) ∧ w' = w := by
  have hc : x = 1 ∨ x = 2 ∨ x = 3 ∨ (x ≠ 1 ∧ x ≠ 2 ∧ x ≠ 3) := by omega
  rcases hc with rfl | rfl | rfl | ⟨h1, h2, h3⟩
  · go_enter Tryd.func88, Tryd.ntmps88
    go_wp2
    go_ret
    exact ⟨rfl, rfl⟩
  · go_enter Tryd.func88, Tryd.ntmps88
    go_wp2
    go_ret
    exact ⟨rfl, rfl⟩
  · go_enter Tryd.func88, Tryd.ntmps88
    go_wp2
    go_ret
    exact ⟨rfl, rfl⟩
  · have t1 := beq_eq_false_iff_ne.2 h1
    have t2 := beq_eq_false_iff_ne.2 h2
    have t3 := beq_eq_false_iff_ne.2 h3
    have hw := hide (show sortW x = ⟨#[63]⟩ by unfold sortW; rw [if_neg h1, if_neg h2, if_neg h3])
    clear h1 h2 h3
    go_enter Tryd.func88, Tryd.ntmps88
    go_wp2
    go_ret
    exact ⟨by rw [unhide hw]; rfl, rfl⟩
set_option maxRecDepth 100000 in
set_option maxHeartbeats 16000000 in
theorem bodyOf_any {B d : Nat} {w : World} {b o : Nat} {t : Tm} (hT : TmAt w B d b o t) (hB : B ≤ w.heap.size) :
    Calls Tryd.prog 46 #[.pointer (some ⟨b, o, none⟩)] w fun e w' => Below w.heap.size w w' ∧
      ((¬ (t.op = 19 ∧ t.l.length = 1) ∧ e = .returned (.tuple #[.pointer none, .bool false])) ∨ (t.op = 19 ∧ ∃ u b' o', t.l = [u] ∧ e = .returned (.tuple #[.pointer (some ⟨b', o', none⟩), .bool true]) ∧ ∃ d', d = d' + 1 ∧ TmAt w B d' b' o' u)) := by
  cases d with
  | zero => exact hT.elim
  | succ d =>
  obtain ⟨hb, h1, h2, aL, aV, aP, cL, cV, cP, hrg, hRow, hV, hP, _⟩ := hT
  have c0 : w.cell? ⟨b, o, none⟩ = some (.int .i64 t.op) := hrg 0 _ rfl
  have c4 : w.cell? ⟨b, o + 4, none⟩ = some (.slice aL t.l.length cL) := hrg 4 _ rfl
  have HRow := hide hRow
  have hmax : t.l.length ≤ 281474976710656 := by have := hRow.1; have := hRow.2.1; omega
  have hbw : b < w.heap.size := by omega
  have C0 := hide c0
  clear h1 h2 hrg hRow hV hP c0
  go_enter Tryd.func46, Tryd.ntmps46
  go_wp2_with fail
  refine (view_any b o t.op w (unhide C0) hbw).mono ?_
  rintro e w2 ⟨rfl, hb2⟩
  have c4' : w2.cell? ⟨b, o + 4, none⟩ = some (.slice aL t.l.length cL) := (hb2.cell (p := ⟨b, o + 4, none⟩) hbw).trans c4
  have hs2 := hb2.size
  have HB := hide hb2
  have hbw2 : b < w2.heap.size := by omega
  clear hb2 c4
  by_cases h19 : t.op = 19
  · have hkk : kindOf t.op = 112 := by rw [h19]; rfl
    rw [hkk]
    clear hkk
    have ta1 := fun w => ta_yes (ty := 112) (v := .agg #[.pointer (some ⟨b, o, none⟩)]) (w := w) rfl rfl
    have H19 := hide h19
    clear h19
    by_cases hl1 : t.l.length = 1
    · obtain ⟨u, hu⟩ := List.length_eq_one_iff.1 hl1
      obtain ⟨b', o', rfl, hbB, hAt⟩ := (unhide HRow).2.2 (by omega)
      have HA := hide (hAt 0 (by omega) u (by rw [hu]; rfl))
      have HU := hide hu
      rw [hl1] at c4'
      clear hAt hu hl1
      go_wp2
      refine ⟨rfl, _, results_tmp2 rfl _ _ _, ?_⟩
      have ha := unhide HA
      rw [Nat.zero_mul, Nat.add_zero] at ha
      exact ⟨(unhide HB).alloc hs2 _, .inr ⟨unhide H19, u, b', o', unhide HU, rfl, d, rfl, ha⟩⟩
    · have t1 : ((t.l.length : Int) == 1) = false := beq_eq_false_iff_ne.2 (by omega)
      have HL := hide hl1
      clear hl1
      go_wp2
      refine ⟨rfl, _, results_tmp2 rfl _ _ _, ?_⟩
      exact ⟨(unhide HB).alloc hs2 _, .inl ⟨fun h => unhide HL h.2, rfl⟩⟩
  · have hk2 := kindOf_all h19
    have ta2 := fun w => ta_no (ty := 112) (v := .agg #[.pointer (some ⟨b, o, none⟩)]) (z := .agg #[.pointer none]) (w := w) hk2 rfl rfl (by go_simp)
    have H19 := hide h19
    generalize kindOf t.op = kk at *
    clear h19 hk2
    go_wp2
    refine ⟨rfl, _, results_tmp2 rfl _ _ _, ?_⟩
    exact ⟨(unhide HB).alloc hs2 _, .inl ⟨fun h => unhide H19 h.1, rfl⟩⟩
end Go.Proofs.YtdkenobgfgmepaaDoor

/- A strings.Builder within a writer. -/
namespace Go.Proofs.YtdkenobgfgmepaaDoor
open Go Go.RowKit
/-- Block k is no row of bytes. -/
def NB (w : World) (k : Nat) : Prop := ∀ cs fr, w.heap[k]? ≠ some (.cells cs 5 fr)
/-- All stands, but the writer r and rows of bytes, these not below B. -/
structure WF (B r : Nat) (w w' : World) : Prop where
  os : w'.os = w.os
  tape : w'.tape = w.tape
  output : w'.output = w.output
  size : w.heap.size ≤ w'.heap.size
  block : ∀ k, k < w.heap.size → (k < B ∨ k ≠ r ∧ NB w k) → w'.heap[k]? = w.heap[k]?
theorem WF.refl (B r : Nat) (w : World) : WF B r w w := ⟨rfl, rfl, rfl, Nat.le_refl _, fun _ _ _ => rfl⟩
theorem WF.trans {B r : Nat} {a b c : World} (h : WF B r a b) (k : WF B r b c) : WF B r a c :=
  ⟨k.os.trans h.os, k.tape.trans h.tape, k.output.trans h.output, Nat.le_trans h.size k.size, fun j hj hr => by
    have e := h.block j hj hr
    refine (k.block j (Nat.lt_of_lt_of_le hj h.size) ?_).trans e
    rcases hr with hr | ⟨hr, hn⟩
    · exact .inl hr
    · exact .inr ⟨hr, fun cs fr hc => hn cs fr (e.symm.trans hc)⟩⟩
theorem WF.of {B r C : Nat} {w w' : World} (h : Below C w w') (hC : w.heap.size ≤ C) : WF B r w w' := ⟨h.os, h.tape, h.output, h.size, fun k hk _ => h.block k (Nat.lt_of_lt_of_le hk hC)⟩
theorem WF.below {B r : Nat} {w w' : World} (h : WF B r w w') (hs : B ≤ w.heap.size) : Below B w w' := ⟨h.os, h.tape, h.output, h.size, fun k hk => h.block k (by omega) (.inl hk)⟩
theorem WF.alloc {B r : Nat} {a w : World} (h : WF B r a w) (o : Obj) : WF B r a (w.alloc o) :=
  h.trans (WF.of ((Below.refl w.heap.size w).alloc (Nat.le_refl _) o) (Nat.le_refl _))
theorem WF.set {B r : Nat} {a w : World} (h : WF B r a w) (hB : B ≤ r) (o : Nat) (u : Value) : WF B r a (w.setCell ⟨r, o, none⟩ u) := by
  refine h.trans ⟨rfl, rfl, rfl, by simp, fun k _ hk => ?_⟩
  exact Below.heap_setCell w ⟨r, o, none⟩ u k (by rcases hk with hk | ⟨hk, _⟩ <;> (show k ≠ r; omega))
theorem WF.blk {B r q : Nat} {w w' : World} {cs : Array Value} {ty : TypeId} (h : WF B r w w') (hx : w.heap[q]? = some (.cells cs ty)) (hq : q ≠ r) (ht : ty ≠ 5) : w'.heap[q]? = some (.cells cs ty) := by
  rw [h.block q (Array.getElem?_eq_some_iff.1 hx).1 (.inr ⟨hq, fun cs' fr e => by rw [hx] at e; injection e with e; injection e with _ e; exact ht e⟩)]
  exact hx
/-- A writer that has written these bytes, and isn't too deep. -/
def WB (w : World) (B r : Nat) (l : List UInt8) : Prop := B ≤ r ∧ ∃ p v, (p = .pointer none ∨ p = .pointer (some ⟨r, 0, none⟩)) ∧ w.heap[r]? = some (.cells #[p, v, .bool false] 74) ∧ w.ownsRow B 5 1 v l.length (Lib.byteCells l) ∧ (l = [] → v = .slice none 0 0)
theorem WB.lt {w : World} {B r : Nat} {l : List UInt8} (h : WB w B r l) : r < w.heap.size := by
  obtain ⟨_, p, v, _, h, _⟩ := h
  exact (Array.getElem?_eq_some_iff.1 h).1
theorem own_same {w w' : World} {B : Nat} {e : TypeId} {v : Value} {n : Nat} {xs : List Value} (h : w.ownsRow B e 1 v n xs) (hb : ∀ k, v.ownBlock = some k → w'.heap[k]? = w.heap[k]?) : w'.ownsRow B e 1 v n xs := by
  refine ⟨h.1, h.2.imp id ?_⟩
  rintro ⟨g, cap, cur, rfl, h1, h2, h3⟩
  exact ⟨g, cap, cur, rfl, h1, by rw [hb g rfl]; exact h2, h3⟩
theorem WB.below {w w' : World} {B r C : Nat} {l : List UInt8} (h : WB w B r l) (hb : Below C w w') (hC : w.heap.size ≤ C) : WB w' B r l := by
  have hl := h.lt
  obtain ⟨h1, p, v, hp, h2, h3, h4⟩ := h
  refine ⟨h1, p, v, hp, by rw [hb.block r (by omega)]; exact h2, own_same h3 fun k hk => hb.block k ?_, h4⟩
  rcases h3.2 with ⟨rfl, _⟩ | ⟨g, cap, cur, rfl, _, hg, _⟩
  · cases hk
  · cases hk
    have := (Array.getElem?_eq_some_iff.1 hg).1
    show g < C
    omega
theorem inf_of {P : Program} {t : TypeId} {z : Value} {n b : Nat} (h : (P.info? t).map (fun i => (i.zero, i.size, i.bytes)) = some (some z, n, b)) : ∃ i, P.info? t = some i ∧ i.zero = some z ∧ i.size = n ∧ i.bytes = b := by
  obtain ⟨i, h1, h2⟩ := Option.map_eq_some_iff.1 h
  simp only [Prod.mk.injEq] at h2
  exact ⟨i, h1, h2⟩
theorem infByte : (Tryd.prog.info? 5).map (fun i => (i.zero, i.size, i.bytes)) = some (some (.int .u8 0), 1, 1) := by kernel_rfl
theorem infBuilder : (Tryd.prog.info? 72).map (·.size) = some 2 := by kernel_rfl
theorem liesBuilder : liesAt Tryd.prog Tryd.prog.depth 74 (3 / Tryd.prog.cellsOf 74) 0 72 1 = true := by kernel_rfl
theorem tBuf : Tryd.prog.underlying 70 = some (.slice 5) := by kernel_rfl
theorem tStr : Tryd.prog.underlying 9 = some .string := by kernel_rfl
theorem tPB : Tryd.prog.underlying 69 = some (.pointer 72) := by kernel_rfl
theorem tUns : Tryd.prog.underlying 209 = some .unsafePointer := by kernel_rfl
theorem tPU8 : Tryd.prog.underlying 137 = some (.pointer 5) := by kernel_rfl
def ZPost (B r : Nat) (v : Value) (w : World) (e : Ending) (w' : World) : Prop := e = .returned (.tuple #[]) ∧ w'.heap[r]? = some (.cells #[.pointer (some ⟨r, 0, none⟩), v, .bool false] 74) ∧ w'.heap.size = w.heap.size ∧ (∀ k, k ≠ r → w'.heap[k]? = w.heap[k]?) ∧ WF B r w w'
set_option maxRecDepth 100000 in
set_option maxHeartbeats 4000000 in
theorem copyCheck_any (B r : Nat) (p v : Value) (w : World) (hB : B ≤ r) (hp : p = .pointer none ∨ p = .pointer (some ⟨r, 0, none⟩)) (h : w.heap[r]? = some (.cells #[p, v, .bool false] 74)) :
    Calls Tryd.prog 89 #[.pointer (some ⟨r, 0, none⟩)] w (ZPost B r v w) := by
  obtain ⟨j, hj, hjs⟩ := Option.map_eq_some_iff.1 infBuilder
  obtain ⟨hr, hc, hf⟩ := blk h
  have c0 : w.cell? ⟨r, 0, none⟩ = some p := hc 0 _ rfl
  have f0 := hf 0
  have hsh : w.shape? r = some (74, 3) := by simp [World.shape?, h]
  have H := hide h
  clear h hc hf
  rcases hp with rfl | rfl
  · go_enter Tryd.func89, Tryd.ntmps89
    go_wp2
    rw [Lib.run_to_unsafe w ⟨r, 0, none⟩ tPB tUns hj (by rw [hjs]; decide) hsh (Nat.zero_lt_succ 2)]
    simp only [Result.andThen]
    rw [Oper.upon_value]
    go_wp2
    rw [run_callFunc_extern Tryd.func108 (by kernel_rfl) (by kernel_rfl) (by kernel_rfl) (e := Extern.AbiNoEscape.same) (by kernel_rfl)]
    rw [Lib.run_noEscape]
    simp only [Result.andThen]
    rw [Oper.upon_value]
    go_wp2
    rw [Lib.run_from_unsafe w ⟨r, 0, none⟩ tUns tPB hj hsh liesBuilder]
    simp only [Result.andThen]
    rw [Oper.upon_value]
    go_wp2
    go_end0
    exact ⟨rfl, set_block (unhide H) _, by simp, fun k hk => Below.heap_setCell w ⟨r, 0, none⟩ _ k hk, (WF.refl B r w).set hB 0 _⟩
  · go_enter Tryd.func89, Tryd.ntmps89
    go_wp2
    rw [Lib.run_neq_ptr_same w _ tPB hj]
    go_wp2
    go_end0
    exact ⟨rfl, unhide H, rfl, fun k _ => rfl, WF.refl B r w⟩
/-- Behind a writing. -/
def WPost' (v : Value) (B r : Nat) (l : List UInt8) (w : World) (e : Ending) (w' : World) : Prop := e = .returned v ∧ WB w' B r l ∧ WF B r w w'
theorem grown_WF {B r : Nat} {v : Value} {w w' : World} {n : Nat} {xs : List Value} (hown : w.ownsRow B 5 1 v n xs) (hg : w.grownBy w' v.ownBlock) : WF B r w w' := by
  refine ⟨hg.os, hg.tape, hg.output, hg.size, fun k hk h => hg.block k hk fun e => ?_⟩
  rcases hown.2 with ⟨rfl, _⟩ | ⟨g, cap, cur, rfl, hB, hgb, _⟩
  · cases e
  · have : k = g := by
      have : some k = some g := e
      injection this
    subst this
    rcases h with h | ⟨_, h⟩
    · omega
    · exact h _ _ hgb
theorem own_lt {w : World} {B n : Nat} {v : Value} {xs : List Value} {e : TypeId} (h : w.ownsRow B e 1 v n xs) {k : Nat} (hk : v.ownBlock = some k) : k < w.heap.size := by
  rcases h.2 with ⟨rfl, _⟩ | ⟨g, cap, cur, rfl, _, hg, _⟩
  · cases hk
  · cases hk
    exact (Array.getElem?_eq_some_iff.1 hg).1
set_option maxRecDepth 100000 in
set_option maxHeartbeats 4000000 in
theorem wstr_any (B r : Nat) (l : List UInt8) (s : ByteArray) (w : World) (h : WB w B r l) (hlen : l.length + s.size ≤ 140737488355328) :
    Calls Tryd.prog 70 #[.pointer (some ⟨r, 0, none⟩), .string s] w (WPost' (.tuple #[.int .i64 s.size, .nilIface]) B r (l ++ s.data.toList) w) := by
  obtain ⟨i0, hi, hz0, hz1, hz2⟩ := inf_of infByte
  have hlt := h.lt
  obtain ⟨hB, p, v, hp, hbk, hown, hnil⟩ := h
  have HNil := hide hnil
  clear hnil
  have HO := hide hown
  have HP := hide (And.intro hp hbk)
  clear hown hp hbk
  go_enter Tryd.func70, Tryd.ntmps70
  go_wp2_with fail
  refine (copyCheck_any B r p v w hB (unhide HP).1 (unhide HP).2).mono ?_
  rintro e w1 ⟨rfl, hb1, hs1, hk1, hW1⟩
  have hown1 : w1.ownsRow B 5 1 v l.length (Lib.byteCells l) := own_same (unhide HO) fun k hk => hk1 k fun e => by
    subst e
    exact Lib.ownBlock_ne (unhide HO) (unhide HP).2 (by decide) hk
  obtain ⟨hr1, hc1, hf1⟩ := blk hb1
  have c0 : w1.cell? ⟨r, 0, none⟩ = some (.pointer (some ⟨r, 0, none⟩)) := hc1 0 _ rfl
  have c1 : w1.cell? ⟨r, 1, none⟩ = some v := hc1 1 _ rfl
  have HK := hide (And.intro hk1 hW1)
  have HS1 := hide hs1
  clear hs1
  have HB1 := hide hb1
  have HN := hide hown1
  clear hk1 hW1 hb1 hc1 hf1 hown1
  go_wp2_with (at_builtin; refine Lib.wpList_append_own_string _ rfl _ _ 70 9 rfl B 5 i0 tBuf tStr hi hz0 hz1 hz2 _ _ _ rfl (unhide HN) s rfl ?c3 ?c4 ?c5 ?_)
  case c3 => unfold maxLen; omega
  case c4 => omega
  case c5 => have := unhide HS1; omega
  intro v' w2 hown' hgrow hiff
  have hb2 : w2.heap[r]? = some (.cells #[.pointer (some ⟨r, 0, none⟩), v, .bool false] 74) := by
    rw [hgrow.block r hr1 (fun e => Lib.ownBlock_ne (unhide HN) (unhide HB1) (by decide) e.symm)]
    exact unhide HB1
  obtain ⟨hr2, hc2, hf2⟩ := blk hb2
  have d0 : w2.cell? ⟨r, 0, none⟩ = some (.pointer (some ⟨r, 0, none⟩)) := hc2 0 _ rfl
  have d1 : w2.cell? ⟨r, 1, none⟩ = some v := hc2 1 _ rfl
  have f1 := hf2 1
  obtain ⟨ao, n', cap, rfl⟩ : ∃ ao n' cap, v' = .slice ao n' cap := by
    rcases hown'.2 with ⟨hv, _⟩ | ⟨g, cap, cur, hv, _⟩
    · exact ⟨_, _, _, hv⟩
    · exact ⟨_, _, _, hv⟩
  have HIff := hide hiff
  clear hiff
  have HG := hide (And.intro hgrow hown')
  have HB2 := hide hb2
  clear hgrow hown' hc2 hf2 hb2
  go_wp2
  go_ret2
  obtain ⟨hgrow, hown'⟩ := unhide HG
  have hfin := set_block (o := 1) (unhide HB2) (.slice ao n' cap)
  refine ⟨rfl, ⟨hB, .pointer (some ⟨r, 0, none⟩), .slice ao n' cap, .inr rfl, hfin, ?_, ?_⟩, ((unhide HK).2.trans (grown_WF (unhide HN) hgrow)).set hB 1 _⟩
  case refine_2 =>
    intro h
    have h1 := List.append_eq_nil_iff.1 h
    exact (unhide HIff).2 ⟨unhide HNil h1.1, by
      have e : s.size = s.data.toList.length := rfl
      rw [h1.2] at e
      simpa using e⟩
  have e1 : (l ++ s.data.toList).length = l.length + s.size := by
    rw [List.length_append, Array.length_toList]
    rfl
  rw [e1, show Lib.byteCells (l ++ s.data.toList) = Lib.byteCells l ++ Lib.strCells s by simp [Lib.byteCells, Lib.strCells]]
  refine own_same hown' fun k hk => Below.heap_setCell w2 ⟨r, 1, none⟩ _ k fun e => ?_
  subst e
  exact Lib.ownBlock_ne hown' (unhide HB2) (by decide) hk
set_option maxRecDepth 100000 in
set_option maxHeartbeats 4000000 in
theorem wbyte_any (B r : Nat) (l : List UInt8) (c : UInt8) (w : World) (h : WB w B r l) (hlen : l.length + 1 ≤ 140737488355328) :
    Calls Tryd.prog 71 #[.pointer (some ⟨r, 0, none⟩), .int .u8 c.toNat] w (WPost' .nilIface B r (l ++ [c]) w) := by
  obtain ⟨i0, hi, hz0, hz1, hz2⟩ := inf_of infByte
  have hlt := h.lt
  obtain ⟨hB, p, v, hp, hbk, hown, hnil⟩ := h
  have HNil := hide hnil
  clear hnil
  have HO := hide hown
  have HP := hide (And.intro hp hbk)
  clear hown hp hbk
  go_enter Tryd.func71, Tryd.ntmps71
  go_wp2_with fail
  refine (copyCheck_any B r p v w hB (unhide HP).1 (unhide HP).2).mono ?_
  rintro e w1 ⟨rfl, hb1, hs1, hk1, hW1⟩
  have hown1 : w1.ownsRow B 5 1 v l.length (Lib.byteCells l) := own_same (unhide HO) fun k hk => hk1 k fun e => by
    subst e
    exact Lib.ownBlock_ne (unhide HO) (unhide HP).2 (by decide) hk
  obtain ⟨hr1, hc1, hf1⟩ := blk hb1
  have c0 : w1.cell? ⟨r, 0, none⟩ = some (.pointer (some ⟨r, 0, none⟩)) := hc1 0 _ rfl
  have c1 : w1.cell? ⟨r, 1, none⟩ = some v := hc1 1 _ rfl
  have HK := hide (And.intro hk1 hW1)
  have HS1 := hide hs1
  clear hs1
  have HB1 := hide hb1
  have HN := hide hown1
  clear hk1 hW1 hb1 hc1 hf1 hown1
  go_wp2_with (at_builtin; refine wpList_append_own _ rfl _ _ 70 rfl B 5 i0 (.int .u8 0) 1 1 tBuf hi hz0 hz1 hz2 rfl (by decide) _ _ _ rfl ((unhide HN).alloc _) ⟨w1.heap.size, 0, none⟩ 1 1 [.int .u8 c.toNat] rfl rfl ?c1 ?c2 ?c3 ?c4 ?c5 ?_)
  case c1 =>
    intro j u hj
    match j, hj with
    | 0, hj => simp at hj; subst hj; simp [Addr.add]
  case c2 => intro u hu; simp at hu; subst hu; rfl
  case c3 => unfold maxLen; omega
  case c4 => omega
  case c5 => have := unhide HS1; simp; omega
  intro v' w2 hown' hgrow _
  have hb2 : w2.heap[r]? = some (.cells #[.pointer (some ⟨r, 0, none⟩), v, .bool false] 74) := by
    rw [hgrow.block r (by simp; omega) (fun e => Lib.ownBlock_ne (unhide HN) (unhide HB1) (by decide) e.symm)]
    exact keep_alloc (unhide HB1) _
  obtain ⟨hr2, hc2, hf2⟩ := blk hb2
  have d0 : w2.cell? ⟨r, 0, none⟩ = some (.pointer (some ⟨r, 0, none⟩)) := hc2 0 _ rfl
  have d1 : w2.cell? ⟨r, 1, none⟩ = some v := hc2 1 _ rfl
  have f1 := hf2 1
  obtain ⟨ao, n', cap, rfl⟩ : ∃ ao n' cap, v' = .slice ao n' cap := by
    rcases hown'.2 with ⟨hv, _⟩ | ⟨g, cap, cur, hv, _⟩
    · exact ⟨_, _, _, hv⟩
    · exact ⟨_, _, _, hv⟩
  have HG := hide (And.intro hgrow hown')
  have HB2 := hide hb2
  clear hgrow hown' hc2 hf2 hb2
  go_wp2
  go_ret
  obtain ⟨hgrow, hown'⟩ := unhide HG
  have hfin := set_block (o := 1) (unhide HB2) (.slice ao n' cap)
  refine ⟨rfl, ⟨hB, .pointer (some ⟨r, 0, none⟩), .slice ao n' cap, .inr rfl, hfin, ?_, fun h => by simp at h⟩, (((unhide HK).2.alloc _).trans (grown_WF ((unhide HN).alloc _) hgrow)).set hB 1 _⟩
  rw [show (l ++ [c]).length = l.length + 1 by simp, show Lib.byteCells (l ++ [c]) = Lib.byteCells l ++ [.int .u8 c.toNat] by simp [Lib.byteCells]]
  refine own_same hown' fun k hk => Below.heap_setCell w2 ⟨r, 1, none⟩ _ k fun e => ?_
  subst e
  exact Lib.ownBlock_ne hown' (unhide HB2) (by decide) hk
set_option maxRecDepth 100000 in
set_option maxHeartbeats 4000000 in
theorem wlen_any (B r : Nat) (l : List UInt8) (w : World) (h : WB w B r l) : Calls Tryd.prog 90 #[.pointer (some ⟨r, 0, none⟩)] w fun e w' => e = .returned (.int .i64 l.length) ∧ w' = w := by
  obtain ⟨hB, p, v, hp, hbk, hown, _⟩ := h
  obtain ⟨hr1, hc1, hf1⟩ := blk hbk
  obtain ⟨ao, cap, rfl⟩ : ∃ ao cap, v = .slice ao l.length cap := by
    rcases hown.2 with ⟨hv, h0⟩ | ⟨g, cap, cur, hv, _⟩
    · rw [h0]; exact ⟨_, _, hv⟩
    · exact ⟨_, _, hv⟩
  have c1 : w.cell? ⟨r, 1, none⟩ = some (.slice ao l.length cap) := hc1 1 _ rfl
  clear hc1 hf1 hown hbk hp
  go_enter Tryd.func90, Tryd.ntmps90
  go_wp2
  go_ret
  exact ⟨rfl, rfl⟩
set_option maxRecDepth 100000 in
set_option maxHeartbeats 4000000 in
theorem wout_any (B r : Nat) (l : List UInt8) (w : World) (h : WB w B r l) (h0 : l ≠ []) : Calls Tryd.prog 41 #[.pointer (some ⟨r, 0, none⟩)] w fun e w' => e = .returned (.string ⟨l.toArray⟩) ∧ Below B w w' := by
  obtain ⟨hB, p, v, hp, hbk, hown, _⟩ := h
  have hl0 : l.length ≠ 0 := by simpa using h0
  obtain ⟨g, cap, cur, rfl, hbg, hg, hnc, hcm, hcs, htake⟩ : ∃ g cap cur, v = .slice (some ⟨g, 0, none⟩) l.length cap ∧ B ≤ g ∧ w.heap[g]? = some (.cells cur 5 (0, 0)) ∧ l.length ≤ cap ∧ cap ≤ maxLen ∧ cur.size = cap * 1 ∧ cur.toList.take (l.length * 1) = Lib.byteCells l := by
    rcases hown.2 with ⟨_, hz⟩ | ⟨g, cap, cur, hv, r⟩
    · exact absurd hz hl0
    · exact ⟨g, cap, cur, hv, r⟩
  have c1 : w.drew.cell? ⟨r, 1, none⟩ = some (.slice (some ⟨g, 0, none⟩) l.length cap) := (blk (show w.drew.heap[r]? = _ from hbk)).2.1 1 _ rfl
  have hSD : (Builtin.unsafeSliceData_ #[70] 137 #[.slice (some ⟨g, 0, none⟩) l.length cap]).run Tryd.prog w.drew = .ok (.pointer (some ⟨g, 0, none⟩)) w.drew :=
    Lib.run_unsafeSliceData_row _ _ _ _ _ _ (by omega)
  have hUS : (Builtin.unsafeString_ #[137, 3] 9 #[.pointer (some ⟨g, 0, none⟩), .int .i64 l.length]).run Tryd.prog w.drew = .ok (.string ⟨l.toArray⟩) (w.drew.freeze ⟨g, 0, none⟩ l.length) := by
    refine Lib.run_unsafeString_row w.drew 137 3 9 5 tPU8 (by kernel_rfl) g cur.size (by have hg' : w.drew.heap[g]? = some (.cells cur 5 (0, 0)) := hg; simp [World.shape?, hg']) l h0 (by omega) (by unfold maxLen at hcm; omega) ?_
    intro j x hx
    have := hown.cells (g := g) rfl j (.int .u8 x.toNat) (by simp [Lib.byteCells, hx])
    exact this
  have mixed : Tryd.prog.follows Departure.mixedOrders = true := by kernel_rfl
  clear hown hbk hp htake hg hcs
  go_enter Tryd.func41, Tryd.ntmps41
  go_wp2
  go_region_o
  all_goals (go_wp2; go_ret; exact ⟨rfl, Lib.below_freeze (Below.drew (Below.refl B w)) (p := ⟨g, 0, none⟩) hbg _⟩)
set_option maxRecDepth 100000 in
set_option maxHeartbeats 4000000 in
theorem wout_nil (B r : Nat) (w : World) (h : WB w B r []) : Calls Tryd.prog 41 #[.pointer (some ⟨r, 0, none⟩)] w fun e w' => e = .returned (.string ⟨#[]⟩) ∧ Below B w w' := by
  obtain ⟨hB, p, v, hp, hbk, hown, hv⟩ := h
  obtain rfl := hv rfl
  have c1 : w.drew.cell? ⟨r, 1, none⟩ = some (.slice none 0 0) := (blk (show w.drew.heap[r]? = _ from hbk)).2.1 1 _ rfl
  have hSD : (Builtin.unsafeSliceData_ #[70] 137 #[.slice none 0 0]).run Tryd.prog w.drew = .ok (.pointer none) w.drew := rfl
  have hUS : (Builtin.unsafeString_ #[137, 3] 9 #[.pointer none, .int .i64 0]).run Tryd.prog w.drew = .ok (.string ⟨#[]⟩) w.drew := rfl
  have mixed : Tryd.prog.follows Departure.mixedOrders = true := by kernel_rfl
  clear hown hbk hp
  go_enter Tryd.func41, Tryd.ntmps41
  go_wp2
  go_region_o
  all_goals (go_wp2; go_ret; exact ⟨rfl, Below.drew (Below.refl B w)⟩)
theorem wout_all (B r : Nat) (l : List UInt8) (w : World) (h : WB w B r l) : Calls Tryd.prog 41 #[.pointer (some ⟨r, 0, none⟩)] w fun e w' => e = .returned (.string ⟨l.toArray⟩) ∧ Below B w w' := by
  by_cases h0 : l = []
  · subst h0
    exact wout_nil B r w h
  · exact wout_any B r l w h h0
end Go.Proofs.YtdkenobgfgmepaaDoor

/- What a term's text is; words; numbers. -/
namespace Go.Proofs.YtdkenobgfgmepaaDoor
open Go Go.RowKit
def sp : List (List UInt8) → List UInt8
  | [] => []
  | x :: l => 32 :: (x ++ sp l)
/-- Texts, a space between. -/
def joinT : List (List UInt8) → List UInt8
  | [] => []
  | x :: l => x ++ sp l
theorem sp_snoc (l : List (List UInt8)) (x : List UInt8) : sp (l ++ [x]) = sp l ++ 32 :: x := by
  induction l with
  | nil => simp [sp]
  | cons y l ih => simp [sp, ih]
theorem joinT_snoc (l : List (List UInt8)) (x : List UInt8) : joinT (l ++ [x]) = joinT l ++ ((if l = [] then [] else [32]) ++ x) := by
  cases l with
  | nil => simp [joinT, sp]
  | cons y l => simp [joinT, sp_snoc]
def opWord (n : Nat) : List UInt8 :=
  if n = 4 then [110, 111, 116] else if n = 5 then [97, 110, 100] else if n = 6 then [111, 114] else if n = 7 then [61, 62] else if n = 8 then [105, 102, 102] else if n = 9 then [61] else if n = 10 then [60, 61] else if n = 11 then [60] else if n = 12 then [43] else if n = 13 then [45] else if n = 14 then [110, 101, 103] else if n = 15 then [42] else [105, 116, 101]
def opCount (n : Nat) : Int := if n = 4 ∨ n = 14 then 1 else if n = 5 ∨ n = 6 ∨ n = 12 then -1 else if n = 16 then 3 else 2
def opEach (n : Nat) : Int := if n = 9 ∨ n = 16 then 0 else if n ≤ 8 then 2 else 1
def opOwn (n : Nat) : Int := if n = 16 then 0 else if n ≤ 11 then 2 else 1
/-- The table of rules, where the program has it. -/
def RL (w : World) : Prop := ∀ n, 4 ≤ n → n ≤ 16 → w.cell? ⟨0, n * 4, none⟩ = some (.string ⟨(opWord n).toArray⟩) ∧ w.cell? ⟨0, n * 4 + 1, none⟩ = some (.int .i64 (opCount n)) ∧ w.cell? ⟨0, n * 4 + 2, none⟩ = some (.int .i64 (opEach n)) ∧ w.cell? ⟨0, n * 4 + 3, none⟩ = some (.int .i64 (opOwn n))
theorem RL.below {w w' : World} {B : Nat} (h : RL w) (hb : Below B w w') (hB : 0 < B) : RL w' := fun n h1 h2 => by
  obtain ⟨a, b, c, d⟩ := h n h1 h2
  exact ⟨(hb.cell (p := ⟨0, n * 4, none⟩) hB).trans a, (hb.cell (p := ⟨0, n * 4 + 1, none⟩) hB).trans b, (hb.cell (p := ⟨0, n * 4 + 2, none⟩) hB).trans c, (hb.cell (p := ⟨0, n * 4 + 3, none⟩) hB).trans d⟩
/-- A term's word. -/
def wordT (op : Int) (name : ByteArray) : ByteArray :=
  if op = 2 then ⟨#[116, 114, 117, 101]⟩ else if op = 3 then ⟨#[102, 97, 108, 115, 101]⟩ else if op = 18 ∨ op = 17 then name else if 4 ≤ op ∧ op ≤ 16 then ⟨(opWord op.toNat).toArray⟩ else ⟨#[63]⟩
def aloneT (op : Int) (n : Nat) : Bool := op == 2 || op == 3 || op == 18 || (op == 17 && n == 0)
def numT (s : ByteArray) : List UInt8 := if s.data.toList.head? = some 45 then [40, 45, 32] ++ (s.data.toList.drop 1 ++ [41]) else s.data.toList
def sortT (x : Int) : List UInt8 := if x = 1 then [105, 110, 116] else if x = 2 then [98, 111, 111, 108] else if x = 3 then [111, 98, 106] else [63]
def varT (u : ByteArray × Int) : List UInt8 := u.1.data.toList ++ (32 :: sortT u.2)
def bodyT (op : Int) (name num : ByteArray) (n : Nat) (jl : List UInt8) (vars : List (ByteArray × Int)) (jp : List UInt8) : List UInt8 :=
  if op = 1 then numT num
  else if op = 19 then [40, 102, 111, 114, 97, 108, 108, 32, 40] ++ (joinT (vars.map varT) ++ ([41, 32, 40, 112, 97, 116, 116, 101, 114, 110, 32] ++ (jp ++ ([41, 32] ++ (jl ++ [41])))))
  else if aloneT op n then (wordT op name).data.toList
  else 40 :: ((wordT op name).data.toList ++ ((if n = 0 then [] else [32]) ++ (jl ++ [41])))
def Tm.text : Tm → List UInt8 | ⟨op, name, _, num, l, vars, pat⟩ => bodyT op name num l.length (joinT (l.map fun u => Tm.text u)) vars (joinT (pat.map fun u => Tm.text u))
theorem Tm.text_eq (t : Tm) : t.text = bodyT t.op t.name t.num t.l.length (joinT (t.l.map Tm.text)) t.vars (joinT (t.pat.map Tm.text)) := by
  cases t
  rw [Tm.text]
set_option maxRecDepth 100000 in
set_option maxHeartbeats 4000000 in
theorem hasPrefix_any (s : ByteArray) (w : World) : Calls Tryd.prog 115 #[.string s, .string ⟨#[45]⟩] w fun e w' => e = .returned (.bool (decide (s.data.toList.head? = some 45))) ∧ w' = w := by
  obtain ⟨l, rfl⟩ : ∃ l : List UInt8, s = ⟨l.toArray⟩ := ⟨s.data.toList, rfl⟩
  cases l with
  | nil =>
    go_enter Tryd.func115, Tryd.ntmps115
    go_wp2
    go_ret
    exact ⟨by simp, rfl⟩
  | cons c l =>
    have hs : (⟨(c :: l).toArray⟩ : ByteArray).size = l.length + 1 := rfl
    have hx : ((⟨(c :: l).toArray⟩ : ByteArray).extract 0 1) = ⟨#[c]⟩ := by
      apply ByteArray.ext
      simp [ByteArray.data_extract]
    generalize hS : (⟨(c :: l).toArray⟩ : ByteArray) = S at *
    have hsz : (1 : Int) ≤ (S.size : Int) := by omega
    have HS := hide (And.intro hS hs)
    clear hS hs
    have hc : ((⟨#[c]⟩ : ByteArray).toList == (⟨#[45]⟩ : ByteArray).toList) = decide (c = 45) := by
      rw [ByteArray.toList_eq, ByteArray.toList_eq]
      by_cases h : c = 45 <;> simp [h]
    go_enter Tryd.func115, Tryd.ntmps115
    go_wp2
    go_ret
    refine ⟨?_, rfl⟩
    rw [← (unhide HS).1]
    by_cases h : c = 45 <;> simp [h]
set_option maxRecDepth 100000 in
set_option maxHeartbeats 4000000 in
theorem cut_any (s : ByteArray) (w : World) : Calls Tryd.prog 87 #[.string s, .string ⟨#[45]⟩] w fun e w' => e = .returned (.tuple #[.string (if s.data.toList.head? = some 45 then ⟨(s.data.toList.drop 1).toArray⟩ else s), .bool (decide (s.data.toList.head? = some 45))]) ∧ w' = w := by
  have hP := hasPrefix_any s w
  by_cases h : s.data.toList.head? = some 45
  · have hd : decide (s.data.toList.head? = some 45) = true := by simp [h]
    rw [if_pos h]
    rw [hd] at hP ⊢
    have hsz : (1 : Int) ≤ (s.size : Int) := by
      have : s.size = s.data.toList.length := rfl
      cases hl : s.data.toList with
      | nil => rw [hl] at h; simp at h
      | cons c l => rw [hl] at this; simp at this; omega
    have hx : s.extract 1 s.size = ⟨(s.data.toList.drop 1).toArray⟩ := by
      apply ByteArray.ext
      apply Array.ext'
      rw [ByteArray.data_extract, Array.toList_extract]
      show (s.data.toList.drop 1).take (s.size - 1) = _
      exact List.take_of_length_le (by rw [List.length_drop, Array.length_toList]; exact Nat.le_refl _)
    have HP := hide hP
    have HX := hide hx
    clear h hd hP hx
    go_enter Tryd.func87, Tryd.ntmps87
    go_wp2_with fail
    have hCut : Calls Tryd.prog 107 #[.string s, .string ⟨#[45]⟩] w fun e w' => e = .returned (.tuple #[.string (s.extract 1 s.size), .bool true]) ∧ w' = w := by
      go_enter Tryd.func107, Tryd.ntmps107
      go_wp2_with fail
      refine (unhide HP).mono ?_
      rintro e w' ⟨rfl, rfl⟩
      go_wp2
      go_ret2
      exact ⟨rfl, rfl⟩
    refine hCut.mono ?_
    rintro e w' ⟨rfl, rfl⟩
    go_wp2
    go_ret2
    exact ⟨by rw [unhide HX]; rfl, rfl⟩
  · have hd : decide (s.data.toList.head? = some 45) = false := by simp [h]
    rw [if_neg h]
    rw [hd] at hP ⊢
    have HP := hide hP
    clear h hd hP
    go_enter Tryd.func87, Tryd.ntmps87
    go_wp2_with fail
    have hCut : Calls Tryd.prog 107 #[.string s, .string ⟨#[45]⟩] w fun e w' => e = .returned (.tuple #[.string s, .bool false]) ∧ w' = w := by
      go_enter Tryd.func107, Tryd.ntmps107
      go_wp2_with fail
      refine (unhide HP).mono ?_
      rintro e w' ⟨rfl, rfl⟩
      go_wp2
      go_ret2
      exact ⟨rfl, rfl⟩
    refine hCut.mono ?_
    rintro e w' ⟨rfl, rfl⟩
    go_wp2
    go_ret2
    exact ⟨rfl, rfl⟩
/-- Behind a writing that answers nothing. -/
def TP (B r : Nat) (l : List UInt8) (w : World) (e : Ending) (w' : World) : Prop := e = .returned (.tuple #[]) ∧ WB w' B r l ∧ WF B r w w'
theorem numT_len (s : ByteArray) : (numT s).length ≤ s.size + 4 := by
  unfold numT
  have : s.size = s.data.toList.length := rfl
  split
  · simp only [List.length_append, List.length_drop, List.length_cons, List.length_nil]
    omega
  · omega
set_option maxRecDepth 100000 in
set_option maxHeartbeats 4000000 in
theorem number_any (B r : Nat) (l : List UInt8) (s : ByteArray) (w : World) (h : WB w B r l) (hl : l.length + (numT s).length ≤ 140737488355328) : Calls Tryd.prog 67 #[.pointer (some ⟨r, 0, none⟩), .string s] w (TP B r (l ++ numT s) w) := by
  have HW := hide h
  have HC := hide (cut_any s w)
  clear h
  unfold numT at hl ⊢
  by_cases hh : s.data.toList.head? = some 45
  · rw [if_pos hh] at hl ⊢
    rw [show decide (s.data.toList.head? = some 45) = true by simp [hh], if_pos hh] at HC
    obtain ⟨D, hD⟩ : ∃ D : ByteArray, (⟨(s.data.toList.drop 1).toArray⟩ : ByteArray) = D := ⟨_, rfl⟩
    have hDl : D.data.toList = s.data.toList.drop 1 := by rw [← hD]
    rw [hD] at HC
    rw [← hDl] at hl ⊢
    have hds : D.size + 4 ≤ 140737488355328 := by
      have e : D.size = D.data.toList.length := rfl
      simp only [List.length_append, List.length_cons, List.length_nil] at hl
      omega
    have HL := hide hl
    clear hh hl hD hDl
    go_enter Tryd.func67, Tryd.ntmps67
    go_wp2_with fail
    refine (unhide HC).mono ?_
    rintro e w' ⟨rfl, rfl⟩
    have hds1 : D.size ≤ 140737488355328 := by omega
    have hds2 : ((⟨#[40, 45, 32]⟩ : ByteArray) ++ D).size ≤ 140737488355328 := by rw [ByteArray.size_append]; show 3 + D.size ≤ _; omega
    go_wp2_with fail
    have hw := wstr_any B r l ((⟨#[40, 45, 32]⟩ : ByteArray) ++ D ++ ⟨#[41]⟩) _ (unhide HW) (by
      have := unhide HL
      simp only [List.length_append, List.length_cons, List.length_nil] at this
      have e0 : D.size = D.data.toList.length := rfl
      have e : ((⟨#[40, 45, 32]⟩ : ByteArray) ++ D ++ ⟨#[41]⟩).size = D.size + 4 := by
        rw [ByteArray.size_append, ByteArray.size_append]
        show 3 + D.size + 1 = _
        omega
      omega)
    refine hw.mono ?_
    rintro e w1 ⟨rfl, h1, h2⟩
    have H1 := hide (And.intro h1 h2)
    clear h1 h2 hw
    go_wp2
    go_end0
    refine ⟨rfl, ?_, (unhide H1).2⟩
    have := (unhide H1).1
    simpa [ByteArray.data_append] using this
  · rw [if_neg hh] at hl ⊢
    rw [show decide (s.data.toList.head? = some 45) = false by simp [hh], if_neg hh] at HC
    have HL := hide hl
    clear hh hl
    go_enter Tryd.func67, Tryd.ntmps67
    go_wp2_with fail
    refine (unhide HC).mono ?_
    rintro e w' ⟨rfl, rfl⟩
    go_wp2_with fail
    refine (wstr_any B r l s _ (unhide HW) (unhide HL)).mono ?_
    rintro e w1 ⟨rfl, h1, h2⟩
    have H1 := hide (And.intro h1 h2)
    clear h1 h2
    go_wp2
    go_end0
    exact ⟨rfl, (unhide H1).1, (unhide H1).2⟩
end Go.Proofs.YtdkenobgfgmepaaDoor

namespace Go.Proofs.YtdkenobgfgmepaaDoor.Nm
open Go.RowKit

/-- A text: a minus or none, and digits. -/
def txt (neg : Bool) (D : List UInt8) : List UInt8 := if neg then 45 :: D else D
theorem cut_txt (neg : Bool) (D : List UInt8) (hD : Dg D) : Lib.trimPrefix (txt neg D) [45] = D ∧ Lib.hasPrefix (txt neg D) [45] = neg := by
  cases neg with
  | true => simp [txt, Lib.trimPrefix, Lib.hasPrefix]
  | false =>
    cases D with
    | nil => simp [txt, Lib.trimPrefix, Lib.hasPrefix]
    | cons b D =>
      have := hD b (by simp)
      have hb : b ≠ 45 := by rintro rfl; simp at this
      have e : ([45] : List UInt8).isPrefixOf (b :: D) = false := by simp [List.isPrefixOf, Ne.symm hb]
      simp [txt, Lib.trimPrefix, Lib.hasPrefix, e]

set_option maxRecDepth 100000 in
set_option maxHeartbeats 800000 in
theorem parse_yes (neg : Bool) (D : List UInt8) (w : World) (hD : Dg D) (hne : D ≠ []) (hz : D.head? = some 48 → D = [48] ∧ neg = false) (hl : D.length ≤ 2000) :
    Calls Tryd.prog 101 #[.string ⟨(txt neg D).toArray⟩] w fun e w' => ∃ r, e = .returned (.tuple #[r, .bool true]) ∧ Below w.heap.size w w' ∧ IsI w' r (if neg then - dec D else dec D) := by
  obtain ⟨z, hzz⟩ : ∃ z, z = (if neg then - dec D else dec D) := ⟨_, rfl⟩
  rw [← hzz]
  have HZZ := hide hzz
  clear hzz
  obtain ⟨hc1, hc2⟩ := cut_txt neg D hD
  have hcut : ∀ w, Calls Tryd.prog 87 #[.string ⟨(txt neg D).toArray⟩, .string ⟨#[45]⟩] w fun e w' => e = .returned (.tuple #[.string ⟨D.toArray⟩, .bool neg]) ∧ w' = w := fun w => by
    have h := Go.Proofs.YtdkenobgfgmepaaDoor.cut_any ⟨(txt neg D).toArray⟩ w
    cases neg with
    | true => simpa [txt] using h
    | false =>
      have h45 : D.head? ≠ some 45 := by
        cases D with
        | nil => simp
        | cons b D =>
          have := hD b (by simp)
          intro e
          simp at e
          subst e
          simp at this
      simpa [txt, h45] using h
  obtain ⟨S, hS⟩ : ∃ S : ByteArray, S = ⟨D.toArray⟩ := ⟨_, rfl⟩
  obtain ⟨T, hT⟩ : ∃ T : ByteArray, T = ⟨(txt neg D).toArray⟩ := ⟨_, rfl⟩
  have hSD : S.data.toList = D := by rw [hS]
  have hSn : S.size = D.length := by rw [hS]; simp [ByteArray.size]
  rw [← hS, ← hT] at hcut
  rw [← hT]
  clear hS hT
  have HCUT := hide hcut
  clear hcut hc1 hc2
  have hpos : 0 < S.size := by rw [hSn]; exact List.length_pos_iff.2 hne
  have hgS : Dg S.data.toList := by rw [hSD]; exact hD
  have hls : S.size ≤ 4000 := by omega
  have hbox := Bx.new w 0 none 0 0
  have hbw : Below w.heap.size w (w.alloc (.cells #[.int .i64 0, .slice none 0 0] 200)) := (Below.refl _ w).alloc (Nat.le_refl _) _
  have hfirst : (((S[0]'hpos).toNat : Int) = 48 → D = [48] ∧ neg = false) := by
    intro h
    apply hz
    cases D with
    | nil => exact absurd rfl hne
    | cons b D' =>
      have h2 := get_toList S 0 hpos (by rw [hSD]; simp)
      simp only [hSD, List.getElem_cons_zero] at h2
      rw [← h2] at h
      simp only [List.head?_cons, Option.some.injEq]
      exact UInt8.toNat_inj.1 (by show b.toNat = 48; omega)
  go_enter Tryd.func101, Tryd.ntmps101
  go_wp2_with fail
  refine (unhide HCUT _).mono ?_
  rintro e w1 ⟨rfl, rfl⟩
  go_wp2_with fail
  refine (areDigits_yes S _ hgS hpos hls).mono ?_
  rintro e w2 ⟨rfl, hb2⟩
  by_cases h48 : ((S[0]'hpos).toNat : Int) = 48
  · obtain ⟨rfl, rfl⟩ := hfirst h48
    have hsz1 : (S.size : Int) = 1 := by rw [hSn]; rfl
    go_wp2_with fail
    refine (parseMag_any S w2 hgS hls).mono ?_
    rintro e w3 ⟨v3, xs, rfl, hb3, hm3, hd3, hn3, hv3, hl3⟩
    have HV3 := hide hv3
    clear hv3
    go_wp2_with fail
    refine (ofMag_any false v3 xs w3 hm3 hd3 hn3 (by omega)).mono ?_
    rintro e w4 ⟨r, rfl, hb4, hI⟩
    obtain ⟨n4, a4, l4, c4, rfl⟩ := hI.form
    have hbx := ((hbox.below hb2).below hb3).below hb4
    obtain ⟨kR0, kR1, kRf0, kRf1⟩ := hbx.facts
    have hbel := ((hbw.trans (hb2.mono hbw.size)).trans (hb3.mono (Nat.le_trans hbw.size hb2.size))).trans (hb4.mono (Nat.le_trans (Nat.le_trans hbw.size hb2.size) hb3.size))
    have HI := hide hI
    clear hI
    go_wp2
    refine bodyPost_ret (v := .tuple #[.agg #[.int .i64 n4, .slice a4 l4 c4], .bool true]) ?_ rfl ?_
    · simp [results, Tryd.results101, go_sem, kR0, kR1]
    · refine ⟨_, rfl, below_put hbel (Nat.le_refl _) _ _, ?_⟩
      have h9 := (unhide HI).put hbx (.int .i64 n4) (.slice a4 l4 c4)
      rw [unhide HV3, hSD] at h9
      rw [unhide HZZ]
      exact h9
  · go_wp2_with fail
    refine (parseMag_any S w2 hgS hls).mono ?_
    rintro e w3 ⟨v3, xs, rfl, hb3, hm3, hd3, hn3, hv3, hl3⟩
    have HV3 := hide hv3
    clear hv3
    go_wp2_with fail
    refine (ofMag_any neg v3 xs w3 hm3 hd3 hn3 (by omega)).mono ?_
    rintro e w4 ⟨r, rfl, hb4, hI⟩
    obtain ⟨n4, a4, l4, c4, rfl⟩ := hI.form
    have hbx := ((hbox.below hb2).below hb3).below hb4
    obtain ⟨kR0, kR1, kRf0, kRf1⟩ := hbx.facts
    have hbel := ((hbw.trans (hb2.mono hbw.size)).trans (hb3.mono (Nat.le_trans hbw.size hb2.size))).trans (hb4.mono (Nat.le_trans (Nat.le_trans hbw.size hb2.size) hb3.size))
    have HI := hide hI
    clear hI
    go_wp2
    refine bodyPost_ret (v := .tuple #[.agg #[.int .i64 n4, .slice a4 l4 c4], .bool true]) ?_ rfl ?_
    · simp [results, Tryd.results101, go_sem, kR0, kR1]
    · refine ⟨_, rfl, below_put hbel (Nat.le_refl _) _ _, ?_⟩
      have h9 := (unhide HI).put hbx (.int .i64 n4) (.slice a4 l4 c4)
      rw [unhide HV3, hSD] at h9
      rw [unhide HZZ]
      exact h9

end Go.Proofs.YtdkenobgfgmepaaDoor.Nm
