/- The document's Tokens: rounds at bytes that are no rune's, and at signs. -/
import Derived.Test.YtljhpbjngbbjbaaDoorZAB
set_option linter.unusedVariables false
set_option linter.unusedSimpArgs false

/- The document's kinds of runes, and its signs. -/
namespace Go.Proofs.YtljhpbjngbbjbaaDoor
open Go Go.RowKit

/-- The kind of the rune at a place: 0 none, 1 blank, 2 letter, 3 digit, 4 other. -/
def kd (s : ByteArray) (i : Nat) : Nat := if noR s i then 0 else if isBl (rn s i) then 1 else if isLe (rn s i) then 2 else if isDi (rn s i) then 3 else 4
/-- The same by the byte alone, below 80 hexadecimal. -/
def kb (c : Nat) : Nat := if isBl c then 1 else if isLe c then 2 else if isDi c then 3 else 4
theorem kd_ascii (s : ByteArray) (i : Nat) (h : By s i < 128) : kd s i = kb (By s i) ∧ wd s i = 1 := by
  have hr := rn_ascii s i h
  refine ⟨?_, hr.2⟩
  unfold kd kb
  rw [noR_ascii s i h, if_neg Bool.false_ne_true, hr.1]
theorem isLe_high {c : Nat} (h : 128 ≤ c) : isBl c = false ∧ isLe c = true := by
  constructor
  · unfold isBl; simp; omega
  · unfold isLe; simp; omega
theorem kd_high (s : ByteArray) (i : Nat) (h : ¬ By s i < 128) : kd s i = if noR s i then 0 else 2 := by
  have hr := isLe_high (rn_high s i h)
  unfold kd
  rw [hr.1, hr.2]
  rfl
theorem kb_32 (c : Nat) (h : c = 32) : kb c = 1 := by
  subst h; rfl
theorem kb_9 (c : Nat) (h : c = 9) : kb c = 1 := by
  subst h; rfl
theorem kb_10 (c : Nat) (h : c = 10) : kb c = 1 := by
  subst h; rfl
theorem kb_13 (c : Nat) (h : c = 13) : kb c = 1 := by
  subst h; rfl
theorem kb_up (c : Nat) (h : 65 ≤ c ∧ c ≤ 90) : kb c = 2 := by
  have b0 : isBl c = false := by unfold isBl; simp; omega
  have b1 : isLe c = true := by unfold isLe; simp; omega
  unfold kb; rw [b0, b1]; rfl
theorem kb_lo (c : Nat) (h : 97 ≤ c ∧ c ≤ 122) : kb c = 2 := by
  have b0 : isBl c = false := by unfold isBl; simp; omega
  have b1 : isLe c = true := by unfold isLe; simp; omega
  unfold kb; rw [b0, b1]; rfl
theorem kb_us (c : Nat) (h : c = 95) : kb c = 2 := by
  subst h; rfl
theorem kb_di (c : Nat) (h : 48 ≤ c ∧ c ≤ 57) : kb c = 3 := by
  have b0 : isBl c = false := by unfold isBl; simp; omega
  have b1 : isLe c = false := by unfold isLe; simp; omega
  have b2 : isDi c = true := by unfold isDi; simp; omega
  unfold kb; rw [b0, b1, b2]; rfl
theorem kb_f1 (c : Nat) (h : c < 48 ∧ c ≠ 32 ∧ c ≠ 9 ∧ c ≠ 10 ∧ c ≠ 13) : kb c = 4 := by
  have b0 : isBl c = false := by unfold isBl; simp; omega
  have b1 : isLe c = false := by unfold isLe; simp; omega
  have b2 : isDi c = false := by unfold isDi; simp; omega
  unfold kb; rw [b0, b1, b2]; rfl
theorem kb_f2 (c : Nat) (h : 57 < c ∧ c < 65) : kb c = 4 := by
  have b0 : isBl c = false := by unfold isBl; simp; omega
  have b1 : isLe c = false := by unfold isLe; simp; omega
  have b2 : isDi c = false := by unfold isDi; simp; omega
  unfold kb; rw [b0, b1, b2]; rfl
theorem kb_f3 (c : Nat) (h : 90 < c ∧ c < 97 ∧ c ≠ 95) : kb c = 4 := by
  have b0 : isBl c = false := by unfold isBl; simp; omega
  have b1 : isLe c = false := by unfold isLe; simp; omega
  have b2 : isDi c = false := by unfold isDi; simp; omega
  unfold kb; rw [b0, b1, b2]; rfl
theorem kb_f4 (c : Nat) (h : 122 < c ∧ c < 128) : kb c = 4 := by
  have b0 : isBl c = false := by unfold isBl; simp; omega
  have b1 : isLe c = false := by unfold isLe; simp; omega
  have b2 : isDi c = false := by unfold isDi; simp; omega
  unfold kb; rw [b0, b1, b2]; rfl
set_option maxRecDepth 100000 in
set_option maxHeartbeats 16000000 in
theorem refAt_low (s : ByteArray) (i : Nat) (hi : i < s.size) (hc : By s i < 128) (w : World) : Calls Tryd.prog 46 #[.string s, .int .i64 i] w fun e w' => e = .returned (.tuple #[.int .i64 (kd s i), .int .i64 (wd s i)]) ∧ Below w.heap.size w w' := by
  have hk := kd_ascii s i hc
  rw [hk.1, hk.2]
  clear hk
  have hx : (s[i]'hi).toNat = By s i := by unfold By; rw [get_lt s i hi]
  obtain ⟨c, hcc⟩ : ∃ c, By s i = c := ⟨_, rfl⟩
  rw [hcc] at hc hx ⊢
  replace hcc := hide hcc
  have hcase : (c = 32) ∨ (c = 9) ∨ (c = 10) ∨ (c = 13) ∨ (65 ≤ c ∧ c ≤ 90) ∨ (97 ≤ c ∧ c ≤ 122) ∨ (c = 95) ∨ (48 ≤ c ∧ c ≤ 57) ∨ (c < 48 ∧ c ≠ 32 ∧ c ≠ 9 ∧ c ≠ 10 ∧ c ≠ 13) ∨ (57 < c ∧ c < 65) ∨ (90 < c ∧ c < 97 ∧ c ≠ 95) ∨ (122 < c ∧ c < 128) := by omega
  rcases hcase with h | h | h | h | h | h | h | h | h | h | h | h
  · rw [kb_32 c h]
    have teq32 : (((c : Nat) : Int) == 32) = true := by simp; omega
    have teq9 : (((c : Nat) : Int) == 9) = false := by simp; omega
    have teq10 : (((c : Nat) : Int) == 10) = false := by simp; omega
    have teq13 : (((c : Nat) : Int) == 13) = false := by simp; omega
    have tge65 : decide ((65 : Int) ≤ ((c : Nat) : Int)) = false := by simp; omega
    have tle90 : decide (((c : Nat) : Int) ≤ 90) = true := by simp; omega
    have tge97 : decide ((97 : Int) ≤ ((c : Nat) : Int)) = false := by simp; omega
    have tle122 : decide (((c : Nat) : Int) ≤ 122) = true := by simp; omega
    have teq95 : (((c : Nat) : Int) == 95) = false := by simp; omega
    have tge48 : decide ((48 : Int) ≤ ((c : Nat) : Int)) = false := by simp; omega
    have tle57 : decide (((c : Nat) : Int) ≤ 57) = true := by simp; omega
    have tlt128 : decide (((c : Nat) : Int) < 128) = true := by simp; omega
    replace h := hide h
    replace hc := hide hc
    go_enter Tryd.func46, Tryd.ntmps46
    go_wp2
    go_ret2
    exact ⟨rfl, Below.refl _ _⟩
  · rw [kb_9 c h]
    have teq32 : (((c : Nat) : Int) == 32) = false := by simp; omega
    have teq9 : (((c : Nat) : Int) == 9) = true := by simp; omega
    have teq10 : (((c : Nat) : Int) == 10) = false := by simp; omega
    have teq13 : (((c : Nat) : Int) == 13) = false := by simp; omega
    have tge65 : decide ((65 : Int) ≤ ((c : Nat) : Int)) = false := by simp; omega
    have tle90 : decide (((c : Nat) : Int) ≤ 90) = true := by simp; omega
    have tge97 : decide ((97 : Int) ≤ ((c : Nat) : Int)) = false := by simp; omega
    have tle122 : decide (((c : Nat) : Int) ≤ 122) = true := by simp; omega
    have teq95 : (((c : Nat) : Int) == 95) = false := by simp; omega
    have tge48 : decide ((48 : Int) ≤ ((c : Nat) : Int)) = false := by simp; omega
    have tle57 : decide (((c : Nat) : Int) ≤ 57) = true := by simp; omega
    have tlt128 : decide (((c : Nat) : Int) < 128) = true := by simp; omega
    replace h := hide h
    replace hc := hide hc
    go_enter Tryd.func46, Tryd.ntmps46
    go_wp2
    go_ret2
    exact ⟨rfl, Below.refl _ _⟩
  · rw [kb_10 c h]
    have teq32 : (((c : Nat) : Int) == 32) = false := by simp; omega
    have teq9 : (((c : Nat) : Int) == 9) = false := by simp; omega
    have teq10 : (((c : Nat) : Int) == 10) = true := by simp; omega
    have teq13 : (((c : Nat) : Int) == 13) = false := by simp; omega
    have tge65 : decide ((65 : Int) ≤ ((c : Nat) : Int)) = false := by simp; omega
    have tle90 : decide (((c : Nat) : Int) ≤ 90) = true := by simp; omega
    have tge97 : decide ((97 : Int) ≤ ((c : Nat) : Int)) = false := by simp; omega
    have tle122 : decide (((c : Nat) : Int) ≤ 122) = true := by simp; omega
    have teq95 : (((c : Nat) : Int) == 95) = false := by simp; omega
    have tge48 : decide ((48 : Int) ≤ ((c : Nat) : Int)) = false := by simp; omega
    have tle57 : decide (((c : Nat) : Int) ≤ 57) = true := by simp; omega
    have tlt128 : decide (((c : Nat) : Int) < 128) = true := by simp; omega
    replace h := hide h
    replace hc := hide hc
    go_enter Tryd.func46, Tryd.ntmps46
    go_wp2
    go_ret2
    exact ⟨rfl, Below.refl _ _⟩
  · rw [kb_13 c h]
    have teq32 : (((c : Nat) : Int) == 32) = false := by simp; omega
    have teq9 : (((c : Nat) : Int) == 9) = false := by simp; omega
    have teq10 : (((c : Nat) : Int) == 10) = false := by simp; omega
    have teq13 : (((c : Nat) : Int) == 13) = true := by simp; omega
    have tge65 : decide ((65 : Int) ≤ ((c : Nat) : Int)) = false := by simp; omega
    have tle90 : decide (((c : Nat) : Int) ≤ 90) = true := by simp; omega
    have tge97 : decide ((97 : Int) ≤ ((c : Nat) : Int)) = false := by simp; omega
    have tle122 : decide (((c : Nat) : Int) ≤ 122) = true := by simp; omega
    have teq95 : (((c : Nat) : Int) == 95) = false := by simp; omega
    have tge48 : decide ((48 : Int) ≤ ((c : Nat) : Int)) = false := by simp; omega
    have tle57 : decide (((c : Nat) : Int) ≤ 57) = true := by simp; omega
    have tlt128 : decide (((c : Nat) : Int) < 128) = true := by simp; omega
    replace h := hide h
    replace hc := hide hc
    go_enter Tryd.func46, Tryd.ntmps46
    go_wp2
    go_ret2
    exact ⟨rfl, Below.refl _ _⟩
  · rw [kb_up c h]
    have teq32 : (((c : Nat) : Int) == 32) = false := by simp; omega
    have teq9 : (((c : Nat) : Int) == 9) = false := by simp; omega
    have teq10 : (((c : Nat) : Int) == 10) = false := by simp; omega
    have teq13 : (((c : Nat) : Int) == 13) = false := by simp; omega
    have tge65 : decide ((65 : Int) ≤ ((c : Nat) : Int)) = true := by simp; omega
    have tle90 : decide (((c : Nat) : Int) ≤ 90) = true := by simp; omega
    have tge97 : decide ((97 : Int) ≤ ((c : Nat) : Int)) = false := by simp; omega
    have tle122 : decide (((c : Nat) : Int) ≤ 122) = true := by simp; omega
    have teq95 : (((c : Nat) : Int) == 95) = false := by simp; omega
    have tge48 : decide ((48 : Int) ≤ ((c : Nat) : Int)) = true := by simp; omega
    have tle57 : decide (((c : Nat) : Int) ≤ 57) = false := by simp; omega
    have tlt128 : decide (((c : Nat) : Int) < 128) = true := by simp; omega
    replace h := hide h
    replace hc := hide hc
    go_enter Tryd.func46, Tryd.ntmps46
    go_wp2
    go_ret2
    exact ⟨rfl, Below.refl _ _⟩
  · rw [kb_lo c h]
    have teq32 : (((c : Nat) : Int) == 32) = false := by simp; omega
    have teq9 : (((c : Nat) : Int) == 9) = false := by simp; omega
    have teq10 : (((c : Nat) : Int) == 10) = false := by simp; omega
    have teq13 : (((c : Nat) : Int) == 13) = false := by simp; omega
    have tge65 : decide ((65 : Int) ≤ ((c : Nat) : Int)) = true := by simp; omega
    have tle90 : decide (((c : Nat) : Int) ≤ 90) = false := by simp; omega
    have tge97 : decide ((97 : Int) ≤ ((c : Nat) : Int)) = true := by simp; omega
    have tle122 : decide (((c : Nat) : Int) ≤ 122) = true := by simp; omega
    have teq95 : (((c : Nat) : Int) == 95) = false := by simp; omega
    have tge48 : decide ((48 : Int) ≤ ((c : Nat) : Int)) = true := by simp; omega
    have tle57 : decide (((c : Nat) : Int) ≤ 57) = false := by simp; omega
    have tlt128 : decide (((c : Nat) : Int) < 128) = true := by simp; omega
    replace h := hide h
    replace hc := hide hc
    go_enter Tryd.func46, Tryd.ntmps46
    go_wp2
    go_ret2
    exact ⟨rfl, Below.refl _ _⟩
  · rw [kb_us c h]
    have teq32 : (((c : Nat) : Int) == 32) = false := by simp; omega
    have teq9 : (((c : Nat) : Int) == 9) = false := by simp; omega
    have teq10 : (((c : Nat) : Int) == 10) = false := by simp; omega
    have teq13 : (((c : Nat) : Int) == 13) = false := by simp; omega
    have tge65 : decide ((65 : Int) ≤ ((c : Nat) : Int)) = true := by simp; omega
    have tle90 : decide (((c : Nat) : Int) ≤ 90) = false := by simp; omega
    have tge97 : decide ((97 : Int) ≤ ((c : Nat) : Int)) = false := by simp; omega
    have tle122 : decide (((c : Nat) : Int) ≤ 122) = true := by simp; omega
    have teq95 : (((c : Nat) : Int) == 95) = true := by simp; omega
    have tge48 : decide ((48 : Int) ≤ ((c : Nat) : Int)) = true := by simp; omega
    have tle57 : decide (((c : Nat) : Int) ≤ 57) = false := by simp; omega
    have tlt128 : decide (((c : Nat) : Int) < 128) = true := by simp; omega
    replace h := hide h
    replace hc := hide hc
    go_enter Tryd.func46, Tryd.ntmps46
    go_wp2
    go_ret2
    exact ⟨rfl, Below.refl _ _⟩
  · rw [kb_di c h]
    have teq32 : (((c : Nat) : Int) == 32) = false := by simp; omega
    have teq9 : (((c : Nat) : Int) == 9) = false := by simp; omega
    have teq10 : (((c : Nat) : Int) == 10) = false := by simp; omega
    have teq13 : (((c : Nat) : Int) == 13) = false := by simp; omega
    have tge65 : decide ((65 : Int) ≤ ((c : Nat) : Int)) = false := by simp; omega
    have tle90 : decide (((c : Nat) : Int) ≤ 90) = true := by simp; omega
    have tge97 : decide ((97 : Int) ≤ ((c : Nat) : Int)) = false := by simp; omega
    have tle122 : decide (((c : Nat) : Int) ≤ 122) = true := by simp; omega
    have teq95 : (((c : Nat) : Int) == 95) = false := by simp; omega
    have tge48 : decide ((48 : Int) ≤ ((c : Nat) : Int)) = true := by simp; omega
    have tle57 : decide (((c : Nat) : Int) ≤ 57) = true := by simp; omega
    have tlt128 : decide (((c : Nat) : Int) < 128) = true := by simp; omega
    replace h := hide h
    replace hc := hide hc
    go_enter Tryd.func46, Tryd.ntmps46
    go_wp2
    go_ret2
    exact ⟨rfl, Below.refl _ _⟩
  · rw [kb_f1 c h]
    have teq32 : (((c : Nat) : Int) == 32) = false := by simp; omega
    have teq9 : (((c : Nat) : Int) == 9) = false := by simp; omega
    have teq10 : (((c : Nat) : Int) == 10) = false := by simp; omega
    have teq13 : (((c : Nat) : Int) == 13) = false := by simp; omega
    have tge65 : decide ((65 : Int) ≤ ((c : Nat) : Int)) = false := by simp; omega
    have tle90 : decide (((c : Nat) : Int) ≤ 90) = true := by simp; omega
    have tge97 : decide ((97 : Int) ≤ ((c : Nat) : Int)) = false := by simp; omega
    have tle122 : decide (((c : Nat) : Int) ≤ 122) = true := by simp; omega
    have teq95 : (((c : Nat) : Int) == 95) = false := by simp; omega
    have tge48 : decide ((48 : Int) ≤ ((c : Nat) : Int)) = false := by simp; omega
    have tle57 : decide (((c : Nat) : Int) ≤ 57) = true := by simp; omega
    have tlt128 : decide (((c : Nat) : Int) < 128) = true := by simp; omega
    replace h := hide h
    replace hc := hide hc
    go_enter Tryd.func46, Tryd.ntmps46
    go_wp2
    go_ret2
    exact ⟨rfl, Below.refl _ _⟩
  · rw [kb_f2 c h]
    have teq32 : (((c : Nat) : Int) == 32) = false := by simp; omega
    have teq9 : (((c : Nat) : Int) == 9) = false := by simp; omega
    have teq10 : (((c : Nat) : Int) == 10) = false := by simp; omega
    have teq13 : (((c : Nat) : Int) == 13) = false := by simp; omega
    have tge65 : decide ((65 : Int) ≤ ((c : Nat) : Int)) = false := by simp; omega
    have tle90 : decide (((c : Nat) : Int) ≤ 90) = true := by simp; omega
    have tge97 : decide ((97 : Int) ≤ ((c : Nat) : Int)) = false := by simp; omega
    have tle122 : decide (((c : Nat) : Int) ≤ 122) = true := by simp; omega
    have teq95 : (((c : Nat) : Int) == 95) = false := by simp; omega
    have tge48 : decide ((48 : Int) ≤ ((c : Nat) : Int)) = true := by simp; omega
    have tle57 : decide (((c : Nat) : Int) ≤ 57) = false := by simp; omega
    have tlt128 : decide (((c : Nat) : Int) < 128) = true := by simp; omega
    replace h := hide h
    replace hc := hide hc
    go_enter Tryd.func46, Tryd.ntmps46
    go_wp2
    go_ret2
    exact ⟨rfl, Below.refl _ _⟩
  · rw [kb_f3 c h]
    have teq32 : (((c : Nat) : Int) == 32) = false := by simp; omega
    have teq9 : (((c : Nat) : Int) == 9) = false := by simp; omega
    have teq10 : (((c : Nat) : Int) == 10) = false := by simp; omega
    have teq13 : (((c : Nat) : Int) == 13) = false := by simp; omega
    have tge65 : decide ((65 : Int) ≤ ((c : Nat) : Int)) = true := by simp; omega
    have tle90 : decide (((c : Nat) : Int) ≤ 90) = false := by simp; omega
    have tge97 : decide ((97 : Int) ≤ ((c : Nat) : Int)) = false := by simp; omega
    have tle122 : decide (((c : Nat) : Int) ≤ 122) = true := by simp; omega
    have teq95 : (((c : Nat) : Int) == 95) = false := by simp; omega
    have tge48 : decide ((48 : Int) ≤ ((c : Nat) : Int)) = true := by simp; omega
    have tle57 : decide (((c : Nat) : Int) ≤ 57) = false := by simp; omega
    have tlt128 : decide (((c : Nat) : Int) < 128) = true := by simp; omega
    replace h := hide h
    replace hc := hide hc
    go_enter Tryd.func46, Tryd.ntmps46
    go_wp2
    go_ret2
    exact ⟨rfl, Below.refl _ _⟩
  · rw [kb_f4 c h]
    have teq32 : (((c : Nat) : Int) == 32) = false := by simp; omega
    have teq9 : (((c : Nat) : Int) == 9) = false := by simp; omega
    have teq10 : (((c : Nat) : Int) == 10) = false := by simp; omega
    have teq13 : (((c : Nat) : Int) == 13) = false := by simp; omega
    have tge65 : decide ((65 : Int) ≤ ((c : Nat) : Int)) = true := by simp; omega
    have tle90 : decide (((c : Nat) : Int) ≤ 90) = false := by simp; omega
    have tge97 : decide ((97 : Int) ≤ ((c : Nat) : Int)) = true := by simp; omega
    have tle122 : decide (((c : Nat) : Int) ≤ 122) = false := by simp; omega
    have teq95 : (((c : Nat) : Int) == 95) = false := by simp; omega
    have tge48 : decide ((48 : Int) ≤ ((c : Nat) : Int)) = true := by simp; omega
    have tle57 : decide (((c : Nat) : Int) ≤ 57) = false := by simp; omega
    have tlt128 : decide (((c : Nat) : Int) < 128) = true := by simp; omega
    replace h := hide h
    replace hc := hide hc
    go_enter Tryd.func46, Tryd.ntmps46
    go_wp2
    go_ret2
    exact ⟨rfl, Below.refl _ _⟩
theorem dec_rest (s : ByteArray) (i : Nat) (hi : i < s.size) : (Lib.decodeGo (s.extract i s.size)).1 = rn s i ∧ (Lib.decodeGo (s.extract i s.size)).2 = wd s i := by
  unfold Lib.decodeGo
  rw [if_neg (by rw [rest_size]; omega), rest_dec]
  exact ⟨rfl, rfl⟩
set_option maxRecDepth 100000 in
set_option maxHeartbeats 16000000 in
theorem refAt_high (s : ByteArray) (i : Nat) (hi : i < s.size) (hc : ¬ By s i < 128) (w : World) (hT : Lib.Utf8Tabs 1 2 w) : Calls Tryd.prog 46 #[.string s, .int .i64 i] w fun e w' => e = .returned (.tuple #[.int .i64 (kd s i), .int .i64 (wd s i)]) ∧ Below w.heap.size w w' := by
  rw [kd_high s i hc]
  have hx : (s[i]'hi).toNat = By s i := by unfold By; rw [get_lt s i hi]
  have hiz : (i : Int) ≤ (s.size : Int) := by omega
  have cD := Tryd.utf8_DecodeRuneInString (s.extract i s.size) w hT
  rw [(dec_rest s i hi).1, (dec_rest s i hi).2] at cD
  have hw1 := wd_pos s i
  have hno : noR s i = (rn s i == 65533 && wd s i == 1) := rfl
  rw [hno]
  obtain ⟨r, hr⟩ : ∃ r, rn s i = r := ⟨_, rfl⟩
  obtain ⟨z, hz⟩ : ∃ z, wd s i = z := ⟨_, rfl⟩
  rw [hr, hz] at cD ⊢
  rw [hz] at hw1
  clear hno hr hz
  obtain ⟨c, hcc⟩ : ∃ c, By s i = c := ⟨_, rfl⟩
  rw [hcc] at hc hx
  replace hcc := hide hcc
  by_cases h1 : r = 65533
  · subst h1
    by_cases h2 : z = 1
    · subst h2
      have teq32 : (((c : Nat) : Int) == 32) = false := by simp; omega
      have teq9 : (((c : Nat) : Int) == 9) = false := by simp; omega
      have teq10 : (((c : Nat) : Int) == 10) = false := by simp; omega
      have teq13 : (((c : Nat) : Int) == 13) = false := by simp; omega
      have tge65 : decide ((65 : Int) ≤ ((c : Nat) : Int)) = true := by simp; omega
      have tle90 : decide (((c : Nat) : Int) ≤ 90) = false := by simp; omega
      have tge97 : decide ((97 : Int) ≤ ((c : Nat) : Int)) = true := by simp; omega
      have tle122 : decide (((c : Nat) : Int) ≤ 122) = false := by simp; omega
      have teq95 : (((c : Nat) : Int) == 95) = false := by simp; omega
      have tge48 : decide ((48 : Int) ≤ ((c : Nat) : Int)) = true := by simp; omega
      have tle57 : decide (((c : Nat) : Int) ≤ 57) = false := by simp; omega
      have tlt128 : decide (((c : Nat) : Int) < 128) = false := by simp; omega
      replace hc := hide hc
      go_enter Tryd.func46, Tryd.ntmps46
      go_wp2_with (refine cD.mono ?_; rintro e w2 ⟨rfl, hb⟩)
      go_ret2
      exact ⟨rfl, hb⟩
    · have e0 : ((65533 == 65533 && z == 1) : Bool) = false := by simp; omega
      rw [e0, if_neg Bool.false_ne_true]
      have e1 : decide (((z : Nat) : Int) ≤ 1) = false := by simp; omega
      have teq32 : (((c : Nat) : Int) == 32) = false := by simp; omega
      have teq9 : (((c : Nat) : Int) == 9) = false := by simp; omega
      have teq10 : (((c : Nat) : Int) == 10) = false := by simp; omega
      have teq13 : (((c : Nat) : Int) == 13) = false := by simp; omega
      have tge65 : decide ((65 : Int) ≤ ((c : Nat) : Int)) = true := by simp; omega
      have tle90 : decide (((c : Nat) : Int) ≤ 90) = false := by simp; omega
      have tge97 : decide ((97 : Int) ≤ ((c : Nat) : Int)) = true := by simp; omega
      have tle122 : decide (((c : Nat) : Int) ≤ 122) = false := by simp; omega
      have teq95 : (((c : Nat) : Int) == 95) = false := by simp; omega
      have tge48 : decide ((48 : Int) ≤ ((c : Nat) : Int)) = true := by simp; omega
      have tle57 : decide (((c : Nat) : Int) ≤ 57) = false := by simp; omega
      have tlt128 : decide (((c : Nat) : Int) < 128) = false := by simp; omega
      replace hc := hide hc
      replace h2 := hide h2
      go_enter Tryd.func46, Tryd.ntmps46
      go_wp2_with (refine cD.mono ?_; rintro e w2 ⟨rfl, hb⟩)
      go_ret2
      exact ⟨rfl, hb⟩
  · have e0 : ((r == 65533 && z == 1) : Bool) = false := by rw [show (r == 65533) = false from by simpa using h1]; rfl
    rw [e0, if_neg Bool.false_ne_true]
    have e1 : (((r : Nat) : Int) == 65533) = false := by simp; omega
    have teq32 : (((c : Nat) : Int) == 32) = false := by simp; omega
    have teq9 : (((c : Nat) : Int) == 9) = false := by simp; omega
    have teq10 : (((c : Nat) : Int) == 10) = false := by simp; omega
    have teq13 : (((c : Nat) : Int) == 13) = false := by simp; omega
    have tge65 : decide ((65 : Int) ≤ ((c : Nat) : Int)) = true := by simp; omega
    have tle90 : decide (((c : Nat) : Int) ≤ 90) = false := by simp; omega
    have tge97 : decide ((97 : Int) ≤ ((c : Nat) : Int)) = true := by simp; omega
    have tle122 : decide (((c : Nat) : Int) ≤ 122) = false := by simp; omega
    have teq95 : (((c : Nat) : Int) == 95) = false := by simp; omega
    have tge48 : decide ((48 : Int) ≤ ((c : Nat) : Int)) = true := by simp; omega
    have tle57 : decide (((c : Nat) : Int) ≤ 57) = false := by simp; omega
    have tlt128 : decide (((c : Nat) : Int) < 128) = false := by simp; omega
    replace hc := hide hc
    replace h1 := hide h1
    go_enter Tryd.func46, Tryd.ntmps46
    go_wp2_with (refine cD.mono ?_; rintro e w2 ⟨rfl, hb⟩)
    go_ret2
    exact ⟨rfl, hb⟩
theorem refAt_any (s : ByteArray) (i : Nat) (hi : i < s.size) (w : World) (hT : Lib.Utf8Tabs 1 2 w) : Calls Tryd.prog 46 #[.string s, .int .i64 i] w fun e w' => e = .returned (.tuple #[.int .i64 (kd s i), .int .i64 (wd s i)]) ∧ Below w.heap.size w w' := by
  by_cases hc : By s i < 128
  · exact refAt_low s i hi hc w
  · exact refAt_high s i hi hc w hT
end Go.Proofs.YtljhpbjngbbjbaaDoor

/- The document's signs. -/
namespace Go.Proofs.YtljhpbjngbbjbaaDoor
open Go Go.RowKit
theorem sg_cells : ∀ k, k < 25 → ((#[.string ⟨#[61, 61, 62]⟩, .string ⟨#[58, 61]⟩, .string ⟨#[60, 61]⟩, .string ⟨#[62, 61]⟩, .string ⟨#[60, 62]⟩, .string ⟨#[38, 38]⟩, .string ⟨#[124, 124]⟩, .string ⟨#[45, 62]⟩, .string ⟨#[59, 59]⟩, .string ⟨#[58]⟩, .string ⟨#[59]⟩, .string ⟨#[44]⟩, .string ⟨#[46]⟩, .string ⟨#[40]⟩, .string ⟨#[41]⟩, .string ⟨#[123]⟩, .string ⟨#[125]⟩, .string ⟨#[124]⟩, .string ⟨#[61]⟩, .string ⟨#[60]⟩, .string ⟨#[62]⟩, .string ⟨#[43]⟩, .string ⟨#[45]⟩, .string ⟨#[42]⟩, .string ⟨#[33]⟩] : Array Value))[k]? = some (.string (sgB k))
  | 0, _ => rfl
  | 1, _ => rfl
  | 2, _ => rfl
  | 3, _ => rfl
  | 4, _ => rfl
  | 5, _ => rfl
  | 6, _ => rfl
  | 7, _ => rfl
  | 8, _ => rfl
  | 9, _ => rfl
  | 10, _ => rfl
  | 11, _ => rfl
  | 12, _ => rfl
  | 13, _ => rfl
  | 14, _ => rfl
  | 15, _ => rfl
  | 16, _ => rfl
  | 17, _ => rfl
  | 18, _ => rfl
  | 19, _ => rfl
  | 20, _ => rfl
  | 21, _ => rfl
  | 22, _ => rfl
  | 23, _ => rfl
  | 24, _ => rfl
  | k + 25, h => by omega
theorem take_fits (t : ByteArray) (k : Nat) (hk : k < 25) (hz : (sgB k).size ≤ t.size) : ((t.extract 0 (sgB k).size).toList == (sgB k).toList) = fits t 0 (signL.getD k []) := by
  have h := hasPrefix_all t (sgB k)
  rw [sgB_nat k hk] at h
  rw [← h, ← Lib.hasPrefix_of_take, Lib.toList_data, Lib.toList_data]
  have e1 : decide ((sgB k).data.toList.length ≤ t.data.toList.length) = true := by simpa using hz
  rw [e1, Bool.true_and]
  have e2 : (t.extract 0 (sgB k).size).data.toList = t.data.toList.take (sgB k).data.toList.length := by
    rw [ByteArray.data_extract, Array.toList_extract]
    simp [List.extract]
  rw [e2]
theorem short_fits (t : ByteArray) (k : Nat) (hk : k < 25) (hz : ¬ (sgB k).size ≤ t.size) : fits t 0 (signL.getD k []) = false := by
  have h := hasPrefix_all t (sgB k)
  rw [sgB_nat k hk] at h
  rw [← h, ← Lib.hasPrefix_of_take]
  have e1 : decide ((sgB k).data.toList.length ≤ t.data.toList.length) = false := by simpa using hz
  rw [e1]
  rfl
theorem fits_text (t : ByteArray) (k : Nat) (hk : k < 25) (hf : fits t 0 (signL.getD k []) = true) : t.extract 0 (signL.getD k []).length = sgB k := by
  have hz : (sgB k).size ≤ t.size := by
    rcases Nat.lt_or_ge t.size (sgB k).size with h | h
    · rw [short_fits t k hk (by omega)] at hf; cases hf
    · exact h
  rw [← take_fits t k hk hz] at hf
  rw [← sgB_size k hk]
  have e : (t.extract 0 (sgB k).size).toList = (sgB k).toList := by simpa using hf
  rw [Lib.toList_data, Lib.toList_data] at e
  apply ByteArray.ext
  exact Array.toList_inj.1 e
set_option maxRecDepth 100000 in
set_option maxHeartbeats 16000000 in
theorem refSign_any (t : ByteArray) (ht : t.size ≤ 65536) (w : World) : Calls Tryd.prog 48 #[.string t] w fun e w' => e = .returned (.string (t.extract 0 (sgn t 0))) ∧ Below w.heap.size w w' := by
  obtain ⟨A, hA⟩ : ∃ A : Array Value, #[.string ⟨#[61, 61, 62]⟩, .string ⟨#[58, 61]⟩, .string ⟨#[60, 61]⟩, .string ⟨#[62, 61]⟩, .string ⟨#[60, 62]⟩, .string ⟨#[38, 38]⟩, .string ⟨#[124, 124]⟩, .string ⟨#[45, 62]⟩, .string ⟨#[59, 59]⟩, .string ⟨#[58]⟩, .string ⟨#[59]⟩, .string ⟨#[44]⟩, .string ⟨#[46]⟩, .string ⟨#[40]⟩, .string ⟨#[41]⟩, .string ⟨#[123]⟩, .string ⟨#[125]⟩, .string ⟨#[124]⟩, .string ⟨#[61]⟩, .string ⟨#[60]⟩, .string ⟨#[62]⟩, .string ⟨#[43]⟩, .string ⟨#[45]⟩, .string ⟨#[42]⟩, .string ⟨#[33]⟩] = A := ⟨_, rfl⟩
  have hc := sg_cells
  rw [hA] at hc
  replace hc := hide hc
  obtain ⟨x, hx⟩ : ∃ x, t.extract 0 (sgn t 0) = x := ⟨_, rfl⟩
  rw [hx]
  replace hx := hide hx
  go_enter Tryd.func48, Tryd.ntmps48
  go_wp2
  obtain ⟨V, hV⟩ : ∃ V, w.alloc (.cells A 9) = V := ⟨_, rfl⟩
  have hVb : Below w.heap.size w V := by rw [← hV]; exact (Below.refl _ w).alloc (Nat.le_refl _) _
  have hVs : w.heap.size < V.heap.size := by rw [← hV]; simp
  have hVc : Hid (∀ k, k < 25 → V.cell? ⟨w.heap.size, k, none⟩ = some (.string (sgB k))) := fun k hk => by
    have := heap_new w (.cells A 9)
    rw [← hV]
    simp only [World.cell?, this, unhide hc k hk]
    rfl
  rw [hV]
  replace hV := hide hV
  clear hA
  go_loopw [4] (fun iv wr => ∃ k : Nat, iv = .int .i64 k ∧ k ≤ 25 ∧ Below V.heap.size V wr ∧ ∀ j, j < k → fits t 0 (signL.getD j []) = false) (fun iv _ => 25 - (intOf iv).toNat)
  case atStart => exact ⟨0, rfl, by omega, Below.refl _ _, fun j hj => by omega⟩
  case round =>
    obtain ⟨k, rfl, hk, hbV, hn⟩ := hrel
    replace hn := hide hn
    have hbw := hide (hVb.trans (hbV.mono hVb.size))
    by_cases hk2 : k < 25
    · have c : wr.cell? ⟨w.heap.size, k, none⟩ = some (.string (sgB k)) := by rw [hbV.cell (p := ⟨w.heap.size, k, none⟩) hVs]; exact unhide hVc k hk2
      have hkz : (k : Int) < 25 := by omega
      have hz3 : (sgB k).size ≤ 3 := by rw [sgB_size k hk2]; exact (sign_pos k hk2).2
      obtain ⟨u, hu⟩ : ∃ u, sgB k = u := ⟨_, rfl⟩
      rw [hu] at c hz3
      replace hbV := hide hbV
      replace hVb := hide hVb
      by_cases hzz : u.size ≤ t.size
      · have hdz : decide (((u.size : Nat) : Int) ≤ ((t.size : Nat) : Int)) = true := by simp; omega
        have hsl : ∀ W, (Instr.slice 9 (.string t) none (some (.int .i64 (u.size : Nat))) none).run Tryd.prog W = .ok (.string (t.extract 0 u.size)) W := fun W => by
          have := run_slice_string_to_if (P := Tryd.prog) W 9 t .i64 (u.size : Int) Tryd.underlying9
          rw [if_pos (by omega), Int.toNat_natCast] at this
          exact this
        have ht := take_fits t k hk2 (by rw [hu]; exact hzz)
        rw [hu] at ht
        cases hf : fits t 0 (signL.getD k []) with
        | true =>
          have hxx : x = u := by rw [← unhide hx, sgn_found t 0 k hk2 (unhide hn) hf, fits_text t k hk2 hf, hu]
          rw [hf] at ht
          subst hxx
          replace hu := hide hu
          clear hf
          go_wp2_with fail
          go_quiet (fail)
          go_wp2
          go_ret
          have h := unhide hbw
          exact ⟨rfl, ⟨h.os, h.tape, h.output, h.size, h.block⟩⟩
        | false =>
          have hn2 : Hid (∀ j, j < k + 1 → fits t 0 (signL.getD j []) = false) := fun j hj => by
            rcases Nat.lt_or_eq_of_le (Nat.le_of_lt_succ hj) with h | h
            · exact unhide hn j h
            · rw [h]; exact hf
          rw [hf] at ht
          replace hu := hide hu
          clear hf
          go_wp2_with fail
          go_quiet (fail)
          go_wp2
          have h := unhide hbV
          exact ⟨⟨k + 1, by simp, by omega, ⟨h.os, h.tape, h.output, h.size, h.block⟩, unhide hn2⟩, by simp [intOf]; omega⟩
      · have hdz : decide (((u.size : Nat) : Int) ≤ ((t.size : Nat) : Int)) = false := by simp; omega
        have hn2 : Hid (∀ j, j < k + 1 → fits t 0 (signL.getD j []) = false) := fun j hj => by
          rcases Nat.lt_or_eq_of_le (Nat.le_of_lt_succ hj) with h | h
          · exact unhide hn j h
          · rw [h]; exact short_fits t k hk2 (by rw [hu]; exact hzz)
        replace hu := hide hu
        have hdz2 : decide (u.size ≤ t.size) = false := by simpa using hzz
        go_wp2_with fail
        go_quiet (fail)
        go_wp2
        have h := unhide hbV
        exact ⟨⟨k + 1, by simp, by omega, ⟨h.os, h.tape, h.output, h.size, h.block⟩, unhide hn2⟩, by simp [intOf]; omega⟩
    · obtain rfl : k = 25 := by omega
      have hxx : x = ⟨#[]⟩ := by
        rw [← unhide hx, sgn_none t 0 (unhide hn)]
        apply ByteArray.ext
        apply Array.ext'
        simp
      subst hxx
      go_wp2
      go_ret
      exact ⟨rfl, unhide hbw⟩
end Go.Proofs.YtljhpbjngbbjbaaDoor

/- The document's Tokens: where a round begins. -/
namespace Go.Proofs.YtljhpbjngbbjbaaDoor
open Go Go.RowKit

def cR : Code → Code
  | .seq _ b => b
  | c => c
def cL : Code → Code
  | .seq a _ => a
  | c => c
def cB : Code → Code
  | .block _ c => c
  | c => c
def cO : Code → Code
  | .loop c => c
  | c => c
/-- The body of the great loop of a function of this shape. -/
def tBody (f : Func) : Code := cO (cB (cL (cR (cR (cR (cR (f.body.getD .skip)))))))
theorem arr_lit {a : Array Value} {n : Nat} (h : a.size = n) : a = ((List.range n).map fun i => a.getD i undef).toArray := by
  apply Array.ext
  · simp [h]
  · intro i h1 h2
    simp [Array.getD_eq_getD_getElem?, h1]
theorem getD_some {a : Array Value} {i : Nat} {v : Value} (h : a[i]? = some v) : a.getD i undef = v := by simp [Array.getD_eq_getD_getElem?, h]
/-- Where a round of the document's Tokens begins. -/
structure TS (a : Act) (s : ByteArray) (ov : Value) (i : Nat) : Prop where
  dfr : a.defers = []
  sz : a.tmps.size = 216
  s0 : a.tmps[0]? = some (.string s)
  s5 : a.tmps[5]? = some ov
  s6 : a.tmps[6]? = some (.int .i64 i)
set_option maxRecDepth 100000 in
theorem TS.lit {a : Act} {s : ByteArray} {ov : Value} {i : Nat} (h : TS a s ov i) : ∃ u : Nat → Value, a = ⟨#[.string s, u 1, u 2, u 3, u 4, ov, .int .i64 i, u 7, u 8, u 9, u 10, u 11, u 12, u 13, u 14, u 15, u 16, u 17, u 18, u 19, u 20, u 21, u 22, u 23, u 24, u 25, u 26, u 27, u 28, u 29, u 30, u 31, u 32, u 33, u 34, u 35, u 36, u 37, u 38, u 39, u 40, u 41, u 42, u 43, u 44, u 45, u 46, u 47, u 48, u 49, u 50, u 51, u 52, u 53, u 54, u 55, u 56, u 57, u 58, u 59, u 60, u 61, u 62, u 63, u 64, u 65, u 66, u 67, u 68, u 69, u 70, u 71, u 72, u 73, u 74, u 75, u 76, u 77, u 78, u 79, u 80, u 81, u 82, u 83, u 84, u 85, u 86, u 87, u 88, u 89, u 90, u 91, u 92, u 93, u 94, u 95, u 96, u 97, u 98, u 99, u 100, u 101, u 102, u 103, u 104, u 105, u 106, u 107, u 108, u 109, u 110, u 111, u 112, u 113, u 114, u 115, u 116, u 117, u 118, u 119, u 120, u 121, u 122, u 123, u 124, u 125, u 126, u 127, u 128, u 129, u 130, u 131, u 132, u 133, u 134, u 135, u 136, u 137, u 138, u 139, u 140, u 141, u 142, u 143, u 144, u 145, u 146, u 147, u 148, u 149, u 150, u 151, u 152, u 153, u 154, u 155, u 156, u 157, u 158, u 159, u 160, u 161, u 162, u 163, u 164, u 165, u 166, u 167, u 168, u 169, u 170, u 171, u 172, u 173, u 174, u 175, u 176, u 177, u 178, u 179, u 180, u 181, u 182, u 183, u 184, u 185, u 186, u 187, u 188, u 189, u 190, u 191, u 192, u 193, u 194, u 195, u 196, u 197, u 198, u 199, u 200, u 201, u 202, u 203, u 204, u 205, u 206, u 207, u 208, u 209, u 210, u 211, u 212, u 213, u 214, u 215], []⟩ := by
  obtain ⟨tmps, dfr⟩ := a
  refine ⟨fun i => tmps.getD i undef, ?_⟩
  have hd : dfr = [] := h.dfr
  have hl := arr_lit (show tmps.size = 216 from h.sz)
  have g0 : tmps.getD 0 undef = .string s := getD_some h.s0
  have g5 : tmps.getD 5 undef = ov := getD_some h.s5
  have g6 : tmps.getD 6 undef = .int .i64 i := getD_some h.s6
  subst hd
  congr 1
  have e : ((List.range 216).map fun i => tmps.getD i undef).toArray = #[tmps.getD 0 undef, tmps.getD 1 undef, tmps.getD 2 undef, tmps.getD 3 undef, tmps.getD 4 undef, tmps.getD 5 undef, tmps.getD 6 undef, tmps.getD 7 undef, tmps.getD 8 undef, tmps.getD 9 undef, tmps.getD 10 undef, tmps.getD 11 undef, tmps.getD 12 undef, tmps.getD 13 undef, tmps.getD 14 undef, tmps.getD 15 undef, tmps.getD 16 undef, tmps.getD 17 undef, tmps.getD 18 undef, tmps.getD 19 undef, tmps.getD 20 undef, tmps.getD 21 undef, tmps.getD 22 undef, tmps.getD 23 undef, tmps.getD 24 undef, tmps.getD 25 undef, tmps.getD 26 undef, tmps.getD 27 undef, tmps.getD 28 undef, tmps.getD 29 undef, tmps.getD 30 undef, tmps.getD 31 undef, tmps.getD 32 undef, tmps.getD 33 undef, tmps.getD 34 undef, tmps.getD 35 undef, tmps.getD 36 undef, tmps.getD 37 undef, tmps.getD 38 undef, tmps.getD 39 undef, tmps.getD 40 undef, tmps.getD 41 undef, tmps.getD 42 undef, tmps.getD 43 undef, tmps.getD 44 undef, tmps.getD 45 undef, tmps.getD 46 undef, tmps.getD 47 undef, tmps.getD 48 undef, tmps.getD 49 undef, tmps.getD 50 undef, tmps.getD 51 undef, tmps.getD 52 undef, tmps.getD 53 undef, tmps.getD 54 undef, tmps.getD 55 undef, tmps.getD 56 undef, tmps.getD 57 undef, tmps.getD 58 undef, tmps.getD 59 undef, tmps.getD 60 undef, tmps.getD 61 undef, tmps.getD 62 undef, tmps.getD 63 undef, tmps.getD 64 undef, tmps.getD 65 undef, tmps.getD 66 undef, tmps.getD 67 undef, tmps.getD 68 undef, tmps.getD 69 undef, tmps.getD 70 undef, tmps.getD 71 undef, tmps.getD 72 undef, tmps.getD 73 undef, tmps.getD 74 undef, tmps.getD 75 undef, tmps.getD 76 undef, tmps.getD 77 undef, tmps.getD 78 undef, tmps.getD 79 undef, tmps.getD 80 undef, tmps.getD 81 undef, tmps.getD 82 undef, tmps.getD 83 undef, tmps.getD 84 undef, tmps.getD 85 undef, tmps.getD 86 undef, tmps.getD 87 undef, tmps.getD 88 undef, tmps.getD 89 undef, tmps.getD 90 undef, tmps.getD 91 undef, tmps.getD 92 undef, tmps.getD 93 undef, tmps.getD 94 undef, tmps.getD 95 undef, tmps.getD 96 undef, tmps.getD 97 undef, tmps.getD 98 undef, tmps.getD 99 undef, tmps.getD 100 undef, tmps.getD 101 undef, tmps.getD 102 undef, tmps.getD 103 undef, tmps.getD 104 undef, tmps.getD 105 undef, tmps.getD 106 undef, tmps.getD 107 undef, tmps.getD 108 undef, tmps.getD 109 undef, tmps.getD 110 undef, tmps.getD 111 undef, tmps.getD 112 undef, tmps.getD 113 undef, tmps.getD 114 undef, tmps.getD 115 undef, tmps.getD 116 undef, tmps.getD 117 undef, tmps.getD 118 undef, tmps.getD 119 undef, tmps.getD 120 undef, tmps.getD 121 undef, tmps.getD 122 undef, tmps.getD 123 undef, tmps.getD 124 undef, tmps.getD 125 undef, tmps.getD 126 undef, tmps.getD 127 undef, tmps.getD 128 undef, tmps.getD 129 undef, tmps.getD 130 undef, tmps.getD 131 undef, tmps.getD 132 undef, tmps.getD 133 undef, tmps.getD 134 undef, tmps.getD 135 undef, tmps.getD 136 undef, tmps.getD 137 undef, tmps.getD 138 undef, tmps.getD 139 undef, tmps.getD 140 undef, tmps.getD 141 undef, tmps.getD 142 undef, tmps.getD 143 undef, tmps.getD 144 undef, tmps.getD 145 undef, tmps.getD 146 undef, tmps.getD 147 undef, tmps.getD 148 undef, tmps.getD 149 undef, tmps.getD 150 undef, tmps.getD 151 undef, tmps.getD 152 undef, tmps.getD 153 undef, tmps.getD 154 undef, tmps.getD 155 undef, tmps.getD 156 undef, tmps.getD 157 undef, tmps.getD 158 undef, tmps.getD 159 undef, tmps.getD 160 undef, tmps.getD 161 undef, tmps.getD 162 undef, tmps.getD 163 undef, tmps.getD 164 undef, tmps.getD 165 undef, tmps.getD 166 undef, tmps.getD 167 undef, tmps.getD 168 undef, tmps.getD 169 undef, tmps.getD 170 undef, tmps.getD 171 undef, tmps.getD 172 undef, tmps.getD 173 undef, tmps.getD 174 undef, tmps.getD 175 undef, tmps.getD 176 undef, tmps.getD 177 undef, tmps.getD 178 undef, tmps.getD 179 undef, tmps.getD 180 undef, tmps.getD 181 undef, tmps.getD 182 undef, tmps.getD 183 undef, tmps.getD 184 undef, tmps.getD 185 undef, tmps.getD 186 undef, tmps.getD 187 undef, tmps.getD 188 undef, tmps.getD 189 undef, tmps.getD 190 undef, tmps.getD 191 undef, tmps.getD 192 undef, tmps.getD 193 undef, tmps.getD 194 undef, tmps.getD 195 undef, tmps.getD 196 undef, tmps.getD 197 undef, tmps.getD 198 undef, tmps.getD 199 undef, tmps.getD 200 undef, tmps.getD 201 undef, tmps.getD 202 undef, tmps.getD 203 undef, tmps.getD 204 undef, tmps.getD 205 undef, tmps.getD 206 undef, tmps.getD 207 undef, tmps.getD 208 undef, tmps.getD 209 undef, tmps.getD 210 undef, tmps.getD 211 undef, tmps.getD 212 undef, tmps.getD 213 undef, tmps.getD 214 undef, tmps.getD 215 undef] := rfl
  rw [e, g0, g5, g6] at hl
  exact hl
/-- What is handed back with an error. -/
structure RS (a : Act) (p e : Nat) : Prop where
  dfr : a.defers = []
  s2 : a.tmps[2]? = some (.slice none 0 0)
  s3 : a.tmps[3]? = some (.int .i64 p)
  s4 : a.tmps[4]? = some (.int .i64 e)
set_option maxRecDepth 100000 in
set_option maxHeartbeats 16000000 in
theorem rr_blank {Q : Exit → Act → World → Prop} {a : Act} {wr : World} {s : ByteArray} {ov : Value} {i : Nat} (hs : s.size ≤ 65536) (hT : Lib.Utf8Tabs 1 2 wr) (h : TS a s ov i) (hi : i < s.size) (hk : kd s i = 1)
    (hq : ∀ a' w', TS a' s ov (i + 1) → Below wr.heap.size wr w' → Q .normal a' w') : Code.wp Tryd.prog (tBody Tryd.f32) Q a wr := by
  obtain ⟨u, rfl⟩ := h.lit
  have c := refAt_any s i hi wr hT
  rw [hk] at c
  have hiz : (i : Int) < (s.size : Int) := by omega
  have hQ := hide hq
  clear hq h
  conv => arg 2; whnf
  go_wp2_with (refine c.mono ?_; rintro e w2 ⟨rfl, hb⟩)
  exact unhide hQ _ _ ⟨rfl, rfl, rfl, rfl, rfl⟩ hb
theorem rest_rest (s : ByteArray) (i m : Nat) (h : i + m ≤ s.size) : (s.extract i s.size).extract 0 m = s.extract i (i + m) := by
  apply ByteArray.ext
  apply Array.ext'
  simp only [ByteArray.data_extract, Array.toList_extract, List.extract, List.drop_zero, Nat.sub_zero, List.take_take]
  congr 1
  have : s.size = s.data.toList.length := by simp
  omega
theorem fits_rest (s : ByteArray) (i : Nat) : ∀ (l : List Nat) j, fits (s.extract i s.size) j l = fits s (i + j) l := by
  intro l
  induction l with
  | nil => intro j; rfl
  | cons c l ih =>
    intro j
    unfold fits
    rw [rest_By, ih, rest_size]
    have e : decide (j < s.size - i) = decide (i + j < s.size) := by
      rw [Bool.eq_iff_iff]; simp; omega
    rw [e]
    rfl
theorem sgn_rest (s : ByteArray) (i : Nat) : sgn (s.extract i s.size) 0 = sgn s i := by
  unfold sgn
  have e : (fun l => fits (s.extract i s.size) 0 l) = fun l => fits s i l := by funext l; rw [fits_rest]; rfl
  rw [e]
theorem sgn_le (s : ByteArray) (i : Nat) (h : sgn s i ≠ 0) : i + sgn s i ≤ s.size ∧ sgn s i ≤ 3 := by
  obtain ⟨l, hl, hf, e⟩ := sgn_fits s i h
  have hr := reach_fits s l i (sign_ascii l hl).1 hf
  rw [e]
  refine ⟨hr.2 (sign_ascii l hl).2, ?_⟩
  obtain ⟨k, hk, rfl⟩ := List.getElem_of_mem hl
  have := (sign_pos k hk).2
  rw [List.getD_eq_getElem?_getD, List.getElem?_eq_getElem hk] at this
  exact this
theorem ext_size (s : ByteArray) (i j : Nat) (h1 : i ≤ j) (h2 : j ≤ s.size) : (s.extract i j).size = j - i := by
  rw [ByteArray.size_extract]; omega
theorem wd_word (s : ByteArray) (h : isWd s = true) : s.size ≤ 9 := by
  unfold isWd at h
  obtain ⟨l, hl, e⟩ := List.any_eq_true.1 h
  have e : s.data.toList = l := by simpa using e
  have : s.size = l.length := by rw [← e]; simp
  rw [this]
  exact (by decide : ∀ l ∈ wordL, l.length ≤ 9) l hl
theorem kd_cases (s : ByteArray) (i : Nat) (h : kd s i = 0) : noR s i = true := by
  unfold kd at h
  cases hn : noR s i with
  | true => rfl
  | false =>
    rw [hn, if_neg Bool.false_ne_true] at h
    repeat' (split at h)
    all_goals cases h
/-- '(' is of kind 4. -/
theorem kd_open (s : ByteArray) (i : Nat) (h : kd s i ≠ 4) : By s i ≠ 40 := by
  intro e
  rw [(kd_ascii s i (by omega)).1, e] at h
  exact h rfl
/-- Comments, as the document looks for their end. -/
def cm2 (s : ByteArray) : Nat → Nat → Nat × Nat
  | 0, _ => (0, 2)
  | f + 1, i => if i < s.size then (if fits s i [42, 41] then (i + 2, 0) else if noR s i then (i, 1) else cm2 s f (i + wd s i)) else (0, 2)
theorem fits_end (s : ByteArray) (i : Nat) : fits s i [42, 41] = (decide (i < s.size) && By s i == 42 && (decide (i + 1 < s.size) && By s (i + 1) == 41)) := by
  simp [fits]
theorem rn_eq (s : ByteArray) (i c : Nat) (hc : c < 128) : (rn s i == c) = (By s i == c) := by
  rw [Bool.eq_iff_iff]
  simp only [beq_iff_eq]
  constructor
  · intro h; rw [(rn_low s i (by omega)).1, h]
  · intro h; rw [(rn_ascii s i (by omega)).1, h]
theorem cm2_star (s : ByteArray) (f i : Nat) (h1 : By s i = 42) (h2 : i < s.size) (h3 : fits s i [42, 41] = false) : cm2 s (f + 1) i = cm2 s f (i + 1) := by
  conv => lhs; unfold cm2
  rw [if_pos h2, h3, if_neg Bool.false_ne_true, noR_ascii s i (by omega), if_neg Bool.false_ne_true, (rn_ascii s i (by omega)).2]
theorem cmt_two (s : ByteArray) : ∀ f, (∀ i, s.size ≤ i + f → cmt s f i false = cm2 s f i) ∧ (∀ i, By s i = 42 → i < s.size → s.size ≤ i + 1 + f → cmt s f (i + 1) true = cm2 s (f + 1) i) := by
  have key : ∀ f, (∀ i, s.size ≤ i + f → cmt s f i false = cm2 s f i) → ∀ i, By s i = 42 → i < s.size → s.size ≤ i + 1 + f → cmt s f (i + 1) true = cm2 s (f + 1) i := by
    intro f h1 i hb hi hf
    by_cases hlt : i + 1 < s.size
    · obtain ⟨g, rfl⟩ : ∃ g, f = g + 1 := ⟨f - 1, by omega⟩
      by_cases h41 : By s (i + 1) = 41
      · have hfit : fits s i [42, 41] = true := by rw [fits_end]; simp [hb, hi, hlt, h41]
        conv => rhs; unfold cm2
        rw [if_pos hi, if_pos hfit]
        unfold cmt
        rw [if_pos hlt, noR_ascii s (i + 1) (by omega), if_neg Bool.false_ne_true, rn_eq s (i + 1) 41 (by omega), h41, if_pos (by rfl)]
      · have hfit : fits s i [42, 41] = false := by rw [fits_end]; simp [h41]
        rw [cm2_star s (g + 1) i hb hi hfit, ← h1 (i + 1) (by omega)]
        have e41 : (rn s (i + 1) == 41) = false := by rw [rn_eq s (i + 1) 41 (by omega)]; simpa using h41
        unfold cmt
        rw [if_pos hlt, if_pos hlt, e41]
        rfl
    · have hfit : fits s i [42, 41] = false := by rw [fits_end]; simp [hlt]
      rw [cm2_star s f i hb hi hfit, ← h1 (i + 1) (by omega)]
      cases f with
      | zero => rfl
      | succ g => unfold cmt; rw [if_neg hlt, if_neg hlt]
  intro f
  induction f with
  | zero => exact ⟨fun i _ => rfl, key 0 (fun i _ => rfl)⟩
  | succ f ih =>
    have h1 : ∀ i, s.size ≤ i + (f + 1) → cmt s (f + 1) i false = cm2 s (f + 1) i := by
      intro i hf
      by_cases hi : i < s.size
      · by_cases h42 : By s i = 42
        · rw [← ih.2 i h42 hi (by omega)]
          conv => lhs; unfold cmt
          rw [if_pos hi, noR_ascii s i (by omega), if_neg Bool.false_ne_true, rn_eq s i 42 (by omega), h42, (rn_ascii s i (by omega)).2]
          rfl
        · have hfit : fits s i [42, 41] = false := by rw [fits_end]; simp [h42]
          unfold cmt cm2
          rw [if_pos hi, if_pos hi, hfit, if_neg Bool.false_ne_true]
          have e42 : (rn s i == 42) = false := by rw [rn_eq s i 42 (by omega)]; simpa using h42
          cases noR s i with
          | true => rfl
          | false =>
            rw [if_neg Bool.false_ne_true, if_neg Bool.false_ne_true, e42]
            have := wd_pos s i
            rw [ih.1 (i + wd s i) (by omega)]
            rfl
      · unfold cmt cm2
        rw [if_neg hi, if_neg hi]
    exact ⟨h1, key (f + 1) h1⟩
end Go.Proofs.YtljhpbjngbbjbaaDoor

namespace Go.Proofs.YtljhpbjngbbjbaaDoor
open Go Go.RowKit

set_option maxRecDepth 100000 in
set_option maxHeartbeats 16000000 in
theorem rr_bad {Q : Exit → Act → World → Prop} {a : Act} {wr : World} {s : ByteArray} {ov : Value} {i : Nat} (hs : s.size ≤ 65536) (hT : Lib.Utf8Tabs 1 2 wr) (h : TS a s ov i) (hi : i < s.size) (hk : kd s i = 0)
    (hq : ∀ a' w', RS a' i 140 → Below wr.heap.size wr w' → Q .ret a' w') : Code.wp Tryd.prog (tBody Tryd.f32) Q a wr := by
  obtain ⟨u, rfl⟩ := h.lit
  have c := refAt_any s i hi wr hT
  have hne := kd_open s i (by omega)
  rw [hk] at c
  have hiz : (i : Int) < (s.size : Int) := by omega
  have hQ := hide hq
  have hx : (s[i]'hi).toNat = By s i := by unfold By; rw [get_lt s i hi]
  have hb40 : (((By s i : Nat) : Int) == 40) = false := by simp; omega
  clear hq h hne
  rcases Bool.eq_false_or_eq_true (decide ((i : Int) + 1 < (s.size : Int))) with hd4 | hd4
  all_goals
    conv => arg 2; whnf
    go_wp2_with (refine c.mono ?_; rintro e w2 ⟨rfl, hb⟩)
    exact unhide hQ _ _ ⟨rfl, rfl, rfl, rfl⟩ hb
/-- Where no comment begins: why. -/
theorem no_open (s : ByteArray) (i : Nat) (hi : i < s.size) (h : fits s i [40, 42] = false) : ¬ i + 1 < s.size ∨ (i + 1 < s.size ∧ By s i ≠ 40) ∨ (i + 1 < s.size ∧ By s i = 40 ∧ By s (i + 1) ≠ 42) := by
  simp [fits, hi] at h
  by_cases h1 : i + 1 < s.size
  · by_cases h2 : By s i = 40
    · exact .inr (.inr ⟨h1, h2, h h2 h1⟩)
    · exact .inr (.inl ⟨h1, h2⟩)
  · exact .inl h1
set_option maxRecDepth 100000 in
set_option maxHeartbeats 16000000 in
theorem rr_sign {Q : Exit → Act → World → Prop} {a : Act} {wr : World} {s : ByteArray} {ov : Value} {i B n : Nat} {xs : List Value} (hs : s.size ≤ 65536) (hT : Lib.Utf8Tabs 1 2 wr) (h : TS a s ov i) (hi : i < s.size) (hk : kd s i = 4) (hf : fits s i [40, 42] = false)
    (hown : wr.ownsRow B 87 3 ov n xs) (hn : n ≤ 65536) (hB : B ≤ wr.heap.size)
    (hqe : sgn s i = 0 → ∀ a' w', RS a' i 140 → Below wr.heap.size wr w' → Q .ret a' w')
    (hqt : sgn s i ≠ 0 → ∀ a' w' ov', TS a' s ov' (i + sgn s i) → Below B wr w' → w'.ownsRow B 87 3 ov' (n + 1) (xs ++ [.int .i64 4, .string (s.extract i (i + sgn s i)), .int .i64 i]) → Q .normal a' w') : Code.wp Tryd.prog (tBody Tryd.f32) Q a wr := by
  obtain ⟨u, rfl⟩ := h.lit
  have c := refAt_any s i hi wr hT
  rw [hk] at c
  have hiz : (i : Int) < (s.size : Int) := by omega
  have hsl := fun W => sl1 s i (i : Int) rfl (by omega) W
  have cS := refSign_any (s.extract i s.size) (by rw [rest_size]; omega)
  rw [sgn_rest] at cS
  have hx : (s[i]'hi).toNat = By s i := by unfold By; rw [get_lt s i hi]
  clear h hT
  replace hown := hide hown
  have ho := no_open s i hi hf
  clear hf
  have hcase : (decide ((i : Int) + 1 < (s.size : Int)) = false) ∨ (decide ((i : Int) + 1 < (s.size : Int)) = true ∧ (((By s i : Nat) : Int) == 40) = false) ∨ (decide ((i : Int) + 1 < (s.size : Int)) = true ∧ (((By s i : Nat) : Int) == 40) = true ∧ ∃ h1 : i + 1 < s.size, (((s[i + 1]'h1).toNat : Int) == 42) = false) := by
    rcases ho with h1 | ⟨h1, h2⟩ | ⟨h1, h2, h3⟩
    · exact .inl (by simp; omega)
    · exact .inr (.inl ⟨by simp; omega, by simp; omega⟩)
    · refine .inr (.inr ⟨by simp; omega, by simp; omega, h1, ?_⟩)
      have : (s[i + 1]'h1).toNat = By s (i + 1) := by unfold By; rw [get_lt s (i + 1) h1]
      rw [this]; simp; omega
  clear ho
  by_cases h0 : sgn s i = 0
  · have hQ := hide (hqe h0)
    clear hqe hqt
    rw [h0, show (s.extract i s.size).extract 0 0 = ⟨#[]⟩ from by apply ByteArray.ext; apply Array.ext'; simp] at cS
    obtain ⟨e0, he0⟩ : ∃ e0 : ByteArray, ⟨#[]⟩ = e0 := ⟨_, rfl⟩
    rw [he0] at cS
    have hee : (e0.toList == []) = true := by rw [← he0, Lib.toList_data]; rfl
    clear he0 h0
    rcases hcase with hd4 | ⟨hd4, hd5⟩ | ⟨hd4, hd5, h1, hd6⟩
    all_goals
      conv => arg 2; whnf
      go_wp2_with (first | (refine c.mono ?_; rintro e w2 ⟨rfl, hb⟩) | (refine (cS _).mono ?_; rintro e w3 ⟨rfl, hb3⟩))
      exact unhide hQ _ _ ⟨rfl, rfl, rfl, rfl⟩ (hb.trans (hb3.mono hb.size))
  · have hQ := hide (hqt h0)
    clear hqe hqt
    have hle := sgn_le s i h0
    rw [rest_rest s i (sgn s i) hle.1] at cS
    obtain ⟨m, hm⟩ : ∃ m, sgn s i = m := ⟨_, rfl⟩
    rw [hm] at cS hQ hle h0
    obtain ⟨t, ht⟩ : ∃ t, s.extract i (i + m) = t := ⟨_, rfl⟩
    rw [ht] at cS hQ
    have htz : t.size = m := by rw [← ht, ext_size s i (i + m) (by omega) hle.1]; omega
    have hee : (t.toList == []) = false := by
      rw [Lib.toList_data]
      have : t.data.toList.length = m := by rw [← htz]; simp
      cases hl : t.data.toList with
      | nil => rw [hl] at this; simp at this; omega
      | cons x l => rfl
    have hmz : (m : Int) ≤ 3 := by omega
    have htm : ((t.size : Nat) : Int) = (m : Int) := by rw [htz]
    clear ht hm htz
    rcases hcase with hd4 | ⟨hd4, hd5⟩ | ⟨hd4, hd5, h1, hd6⟩
    all_goals
      conv => arg 2; whnf
      go_wp2_with (first | (refine c.mono ?_; rintro e w2 ⟨rfl, hb⟩) | (refine (cS _).mono ?_; rintro e w3 ⟨rfl, hb3⟩; obtain ⟨v5, w5, R1, ho5, hb5⟩ := tok_new 4 t i 80 (own_same (own_same (unhide hown) hb) hb3) (by omega) (by have := hb.size; have := hb3.size; omega); replace R1 := hide R1; replace ho5 := hide ho5; replace hb5 := hide hb5) | (at_builtin; refine app_run _ _ _ rfl rfl rfl rfl (unhide R1) ?_; clear R1))
      exact unhide hQ _ _ _ ⟨rfl, rfl, rfl, rfl, rfl⟩ (((hb.trans (hb3.mono hb.size)).mono hB).trans (unhide hb5)) (unhide ho5)
end Go.Proofs.YtljhpbjngbbjbaaDoor
