/- The document's numbers (package avowref1): that Right, trim, Parse, Must return; light. -/
import Derived.Test.YtlcfldkmojpkpaaGreatDoorP2
namespace Go.Proofs.YtlcfldkmojpkpaaGreatDoor
open Go.RowKit

/-- The bytes of a right text. -/
theorem txt_at {neg : Bool} {D : List UInt8} {T : ByteArray} (hT : T.data.toList = txt neg D) (hD : Dg D) (i : Nat) (hi : i < T.size) : (i = 0 ∧ neg = true ∧ (T[i]'hi).toNat = 45) ∨ ((0 < i ∨ neg = false) ∧ 48 ≤ (T[i]'hi).toNat ∧ (T[i]'hi).toNat ≤ 57) := by
  have h := get_toList T i hi (by have : T.data.toList.length = T.size := by simp
                                  omega)
  rw [← h]
  cases neg with
  | false =>
    refine .inr ⟨.inr rfl, hD _ ?_⟩
    have : txt false D = D := rfl
    rw [← this, ← hT]
    exact List.getElem_mem _
  | true =>
    cases i with
    | zero =>
      refine .inl ⟨rfl, rfl, ?_⟩
      simp only [hT, txt, if_true, List.getElem_cons_zero]
      rfl
    | succ i =>
      refine .inr ⟨.inl (by omega), hD _ ?_⟩
      simp only [hT, txt, if_true, List.getElem_cons_succ]
      exact List.getElem_mem _
/-- A right text: digits, no nought ahead of others, no nought below 0. -/
structure RT (neg : Bool) (D : List UInt8) : Prop where
  dg : Dg D
  ne : D ≠ []
  z : D.head? = some 48 → D = [48] ∧ neg = false
  len : D.length ≤ 400
theorem txt_size {neg : Bool} {D : List UInt8} {T : ByteArray} (hT : T.data.toList = txt neg D) : T.size = D.length + (if neg then 1 else 0) := by
  have : T.data.toList.length = T.size := by simp
  rw [← this, hT]
  cases neg <;> simp [txt]
theorem txt_first {neg : Bool} {D : List UInt8} {T : ByteArray} (hT : T.data.toList = txt neg D) (h : RT neg D) (i : Nat) (hi : i < T.size) (e : i = if neg then 1 else 0) : (T[i]'hi).toNat = 48 → D = [48] ∧ neg = false := by
  intro h48
  apply h.z
  have hg := get_toList T i hi (by have : T.data.toList.length = T.size := by simp
                                   omega)
  rw [← hg] at h48
  obtain ⟨b, D', rfl⟩ : ∃ b D', D = b :: D' := by
    cases D with
    | nil => exact absurd rfl h.ne
    | cons b D' => exact ⟨b, D', rfl⟩
  simp only [List.head?_cons, Option.some.injEq]
  apply UInt8.toNat_inj.1
  subst e
  cases neg with
  | false => simpa [hT, txt] using h48
  | true => simpa [hT, txt] using h48

set_option maxRecDepth 100000 in
set_option maxHeartbeats 800000 in
theorem right_yes (neg : Bool) (D : List UInt8) (T : ByteArray) (w : World) (hT : T.data.toList = txt neg D) (h : RT neg D) :
    Calls Tryz.prog 105 #[.string T] w fun e w' => e = .returned (.bool true) ∧ Below w.heap.size w w' := by
  have hsz := txt_size hT
  have hl := h.len
  have hD0 : 0 < D.length := List.length_pos_iff.2 h.ne
  have hat := txt_at hT h.dg
  have hpos : 0 < T.size := by omega
  have hls : T.size ≤ 1000 := by cases neg <;> simp at hsz <;> omega
  have hfst := txt_first hT h
  cases neg with
  | false =>
    simp at hsz
    obtain ⟨c0, c1, c2⟩ : (0 < 0 ∨ false = false) ∧ 48 ≤ (T[0]'hpos).toNat ∧ (T[0]'hpos).toNat ≤ 57 := by
      rcases hat 0 hpos with ⟨_, h9, _⟩ | h9
      · cases h9
      · exact h9
    have h45 : (((T[0]'hpos).toNat : Int) == 45) = false := by simp; omega
    have h0L : ((0 : Int) == (T.size : Int)) = false := by simp; omega
    have h48 : ((((T[0]'hpos).toNat : Int) == 48) = true ∧ (T.size : Int) = 1) ∨ (((T[0]'hpos).toNat : Int) == 48) = false := by
      by_cases e : (T[0]'hpos).toNat = 48
      · have h2 := (hfst 0 hpos rfl e).1
        refine .inl ⟨by simp; omega, ?_⟩
        rw [hsz, h2]; rfl
      · exact .inr (by simp; omega)
    clear hfst hsz c0 hD0 h hT hl
    rcases h48 with ⟨h48, hL1⟩ | h48
    · have hL2 : decide ((1 : Int) < (T.size : Int)) = false := by simp; omega
      go_enter Tryz.func105, Tryz.ntmps105
      go_wp2
      go_loop [3] (fun iv => ∃ i : Nat, 0 ≤ i ∧ i ≤ T.size ∧ iv = .int .i64 i) (fun iv => T.size - (intOf iv).toNat)
      case atStart => exact ⟨0, Nat.le_refl _, by omega, rfl⟩
      case round =>
        obtain ⟨i, hi0, hi1, rfl⟩ := hrel
        by_cases hi : i < T.size
        · obtain ⟨d0, d1⟩ : 48 ≤ (T[i]'hi).toNat ∧ (T[i]'hi).toNat ≤ 57 := by
            rcases hat i hi with ⟨h7, h8, h9⟩ | ⟨_, h9⟩
            · first | (cases h8; done) | omega
            · exact h9
          have t0 : decide (((T[i]'hi).toNat : Int) < 48) = false := by simp; omega
          have t1 : decide (57 < ((T[i]'hi).toNat : Int)) = false := by simp; omega
          go_wp2
          exact ⟨⟨i + 1, by omega, by omega, by simp⟩, by simp [intOf]; omega⟩
        · go_wp2
          go_ret
          exact ⟨rfl, Below.refl _ _⟩
    · skip
      go_enter Tryz.func105, Tryz.ntmps105
      go_wp2
      go_loop [3] (fun iv => ∃ i : Nat, 0 ≤ i ∧ i ≤ T.size ∧ iv = .int .i64 i) (fun iv => T.size - (intOf iv).toNat)
      case atStart => exact ⟨0, Nat.le_refl _, by omega, rfl⟩
      case round =>
        obtain ⟨i, hi0, hi1, rfl⟩ := hrel
        by_cases hi : i < T.size
        · obtain ⟨d0, d1⟩ : 48 ≤ (T[i]'hi).toNat ∧ (T[i]'hi).toNat ≤ 57 := by
            rcases hat i hi with ⟨h7, h8, h9⟩ | ⟨_, h9⟩
            · first | (cases h8; done) | omega
            · exact h9
          have t0 : decide (((T[i]'hi).toNat : Int) < 48) = false := by simp; omega
          have t1 : decide (57 < ((T[i]'hi).toNat : Int)) = false := by simp; omega
          go_wp2
          exact ⟨⟨i + 1, by omega, by omega, by simp⟩, by simp [intOf]; omega⟩
        · go_wp2
          go_ret
          exact ⟨rfl, Below.refl _ _⟩
  | true =>
    simp at hsz
    have h1 : 1 < T.size := by omega
    have c45 : (T[0]'hpos).toNat = 45 := by
      rcases hat 0 hpos with ⟨_, _, h9⟩ | ⟨h9, _⟩
      · exact h9
      · rcases h9 with h9 | h9
        · omega
        · cases h9
    have h45 : (((T[0]'hpos).toNat : Int) == 45) = true := by simp; omega
    have h0L : ((1 : Int) == (T.size : Int)) = false := by simp; omega
    have h48 : (((T[1]'h1).toNat : Int) == 48) = false := by
      by_cases e : (T[1]'h1).toNat = 48
      · cases (hfst 1 h1 rfl e).2
      · simp; omega
    clear hfst hsz hD0 h hT hl c45
    go_enter Tryz.func105, Tryz.ntmps105
    go_wp2
    go_loop [3] (fun iv => ∃ i : Nat, 1 ≤ i ∧ i ≤ T.size ∧ iv = .int .i64 i) (fun iv => T.size - (intOf iv).toNat)
    case atStart => exact ⟨1, Nat.le_refl _, by omega, rfl⟩
    case round =>
      obtain ⟨i, hi0, hi1, rfl⟩ := hrel
      by_cases hi : i < T.size
      · obtain ⟨d0, d1⟩ : 48 ≤ (T[i]'hi).toNat ∧ (T[i]'hi).toNat ≤ 57 := by
          rcases hat i hi with ⟨h7, h8, h9⟩ | ⟨_, h9⟩
          · first | (cases h8; done) | omega
          · exact h9
        have t0 : decide (((T[i]'hi).toNat : Int) < 48) = false := by simp; omega
        have t1 : decide (57 < ((T[i]'hi).toNat : Int)) = false := by simp; omega
        go_wp2
        exact ⟨⟨i + 1, by omega, by omega, by simp⟩, by simp [intOf]; omega⟩
      · go_wp2
        go_ret
        exact ⟨rfl, Below.refl _ _⟩

end Go.Proofs.YtlcfldkmojpkpaaGreatDoor
