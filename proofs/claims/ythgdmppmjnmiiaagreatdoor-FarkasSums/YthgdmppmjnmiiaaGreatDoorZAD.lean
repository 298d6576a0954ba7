/- Mul; abs. -/
import Derived.Test.YthgdmppmjnmiiaaGreatDoorZAC
import Derived.Test.YthgdmppmjnmiiaaGreatDoorZAA
import Derived.Deep.QuietTactic
import Derived.BigQuiet
set_option linter.unusedVariables false
set_option linter.unusedSimpArgs false

/- Parse at right texts. -/
namespace Go.Proofs.YthgdmppmjnmiiaaGreatDoor.Nm
open Go.RowKit

/-- A text: a minus or none, and digits. -/
def txt (neg : Bool) (D : List UInt8) : List UInt8 := if neg then 45 :: D else D
theorem cut_txt (neg : Bool) (D : List UInt8) (hD : Dg D) : Lib.trimPrefix (txt neg D) [45] = D ∧ Lib.hasPrefix (txt neg D) [45] = neg := by
  cases neg with
  | true => simp [txt, Lib.trimPrefix, Lib.hasPrefix]
  | false =>
    cases D with
    | nil => simp [txt, Lib.trimPrefix, Lib.hasPrefix]
    | cons b D =>
      have := hD b (by simp)
      have hb : b ≠ 45 := by rintro rfl; simp at this
      have e : ([45] : List UInt8).isPrefixOf (b :: D) = false := by simp [List.isPrefixOf, Ne.symm hb]
      simp [txt, Lib.trimPrefix, Lib.hasPrefix, e]

set_option maxRecDepth 100000 in
set_option maxHeartbeats 800000 in
theorem parse_yes (neg : Bool) (D : List UInt8) (w : World) (hD : Dg D) (hne : D ≠ []) (hz : D.head? = some 48 → D = [48] ∧ neg = false) (hl : D.length ≤ 2000) :
    Calls Tryz.prog 43 #[.string ⟨(txt neg D).toArray⟩] w fun e w' => ∃ r, e = .returned (.tuple #[r, .bool true]) ∧ Below w.heap.size w w' ∧ IsI w' r (if neg then - dec D else dec D) := by
  obtain ⟨z, hzz⟩ : ∃ z, z = (if neg then - dec D else dec D) := ⟨_, rfl⟩
  rw [← hzz]
  have HZZ := hide hzz
  clear hzz
  obtain ⟨hc1, hc2⟩ := cut_txt neg D hD
  have HC := hide (Tryz.strings_CutPrefix ⟨(txt neg D).toArray⟩ ⟨#[45]⟩)
  have hcut : ∀ w, Calls Tryz.prog 54 #[.string ⟨(txt neg D).toArray⟩, .string ⟨#[45]⟩] w fun e w' => e = .returned (.tuple #[.string ⟨D.toArray⟩, .bool neg]) ∧ w' = w := fun w => by
    have := unhide HC w
    dsimp only at this
    rw [hc1, hc2] at this
    exact this
  clear HC
  obtain ⟨S, hS⟩ : ∃ S : ByteArray, S = ⟨D.toArray⟩ := ⟨_, rfl⟩
  obtain ⟨T, hT⟩ : ∃ T : ByteArray, T = ⟨(txt neg D).toArray⟩ := ⟨_, rfl⟩
  have hSD : S.data.toList = D := by rw [hS]
  have hSn : S.size = D.length := by rw [hS]; simp [ByteArray.size]
  rw [← hS, ← hT] at hcut
  rw [← hT]
  clear hS hT
  have HCUT := hide hcut
  clear hcut hc1 hc2
  have hpos : 0 < S.size := by rw [hSn]; exact List.length_pos_iff.2 hne
  have hgS : Dg S.data.toList := by rw [hSD]; exact hD
  have hls : S.size ≤ 4000 := by omega
  have hbox := Bx.new w 0 none 0 0
  have hbw : Below w.heap.size w (w.alloc (.cells #[.int .i64 0, .slice none 0 0] 49)) := (Below.refl _ w).alloc (Nat.le_refl _) _
  have hfirst : (((S[0]'hpos).toNat : Int) = 48 → D = [48] ∧ neg = false) := by
    intro h
    apply hz
    cases D with
    | nil => exact absurd rfl hne
    | cons b D' =>
      have h2 := get_toList S 0 hpos (by rw [hSD]; simp)
      simp only [hSD, List.getElem_cons_zero] at h2
      rw [← h2] at h
      simp only [List.head?_cons, Option.some.injEq]
      exact UInt8.toNat_inj.1 (by show b.toNat = 48; omega)
  go_enter Tryz.func43, Tryz.ntmps43
  go_wp2_with fail
  refine (unhide HCUT _).mono ?_
  rintro e w1 ⟨rfl, rfl⟩
  go_wp2_with fail
  refine (areDigits_yes S _ hgS hpos hls).mono ?_
  rintro e w2 ⟨rfl, hb2⟩
  by_cases h48 : ((S[0]'hpos).toNat : Int) = 48
  · obtain ⟨rfl, rfl⟩ := hfirst h48
    have hsz1 : (S.size : Int) = 1 := by rw [hSn]; rfl
    go_wp2_with fail
    refine (parseMag_any S w2 hgS hls).mono ?_
    rintro e w3 ⟨v3, xs, rfl, hb3, hm3, hd3, hn3, hv3, hl3⟩
    have HV3 := hide hv3
    clear hv3
    go_wp2_with fail
    refine (ofMag_any false v3 xs w3 hm3 hd3 hn3 (by omega)).mono ?_
    rintro e w4 ⟨r, rfl, hb4, hI⟩
    obtain ⟨n4, a4, l4, c4, rfl⟩ := hI.form
    have hbx := ((hbox.below hb2).below hb3).below hb4
    obtain ⟨kR0, kR1, kRf0, kRf1⟩ := hbx.facts
    have hbel := ((hbw.trans (hb2.mono hbw.size)).trans (hb3.mono (Nat.le_trans hbw.size hb2.size))).trans (hb4.mono (Nat.le_trans (Nat.le_trans hbw.size hb2.size) hb3.size))
    have HI := hide hI
    clear hI
    go_wp2
    refine bodyPost_ret (v := .tuple #[.agg #[.int .i64 n4, .slice a4 l4 c4], .bool true]) ?_ rfl ?_
    · simp [results, Tryz.results43, go_sem, kR0, kR1]
    · refine ⟨_, rfl, below_put hbel (Nat.le_refl _) _ _, ?_⟩
      have h9 := (unhide HI).put hbx (.int .i64 n4) (.slice a4 l4 c4)
      rw [unhide HV3, hSD] at h9
      rw [unhide HZZ]
      exact h9
  · go_wp2_with fail
    refine (parseMag_any S w2 hgS hls).mono ?_
    rintro e w3 ⟨v3, xs, rfl, hb3, hm3, hd3, hn3, hv3, hl3⟩
    have HV3 := hide hv3
    clear hv3
    go_wp2_with fail
    refine (ofMag_any neg v3 xs w3 hm3 hd3 hn3 (by omega)).mono ?_
    rintro e w4 ⟨r, rfl, hb4, hI⟩
    obtain ⟨n4, a4, l4, c4, rfl⟩ := hI.form
    have hbx := ((hbox.below hb2).below hb3).below hb4
    obtain ⟨kR0, kR1, kRf0, kRf1⟩ := hbx.facts
    have hbel := ((hbw.trans (hb2.mono hbw.size)).trans (hb3.mono (Nat.le_trans hbw.size hb2.size))).trans (hb4.mono (Nat.le_trans (Nat.le_trans hbw.size hb2.size) hb3.size))
    have HI := hide hI
    clear hI
    go_wp2
    refine bodyPost_ret (v := .tuple #[.agg #[.int .i64 n4, .slice a4 l4 c4], .bool true]) ?_ rfl ?_
    · simp [results, Tryz.results43, go_sem, kR0, kR1]
    · refine ⟨_, rfl, below_put hbel (Nat.le_refl _) _ _, ?_⟩
      have h9 := (unhide HI).put hbx (.int .i64 n4) (.slice a4 l4 c4)
      rw [unhide HV3, hSD] at h9
      rw [unhide HZZ]
      exact h9

end Go.Proofs.YthgdmppmjnmiiaaGreatDoor.Nm

/- The document's numbers (package avowref1): that Right, trim, Parse, Must return; light. -/
namespace Go.Proofs.YthgdmppmjnmiiaaGreatDoor.Nm
open Go.RowKit

/-- The bytes of a right text. -/
theorem txt_at {neg : Bool} {D : List UInt8} {T : ByteArray} (hT : T.data.toList = txt neg D) (hD : Dg D) (i : Nat) (hi : i < T.size) : (i = 0 ∧ neg = true ∧ (T[i]'hi).toNat = 45) ∨ ((0 < i ∨ neg = false) ∧ 48 ≤ (T[i]'hi).toNat ∧ (T[i]'hi).toNat ≤ 57) := by
  have h := get_toList T i hi (by have : T.data.toList.length = T.size := by simp
                                  omega)
  rw [← h]
  cases neg with
  | false =>
    refine .inr ⟨.inr rfl, hD _ ?_⟩
    have : txt false D = D := rfl
    rw [← this, ← hT]
    exact List.getElem_mem _
  | true =>
    cases i with
    | zero =>
      refine .inl ⟨rfl, rfl, ?_⟩
      simp only [hT, txt, if_true, List.getElem_cons_zero]
      rfl
    | succ i =>
      refine .inr ⟨.inl (by omega), hD _ ?_⟩
      simp only [hT, txt, if_true, List.getElem_cons_succ]
      exact List.getElem_mem _
/-- A right text: digits, no nought ahead of others, no nought below 0. -/
structure RT (neg : Bool) (D : List UInt8) : Prop where
  dg : Dg D
  ne : D ≠ []
  z : D.head? = some 48 → D = [48] ∧ neg = false
  len : D.length ≤ 2000
theorem txt_size {neg : Bool} {D : List UInt8} {T : ByteArray} (hT : T.data.toList = txt neg D) : T.size = D.length + (if neg then 1 else 0) := by
  have : T.data.toList.length = T.size := by simp
  rw [← this, hT]
  cases neg <;> simp [txt]
theorem txt_first {neg : Bool} {D : List UInt8} {T : ByteArray} (hT : T.data.toList = txt neg D) (h : RT neg D) (i : Nat) (hi : i < T.size) (e : i = if neg then 1 else 0) : (T[i]'hi).toNat = 48 → D = [48] ∧ neg = false := by
  intro h48
  apply h.z
  have hg := get_toList T i hi (by have : T.data.toList.length = T.size := by simp
                                   omega)
  rw [← hg] at h48
  obtain ⟨b, D', rfl⟩ : ∃ b D', D = b :: D' := by
    cases D with
    | nil => exact absurd rfl h.ne
    | cons b D' => exact ⟨b, D', rfl⟩
  simp only [List.head?_cons, Option.some.injEq]
  apply UInt8.toNat_inj.1
  subst e
  cases neg with
  | false => simpa [hT, txt] using h48
  | true => simpa [hT, txt] using h48

set_option maxRecDepth 100000 in
set_option maxHeartbeats 800000 in
theorem right_yes (neg : Bool) (D : List UInt8) (T : ByteArray) (w : World) (hT : T.data.toList = txt neg D) (h : RT neg D) :
    Calls Tryz.prog 33 #[.string T] w fun e w' => e = .returned (.bool true) ∧ Below w.heap.size w w' := by
  have hsz := txt_size hT
  have hl := h.len
  have hD0 : 0 < D.length := List.length_pos_iff.2 h.ne
  have hat := txt_at hT h.dg
  have hpos : 0 < T.size := by omega
  have hls : T.size ≤ 3000 := by cases neg <;> simp at hsz <;> omega
  have hfst := txt_first hT h
  cases neg with
  | false =>
    simp at hsz
    obtain ⟨c0, c1, c2⟩ : (0 < 0 ∨ false = false) ∧ 48 ≤ (T[0]'hpos).toNat ∧ (T[0]'hpos).toNat ≤ 57 := by
      rcases hat 0 hpos with ⟨_, h9, _⟩ | h9
      · cases h9
      · exact h9
    have h45 : (((T[0]'hpos).toNat : Int) == 45) = false := by simp; omega
    have h0L : ((0 : Int) == (T.size : Int)) = false := by simp; omega
    have h48 : ((((T[0]'hpos).toNat : Int) == 48) = true ∧ (T.size : Int) = 1) ∨ (((T[0]'hpos).toNat : Int) == 48) = false := by
      by_cases e : (T[0]'hpos).toNat = 48
      · have h2 := (hfst 0 hpos rfl e).1
        refine .inl ⟨by simp; omega, ?_⟩
        rw [hsz, h2]; rfl
      · exact .inr (by simp; omega)
    clear hfst hsz c0 hD0 h hT hl
    rcases h48 with ⟨h48, hL1⟩ | h48
    · have hL2 : decide ((1 : Int) < (T.size : Int)) = false := by simp; omega
      go_enter Tryz.func33, Tryz.ntmps33
      go_wp2
      go_loop [3] (fun iv => ∃ i : Nat, 0 ≤ i ∧ i ≤ T.size ∧ iv = .int .i64 i) (fun iv => T.size - (intOf iv).toNat)
      case atStart => exact ⟨0, Nat.le_refl _, by omega, rfl⟩
      case round =>
        obtain ⟨i, hi0, hi1, rfl⟩ := hrel
        by_cases hi : i < T.size
        · obtain ⟨d0, d1⟩ : 48 ≤ (T[i]'hi).toNat ∧ (T[i]'hi).toNat ≤ 57 := by
            rcases hat i hi with ⟨h7, h8, h9⟩ | ⟨_, h9⟩
            · first | (cases h8; done) | omega
            · exact h9
          have t0 : decide (((T[i]'hi).toNat : Int) < 48) = false := by simp; omega
          have t1 : decide (57 < ((T[i]'hi).toNat : Int)) = false := by simp; omega
          go_wp2
          exact ⟨⟨i + 1, by omega, by omega, by simp⟩, by simp [intOf]; omega⟩
        · go_wp2
          go_ret
          exact ⟨rfl, Below.refl _ _⟩
    · skip
      go_enter Tryz.func33, Tryz.ntmps33
      go_wp2
      go_loop [3] (fun iv => ∃ i : Nat, 0 ≤ i ∧ i ≤ T.size ∧ iv = .int .i64 i) (fun iv => T.size - (intOf iv).toNat)
      case atStart => exact ⟨0, Nat.le_refl _, by omega, rfl⟩
      case round =>
        obtain ⟨i, hi0, hi1, rfl⟩ := hrel
        by_cases hi : i < T.size
        · obtain ⟨d0, d1⟩ : 48 ≤ (T[i]'hi).toNat ∧ (T[i]'hi).toNat ≤ 57 := by
            rcases hat i hi with ⟨h7, h8, h9⟩ | ⟨_, h9⟩
            · first | (cases h8; done) | omega
            · exact h9
          have t0 : decide (((T[i]'hi).toNat : Int) < 48) = false := by simp; omega
          have t1 : decide (57 < ((T[i]'hi).toNat : Int)) = false := by simp; omega
          go_wp2
          exact ⟨⟨i + 1, by omega, by omega, by simp⟩, by simp [intOf]; omega⟩
        · go_wp2
          go_ret
          exact ⟨rfl, Below.refl _ _⟩
  | true =>
    simp at hsz
    have h1 : 1 < T.size := by omega
    have c45 : (T[0]'hpos).toNat = 45 := by
      rcases hat 0 hpos with ⟨_, _, h9⟩ | ⟨h9, _⟩
      · exact h9
      · rcases h9 with h9 | h9
        · omega
        · cases h9
    have h45 : (((T[0]'hpos).toNat : Int) == 45) = true := by simp; omega
    have h0L : ((1 : Int) == (T.size : Int)) = false := by simp; omega
    have h48 : (((T[1]'h1).toNat : Int) == 48) = false := by
      by_cases e : (T[1]'h1).toNat = 48
      · cases (hfst 1 h1 rfl e).2
      · simp; omega
    clear hfst hsz hD0 h hT hl c45
    go_enter Tryz.func33, Tryz.ntmps33
    go_wp2
    go_loop [3] (fun iv => ∃ i : Nat, 1 ≤ i ∧ i ≤ T.size ∧ iv = .int .i64 i) (fun iv => T.size - (intOf iv).toNat)
    case atStart => exact ⟨1, Nat.le_refl _, by omega, rfl⟩
    case round =>
      obtain ⟨i, hi0, hi1, rfl⟩ := hrel
      by_cases hi : i < T.size
      · obtain ⟨d0, d1⟩ : 48 ≤ (T[i]'hi).toNat ∧ (T[i]'hi).toNat ≤ 57 := by
          rcases hat i hi with ⟨h7, h8, h9⟩ | ⟨_, h9⟩
          · first | (cases h8; done) | omega
          · exact h9
        have t0 : decide (((T[i]'hi).toNat : Int) < 48) = false := by simp; omega
        have t1 : decide (57 < ((T[i]'hi).toNat : Int)) = false := by simp; omega
        go_wp2
        exact ⟨⟨i + 1, by omega, by omega, by simp⟩, by simp [intOf]; omega⟩
      · go_wp2
        go_ret
        exact ⟨rfl, Below.refl _ _⟩

end Go.Proofs.YthgdmppmjnmiiaaGreatDoor.Nm

/- num.Parse at texts that are not right. -/
namespace Go.Proofs.YthgdmppmjnmiiaaGreatDoor.Nm
open Go Go.RowKit

set_option maxRecDepth 100000 in
set_option maxHeartbeats 800000 in
theorem parse_not (T : List UInt8) (w : World) (hl : T.length ≤ 2000) (h : ¬ RT (Lib.hasPrefix T [45]) (Lib.trimPrefix T [45])) :
    Calls Tryz.prog 43 #[.string ⟨T.toArray⟩] w fun e w' => e = .returned (.tuple #[.agg #[.int .i64 0, .slice none 0 0], .bool false]) ∧ Below w.heap.size w w' := by
  have HC := hide (Tryz.strings_CutPrefix ⟨T.toArray⟩ ⟨#[45]⟩)
  obtain ⟨D, hD⟩ : ∃ D, D = Lib.trimPrefix T [45] := ⟨_, rfl⟩
  obtain ⟨neg, hneg⟩ : ∃ neg, neg = Lib.hasPrefix T [45] := ⟨_, rfl⟩
  rw [← hD, ← hneg] at h
  have hDl : D.length ≤ 2000 := by
    rw [hD]
    unfold Lib.trimPrefix
    split
    · simp; omega
    · exact hl
  have hcut : ∀ w, Calls Tryz.prog 54 #[.string ⟨T.toArray⟩, .string ⟨#[45]⟩] w fun e w' => e = .returned (.tuple #[.string ⟨D.toArray⟩, .bool neg]) ∧ w' = w := fun w => by
    have := unhide HC w
    dsimp only at this
    rw [← hD, ← hneg] at this
    exact this
  clear HC
  obtain ⟨S, hS⟩ : ∃ S : ByteArray, S = ⟨D.toArray⟩ := ⟨_, rfl⟩
  obtain ⟨TT, hT⟩ : ∃ TT : ByteArray, TT = ⟨T.toArray⟩ := ⟨_, rfl⟩
  have hSD : S.data.toList = D := by rw [hS]
  have hSn : S.size = D.length := by rw [hS]; simp [ByteArray.size]
  rw [← hS, ← hT] at hcut
  rw [← hT]
  clear hS hT
  have HCUT := hide hcut
  clear hcut hD hneg hl
  have hbox := Bx.new w 0 none 0 0
  have hbw : Below w.heap.size w (w.alloc (.cells #[.int .i64 0, .slice none 0 0] 49)) := (Below.refl _ w).alloc (Nat.le_refl _) _
  by_cases hok : D ≠ [] ∧ Dg D
  · obtain ⟨hne, hdg⟩ := hok
    have hpos : 0 < S.size := by rw [hSn]; exact List.length_pos_iff.2 hne
    have hgS : Dg S.data.toList := by rw [hSD]; exact hdg
    have hfirst : D.head? = some 48 ∧ ¬ (D = [48] ∧ neg = false) := by
      by_cases hh : D.head? = some 48
      · exact ⟨hh, fun h9 => h ⟨hdg, hne, fun _ => h9, by omega⟩⟩
      · exact absurd ⟨hdg, hne, fun h9 => absurd h9 hh, by omega⟩ h
    have h48 : (((S[0]'hpos).toNat : Int) == 48) = true := by
      cases D with
      | nil => exact absurd rfl hne
      | cons b D' =>
        have h2 := get_toList S 0 hpos (by rw [hSD]; simp)
        simp only [hSD, List.getElem_cons_zero] at h2
        have h3 := hfirst.1
        simp only [List.head?_cons, Option.some.injEq] at h3
        rw [← h2, h3]
        rfl
    have hor : neg = true ∨ (1 : Int) < (S.size : Int) := by
      cases neg with
      | true => exact .inl rfl
      | false =>
        refine .inr ?_
        rcases Nat.lt_or_ge 1 S.size with h9 | h9
        · omega
        · exfalso
          apply hfirst.2
          refine ⟨?_, rfl⟩
          cases D with
          | nil => exact absurd rfl hne
          | cons b D' =>
            have h3 := hfirst.1
            simp only [List.head?_cons, Option.some.injEq] at h3
            have h4 : D' = [] := List.eq_nil_of_length_eq_zero (by simp at hSn; omega)
            rw [h3, h4]
    have HAD := hide (fun w => areDigits_yes S w hgS hpos (by omega))
    clear h hfirst hgS hdg hne hDl hSn hSD
    go_enter Tryz.func43, Tryz.ntmps43
    go_wp2_with fail
    refine (unhide HCUT _).mono ?_
    rintro e w1 ⟨rfl, rfl⟩
    go_wp2_with fail
    refine (unhide HAD _).mono ?_
    rintro e w2 ⟨rfl, hb2⟩
    have hbx := hbox.below hb2
    obtain ⟨kR0, kR1, kRf0, kRf1⟩ := hbx.facts
    have hbel := hbw.trans (hb2.mono hbw.size)
    rcases hor with rfl | h1
    · go_wp2
      refine bodyPost_ret (v := .tuple #[.agg #[.int .i64 0, .slice none 0 0], .bool false]) ?_ rfl ?_
      · simp [results, Tryz.results43, go_sem, kR0, kR1]
      · exact ⟨rfl, below_put hbel (Nat.le_refl _) _ _⟩
    · cases neg
      all_goals
        go_wp2
        refine bodyPost_ret (v := .tuple #[.agg #[.int .i64 0, .slice none 0 0], .bool false]) ?_ rfl ?_
        · simp [results, Tryz.results43, go_sem, kR0, kR1]
        · exact ⟨rfl, below_put hbel (Nat.le_refl _) _ _⟩
  · have HAD := hide (fun w => areDigits_no S w (by
      by_cases hne : D = []
      · left; rw [hSn, hne]; rfl
      · right; rw [hSD]; exact fun h9 => hok ⟨hne, h9⟩) (by omega))
    clear h hok hDl hSn hSD
    go_enter Tryz.func43, Tryz.ntmps43
    go_wp2_with fail
    refine (unhide HCUT _).mono ?_
    rintro e w1 ⟨rfl, rfl⟩
    go_wp2_with fail
    refine (unhide HAD _).mono ?_
    rintro e w2 ⟨rfl, hb2⟩
    have hbx := hbox.below hb2
    obtain ⟨kR0, kR1, kRf0, kRf1⟩ := hbx.facts
    have hbel := hbw.trans (hb2.mono hbw.size)
    go_wp2
    refine bodyPost_ret (v := .tuple #[.agg #[.int .i64 0, .slice none 0 0], .bool false]) ?_ rfl ?_
    · simp [results, Tryz.results43, go_sem, kR0, kR1]
    · exact ⟨rfl, below_put hbel (Nat.le_refl _) _ _⟩

end Go.Proofs.YthgdmppmjnmiiaaGreatDoor.Nm

/- The walk of math/bits.Mul64. -/
namespace Go.Proofs.YthgdmppmjnmiiaaGreatDoor.Nm
open Go.RowKit

theorem and_low (a : Int) (h1 : 0 ≤ a) (h2 : a < 18446744073709551616) : bits .and .u64 a 4294967295 = a % 4294967296 := by
  rw [u64_and a 4294967295 h1 h2 (by omega) (by omega)]
  have h : a.toNat &&& (2 ^ 32 - 1) = a.toNat % 2 ^ 32 := Nat.and_two_pow_sub_one_eq_mod _ _
  have e : (4294967295 : Int).toNat = 2 ^ 32 - 1 := by decide
  rw [e, h]
  omega
theorem mul_bd32 {a b : Int} (a0 : 0 ≤ a) (a1 : a ≤ 4294967295) (b0 : 0 ≤ b) (b1 : b ≤ 4294967295) : 0 ≤ a * b ∧ a * b ≤ 18446744065119617025 := by
  refine ⟨Int.mul_nonneg a0 b0, ?_⟩
  have h1 := Int.mul_le_mul_of_nonneg_left b1 a0
  omega
theorem mul_parts (x y : Int) : x * y = (x / 4294967296) * (y / 4294967296) * 18446744073709551616 + ((x / 4294967296) * (y % 4294967296) + (x % 4294967296) * (y / 4294967296)) * 4294967296 + (x % 4294967296) * (y % 4294967296) := by
  have hx : x = x / 4294967296 * 4294967296 + x % 4294967296 := by omega
  have hy : y = y / 4294967296 * 4294967296 + y % 4294967296 := by omega
  generalize x / 4294967296 = b at *
  generalize x % 4294967296 = a at *
  generalize y / 4294967296 = d at *
  generalize y % 4294967296 = c at *
  subst hx hy
  have e1 : (b * 4294967296 + a) * (d * 4294967296 + c) = b * 4294967296 * (d * 4294967296) + b * 4294967296 * c + (a * (d * 4294967296) + a * c) := by rw [Int.add_mul, Int.mul_add, Int.mul_add]
  have e2 : b * 4294967296 * (d * 4294967296) = b * d * 18446744073709551616 := by
    rw [Int.mul_assoc b, ← Int.mul_assoc 4294967296 d, Int.mul_comm 4294967296 d, Int.mul_assoc d, ← Int.mul_assoc b]; rfl
  have e3 : b * 4294967296 * c = b * c * 4294967296 := by rw [Int.mul_assoc, Int.mul_comm 4294967296 c, ← Int.mul_assoc]
  have e4 : a * (d * 4294967296) = a * d * 4294967296 := by rw [← Int.mul_assoc]
  rw [e1, e2, e3, e4, Int.add_mul]
  omega
/-- The high word, as the library reckons it. -/
theorem hi_word (P Q R S : Int) (p0 : 0 ≤ P) (p1 : P ≤ 18446744065119617025) (q0 : 0 ≤ Q) (q1 : Q ≤ 18446744065119617025) (r0 : 0 ≤ R) (r1 : R ≤ 18446744065119617025) (s0 : 0 ≤ S) (s1 : S ≤ 18446744065119617025) (hX : P * 18446744073709551616 + (Q + R) * 4294967296 + S < 340282366920938463463374607431768211456) :
    ((P % 18446744073709551616 + (Q % 18446744073709551616 + S % 18446744073709551616 / 4294967296) % 18446744073709551616 / 4294967296) % 18446744073709551616 + (((Q % 18446744073709551616 + S % 18446744073709551616 / 4294967296) % 18446744073709551616 % 4294967296 + R % 18446744073709551616) % 18446744073709551616) / 4294967296) % 18446744073709551616
      = (P * 18446744073709551616 + (Q + R) * 4294967296 + S) / 18446744073709551616 := by omega

set_option maxHeartbeats 800000 in
theorem mul64_any (x y : Int) (w : World) (x0 : 0 ≤ x) (x1 : x < 18446744073709551616) (y0 : 0 ≤ y) (y1 : y < 18446744073709551616) :
    Calls Tryz.prog 64 #[.int .u64 x, .int .u64 y] w fun e w' => e = .returned (.tuple #[.int .u64 (x * y / 18446744073709551616), .int .u64 (x * y % 18446744073709551616)]) ∧ w' = w := by
  have hm := hide (mul_parts x y)
  obtain ⟨p0, p1⟩ := mul_bd32 (a := x / 4294967296) (b := y / 4294967296) (by omega) (by omega) (by omega) (by omega)
  obtain ⟨q0, q1⟩ := mul_bd32 (a := x / 4294967296) (b := y % 4294967296) (by omega) (by omega) (by omega) (by omega)
  obtain ⟨r0, r1⟩ := mul_bd32 (a := x % 4294967296) (b := y / 4294967296) (by omega) (by omega) (by omega) (by omega)
  obtain ⟨s0, s1⟩ := mul_bd32 (a := x % 4294967296) (b := y % 4294967296) (by omega) (by omega) (by omega) (by omega)
  have HB : Hid ((0 ≤ x / 4294967296 * (y / 4294967296) ∧ x / 4294967296 * (y / 4294967296) ≤ 18446744065119617025) ∧ (0 ≤ x / 4294967296 * (y % 4294967296) ∧ x / 4294967296 * (y % 4294967296) ≤ 18446744065119617025) ∧ (0 ≤ x % 4294967296 * (y / 4294967296) ∧ x % 4294967296 * (y / 4294967296) ≤ 18446744065119617025) ∧ (0 ≤ x % 4294967296 * (y % 4294967296) ∧ x % 4294967296 * (y % 4294967296) ≤ 18446744065119617025)) := ⟨⟨p0, p1⟩, ⟨q0, q1⟩, ⟨r0, r1⟩, ⟨s0, s1⟩⟩
  clear p0 p1 q0 q1 r0 r1 s0 s1
  go_enter Tryz.func64, Tryz.ntmps64
  go_wp2
  go_ret2
  refine ⟨?_, rfl⟩
  obtain ⟨⟨p0, p1⟩, ⟨q0, q1⟩, ⟨r0, r1⟩, ⟨s0, s1⟩⟩ := unhide HB
  have e1 := and_low x x0 x1
  have e2 := and_low y y0 y1
  have e3 := and_low ((x / 4294967296 * (y % 4294967296) % 18446744073709551616 + x % 4294967296 * (y % 4294967296) % 18446744073709551616 / 4294967296) % 18446744073709551616) (by omega) (by omega)
  have hX : x * y < 340282366920938463463374607431768211456 := by
    have h1 := Int.mul_le_mul_of_nonneg_left (show y ≤ 18446744073709551615 by omega) x0
    omega
  rw [unhide hm] at hX
  have hh := hi_word _ _ _ _ p0 p1 q0 q1 r0 r1 s0 s1 hX
  rw [← unhide hm] at hh
  show Ending.returned (.tuple #[.int .u64 (IntKind.u64.wrap (IntKind.u64.wrap (IntKind.u64.wrap (x / 4294967296 * (y / 4294967296)) + IntKind.u64.wrap (IntKind.u64.wrap (x / 4294967296 * bits BinOp.and IntKind.u64 y 4294967295) + IntKind.u64.wrap (bits BinOp.and IntKind.u64 x 4294967295 * bits BinOp.and IntKind.u64 y 4294967295) / 4294967296) / 4294967296) + IntKind.u64.wrap (bits BinOp.and IntKind.u64 (IntKind.u64.wrap (IntKind.u64.wrap (x / 4294967296 * bits BinOp.and IntKind.u64 y 4294967295) + IntKind.u64.wrap (bits BinOp.and IntKind.u64 x 4294967295 * bits BinOp.and IntKind.u64 y 4294967295) / 4294967296)) 4294967295 + IntKind.u64.wrap (bits BinOp.and IntKind.u64 x 4294967295 * (y / 4294967296))) / 4294967296)), .int .u64 (IntKind.u64.wrap (x * y))]) = _
  simp only [IntKind.wrap_u64, e1, e2, e3]
  rw [hh]

end Go.Proofs.YthgdmppmjnmiiaaGreatDoor.Nm

/- Mul of numbers the first of which is great. -/
namespace Go.Proofs.YthgdmppmjnmiiaaGreatDoor.Nm
open Go.RowKit
attribute [local go_sem] eqnil_some eqnil_none nenil_some nenil_none

theorem Set2.drewN {w W0 : World} {c0 c1 d0 d1 : Value} (S : Set2 w W0 c0 c1 d0 d1) (q : Nat) : Set2 w (W0.drewN q) c0 c1 d0 d1 :=
  ⟨⟨S.bel.os, S.bel.tape, S.bel.output, S.bel.size, S.bel.block⟩, S.a0, S.a1, S.b0, S.b1, S.r0, S.r1, S.f0, S.f1, S.rb, S.z0, S.z1, S.z2⟩
theorem lenk {xs : List Int} {z : Int} (hd : Dig xs) (hn : Norm xs) (hv : val xs = z.natAbs) (hz : (z.natAbs : Int) < pw 4000) : xs.length ≤ 10000 := by
  have := len_le hd hn (k := 4000) (by rw [hv]; exact hz)
  omega
theorem lenk2 {xs ys : List Int} {y z : Int} (hd : Dig xs) (hn : Norm xs) (hv : val xs = z.natAbs) (hz : (z.natAbs : Int) < pw 4000) (hd' : Dig ys) (hn' : Norm ys) (hv' : val ys = y.natAbs) (hz' : (y.natAbs : Int) < pw 4000) : xs.length + ys.length ≤ 100000 := by
  have h1 := lenk hd hn hv hz
  have h2 := lenk hd' hn' hv' hz'
  omega
theorem small_pw {z : Int} (h1 : -9223372036854775808 ≤ z) (h2 : z ≤ 9223372036854775807) : (z.natAbs : Int) < pw 4000 := by
  have h3 : (9223372036854775808 : Int) < pw 3 := by decide
  have := pw_mono (show 3 ≤ 4000 by omega)
  omega
/-- The sign cell tells whether the number is below 0. -/
theorem IsI.below0 {w : World} {n : Int} {s : Value} {z : Int} (h : IsI w (.agg #[.int .i64 n, s]) z) : (n < 0) = (z < 0) := by
  rcases h with ⟨e, _⟩ | ⟨b, off, cap, xs, e, _, _, _, _, _, _, h⟩
  · simp at e; rw [e.1]
  · simp at e
    rw [e.1]
    by_cases h0 : z < 0
    · rw [if_pos h0]; simp [h0]
    · rw [if_neg h0]; simp [h0]
theorem below_of {w : World} {na nb : Int} {sa sb : Value} {za zb : Int} (hA : IsI w (.agg #[.int .i64 na, sa]) za) (hB : IsI w (.agg #[.int .i64 nb, sb]) zb) : (!(decide (na < 0) == decide (nb < 0))) = (!(decide (za < 0) == decide (zb < 0))) := by
  simp only [hA.below0, hB.below0]
theorem mul_sign {bl : Bool} {xs ys zs : List Int} {za zb : Int} (hb : bl = (!(decide (za < 0) == decide (zb < 0)))) (hx : val xs = za.natAbs) (hy : val ys = zb.natAbs) (hz : val zs = val xs * val ys) : (if bl = true then - val zs else val zs) = za * zb := by
  rw [hz, hx, hy, hb]
  by_cases ha : za < 0
  · have e1 : (za.natAbs : Int) = -za := by omega
    by_cases h : zb < 0
    · have e2 : (zb.natAbs : Int) = -zb := by omega
      rw [e1, e2]; simp [ha, h, Int.neg_mul, Int.mul_neg]
    · have e2 : (zb.natAbs : Int) = zb := by omega
      rw [e1, e2]; simp [ha, h, Int.neg_mul]
  · have e1 : (za.natAbs : Int) = za := by omega
    by_cases h : zb < 0
    · have e2 : (zb.natAbs : Int) = -zb := by omega
      rw [e1, e2]; simp [ha, h, Int.mul_neg]
    · have e2 : (zb.natAbs : Int) = zb := by omega
      rw [e1, e2]; simp [ha, h]

set_option maxRecDepth 100000 in
set_option maxHeartbeats 4000000 in
theorem mul_big1 (na nb : Int) (ada : Addr) (la ca : Nat) (ab : Option Addr) (lb cb : Nat) (za zb : Int) (w : World) (hA : IsI w (.agg #[.int .i64 na, .slice (some ada) la ca]) za) (hB : IsI w (.agg #[.int .i64 nb, .slice ab lb cb]) zb) (hza : (za.natAbs : Int) < pw 4000) (hzb : (zb.natAbs : Int) < pw 4000) :
    Calls Tryz.prog 46 #[.agg #[.int .i64 na, .slice (some ada) la ca], .agg #[.int .i64 nb, .slice ab lb cb]] w fun e w' => ∃ r, e = .returned r ∧ Below w.heap.size w w' ∧ IsI w' r (za * zb) := by
  have HBL := hide (below_of hA hB)
  have HZA := hide hza
  have HZB := hide hzb
  clear hza hzb
  obtain ⟨W1, hW0, S⟩ := setup2 w (.int .i64 na) (.slice (some ada) la ca) (.int .i64 nb) (.slice ab lb cb)
  have HW := hide hW0
  clear hW0
  go_enter Tryz.func46, Tryz.ntmps46
  go_wp2
  rw [unhide HW]
  obtain ⟨hB0, gA0, gA1, gB0, gB1, gR0, gR1, gf0, gf1, hRb, hz0, hz1, hz2⟩ := S
  have HRb := hide hRb
  have hA0 : IsI W1.drew (.agg #[.int .i64 na, .slice (some ada) la ca]) za := hA.below hB0.drew
  have hB1 : IsI W1.drew (.agg #[.int .i64 nb, .slice ab lb cb]) zb := hB.below hB0.drew
  clear hRb hA hB
  go_region_with (first
    | (go_at_call_of 60 (Value.agg #[Value.int IntKind.i64 na, Value.slice (some ada) la ca]); refine (magnitude_any _ za _ ?_).mono ?_; exact hA0; rintro e w1 ⟨m1, xs, rfl, hb1, hm1, hd1, hn1, hv1⟩; have HV1 := hide hv1; clear hv1; have hbT1 := hb1; have kB01 := (hbT1.cell (p := ⟨w.heap.size + 1, 0, none⟩) hz1).trans gB0; have kB11 := (hbT1.cell (p := ⟨w.heap.size + 1, 1, none⟩) hz1).trans gB1)
    | (go_at_call_of 60 (Value.agg #[Value.int IntKind.i64 nb, Value.slice ab lb cb]); refine (magnitude_any _ zb _ ?_).mono ?_; exact hB1.below hb1; rintro e w2 ⟨m2, ys, rfl, hb2, hm2, hd2, hn2, hv2⟩; have HV2 := hide hv2; clear hv2; have hbT2 := hbT1.trans (hb2.mono hbT1.size))
    | (go_at_call 67; refine (mulMag_any _ _ xs ys _ ?_ hm2 hd1 hd2 ?_ ?_).mono ?_; exact hm1.below hb2; exact lenk hd1 hn1 (unhide HV1) (unhide HZA); exact lenk hd2 hn2 (unhide HV2) (unhide HZB); rintro e w3 ⟨m3, zs, rfl, hb3, hm3, hd3, hn3, hv3, hl3⟩; have HV3 := hide hv3; clear hv3; have hbT3 := hbT2.trans (hb3.mono hbT2.size))
    | (go_at_call 56; refine (ofMag_any _ _ zs _ hm3 hd3 hn3 ?_).mono ?_; exact Nat.le_trans hl3 (lenk2 hd1 hn1 (unhide HV1) (unhide HZA) hd2 hn2 (unhide HV2) (unhide HZB)); rintro e w4 ⟨r4, rfl, hb4, hI4⟩; obtain ⟨n4, a4, l4, c4, rfl⟩ := hI4.form; have hbT4 := hbT3.trans (hb4.mono hbT3.size); have HI4 := hide hI4; clear hI4; have kR0 := (hbT4.cell (p := ⟨w.heap.size + 1 + 1, 0, none⟩) hz2).trans gR0; have kR1 := (hbT4.cell (p := ⟨w.heap.size + 1 + 1, 1, none⟩) hz2).trans gR1; have kf0 := (hbT4.frozen (p := ⟨w.heap.size + 1 + 1, 0, none⟩) hz2).trans gf0; have kf1 := (hbT4.frozen (p := ⟨w.heap.size + 1 + 1, 1, none⟩) hz2).trans gf1))
  all_goals
    go_wp2
    refine bodyPost_ret (v := .agg #[.int .i64 n4, .slice a4 l4 c4]) ?_ rfl ?_
    · simp [results, Tryz.results46, go_sem, kR0, kR1]
    · have hI4 := unhide HI4
      have hrb4 := (hbT4.block (w.heap.size + 1 + 1) hz2).trans (unhide HRb)
      have e9 := mul_sign (unhide HBL) (unhide HV1) (unhide HV2) (unhide HV3)
      rw [e9] at hI4
      exact ⟨_, rfl, ret_store (hB0.drew.trans (hbT4.mono (B' := w.heap.size) (Nat.le_of_lt hz0))) hI4 (by omega) hrb4 _ _⟩


end Go.Proofs.YthgdmppmjnmiiaaGreatDoor.Nm

/- Mul of numbers the second of which is great. -/
namespace Go.Proofs.YthgdmppmjnmiiaaGreatDoor.Nm
open Go.RowKit
attribute [local go_sem] eqnil_some eqnil_none nenil_some nenil_none
set_option maxRecDepth 100000 in
set_option maxHeartbeats 4000000 in
theorem mul_big2 (na nb : Int) (adb : Addr) (lb cb : Nat) (za zb : Int) (w : World) (hA : IsI w (.agg #[.int .i64 na, .slice none 0 0]) za) (hB : IsI w (.agg #[.int .i64 nb, .slice (some adb) lb cb]) zb) (hza : (za.natAbs : Int) < pw 4000) (hzb : (zb.natAbs : Int) < pw 4000) :
    Calls Tryz.prog 46 #[.agg #[.int .i64 na, .slice none 0 0], .agg #[.int .i64 nb, .slice (some adb) lb cb]] w fun e w' => ∃ r, e = .returned r ∧ Below w.heap.size w w' ∧ IsI w' r (za * zb) := by
  have HBL := hide (below_of hA hB)
  have HZA := hide hza
  have HZB := hide hzb
  clear hza hzb
  obtain ⟨W1, hW0, S⟩ := setup2 w (.int .i64 na) (.slice none 0 0) (.int .i64 nb) (.slice (some adb) lb cb)
  have HW := hide hW0
  clear hW0
  go_enter Tryz.func46, Tryz.ntmps46
  go_wp2
  rw [unhide HW]
  obtain ⟨hB0, gA0, gA1, gB0, gB1, gR0, gR1, gf0, gf1, hRb, hz0, hz1, hz2⟩ := S
  have HRb := hide hRb
  have hA0 : IsI W1.drew (.agg #[.int .i64 na, .slice none 0 0]) za := hA.below hB0.drew
  have hB1 : IsI W1.drew (.agg #[.int .i64 nb, .slice (some adb) lb cb]) zb := hB.below hB0.drew
  clear hRb hA hB
  go_region_with (first
    | (go_at_call_of 60 (Value.agg #[Value.int IntKind.i64 na, Value.slice none 0 0]); refine (magnitude_any _ za _ ?_).mono ?_; exact hA0; rintro e w1 ⟨m1, xs, rfl, hb1, hm1, hd1, hn1, hv1⟩; have HV1 := hide hv1; clear hv1; have hbT1 := hb1; have kB01 := (hbT1.cell (p := ⟨w.heap.size + 1, 0, none⟩) hz1).trans gB0; have kB11 := (hbT1.cell (p := ⟨w.heap.size + 1, 1, none⟩) hz1).trans gB1)
    | (go_at_call_of 60 (Value.agg #[Value.int IntKind.i64 nb, Value.slice (some adb) lb cb]); refine (magnitude_any _ zb _ ?_).mono ?_; exact hB1.below hb1; rintro e w2 ⟨m2, ys, rfl, hb2, hm2, hd2, hn2, hv2⟩; have HV2 := hide hv2; clear hv2; have hbT2 := hbT1.trans (hb2.mono hbT1.size))
    | (go_at_call 67; refine (mulMag_any _ _ xs ys _ ?_ hm2 hd1 hd2 ?_ ?_).mono ?_; exact hm1.below hb2; exact lenk hd1 hn1 (unhide HV1) (unhide HZA); exact lenk hd2 hn2 (unhide HV2) (unhide HZB); rintro e w3 ⟨m3, zs, rfl, hb3, hm3, hd3, hn3, hv3, hl3⟩; have HV3 := hide hv3; clear hv3; have hbT3 := hbT2.trans (hb3.mono hbT2.size))
    | (go_at_call 56; refine (ofMag_any _ _ zs _ hm3 hd3 hn3 ?_).mono ?_; exact Nat.le_trans hl3 (lenk2 hd1 hn1 (unhide HV1) (unhide HZA) hd2 hn2 (unhide HV2) (unhide HZB)); rintro e w4 ⟨r4, rfl, hb4, hI4⟩; obtain ⟨n4, a4, l4, c4, rfl⟩ := hI4.form; have hbT4 := hbT3.trans (hb4.mono hbT3.size); have HI4 := hide hI4; clear hI4; have kR0 := (hbT4.cell (p := ⟨w.heap.size + 1 + 1, 0, none⟩) hz2).trans gR0; have kR1 := (hbT4.cell (p := ⟨w.heap.size + 1 + 1, 1, none⟩) hz2).trans gR1; have kf0 := (hbT4.frozen (p := ⟨w.heap.size + 1 + 1, 0, none⟩) hz2).trans gf0; have kf1 := (hbT4.frozen (p := ⟨w.heap.size + 1 + 1, 1, none⟩) hz2).trans gf1))
  all_goals
    go_wp2
    refine bodyPost_ret (v := .agg #[.int .i64 n4, .slice a4 l4 c4]) ?_ rfl ?_
    · simp [results, Tryz.results46, go_sem, kR0, kR1]
    · have hI4 := unhide HI4
      have hrb4 := (hbT4.block (w.heap.size + 1 + 1) hz2).trans (unhide HRb)
      have e9 := mul_sign (unhide HBL) (unhide HV1) (unhide HV2) (unhide HV3)
      rw [e9] at hI4
      exact ⟨_, rfl, ret_store (hB0.drew.trans (hbT4.mono (B' := w.heap.size) (Nat.le_of_lt hz0))) hI4 (by omega) hrb4 _ _⟩


end Go.Proofs.YthgdmppmjnmiiaaGreatDoor.Nm

/- Mul of small numbers whose product is small. -/
namespace Go.Proofs.YthgdmppmjnmiiaaGreatDoor.Nm
open Go.RowKit
attribute [local go_sem] eqnil_some eqnil_none nenil_some nenil_none
set_option maxRecDepth 100000 in
set_option maxHeartbeats 4000000 in
theorem mul_yes (za zb : Int) (w : World) (h1 : -9223372036854775808 ≤ za) (h2 : za ≤ 9223372036854775807) (h3 : -9223372036854775808 ≤ zb) (h4 : zb ≤ 9223372036854775807) (hlo : if (!(decide (za < 0) == decide (zb < 0))) then (za.natAbs : Int) * zb.natAbs ≤ 9223372036854775808 else (za.natAbs : Int) * zb.natAbs < 9223372036854775808) :
    Calls Tryz.prog 46 #[.agg #[.int .i64 za, .slice none 0 0], .agg #[.int .i64 zb, .slice none 0 0]] w fun e w' => ∃ r, e = .returned r ∧ Below w.heap.size w w' ∧ IsI w' r (za * zb) := by
  have hA : IsI w (.agg #[.int .i64 za, .slice none 0 0]) za := .inl ⟨rfl, h1, h2⟩
  have hB : IsI w (.agg #[.int .i64 zb, .slice none 0 0]) zb := .inl ⟨rfl, h3, h4⟩
  have HZA := hide (small_pw h1 h2)
  have HZB := hide (small_pw h3 h4)
  have HLO := hide hlo
  clear hlo
  obtain ⟨W0, hW0, S⟩ := setup2 w (.int .i64 za) (.slice none 0 0) (.int .i64 zb) (.slice none 0 0)
  have HW := hide hW0
  clear hW0
  have gA0 := S.a0
  have gB0 := S.b0
  go_enter Tryz.func46, Tryz.ntmps46
  go_wp2
  rw [unhide HW]
  go_quiet (first | (go_at_call 65; exact Calls.quiet_of_same (unsigned_any _ _ (by omega) (by omega))) | (go_at_call 64; exact Calls.quiet_of_same (mul64_any _ _ _ (by omega) (by omega) (by omega) (by omega))))
  clear gA0 gB0
  have S1 := S.drewN nq
  generalize W0.drewN nq = W1 at *
  clear S
  have S := S1
  clear S1 HW
  generalize hlo9 : (za.natAbs : Int) * zb.natAbs % 18446744073709551616 = lo
  generalize hhi9 : (za.natAbs : Int) * zb.natAbs / 18446744073709551616 = hi
  generalize hbl9 : (!(decide (za < 0) == decide (zb < 0))) = bl
  have HL9 := hide hlo9
  have HH9 := hide hhi9
  have HB9 := hide hbl9
  clear hlo9 hhi9 hbl9
  have HBL := hide (unhide HB9).symm
  have hlo0 : 0 ≤ lo := by have := unhide HL9; omega
  have hlo1 : lo < 18446744073709551616 := by have := unhide HL9; omega
  have hsg : if bl then lo ≤ 9223372036854775808 else lo < 9223372036854775808 := by
    have h8 := unhide HLO
    have h9 := unhide HL9
    have h7 : 0 ≤ (za.natAbs : Int) * zb.natAbs := Int.mul_nonneg (by omega) (by omega)
    rw [unhide HB9] at h8
    cases bl
    · simp at h8 ⊢; omega
    · simp at h8 ⊢; omega
  have hprod : Hid (lo = (za.natAbs : Int) * zb.natAbs) := by
    have h8 := unhide HLO
    have h9 := unhide HL9
    have h7 : 0 ≤ (za.natAbs : Int) * zb.natAbs := Int.mul_nonneg (by omega) (by omega)
    rw [unhide HB9] at h8
    show _ = _
    cases bl
    · simp at h8; omega
    · simp at h8; omega
  have hhi0 : (hi == 0) = true := by
    have h8 := unhide HH9
    have h9 := unhide hprod
    simp
    omega
  have hs := signed_yes bl lo W1 hlo0 hsg
  generalize hn9 : (if bl = true then -lo else lo) = n9 at hs
  have HN9 := hide hn9
  have HS := hide hs
  clear hs hn9 hsg
  obtain ⟨hB0, gA0, gA1, gB0, gB1, gR0, gR1, gf0, gf1, hRb, hz0, hz1, hz2⟩ := S
  have HRb := hide hRb
  clear hRb
  go_wp2_with fail
  refine (unhide HS).mono ?_
  rintro e w1 ⟨rfl, hw1⟩
  subst hw1
  go_wp2_with fail
  refine (of_any _ _).mono ?_
  rintro e w2 ⟨rfl, hb2⟩
  have kR0 := (hb2.cell (p := ⟨w.heap.size + 1 + 1, 0, none⟩) hz2).trans gR0
  have kR1 := (hb2.cell (p := ⟨w.heap.size + 1 + 1, 1, none⟩) hz2).trans gR1
  have kf0 := (hb2.frozen (p := ⟨w.heap.size + 1 + 1, 0, none⟩) hz2).trans gf0
  have kf1 := (hb2.frozen (p := ⟨w.heap.size + 1 + 1, 1, none⟩) hz2).trans gf1
  go_wp2
  refine bodyPost_ret (v := .agg #[.int .i64 n9, .slice none 0 0]) ?_ rfl ?_
  · simp [results, Tryz.results46, go_sem, kR0, kR1]
  · have hrb2 := (hb2.block (w.heap.size + 1 + 1) hz2).trans (unhide HRb)
    have e9 : n9 = za * zb := by
      have h8 := mul_sign (xs := [za.natAbs]) (ys := [zb.natAbs]) (zs := [lo]) (unhide HBL) (by simp [val]) (by simp [val]) (by simp [val, unhide hprod])
      rw [← unhide HN9, ← h8]
      simp [val]
    have hbd : -9223372036854775808 ≤ za * zb ∧ za * zb ≤ 9223372036854775807 := by
      have h8 := unhide HLO
      have h9 := unhide hprod
      have h7 := unhide HN9
      rw [unhide HB9] at h8
      rw [← e9, ← h7]
      cases bl
      · simp at h8 ⊢; omega
      · simp at h8 ⊢; omega
    exact ⟨_, rfl, ret_store (hB0.trans (hb2.mono (B' := w.heap.size) (Nat.le_of_lt hz0))) (.inl ⟨by rw [e9], hbd.1, hbd.2⟩) (by omega) hrb2 _ _⟩

end Go.Proofs.YthgdmppmjnmiiaaGreatDoor.Nm

/- Mul of small numbers whose product is beyond 64 bits. -/
namespace Go.Proofs.YthgdmppmjnmiiaaGreatDoor.Nm
open Go.RowKit
attribute [local go_sem] eqnil_some eqnil_none nenil_some nenil_none
set_option maxRecDepth 100000 in
set_option maxHeartbeats 4000000 in
theorem mul_hi (za zb : Int) (w : World) (h1 : -9223372036854775808 ≤ za) (h2 : za ≤ 9223372036854775807) (h3 : -9223372036854775808 ≤ zb) (h4 : zb ≤ 9223372036854775807) (hhi : 18446744073709551616 ≤ (za.natAbs : Int) * zb.natAbs) (hlo : if (!(decide (za < 0) == decide (zb < 0))) then (za.natAbs : Int) * zb.natAbs % 18446744073709551616 ≤ 9223372036854775808 else (za.natAbs : Int) * zb.natAbs % 18446744073709551616 < 9223372036854775808) :
    Calls Tryz.prog 46 #[.agg #[.int .i64 za, .slice none 0 0], .agg #[.int .i64 zb, .slice none 0 0]] w fun e w' => ∃ r, e = .returned r ∧ Below w.heap.size w w' ∧ IsI w' r (za * zb) := by
  have hA : IsI w (.agg #[.int .i64 za, .slice none 0 0]) za := .inl ⟨rfl, h1, h2⟩
  have hB : IsI w (.agg #[.int .i64 zb, .slice none 0 0]) zb := .inl ⟨rfl, h3, h4⟩
  have HZA := hide (small_pw h1 h2)
  have HZB := hide (small_pw h3 h4)
  have HLO := hide hlo
  clear hlo
  have HHI := hide hhi
  clear hhi
  obtain ⟨W0, hW0, S⟩ := setup2 w (.int .i64 za) (.slice none 0 0) (.int .i64 zb) (.slice none 0 0)
  have HW := hide hW0
  clear hW0
  have gA0 := S.a0
  have gB0 := S.b0
  go_enter Tryz.func46, Tryz.ntmps46
  go_wp2
  rw [unhide HW]
  go_quiet (first | (go_at_call 65; exact Calls.quiet_of_same (unsigned_any _ _ (by omega) (by omega))) | (go_at_call 64; exact Calls.quiet_of_same (mul64_any _ _ _ (by omega) (by omega) (by omega) (by omega))))
  clear gA0 gB0
  have S1 := S.drewN nq
  generalize W0.drewN nq = W1 at *
  clear S
  have S := S1
  clear S1 HW
  generalize hlo9 : (za.natAbs : Int) * zb.natAbs % 18446744073709551616 = lo
  generalize hhi9 : (za.natAbs : Int) * zb.natAbs / 18446744073709551616 = hi
  generalize hbl9 : (!(decide (za < 0) == decide (zb < 0))) = bl
  have HL9 := hide hlo9
  have HH9 := hide hhi9
  have HB9 := hide hbl9
  clear hlo9 hhi9 hbl9
  have HBL := hide (unhide HB9).symm
  have hlo0 : 0 ≤ lo := by have := unhide HL9; omega
  have hlo1 : lo < 18446744073709551616 := by have := unhide HL9; omega
  have hsg : if bl then lo ≤ 9223372036854775808 else lo < 9223372036854775808 := by
    have h8 := unhide HLO
    rw [unhide HB9, unhide HL9] at h8
    exact h8
  have hhi0 : (hi == 0) = false := by
    have h8 := unhide HH9
    have h9 := unhide HHI
    simp
    omega
  have hs := signed_yes bl lo W1 hlo0 hsg
  generalize (if bl = true then -lo else lo) = n9 at hs
  have HS := hide hs
  clear hs hsg
  go_wp2_with fail
  refine (unhide HS).mono ?_
  rintro e w1 ⟨rfl, hw1⟩
  have hw2 := hw1.symm
  subst hw2
  go_wp2
  obtain ⟨hB0, gA0, gA1, gB0, gB1, gR0, gR1, gf0, gf1, hRb, hz0, hz1, hz2⟩ := S
  have HRb := hide hRb
  have hA0 : IsI W1.drew (.agg #[.int .i64 za, .slice none 0 0]) za := hA.below hB0.drew
  have hB1 : IsI W1.drew (.agg #[.int .i64 zb, .slice none 0 0]) zb := hB.below hB0.drew
  clear hRb hA hB
  go_region_with (first
    | (go_at_call_of 60 (Value.agg #[Value.int IntKind.i64 za, Value.slice none 0 0]); refine (magnitude_any _ za _ ?_).mono ?_; exact hA0; rintro e w1 ⟨m1, xs, rfl, hb1, hm1, hd1, hn1, hv1⟩; have HV1 := hide hv1; clear hv1; have hbT1 := hb1; have kB01 := (hbT1.cell (p := ⟨w.heap.size + 1, 0, none⟩) hz1).trans gB0; have kB11 := (hbT1.cell (p := ⟨w.heap.size + 1, 1, none⟩) hz1).trans gB1)
    | (go_at_call_of 60 (Value.agg #[Value.int IntKind.i64 zb, Value.slice none 0 0]); refine (magnitude_any _ zb _ ?_).mono ?_; exact hB1.below hb1; rintro e w2 ⟨m2, ys, rfl, hb2, hm2, hd2, hn2, hv2⟩; have HV2 := hide hv2; clear hv2; have hbT2 := hbT1.trans (hb2.mono hbT1.size))
    | (go_at_call 67; refine (mulMag_any _ _ xs ys _ ?_ hm2 hd1 hd2 ?_ ?_).mono ?_; exact hm1.below hb2; exact lenk hd1 hn1 (unhide HV1) (unhide HZA); exact lenk hd2 hn2 (unhide HV2) (unhide HZB); rintro e w3 ⟨m3, zs, rfl, hb3, hm3, hd3, hn3, hv3, hl3⟩; have HV3 := hide hv3; clear hv3; have hbT3 := hbT2.trans (hb3.mono hbT2.size))
    | (go_at_call 56; refine (ofMag_any _ _ zs _ hm3 hd3 hn3 ?_).mono ?_; exact Nat.le_trans hl3 (lenk2 hd1 hn1 (unhide HV1) (unhide HZA) hd2 hn2 (unhide HV2) (unhide HZB)); rintro e w4 ⟨r4, rfl, hb4, hI4⟩; obtain ⟨n4, a4, l4, c4, rfl⟩ := hI4.form; have hbT4 := hbT3.trans (hb4.mono hbT3.size); have HI4 := hide hI4; clear hI4; have kR0 := (hbT4.cell (p := ⟨w.heap.size + 1 + 1, 0, none⟩) hz2).trans gR0; have kR1 := (hbT4.cell (p := ⟨w.heap.size + 1 + 1, 1, none⟩) hz2).trans gR1; have kf0 := (hbT4.frozen (p := ⟨w.heap.size + 1 + 1, 0, none⟩) hz2).trans gf0; have kf1 := (hbT4.frozen (p := ⟨w.heap.size + 1 + 1, 1, none⟩) hz2).trans gf1))
  all_goals
    go_wp2
    refine bodyPost_ret (v := .agg #[.int .i64 n4, .slice a4 l4 c4]) ?_ rfl ?_
    · simp [results, Tryz.results46, go_sem, kR0, kR1]
    · have hI4 := unhide HI4
      have hrb4 := (hbT4.block (w.heap.size + 1 + 1) hz2).trans (unhide HRb)
      have e9 := mul_sign (unhide HBL) (unhide HV1) (unhide HV2) (unhide HV3)
      rw [e9] at hI4
      exact ⟨_, rfl, ret_store (hB0.drew.trans (hbT4.mono (B' := w.heap.size) (Nat.le_of_lt hz0))) hI4 (by omega) hrb4 _ _⟩

end Go.Proofs.YthgdmppmjnmiiaaGreatDoor.Nm

/- Mul of small numbers whose product is great. -/
namespace Go.Proofs.YthgdmppmjnmiiaaGreatDoor.Nm
open Go.RowKit
attribute [local go_sem] eqnil_some eqnil_none nenil_some nenil_none
set_option maxRecDepth 100000 in
set_option maxHeartbeats 4000000 in
theorem mul_no (za zb : Int) (w : World) (h1 : -9223372036854775808 ≤ za) (h2 : za ≤ 9223372036854775807) (h3 : -9223372036854775808 ≤ zb) (h4 : zb ≤ 9223372036854775807) (hlo : if (!(decide (za < 0) == decide (zb < 0))) then 9223372036854775808 < (za.natAbs : Int) * zb.natAbs % 18446744073709551616 else 9223372036854775808 ≤ (za.natAbs : Int) * zb.natAbs % 18446744073709551616) :
    Calls Tryz.prog 46 #[.agg #[.int .i64 za, .slice none 0 0], .agg #[.int .i64 zb, .slice none 0 0]] w fun e w' => ∃ r, e = .returned r ∧ Below w.heap.size w w' ∧ IsI w' r (za * zb) := by
  have hA : IsI w (.agg #[.int .i64 za, .slice none 0 0]) za := .inl ⟨rfl, h1, h2⟩
  have hB : IsI w (.agg #[.int .i64 zb, .slice none 0 0]) zb := .inl ⟨rfl, h3, h4⟩
  have HZA := hide (small_pw h1 h2)
  have HZB := hide (small_pw h3 h4)
  have HLO := hide hlo
  clear hlo
  obtain ⟨W0, hW0, S⟩ := setup2 w (.int .i64 za) (.slice none 0 0) (.int .i64 zb) (.slice none 0 0)
  have HW := hide hW0
  clear hW0
  have gA0 := S.a0
  have gB0 := S.b0
  go_enter Tryz.func46, Tryz.ntmps46
  go_wp2
  rw [unhide HW]
  go_quiet (first | (go_at_call 65; exact Calls.quiet_of_same (unsigned_any _ _ (by omega) (by omega))) | (go_at_call 64; exact Calls.quiet_of_same (mul64_any _ _ _ (by omega) (by omega) (by omega) (by omega))))
  clear gA0 gB0
  have S1 := S.drewN nq
  generalize W0.drewN nq = W1 at *
  clear S
  have S := S1
  clear S1 HW
  generalize hlo9 : (za.natAbs : Int) * zb.natAbs % 18446744073709551616 = lo
  generalize hhi9 : (za.natAbs : Int) * zb.natAbs / 18446744073709551616 = hi
  generalize hbl9 : (!(decide (za < 0) == decide (zb < 0))) = bl
  have HL9 := hide hlo9
  have HH9 := hide hhi9
  have HB9 := hide hbl9
  clear hlo9 hhi9 hbl9
  have HBL := hide (unhide HB9).symm
  have hlo0 : 0 ≤ lo := by have := unhide HL9; omega
  have hlo1 : lo < 18446744073709551616 := by have := unhide HL9; omega
  have hsg : if bl then 9223372036854775808 < lo else 9223372036854775808 ≤ lo := by
    have h8 := unhide HLO
    rw [unhide HB9, unhide HL9] at h8
    exact h8
  have HS := hide (signed_no bl lo W1 hlo0 hlo1 hsg)
  clear hsg
  go_wp2_with fail
  refine (unhide HS).mono ?_
  rintro e w1 ⟨rfl, hw1⟩
  have hw2 := hw1.symm
  subst hw2
  go_wp2
  obtain ⟨hB0, gA0, gA1, gB0, gB1, gR0, gR1, gf0, gf1, hRb, hz0, hz1, hz2⟩ := S
  have HRb := hide hRb
  have hA0 : IsI W1.drew (.agg #[.int .i64 za, .slice none 0 0]) za := hA.below hB0.drew
  have hB1 : IsI W1.drew (.agg #[.int .i64 zb, .slice none 0 0]) zb := hB.below hB0.drew
  clear hRb hA hB
  go_region_with (first
    | (go_at_call_of 60 (Value.agg #[Value.int IntKind.i64 za, Value.slice none 0 0]); refine (magnitude_any _ za _ ?_).mono ?_; exact hA0; rintro e w1 ⟨m1, xs, rfl, hb1, hm1, hd1, hn1, hv1⟩; have HV1 := hide hv1; clear hv1; have hbT1 := hb1; have kB01 := (hbT1.cell (p := ⟨w.heap.size + 1, 0, none⟩) hz1).trans gB0; have kB11 := (hbT1.cell (p := ⟨w.heap.size + 1, 1, none⟩) hz1).trans gB1)
    | (go_at_call_of 60 (Value.agg #[Value.int IntKind.i64 zb, Value.slice none 0 0]); refine (magnitude_any _ zb _ ?_).mono ?_; exact hB1.below hb1; rintro e w2 ⟨m2, ys, rfl, hb2, hm2, hd2, hn2, hv2⟩; have HV2 := hide hv2; clear hv2; have hbT2 := hbT1.trans (hb2.mono hbT1.size))
    | (go_at_call 67; refine (mulMag_any _ _ xs ys _ ?_ hm2 hd1 hd2 ?_ ?_).mono ?_; exact hm1.below hb2; exact lenk hd1 hn1 (unhide HV1) (unhide HZA); exact lenk hd2 hn2 (unhide HV2) (unhide HZB); rintro e w3 ⟨m3, zs, rfl, hb3, hm3, hd3, hn3, hv3, hl3⟩; have HV3 := hide hv3; clear hv3; have hbT3 := hbT2.trans (hb3.mono hbT2.size))
    | (go_at_call 56; refine (ofMag_any _ _ zs _ hm3 hd3 hn3 ?_).mono ?_; exact Nat.le_trans hl3 (lenk2 hd1 hn1 (unhide HV1) (unhide HZA) hd2 hn2 (unhide HV2) (unhide HZB)); rintro e w4 ⟨r4, rfl, hb4, hI4⟩; obtain ⟨n4, a4, l4, c4, rfl⟩ := hI4.form; have hbT4 := hbT3.trans (hb4.mono hbT3.size); have HI4 := hide hI4; clear hI4; have kR0 := (hbT4.cell (p := ⟨w.heap.size + 1 + 1, 0, none⟩) hz2).trans gR0; have kR1 := (hbT4.cell (p := ⟨w.heap.size + 1 + 1, 1, none⟩) hz2).trans gR1; have kf0 := (hbT4.frozen (p := ⟨w.heap.size + 1 + 1, 0, none⟩) hz2).trans gf0; have kf1 := (hbT4.frozen (p := ⟨w.heap.size + 1 + 1, 1, none⟩) hz2).trans gf1))
  all_goals
    go_wp2
    refine bodyPost_ret (v := .agg #[.int .i64 n4, .slice a4 l4 c4]) ?_ rfl ?_
    · simp [results, Tryz.results46, go_sem, kR0, kR1]
    · have hI4 := unhide HI4
      have hrb4 := (hbT4.block (w.heap.size + 1 + 1) hz2).trans (unhide HRb)
      have e9 := mul_sign (unhide HBL) (unhide HV1) (unhide HV2) (unhide HV3)
      rw [e9] at hI4
      exact ⟨_, rfl, ret_store (hB0.drew.trans (hbT4.mono (B' := w.heap.size) (Nat.le_of_lt hz0))) hI4 (by omega) hrb4 _ _⟩

end Go.Proofs.YthgdmppmjnmiiaaGreatDoor.Nm

namespace Go.Proofs.YthgdmppmjnmiiaaGreatDoor.Nm
open Go.RowKit

/-- Mul. -/
theorem mul_any (va vb : Value) (za zb : Int) (w : World) (hA : IsI w va za) (hB : IsI w vb zb) (hza : (za.natAbs : Int) < pw 4000) (hzb : (zb.natAbs : Int) < pw 4000) :
    Calls Tryz.prog 46 #[va, vb] w fun e w' => ∃ r, e = .returned r ∧ Below w.heap.size w w' ∧ IsI w' r (za * zb) := by
  have hA' := hA
  have hB' := hB
  rcases hA with ⟨rfl, h1, h2⟩ | ⟨b, off, cap, xs, rfl, _⟩
  · rcases hB with ⟨rfl, h3, h4⟩ | ⟨b, off, cap, xs, rfl, _⟩
    · by_cases hy : if (!(decide (za < 0) == decide (zb < 0))) then (za.natAbs : Int) * zb.natAbs ≤ 9223372036854775808 else (za.natAbs : Int) * zb.natAbs < 9223372036854775808
      · exact mul_yes za zb w h1 h2 h3 h4 hy
      · by_cases hl : if (!(decide (za < 0) == decide (zb < 0))) then (za.natAbs : Int) * zb.natAbs % 18446744073709551616 ≤ 9223372036854775808 else (za.natAbs : Int) * zb.natAbs % 18446744073709551616 < 9223372036854775808
        · refine mul_hi za zb w h1 h2 h3 h4 ?_ hl
          cases hb : (!(decide (za < 0) == decide (zb < 0)))
          · rw [hb] at hy hl; simp at hy hl; omega
          · rw [hb] at hy hl; simp at hy hl; omega
        · refine mul_no za zb w h1 h2 h3 h4 ?_
          cases hb : (!(decide (za < 0) == decide (zb < 0)))
          · rw [hb] at hl; simp at hl ⊢; omega
          · rw [hb] at hl; simp at hl ⊢; omega
    · exact mul_big2 _ _ _ _ _ za zb w hA' hB' hza hzb
  · obtain ⟨nb, ab, lb, cb, rfl⟩ := hB.form
    exact mul_big1 _ _ _ _ _ _ _ _ za zb w hA' hB' hza hzb

end Go.Proofs.YthgdmppmjnmiiaaGreatDoor.Nm
