/- Parse at right texts. -/
import Derived.Test.YtlcfldkmojpkpaaGreatDoorP1
import Derived.Test.YtlcfldkmojpkpaaGreatDoorN1
import Derived.Test.YtlcfldkmojpkpaaGreatDoorH
import Derived.Test.YtlcfldkmojpkpaaGreatDoorSh
namespace Go.Proofs.YtlcfldkmojpkpaaGreatDoor
open Go.RowKit

/-- A text: a minus or none, and digits. -/
def txt (neg : Bool) (D : List UInt8) : List UInt8 := if neg then 45 :: D else D
theorem cut_txt (neg : Bool) (D : List UInt8) (hD : Dg D) : Lib.trimPrefix (txt neg D) [45] = D ∧ Lib.hasPrefix (txt neg D) [45] = neg := by
  cases neg with
  | true => simp [txt, Lib.trimPrefix, Lib.hasPrefix]
  | false =>
    cases D with
    | nil => simp [txt, Lib.trimPrefix, Lib.hasPrefix]
    | cons b D =>
      have := hD b (by simp)
      have hb : b ≠ 45 := by rintro rfl; simp at this
      have e : ([45] : List UInt8).isPrefixOf (b :: D) = false := by simp [List.isPrefixOf, Ne.symm hb]
      simp [txt, Lib.trimPrefix, Lib.hasPrefix, e]

set_option maxRecDepth 100000 in
set_option maxHeartbeats 800000 in
theorem parse_yes (neg : Bool) (D : List UInt8) (w : World) (hD : Dg D) (hne : D ≠ []) (hz : D.head? = some 48 → D = [48] ∧ neg = false) (hl : D.length ≤ 400) :
    Calls Tryz.prog 62 #[.string ⟨(txt neg D).toArray⟩] w fun e w' => ∃ r, e = .returned (.tuple #[r, .bool true]) ∧ Below w.heap.size w w' ∧ IsI w' r (if neg then - dec D else dec D) := by
  obtain ⟨z, hzz⟩ : ∃ z, z = (if neg then - dec D else dec D) := ⟨_, rfl⟩
  rw [← hzz]
  have HZZ := hide hzz
  clear hzz
  obtain ⟨hc1, hc2⟩ := cut_txt neg D hD
  have HC := hide (Tryz.strings_CutPrefix ⟨(txt neg D).toArray⟩ ⟨#[45]⟩)
  have hcut : ∀ w, Calls Tryz.prog 88 #[.string ⟨(txt neg D).toArray⟩, .string ⟨#[45]⟩] w fun e w' => e = .returned (.tuple #[.string ⟨D.toArray⟩, .bool neg]) ∧ w' = w := fun w => by
    have := unhide HC w
    dsimp only at this
    rw [hc1, hc2] at this
    exact this
  clear HC
  obtain ⟨S, hS⟩ : ∃ S : ByteArray, S = ⟨D.toArray⟩ := ⟨_, rfl⟩
  obtain ⟨T, hT⟩ : ∃ T : ByteArray, T = ⟨(txt neg D).toArray⟩ := ⟨_, rfl⟩
  have hSD : S.data.toList = D := by rw [hS]
  have hSn : S.size = D.length := by rw [hS]; simp [ByteArray.size]
  rw [← hS, ← hT] at hcut
  rw [← hT]
  clear hS hT
  have HCUT := hide hcut
  clear hcut hc1 hc2
  have hpos : 0 < S.size := by rw [hSn]; exact List.length_pos_iff.2 hne
  have hgS : Dg S.data.toList := by rw [hSD]; exact hD
  have hls : S.size ≤ 1000 := by omega
  have hbox := Bx.new w 0 none 0 0
  have hbw : Below w.heap.size w (w.alloc (.cells #[.int .i64 0, .slice none 0 0] 26)) := (Below.refl _ w).alloc (Nat.le_refl _) _
  have hfirst : (((S[0]'hpos).toNat : Int) = 48 → D = [48] ∧ neg = false) := by
    intro h
    apply hz
    cases D with
    | nil => exact absurd rfl hne
    | cons b D' =>
      have h2 := get_toList S 0 hpos (by rw [hSD]; simp)
      simp only [hSD, List.getElem_cons_zero] at h2
      rw [← h2] at h
      simp only [List.head?_cons, Option.some.injEq]
      exact UInt8.toNat_inj.1 (by show b.toNat = 48; omega)
  go_enter Tryz.func62, Tryz.ntmps62
  go_wp2_with fail
  refine (unhide HCUT _).mono ?_
  rintro e w1 ⟨rfl, rfl⟩
  go_wp2_with fail
  refine (areDigits_yes S _ hgS hpos hls).mono ?_
  rintro e w2 ⟨rfl, hb2⟩
  by_cases h48 : ((S[0]'hpos).toNat : Int) = 48
  · obtain ⟨rfl, rfl⟩ := hfirst h48
    have hsz1 : (S.size : Int) = 1 := by rw [hSn]; rfl
    go_wp2_with fail
    refine (parseMag_any S w2 hgS hls).mono ?_
    rintro e w3 ⟨v3, xs, rfl, hb3, hm3, hd3, hn3, hv3, hl3⟩
    have HV3 := hide hv3
    clear hv3
    go_wp2_with fail
    refine (ofMag_any false v3 xs w3 hm3 hd3 hn3 (by omega)).mono ?_
    rintro e w4 ⟨r, rfl, hb4, hI⟩
    obtain ⟨n4, a4, l4, c4, rfl⟩ := hI.form
    have hbx := ((hbox.below hb2).below hb3).below hb4
    obtain ⟨kR0, kR1, kRf0, kRf1⟩ := hbx.facts
    have hbel := ((hbw.trans (hb2.mono hbw.size)).trans (hb3.mono (Nat.le_trans hbw.size hb2.size))).trans (hb4.mono (Nat.le_trans (Nat.le_trans hbw.size hb2.size) hb3.size))
    have HI := hide hI
    clear hI
    go_wp2
    refine bodyPost_ret (v := .tuple #[.agg #[.int .i64 n4, .slice a4 l4 c4], .bool true]) ?_ rfl ?_
    · simp [results, Tryz.results62, go_sem, kR0, kR1]
    · refine ⟨_, rfl, below_put hbel (Nat.le_refl _) _ _, ?_⟩
      have h9 := (unhide HI).put hbx (.int .i64 n4) (.slice a4 l4 c4)
      rw [unhide HV3, hSD] at h9
      rw [unhide HZZ]
      exact h9
  · go_wp2_with fail
    refine (parseMag_any S w2 hgS hls).mono ?_
    rintro e w3 ⟨v3, xs, rfl, hb3, hm3, hd3, hn3, hv3, hl3⟩
    have HV3 := hide hv3
    clear hv3
    go_wp2_with fail
    refine (ofMag_any neg v3 xs w3 hm3 hd3 hn3 (by omega)).mono ?_
    rintro e w4 ⟨r, rfl, hb4, hI⟩
    obtain ⟨n4, a4, l4, c4, rfl⟩ := hI.form
    have hbx := ((hbox.below hb2).below hb3).below hb4
    obtain ⟨kR0, kR1, kRf0, kRf1⟩ := hbx.facts
    have hbel := ((hbw.trans (hb2.mono hbw.size)).trans (hb3.mono (Nat.le_trans hbw.size hb2.size))).trans (hb4.mono (Nat.le_trans (Nat.le_trans hbw.size hb2.size) hb3.size))
    have HI := hide hI
    clear hI
    go_wp2
    refine bodyPost_ret (v := .tuple #[.agg #[.int .i64 n4, .slice a4 l4 c4], .bool true]) ?_ rfl ?_
    · simp [results, Tryz.results62, go_sem, kR0, kR1]
    · refine ⟨_, rfl, below_put hbel (Nat.le_refl _) _ _, ?_⟩
      have h9 := (unhide HI).put hbx (.int .i64 n4) (.slice a4 l4 c4)
      rw [unhide HV3, hSD] at h9
      rw [unhide HZZ]
      exact h9

set_option maxRecDepth 100000 in
set_option maxHeartbeats 800000 in
/-- No nought below 0. -/
theorem parse_no (w : World) :
    Calls Tryz.prog 62 #[.string ⟨#[45, 48]⟩] w fun e w' => e = .returned (.tuple #[.agg #[.int .i64 0, .slice none 0 0], .bool false]) ∧ Below w.heap.size w w' := by
  have HCUT := hide (Tryz.strings_CutPrefix ⟨#[45, 48]⟩ ⟨#[45]⟩)
  have hcut : ∀ w, Calls Tryz.prog 88 #[.string ⟨#[45, 48]⟩, .string ⟨#[45]⟩] w fun e w' => e = .returned (.tuple #[.string ⟨#[48]⟩, .bool true]) ∧ w' = w := fun w => unhide HCUT w
  clear HCUT
  have HCUT := hide hcut
  clear hcut
  have hgS : Dg (⟨#[48]⟩ : ByteArray).data.toList := by intro b hb; simp at hb; subst hb; decide
  have hbox := Bx.new w 0 none 0 0
  have hbw : Below w.heap.size w (w.alloc (.cells #[.int .i64 0, .slice none 0 0] 26)) := (Below.refl _ w).alloc (Nat.le_refl _) _
  go_enter Tryz.func62, Tryz.ntmps62
  go_wp2_with fail
  refine (unhide HCUT _).mono ?_
  rintro e w1 ⟨rfl, rfl⟩
  go_wp2_with fail
  refine (areDigits_yes ⟨#[48]⟩ _ hgS (by decide) (by decide)).mono ?_
  rintro e w2 ⟨rfl, hb2⟩
  have hbx := hbox.below hb2
  obtain ⟨kR0, kR1, kRf0, kRf1⟩ := hbx.facts
  have hbel := hbw.trans (hb2.mono hbw.size)
  go_wp2
  refine bodyPost_ret (v := .tuple #[.agg #[.int .i64 0, .slice none 0 0], .bool false]) ?_ rfl ?_
  · simp [results, Tryz.results62, go_sem, kR0, kR1]
  · exact ⟨rfl, below_put hbel (Nat.le_refl _) _ _⟩

end Go.Proofs.YtlcfldkmojpkpaaGreatDoor
