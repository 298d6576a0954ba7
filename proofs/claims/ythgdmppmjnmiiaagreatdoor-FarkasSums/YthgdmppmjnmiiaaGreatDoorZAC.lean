/- The contracts of the library functions that num calls, at this program: each one application of a theorem of the kit. -/
import Derived.Test.YthgdmppmjnmiiaaGreatDoorZAA
import Derived.Test.YthgdmppmjnmiiaaGreatDoorZAB
import Derived.Lib.OthersKept
import Derived.Lib.Strings
import Derived.Laws.RangeAny
import Derived.Deep.RegionWith
import Derived.Shelf.Small.Wraps
import Derived.Shelf.Strconv.Itoa0
import Derived.Shelf.Strconv.Itoa1
import Derived.Shelf.LaysM
import Derived.Shelf.Strconv.Itoa2
import Derived.Shelf.Strconv.Itoa3
import Derived.Shelf.Strconv.Itoa4
import Derived.Shelf.Strconv.AppendUint10
import Derived.Shelf.Strings.Prefix
import Derived.Test.YthgdmppmjnmiiaaGreatDoorProg
set_option linter.unusedVariables false
set_option linter.unusedSimpArgs false

/- areDigits and parseMag at texts of digits. -/
namespace Go.Proofs.YthgdmppmjnmiiaaGreatDoor.Nm
open Go.RowKit

theorem Dg.at {s : ByteArray} (h : Dg s.data.toList) (i : Nat) (hi : i < s.size) : 48 ≤ (s[i]'hi).toNat ∧ (s[i]'hi).toNat ≤ 57 := h _ (by
  show s.data[i] ∈ s.data.toList
  simp)

theorem get_toList (s : ByteArray) (i : Nat) (hi : i < s.size) (h : i < s.data.toList.length) : s.data.toList[i]'h = s[i]'hi := by
  rw [Array.getElem_toList]
  rfl

set_option maxRecDepth 100000 in
set_option maxHeartbeats 800000 in
theorem areDigits_yes (s : ByteArray) (w : World) (hd : Dg s.data.toList) (hn : 0 < s.size) (hl : s.size ≤ 4000) :
    Calls Tryz.prog 55 #[.string s] w fun e w' => e = .returned (.bool true) ∧ Below w.heap.size w w' := by
  have hk0 : (w.iter s 0).heap[w.heap.size]? = some (.stringIter s 0) := World.iter_heap w s 0
  have hb0 : Below w.heap.size w (w.iter s 0) := (Below.refl _ w).alloc (Nat.le_refl _) _
  go_enter Tryz.func55, Tryz.ntmps55
  go_wp2
  go_loopw [4] (fun _ wr => ∃ pos : Nat, pos ≤ s.size ∧ wr.heap[w.heap.size]? = some (.stringIter s pos) ∧ Below w.heap.size w wr) (fun _ wr => s.size - wr.iterPos w.heap.size)
  case atStart => exact ⟨0, Nat.zero_le _, hk0, hb0⟩
  case round =>
    obtain ⟨pos, hps, hk, hnx⟩ := hrel
    clear hk0 hb0
    by_cases hp : pos < s.size
    · obtain ⟨c0, c1⟩ := hd.at pos hp
      have hnext : ∀ ty, (Instr.next (.pointer (some ⟨w.heap.size, 0, none⟩)) true ty).run Tryz.prog wr = _ := fun ty => Lib.run_next_ascii_at wr w.heap.size s pos ty hk hp (by omega)
      have hk1 := Lib.iterAt_heap wr w.heap.size s pos (pos + 1) hk
      have hnx1 : Below w.heap.size w (wr.iterAt w.heap.size s (pos + 1)) := Lib.below_iterAt hnx (by omega) s (pos + 1)
      have hmu : wr.iterPos w.heap.size = pos := by simp [World.iterPos, hk]
      generalize wr.iterAt w.heap.size s (pos + 1) = W1 at hnext hk1 hnx1
      obtain ⟨c, hc⟩ : ∃ c : Int, c = ((s[pos]'hp).toNat : Int) := ⟨_, rfl⟩
      have c0' : 48 ≤ c := by omega
      have c1' : c ≤ 57 := by omega
      rw [← hc] at hnext
      clear hc c0 c1
      have ct0 : decide (c < 48) = false := by simp; omega
      have ct1 : decide (57 < c) = false := by simp; omega
      have HM := hide hmu
      clear hmu
      go_wp2
      exact ⟨⟨pos + 1, by omega, hk1, hnx1⟩, by rw [unhide HM]; simp [World.iterPos, hk1]; omega⟩
    · have hnext : ∀ ty, (Instr.next (.pointer (some ⟨w.heap.size, 0, none⟩)) true ty).run Tryz.prog wr = _ := fun ty => Lib.run_next_end_at wr w.heap.size s pos ty hk hp
      have hemp : (!s.toList.isEmpty) = true := by
        rw [Lib.toList_data]
        cases h : s.data.toList with
        | nil =>
          have h2 : s.data.toList.length = s.size := by simp
          rw [h] at h2
          simp only [List.length_nil] at h2
          omega
        | cons _ _ => rfl
      have HE := hide hemp
      clear hemp
      go_wp2
      go_ret
      exact ⟨by show Ending.returned (Value.bool (!s.toList.isEmpty)) = _; rw [unhide HE], hnx⟩

theorem At.at_ {w : World} {b : Nat} {xs : List Int} (h : At w b 0 xs) {j : Nat} (hj : j < xs.length) : w.cell? ⟨b, j, none⟩ = some (.int .u32 (xs[j]?.getD 0)) := by
  have := h j hj
  rwa [Nat.zero_add] at this
theorem iterAt_cell (w : World) (k : Nat) (s : ByteArray) (pos : Nat) (p : Addr) (hp : p.block ≠ k) : (w.iterAt k s pos).cell? p = w.cell? p := World.cell?_of_block (w := w) (by simp [World.iterAt, hp.symm])
theorem iterAt_frozen (w : World) (k : Nat) (s : ByteArray) (pos : Nat) (p : Addr) (hp : p.block ≠ k) : (w.iterAt k s pos).frozen? p = w.frozen? p := World.frozen?_of_block (w := w) (by simp [World.iterAt, hp.symm])
theorem iterAt_size (w : World) (k : Nat) (s : ByteArray) (pos : Nat) : (w.iterAt k s pos).heap.size = w.heap.size := by simp [World.iterAt]

set_option maxRecDepth 100000 in
set_option maxHeartbeats 1600000 in
theorem parseMag_any (s : ByteArray) (w : World) (hd : Dg s.data.toList) (hl : s.size ≤ 4000) :
    Calls Tryz.prog 57 #[.string s] w fun e w' => ∃ v xs, e = .returned v ∧ Below w.heap.size w w' ∧ Mg w' v xs ∧ Dig xs ∧ Norm xs ∧ val xs = dec s.data.toList ∧ xs.length ≤ s.size + 8 := by
  have hsz : s.data.toList.length = s.size := by simp
  obtain ⟨n, hn⟩ : ∃ n, n = (s.size + 8) / 9 := ⟨_, rfl⟩
  have hq1 : ((s.size : Int) + 9 - 1).tdiv 9 = (n : Int) := by rw [Int.tdiv_eq_ediv_of_nonneg (by omega)]; omega
  have hmk := mk32 n w (by omega)
  have hk0 : ((w.alloc (.cells (madeCells #[.int .u32 0] n) 118)).iter s 0).heap[w.heap.size + 1]? = some (.stringIter s 0) := by
    have := World.iter_heap (w.alloc (.cells (madeCells #[.int .u32 0] n) 118)) s 0
    rwa [World.size_alloc] at this
  have hb0 : Below w.heap.size w ((w.alloc (.cells (madeCells #[.int .u32 0] n) 118)).iter s 0) := ((Below.refl _ w).alloc (Nat.le_refl _) _).alloc (by simp) _
  have hA0 : At ((w.alloc (.cells (madeCells #[.int .u32 0] n) 118)).iter s 0) w.heap.size 0 (List.replicate n 0) := fun j hj => by
    have h1 : ((w.alloc (.cells (madeCells #[.int .u32 0] n) 118)).iter s 0).cell? ⟨w.heap.size, 0 + j, none⟩ = (w.alloc (.cells (madeCells #[.int .u32 0] n) 118)).cell? ⟨w.heap.size, 0 + j, none⟩ := World.cell?_alloc_past _ _ _ (by simp)
    rw [h1]
    exact at_made w n j hj
  have hF0 : ∀ j, ((w.alloc (.cells (madeCells #[.int .u32 0] n) 118)).iter s 0).frozen? ⟨w.heap.size, j, none⟩ = false := fun j => by
    have h1 : ((w.alloc (.cells (madeCells #[.int .u32 0] n) 118)).iter s 0).frozen? ⟨w.heap.size, j, none⟩ = (w.alloc (.cells (madeCells #[.int .u32 0] n) 118)).frozen? ⟨w.heap.size, j, none⟩ := World.frozen?_alloc_past _ _ _ (by simp)
    rw [h1]
    exact World.frozen?_alloc_at _ _ _ _ rfl
  have hZ0 : w.heap.size + 1 < ((w.alloc (.cells (madeCells #[.int .u32 0] n) 118)).iter s 0).heap.size := by
    have : ((w.alloc (.cells (madeCells #[.int .u32 0] n) 118)).iter s 0).heap.size = (w.alloc (.cells (madeCells #[.int .u32 0] n) 118)).heap.size + 1 := World.size_alloc _ _
    rw [this, World.size_alloc]; omega
  have hwn : wrap64 (n : Int) = n := by unfold wrap64; omega
  have HN := hide hn
  clear hn
  go_enter Tryz.func57, Tryz.ntmps57
  go_wp2
  go_loopw [4] (fun _ wr => ∃ (pos : Nat) (O : List Int), pos ≤ s.size ∧ wr.heap[w.heap.size + 1]? = some (.stringIter s pos) ∧ At wr w.heap.size 0 O ∧ O.length = n ∧ (∀ j, wr.frozen? ⟨w.heap.size, j, none⟩ = false) ∧ Below w.heap.size w wr ∧ w.heap.size + 1 < wr.heap.size ∧ PM s.data.toList s.size pos O) (fun _ wr => s.size - wr.iterPos (w.heap.size + 1))
  case atStart => exact ⟨0, List.replicate n 0, Nat.zero_le _, hk0, hA0, by simp, hF0, hb0, hZ0, by rw [unhide HN]; exact PM.start _ _⟩
  case round =>
    obtain ⟨pos, O, hps, hk, hA, hOl, hF, hnx, hZ, hPM⟩ := hrel
    clear hk0 hb0 hA0 hF0 hZ0 hmk
    by_cases hp : pos < s.size
    · obtain ⟨c0, c1⟩ := hd.at pos hp
      have hnext : ∀ ty, (Instr.next (.pointer (some ⟨w.heap.size + 1, 0, none⟩)) true ty).run Tryz.prog wr = _ := fun ty => Lib.run_next_ascii_at wr (w.heap.size + 1) s pos ty hk hp (by omega)
      have hk1 := Lib.iterAt_heap wr (w.heap.size + 1) s pos (pos + 1) hk
      have hnx1 : Below w.heap.size w (wr.iterAt (w.heap.size + 1) s (pos + 1)) := Lib.below_iterAt hnx (by omega) s (pos + 1)
      have hA1 : At (wr.iterAt (w.heap.size + 1) s (pos + 1)) w.heap.size 0 O := fun j hj => (iterAt_cell _ _ _ _ ⟨w.heap.size, 0 + j, none⟩ (by show w.heap.size ≠ w.heap.size + 1; omega)).trans (hA j hj)
      have hF1 : ∀ j, (wr.iterAt (w.heap.size + 1) s (pos + 1)).frozen? ⟨w.heap.size, j, none⟩ = false := fun j => (iterAt_frozen _ _ _ _ ⟨w.heap.size, j, none⟩ (by show w.heap.size ≠ w.heap.size + 1; omega)).trans (hF j)
      have hZ1 : w.heap.size + 1 < (wr.iterAt (w.heap.size + 1) s (pos + 1)).heap.size := by rw [iterAt_size]; exact hZ
      have hmu : wr.iterPos (w.heap.size + 1) = pos := by simp [World.iterPos, hk]
      obtain ⟨c, hc⟩ : ∃ c : Int, c = ((s[pos]'hp).toNat : Int) := ⟨_, rfl⟩
      have c0' : 48 ≤ c := by omega
      have c1' : c ≤ 57 := by omega
      rw [← hc] at hnext
      obtain ⟨x, hx, x0, x1, hal, hPM1⟩ := hPM.step hp hsz (d := c - 48) (by rw [hc, get_toList s pos hp (by omega)]) (by omega) (by omega)
      obtain ⟨a, ha⟩ : ∃ a, a = (s.size - 1 - pos) / 9 := ⟨_, rfl⟩
      rw [← ha] at hx hal hPM1
      have hq2 : ((s.size : Int) - 1 - (pos : Int)).tdiv 9 = (a : Int) := by rw [Int.tdiv_eq_ediv_of_nonneg (by omega)]; omega
      have hwa : wrap64 (a : Int) = a := by unfold wrap64; omega
      have hca := hA1.at_ hal
      rw [hx] at hca
      have hfa := hF1 a
      have han : a < n := by rw [← hOl]; exact hal
      have hwd : IntKind.u32.wrap (c - 48) = c - 48 := by rw [IntKind.wrap_u32]; omega
      generalize wr.iterAt (w.heap.size + 1) s (pos + 1) = W1 at *
      have HM := hide hmu
      have HX := hide hx
      have HO := hide hOl
      have HP := hide hPM1
      have HA1 := hide hA1
      have HF1 := hide hF1
      clear hmu hc c0 c1 hx hOl hPM hPM1 hA hF hA1 hF1 ha
      have hkf : (W1.setCell ⟨w.heap.size, a, none⟩ (.int .u32 (x * 10 + (c - 48)))).heap[w.heap.size + 1]? = some (.stringIter s (pos + 1)) := by
        rw [Below.heap_setCell _ _ _ _ (by show w.heap.size + 1 ≠ w.heap.size; omega)]; exact hk1
      have HKF := hide hkf
      clear hkf
      go_wp2
      refine ⟨⟨pos + 1, O.set a (x * 10 + (c - 48)), by omega, unhide HKF, (unhide HA1).setAt hal _, by rw [List.length_set]; exact unhide HO, fun j => (World.frozen?_setCell _ _ _ _).trans (unhide HF1 j), hnx1.setCell (p := ⟨w.heap.size, a, none⟩) (Nat.le_refl _) _, by simpa using hZ1, unhide HP⟩, ?_⟩
      rw [unhide HM]
      simp only [World.iterPos, unhide HKF]
      omega
    · have hnext : ∀ ty, (Instr.next (.pointer (some ⟨w.heap.size + 1, 0, none⟩)) true ty).run Tryz.prog wr = _ := fun ty => Lib.run_next_end_at wr (w.heap.size + 1) s pos ty hk hp
      obtain rfl : pos = s.size := by omega
      obtain ⟨hv, hdO⟩ := hPM.done hsz
      have hm : Mg wr (.slice (some ⟨w.heap.size, 0, none⟩) n n) O := by
        have := hA.mg (cap := n) (by omega) (by omega)
        rwa [hOl] at this
      have hOn : O.length ≤ s.size + 8 := by have := unhide HN; omega
      have HV := hide hv
      clear hv hA hF hPM hOl
      go_wp2_with fail
      refine (trim_any _ O wr hm hdO (by omega)).mono ?_
      rintro e w3 ⟨v3, ys3, rfl, rfl, hm3, hd3, hn3, hv3, hl3⟩
      have HV3 := hide hv3
      clear hv3
      go_wp2
      go_ret
      exact ⟨_, ys3, rfl, hnx, hm3, hd3, hn3, (unhide HV3).trans (unhide HV), by omega⟩

end Go.Proofs.YthgdmppmjnmiiaaGreatDoor.Nm

/- areDigits at texts that are not digits. -/
namespace Go.Proofs.YthgdmppmjnmiiaaGreatDoor.Nm
open Go Go.RowKit

set_option maxRecDepth 100000 in
set_option maxHeartbeats 800000 in
theorem areDigits_no (s : ByteArray) (w : World) (hd : s.size = 0 ∨ ¬ Dg s.data.toList) (_hl : s.size ≤ 4000) :
    Calls Tryz.prog 55 #[.string s] w fun e w' => e = .returned (.bool false) ∧ Below w.heap.size w w' := by
  have hk0 : (w.iter s 0).heap[w.heap.size]? = some (.stringIter s 0) := World.iter_heap w s 0
  have hb0 : Below w.heap.size w (w.iter s 0) := (Below.refl _ w).alloc (Nat.le_refl _) _
  have HDD := hide hd
  clear hd
  go_enter Tryz.func55, Tryz.ntmps55
  go_wp2
  go_loopw [4] (fun _ wr => ∃ pos : Nat, pos ≤ s.size ∧ wr.heap[w.heap.size]? = some (.stringIter s pos) ∧ Below w.heap.size w wr ∧ Hid (∀ i (hi : i < s.size), i < pos → 48 ≤ (s[i]'hi).toNat ∧ (s[i]'hi).toNat ≤ 57)) (fun _ wr => s.size - wr.iterPos w.heap.size)
  case atStart => exact ⟨0, Nat.zero_le _, hk0, hb0, hide (fun i hi h => absurd h (by omega))⟩
  case round =>
    obtain ⟨pos, hps, hk, hnx, hall⟩ := hrel
    clear hk0 hb0
    by_cases hp : pos < s.size
    · by_cases hg : 48 ≤ (s[pos]'hp).toNat ∧ (s[pos]'hp).toNat ≤ 57
      · obtain ⟨c0, c1⟩ := hg
        have hnext : ∀ ty, (Instr.next (.pointer (some ⟨w.heap.size, 0, none⟩)) true ty).run Tryz.prog wr = _ := fun ty => Lib.run_next_ascii_at wr w.heap.size s pos ty hk hp (by omega)
        have hk1 := Lib.iterAt_heap wr w.heap.size s pos (pos + 1) hk
        have hnx1 : Below w.heap.size w (wr.iterAt w.heap.size s (pos + 1)) := Lib.below_iterAt hnx (by omega) s (pos + 1)
        have hmu : wr.iterPos w.heap.size = pos := by simp [World.iterPos, hk]
        generalize wr.iterAt w.heap.size s (pos + 1) = W1 at hnext hk1 hnx1
        have hall1 := hide (fun i (hi : i < s.size) (h : i < pos + 1) => show 48 ≤ (s[i]'hi).toNat ∧ (s[i]'hi).toNat ≤ 57 from by
          by_cases e : i = pos
          · subst e; exact ⟨c0, c1⟩
          · exact unhide hall i hi (by omega))
        obtain ⟨c, hc⟩ : ∃ c : Int, c = ((s[pos]'hp).toNat : Int) := ⟨_, rfl⟩
        have c0' : 48 ≤ c := by omega
        have c1' : c ≤ 57 := by omega
        rw [← hc] at hnext
        clear hc c0 c1
        have ct0 : decide (c < 48) = false := by simp; omega
        have ct1 : decide (57 < c) = false := by simp; omega
        have HM := hide hmu
        clear hmu
        go_wp2
        exact ⟨⟨pos + 1, by omega, hk1, hnx1, hall1⟩, by rw [unhide HM]; simp [World.iterPos, hk1]; omega⟩
      · have hnext : ∀ ty, (Instr.next (.pointer (some ⟨w.heap.size, 0, none⟩)) true ty).run Tryz.prog wr = _ := fun ty => Lib.run_next_any_at wr w.heap.size s pos ty hk hp
        have hnx1 : Below w.heap.size w (wr.iterAt w.heap.size s (pos + (Utf8.decode s pos).2)) := Lib.below_iterAt hnx (by omega) s _
        have hrune : ((Utf8.decode s pos).1 : Int) < 48 ∨ 57 < ((Utf8.decode s pos).1 : Int) := by
          by_cases ha : (s[pos]'hp).toNat < 128
          · rw [decode_ascii s pos hp ha]
            have : ¬ (48 ≤ (s[pos]'hp).toNat ∧ (s[pos]'hp).toNat ≤ 57) := hg
            show (((s[pos]'hp).toNat : Nat) : Int) < 48 ∨ 57 < (((s[pos]'hp).toNat : Nat) : Int)
            omega
          · have := (decode_high s pos hp (by omega)).1
            omega
        generalize wr.iterAt w.heap.size s (pos + (Utf8.decode s pos).2) = W1 at hnext hnx1
        generalize ((Utf8.decode s pos).1 : Int) = c at hnext hrune
        clear hg hall
        by_cases h48 : c < 48
        · go_wp2
          go_ret
          exact ⟨rfl, hnx1⟩
        · have h57 : 57 < c := by omega
          have ct0 : decide (c < 48) = false := by simp; omega
          go_wp2
          go_ret
          exact ⟨rfl, hnx1⟩
    · have hnext : ∀ ty, (Instr.next (.pointer (some ⟨w.heap.size, 0, none⟩)) true ty).run Tryz.prog wr = _ := fun ty => Lib.run_next_end_at wr w.heap.size s pos ty hk hp
      have hz : s.size = 0 := by
        rcases unhide HDD with h | h
        · exact h
        · exfalso
          apply h
          intro b hb
          obtain ⟨i, hi, rfl⟩ := List.mem_iff_getElem.1 hb
          have hi' : i < s.size := by simpa using hi
          rw [get_toList s i hi' hi]
          exact unhide hall i hi' (by omega)
      have hemp : (!s.toList.isEmpty) = false := by
        rw [Lib.toList_data]
        have h2 : s.data.toList.length = s.size := by simp
        rw [List.eq_nil_of_length_eq_zero (h2.trans hz)]
        rfl
      have HE := hide hemp
      clear hemp hz
      go_wp2
      go_ret
      exact ⟨by show Ending.returned (Value.bool (!s.toList.isEmpty)) = _; rw [unhide HE], hnx⟩

end Go.Proofs.YthgdmppmjnmiiaaGreatDoor.Nm

/- The number of a magnitude and a sign, and back: ofMag, magnitude, clone, Of. -/
namespace Go.Proofs.YthgdmppmjnmiiaaGreatDoor.Nm
open Go.RowKit
attribute [local go_sem] eqnil_some eqnil_none nenil_some nenil_none

theorem bcell {W w1 : World} (hb : Below W.heap.size W w1) : (∀ b o, b < W.heap.size → w1.cell? ⟨b, o, none⟩ = W.cell? ⟨b, o, none⟩) ∧ (∀ b o, b < W.heap.size → w1.frozen? ⟨b, o, none⟩ = W.frozen? ⟨b, o, none⟩) :=
  ⟨fun b o h => hb.cell (p := ⟨b, o, none⟩) h, fun b o h => hb.frozen (p := ⟨b, o, none⟩) h⟩

/-- The Go value v of type num.Int is the number z. -/
def IsI (w : World) (v : Value) (z : Int) : Prop :=
  (v = .agg #[.int .i64 z, .slice none 0 0] ∧ -9223372036854775808 ≤ z ∧ z ≤ 9223372036854775807) ∨
  (∃ b off cap xs, v = .agg #[.int .i64 (if z < 0 then -1 else 1), .slice (some ⟨b, off, none⟩) xs.length cap] ∧ xs.length ≤ cap ∧ b < w.heap.size ∧ At w b off xs ∧ Dig xs ∧ Norm xs ∧ val xs = z.natAbs ∧ (z < -9223372036854775808 ∨ 9223372036854775807 < z))
theorem IsI.below {w w' : World} {v : Value} {z : Int} (h : IsI w v z) (hb : Below w.heap.size w w') : IsI w' v z := by
  rcases h with h | ⟨b, off, cap, xs, e, h1, h2, h3, h4, h5, h6, h7⟩
  · exact .inl h
  · exact .inr ⟨b, off, cap, xs, e, h1, Nat.lt_of_lt_of_le h2 hb.size, fun j hj => (hb.cell (p := ⟨b, off + j, none⟩) h2).trans (h3 j hj), h4, h5, h6, h7⟩

set_option maxRecDepth 100000 in
set_option maxHeartbeats 400000 in
theorem smallMag_no (a : Option Addr) (cap : Nat) (xs : List Int) (w : World) (hat : xs ≠ [] → ∃ b off, a = some ⟨b, off, none⟩ ∧ b < w.heap.size ∧ At w b off xs) (hd : Dig xs) (hl : xs.length ≤ 100000) (h : 3 < xs.length ∨ xs.length = 3 ∧ (9 : Int) < xs[2]?.getD 0) :
    Calls Tryz.prog 79 #[.slice a xs.length cap] w fun e w' => e = .returned (.tuple #[.int .u64 0, .bool false]) ∧ Below w.heap.size w w' := by
  rcases h with h | ⟨h3, h9⟩
  · have h3i : (3 : Int) < (xs.length : Int) := by omega
    go_enter Tryz.func79, Tryz.ntmps79
    go_wp2
    go_ret2
    exact ⟨rfl, Below.refl _ _⟩
  · obtain ⟨b0, off0, rfl, hb0, hc0⟩ := hat (by intro e; subst e; simp at h3)
    have h3' : ((xs.length : Int) == 3) = true := by simp; omega
    have hc2 := hc0 2 (by omega)
    obtain ⟨d2, hd2, hd20, hd21⟩ := hd.get 2
    rw [hd2] at hc2 h9
    have H3 := hide h3
    clear h3 hd2
    have h3i : (2 : Int) < (xs.length : Int) := by have := unhide H3; omega
    have h3j : ¬ (3 : Int) < (xs.length : Int) := by have := unhide H3; omega
    have hq : decide ((9 : Int) < d2) = true := by simp; omega
    go_enter Tryz.func79, Tryz.ntmps79
    go_wp2
    go_ret2
    exact ⟨rfl, Below.refl _ _⟩

/-- What smallMag tells of a magnitude. -/
theorem smallMag_any (a : Option Addr) (cap : Nat) (xs : List Int) (w : World) (hat : xs ≠ [] → ∃ b off, a = some ⟨b, off, none⟩ ∧ b < w.heap.size ∧ At w b off xs) (hd : Dig xs) (hn : Norm xs) (hl : xs.length ≤ 100000) :
    (val xs < 10000000000000000000 ∧ Calls Tryz.prog 79 #[.slice a xs.length cap] w fun e w' => e = .returned (.tuple #[.int .u64 (val xs), .bool true]) ∧ Below w.heap.size w w') ∨
    (10000000000000000000 ≤ val xs ∧ Calls Tryz.prog 79 #[.slice a xs.length cap] w fun e w' => e = .returned (.tuple #[.int .u64 0, .bool false]) ∧ Below w.heap.size w w') := by
  by_cases h : 3 < xs.length ∨ xs.length = 3 ∧ (9 : Int) < xs[2]?.getD 0
  · refine .inr ⟨?_, smallMag_no a cap xs w hat hd hl h⟩
    rcases h with h | ⟨h3, h9⟩
    · have h1 := le_val hd hn (by intro e; subst e; simp at h)
      have h2 : pw 3 ≤ pw (xs.length - 1) := pw_mono (by omega)
      have h3 : (10000000000000000000 : Int) ≤ pw 3 := by decide
      omega
    · have h1 := val_take_succ xs 2 (by omega)
      rw [List.take_of_length_le (by omega)] at h1
      have h2 := val_nonneg (hd.take 2)
      have h4 : pw 2 = 1000000000000000000 := by decide
      rw [h4] at h1
      omega
  · have h9 : xs.length = 3 → xs[2]?.getD 0 ≤ 9 := fun e => by
      apply Int.not_lt.1
      intro h9
      exact h (.inr ⟨e, h9⟩)
    have hl3 : xs.length ≤ 3 := by omega
    have hv : val xs < 10000000000000000000 := by
      by_cases e : xs.length = 3
      · have h1 := val_take_succ xs 2 (by omega)
        rw [List.take_of_length_le (by omega)] at h1
        have h2 := val_lt (hd.take 2)
        have h4 : pw 2 = 1000000000000000000 := by decide
        rw [List.length_take, Nat.min_eq_left (by omega)] at h2
        rw [h4] at h1 h2
        have := h9 e
        omega
      · have h1 := val_lt hd
        have h2 : pw xs.length ≤ pw 2 := pw_mono (by omega)
        have h4 : pw 2 = 1000000000000000000 := by decide
        omega
    exact .inl ⟨hv, smallMag_yes a cap xs w hat hd hl3 h9 (by omega)⟩

set_option maxRecDepth 100000 in
set_option maxHeartbeats 800000 in
theorem ofMag_any (below : Bool) (v : Value) (xs : List Int) (w : World) (hm : Mg w v xs) (hd : Dig xs) (hn : Norm xs) (hl : xs.length ≤ 100000) :
    Calls Tryz.prog 56 #[.bool below, v] w fun e w' => ∃ r, e = .returned r ∧ Below w.heap.size w w' ∧ IsI w' r (if below then - val xs else val xs) := by
  obtain ⟨a, cap, rfl, hcap, hat⟩ := hm
  have hv0 := val_nonneg hd
  have hat1 : xs ≠ [] → ∃ b off, a = some ⟨b, off, none⟩ ∧ b < (w.alloc (.cells #[.int .i64 0, .slice none 0 0] 49)).heap.size ∧ At (w.alloc (.cells #[.int .i64 0, .slice none 0 0] 49)) b off xs := fun h => by
    obtain ⟨b, off, e, hb, hc⟩ := hat h
    exact ⟨b, off, e, by simp; omega, fun j hj => by rw [World.cell?_alloc_past _ _ _ hb]; exact hc j hj⟩
  have hb0 : Below w.heap.size w (w.alloc (.cells #[.int .i64 0, .slice none 0 0] 49)) := (Below.refl _ _).alloc (Nat.le_refl _) _
  rcases smallMag_any a cap xs _ hat1 hd hn hl with ⟨hv, hs⟩ | ⟨hv, hs⟩
  · have HS := hide hs
    clear hs
    cases below with
    | true =>
      by_cases hsm : val xs ≤ 9223372036854775808
      · go_enter Tryz.func56, Tryz.ntmps56
        go_wp2_with fail
        refine (unhide HS).mono ?_
        rintro e w1 ⟨rfl, hb1⟩
        obtain ⟨hc, hf⟩ := bcell hb1
        go_wp2_with fail
        refine (signed_yes true (val xs) w1 hv0 (by simp; omega)).mono ?_
        rintro e w2 ⟨rfl, hw2⟩
        subst hw2
        go_wp2_with fail
        refine (of_any _ _).mono ?_
        rintro e w3 ⟨rfl, hb3⟩
        have hz3 : w.heap.size < w2.heap.size := by have := hb1.size; simp at this; omega
        obtain ⟨hc3, hf3⟩ := bcell hb3
        clear hat hat1
        go_wp2
        refine bodyPost_ret (v := .agg #[.int .i64 (- val xs), .slice none 0 0]) ?_ rfl ?_
        · simp [results, Tryz.results56, go_sem, hc, hc3, hz3]
        · exact ⟨_, rfl, (((hb0.trans (hb1.mono (by simp))).trans (hb3.mono (by omega))).setCell (by simp) _).setCell (by simp) _, .inl ⟨rfl, by omega, by omega⟩⟩

      · obtain ⟨b0, off0, rfl, hbl, hc0⟩ := hat (by intro e; subst e; simp [val] at hsm)
        go_enter Tryz.func56, Tryz.ntmps56
        go_wp2_with fail
        refine (unhide HS).mono ?_
        rintro e w1 ⟨rfl, hb1⟩
        obtain ⟨hc, hf⟩ := bcell hb1
        go_wp2_with fail
        refine (signed_no true (val xs) w1 hv0 (by omega) (by simp; omega)).mono ?_
        rintro e w2 ⟨rfl, hw2⟩
        subst hw2
        have hz3 : w.heap.size < w2.heap.size := by have := hb1.size; simp at this; omega
        have hbb := hb0.trans (hb1.mono (B' := w.heap.size) (by simp))
        have hatf : At w2 b0 off0 xs := fun j hj => (hbb.cell (p := ⟨b0, off0 + j, none⟩) hbl).trans (hc0 j hj)
        clear hat hat1
        go_wp2
        refine bodyPost_ret (v := .agg #[.int .i64 (-1), .slice (some ⟨b0, off0, none⟩) xs.length cap]) ?_ rfl ?_
        · simp [results, Tryz.results56, go_sem, hc]
        · have hb9 := ((Below.refl w2.heap.size w2).mono (B' := w.heap.size) (by omega))
          have hbz := ((hbb.setCell (p := ⟨w.heap.size, 0, none⟩) (by simp) (.int .i64 (-1))).setCell (p := ⟨w.heap.size, 1, none⟩) (by simp) (.slice (some ⟨b0, off0, none⟩) xs.length cap))
          refine ⟨_, rfl, hbz, .inr ⟨b0, off0, cap, xs, ?_, hcap, Nat.lt_of_lt_of_le hbl hbz.size, fun j hj => (hbz.cell (p := ⟨b0, off0 + j, none⟩) hbl).trans (hc0 j hj), hd, hn, by omega, by omega⟩⟩
          rw [if_pos (by omega)]

    | false =>
      by_cases hsm : val xs < 9223372036854775808
      · go_enter Tryz.func56, Tryz.ntmps56
        go_wp2_with fail
        refine (unhide HS).mono ?_
        rintro e w1 ⟨rfl, hb1⟩
        obtain ⟨hc, hf⟩ := bcell hb1
        go_wp2_with fail
        refine (signed_yes false (val xs) w1 hv0 (by simp; omega)).mono ?_
        rintro e w2 ⟨rfl, hw2⟩
        subst hw2
        go_wp2_with fail
        refine (of_any _ _).mono ?_
        rintro e w3 ⟨rfl, hb3⟩
        have hz3 : w.heap.size < w2.heap.size := by have := hb1.size; simp at this; omega
        obtain ⟨hc3, hf3⟩ := bcell hb3
        clear hat hat1
        go_wp2
        refine bodyPost_ret (v := .agg #[.int .i64 (val xs), .slice none 0 0]) ?_ rfl ?_
        · simp [results, Tryz.results56, go_sem, hc, hc3, hz3]
        · exact ⟨_, rfl, (((hb0.trans (hb1.mono (by simp))).trans (hb3.mono (by omega))).setCell (by simp) _).setCell (by simp) _, .inl ⟨rfl, by omega, by omega⟩⟩

      · obtain ⟨b0, off0, rfl, hbl, hc0⟩ := hat (by intro e; subst e; simp [val] at hsm)
        go_enter Tryz.func56, Tryz.ntmps56
        go_wp2_with fail
        refine (unhide HS).mono ?_
        rintro e w1 ⟨rfl, hb1⟩
        obtain ⟨hc, hf⟩ := bcell hb1
        go_wp2_with fail
        refine (signed_no false (val xs) w1 hv0 (by omega) (by simp; omega)).mono ?_
        rintro e w2 ⟨rfl, hw2⟩
        subst hw2
        have hz3 : w.heap.size < w2.heap.size := by have := hb1.size; simp at this; omega
        have hbb := hb0.trans (hb1.mono (B' := w.heap.size) (by simp))
        have hatf : At w2 b0 off0 xs := fun j hj => (hbb.cell (p := ⟨b0, off0 + j, none⟩) hbl).trans (hc0 j hj)
        clear hat hat1
        go_wp2
        refine bodyPost_ret (v := .agg #[.int .i64 1, .slice (some ⟨b0, off0, none⟩) xs.length cap]) ?_ rfl ?_
        · simp [results, Tryz.results56, go_sem, hc]
        · have hb9 := ((Below.refl w2.heap.size w2).mono (B' := w.heap.size) (by omega))
          have hbz := ((hbb.setCell (p := ⟨w.heap.size, 0, none⟩) (by simp) (.int .i64 1)).setCell (p := ⟨w.heap.size, 1, none⟩) (by simp) (.slice (some ⟨b0, off0, none⟩) xs.length cap))
          refine ⟨_, rfl, hbz, .inr ⟨b0, off0, cap, xs, ?_, hcap, Nat.lt_of_lt_of_le hbl hbz.size, fun j hj => (hbz.cell (p := ⟨b0, off0 + j, none⟩) hbl).trans (hc0 j hj), hd, hn, by omega, by omega⟩⟩
          rw [if_neg (by omega)]

  · have HS := hide hs
    clear hs
    obtain ⟨b0, off0, rfl, hbl, hc0⟩ := hat (by intro e; subst e; simp [val] at hv)
    cases below with
    | true =>
      go_enter Tryz.func56, Tryz.ntmps56
      go_wp2_with fail
      refine (unhide HS).mono ?_
      rintro e w1 ⟨rfl, hb1⟩
      obtain ⟨hc, hf⟩ := bcell hb1
      have hz3 : w.heap.size < w1.heap.size := by have := hb1.size; simp at this; omega
      have hbb := hb0.trans (hb1.mono (B' := w.heap.size) (by simp))
      have hatf : At w1 b0 off0 xs := fun j hj => (hbb.cell (p := ⟨b0, off0 + j, none⟩) hbl).trans (hc0 j hj)
      clear hat hat1
      go_wp2
      refine bodyPost_ret (v := .agg #[.int .i64 (-1), .slice (some ⟨b0, off0, none⟩) xs.length cap]) ?_ rfl ?_
      · simp [results, Tryz.results56, go_sem, hc]
      · have hb9 := ((Below.refl w1.heap.size w1).mono (B' := w.heap.size) (by omega))
        have hbz := ((hbb.setCell (p := ⟨w.heap.size, 0, none⟩) (by simp) (.int .i64 (-1))).setCell (p := ⟨w.heap.size, 1, none⟩) (by simp) (.slice (some ⟨b0, off0, none⟩) xs.length cap))
        refine ⟨_, rfl, hbz, .inr ⟨b0, off0, cap, xs, ?_, hcap, Nat.lt_of_lt_of_le hbl hbz.size, fun j hj => (hbz.cell (p := ⟨b0, off0 + j, none⟩) hbl).trans (hc0 j hj), hd, hn, by omega, by omega⟩⟩
        rw [if_pos (by omega)]

    | false =>
      go_enter Tryz.func56, Tryz.ntmps56
      go_wp2_with fail
      refine (unhide HS).mono ?_
      rintro e w1 ⟨rfl, hb1⟩
      obtain ⟨hc, hf⟩ := bcell hb1
      have hz3 : w.heap.size < w1.heap.size := by have := hb1.size; simp at this; omega
      have hbb := hb0.trans (hb1.mono (B' := w.heap.size) (by simp))
      have hatf : At w1 b0 off0 xs := fun j hj => (hbb.cell (p := ⟨b0, off0 + j, none⟩) hbl).trans (hc0 j hj)
      clear hat hat1
      go_wp2
      refine bodyPost_ret (v := .agg #[.int .i64 1, .slice (some ⟨b0, off0, none⟩) xs.length cap]) ?_ rfl ?_
      · simp [results, Tryz.results56, go_sem, hc]
      · have hb9 := ((Below.refl w1.heap.size w1).mono (B' := w.heap.size) (by omega))
        have hbz := ((hbb.setCell (p := ⟨w.heap.size, 0, none⟩) (by simp) (.int .i64 1)).setCell (p := ⟨w.heap.size, 1, none⟩) (by simp) (.slice (some ⟨b0, off0, none⟩) xs.length cap))
        refine ⟨_, rfl, hbz, .inr ⟨b0, off0, cap, xs, ?_, hcap, Nat.lt_of_lt_of_le hbl hbz.size, fun j hj => (hbz.cell (p := ⟨b0, off0 + j, none⟩) hbl).trans (hc0 j hj), hd, hn, by omega, by omega⟩⟩
        rw [if_neg (by omega)]

end Go.Proofs.YthgdmppmjnmiiaaGreatDoor.Nm

/- Sign, Small, magnitude, clone, Neg, abs of a number. -/
namespace Go.Proofs.YthgdmppmjnmiiaaGreatDoor.Nm
open Go.RowKit
attribute [local go_sem] eqnil_some eqnil_none nenil_some nenil_none

/-- The sign. -/
def sgn (z : Int) : Int := if z < 0 then -1 else if 0 < z then 1 else 0

set_option maxHeartbeats 400000 in
theorem sign_any (v : Value) (z : Int) (w : World) (h : IsI w v z) :
    Calls Tryz.prog 28 #[v] w fun e w' => e = .returned (.int .i64 (sgn z)) ∧ Below w.heap.size w w' := by
  have hc : ∀ n m : Value, ∀ k : Int, v = .agg #[.int .i64 k, m] → cmpI k 0 = sgn z → Calls Tryz.prog 28 #[v] w fun e w' => e = .returned (.int .i64 (sgn z)) ∧ Below w.heap.size w w' := by
    rintro n m k rfl hk
    have HK := hide hk
    clear hk
    go_enter Tryz.func28, Tryz.ntmps28
    go_wp2_with fail
    refine (cmp64_any _ _ _).mono ?_
    rintro e w1 ⟨rfl, hw1⟩
    subst hw1
    go_wp2
    go_ret
    exact ⟨ret_int (unhide HK), (Below.refl _ _).alloc (Nat.le_refl _) _⟩
  rcases h with ⟨e, h1, h2⟩ | ⟨b, off, cap, xs, e, _, _, _, _, _, _, h⟩
  · exact hc undef _ _ e rfl
  · refine hc undef _ _ e ?_
    unfold cmpI sgn
    by_cases h0 : z < 0
    · rw [if_pos h0, if_pos (by omega), if_pos h0]
    · rw [if_neg h0, if_neg (by omega), if_pos (by omega), if_neg h0, if_pos (by omega)]

set_option maxHeartbeats 400000 in
theorem magnitude_any (v : Value) (z : Int) (w : World) (h : IsI w v z) :
    Calls Tryz.prog 60 #[v] w fun e w' => ∃ m xs, e = .returned m ∧ Below w.heap.size w w' ∧ Mg w' m xs ∧ Dig xs ∧ Norm xs ∧ val xs = z.natAbs := by
  rcases h with ⟨rfl, h1, h2⟩ | ⟨b, off, cap, xs, rfl, h1, h2, h3, h4, h5, h6, h7⟩
  · go_enter Tryz.func60, Tryz.ntmps60
    go_wp2_with fail
    refine (unsigned_any z _ h1 h2).mono ?_
    rintro e w1 ⟨rfl, hw1⟩
    subst hw1
    go_wp2_with fail
    refine (magOf_any _ _ (by omega) (by omega)).mono ?_
    rintro e w2 ⟨v2, xs, rfl, hb, hm, hd, hn, hv, hl⟩
    have HV := hide hv
    clear hv
    go_wp2
    go_ret
    exact ⟨_, _, rfl, ((Below.refl _ _).alloc (Nat.le_refl _) _).trans (hb.mono (by simp)), hm, hd, hn, unhide HV⟩
  · have H6 := hide h6
    clear h6
    generalize (if z < 0 then (-1 : Int) else 1) = n
    go_enter Tryz.func60, Tryz.ntmps60
    go_wp2
    go_ret
    have hB : Below w.heap.size w (w.alloc (Obj.cells #[Value.int IntKind.i64 n, Value.slice (some ⟨b, off, none⟩) xs.length cap] 49)) := (Below.refl _ _).alloc (Nat.le_refl _) _
    have hm : Mg w (.slice (some ⟨b, off, none⟩) xs.length cap) xs := h3.mg h2 h1
    exact ⟨_, xs, rfl, hB, hm.below hB, h4, h5, unhide H6⟩

theorem IsI.form {w : World} {v : Value} {z : Int} (h : IsI w v z) : ∃ n a l c, v = .agg #[.int .i64 n, .slice a l c] := by
  rcases h with ⟨rfl, _⟩ | ⟨b, off, cap, xs, rfl, _⟩
  · exact ⟨_, _, _, _, rfl⟩
  · exact ⟨_, _, _, _, rfl⟩
/-- A magnitude's cells lie in no block that holds a number's two cells. -/
theorem At.ne {w : World} {b off R : Nat} {xs : List Int} (h : At w b off xs) (hne : xs ≠ []) {n : Int} {v : Value} {T : TypeId} (hv : ∀ q, v ≠ .int .u32 q) {fz : Nat × Nat} (hR : w.heap[R]? = some (.cells #[.int .i64 n, v] T fz)) : b ≠ R := by
  rintro rfl
  have h0 := h 0 (List.length_pos_iff.2 hne)
  simp only [World.cell?, hR, Nat.add_zero, Option.isSome_none, Bool.false_eq_true, if_false] at h0
  match off, h0 with
  | 0, h0 => simp at h0
  | 1, h0 => simp at h0; exact hv _ h0
  | k + 2, h0 => simp at h0
theorem IsI.ne_nil {xs : List Int} {z : Int} (hv : val xs = z.natAbs) (h : z < -9223372036854775808 ∨ 9223372036854775807 < z) : xs ≠ [] := by
  rintro rfl
  simp only [val] at hv
  omega
/-- A number is kept while the cells of a result are written. -/
theorem IsI.store {w : World} {v : Value} {z : Int} (h : IsI w v z) {R : Nat} {T : TypeId} {fz : Nat × Nat} (hR : w.heap[R]? = some (.cells #[.int .i64 0, .slice none 0 0] T fz)) (c0 c1 : Value) : IsI ((w.setCell ⟨R, 0, none⟩ c0).setCell ⟨R, 1, none⟩ c1) v z := by
  rcases h with h | ⟨b, off, cap, xs, e, h1, h2, h3, h4, h5, h6, h7⟩
  · exact .inl h
  · have hbR := h3.ne (IsI.ne_nil h6 h7) (by intro q; simp) hR
    refine .inr ⟨b, off, cap, xs, e, h1, by simpa using h2, fun j hj => ?_, h4, h5, h6, h7⟩
    rw [World.cell?_setCell_other _ _ _ _ (by intro e; injection e with e1; exact hbR e1.symm), World.cell?_setCell_other _ _ _ _ (by intro e; injection e with e1; exact hbR e1.symm)]
    exact h3 j hj
theorem top_block (w : World) (o : Obj) {n : Nat} (h : w.heap.size = n) : (w.alloc o).heap[n]? = some o := by subst h; exact heap_alloc_new w o
theorem ret_store {w w1 : World} {r : Value} {z : Int} (hb : Below w.heap.size w w1) (h : IsI w1 r z) {R : Nat} (hw : w.heap.size ≤ R) {T : TypeId} {fz : Nat × Nat} (hR : w1.heap[R]? = some (.cells #[.int .i64 0, .slice none 0 0] T fz)) (c0 c1 : Value) :
    Below w.heap.size w ((w1.setCell ⟨R, 0, none⟩ c0).setCell ⟨R, 1, none⟩ c1) ∧ IsI ((w1.setCell ⟨R, 0, none⟩ c0).setCell ⟨R, 1, none⟩ c1) r z :=
  ⟨(hb.setCell (p := ⟨R, 0, none⟩) hw _).setCell (p := ⟨R, 1, none⟩) hw _, h.store hR c0 c1⟩

end Go.Proofs.YthgdmppmjnmiiaaGreatDoor.Nm

/- Neg and abs of a number; the boxes of one and of two numbers. -/
namespace Go.Proofs.YthgdmppmjnmiiaaGreatDoor.Nm
open Go.RowKit
attribute [local go_sem] eqnil_some eqnil_none nenil_some nenil_none

/-- Two cells in a new block. -/
theorem box_facts (w : World) (c0 c1 : Value) (T : TypeId) :
    (w.alloc (Obj.cells #[c0, c1] T)).cell? ⟨w.heap.size, 0, none⟩ = some c0 ∧ (w.alloc (Obj.cells #[c0, c1] T)).cell? ⟨w.heap.size, 1, none⟩ = some c1 ∧ (∀ o, (w.alloc (Obj.cells #[c0, c1] T)).frozen? ⟨w.heap.size, o, none⟩ = false) := by
  refine ⟨?_, ?_, fun o => World.frozen?_alloc_at _ _ _ _ rfl⟩
  · rw [World.cell?_alloc_at _ _ _ _ rfl]; rfl
  · rw [World.cell?_alloc_at _ _ _ _ rfl]; rfl
/-- .. of two numbers. -/
structure Set2 (w W0 : World) (c0 c1 d0 d1 : Value) : Prop where
  bel : Below w.heap.size w W0
  a0 : W0.cell? ⟨w.heap.size, 0, none⟩ = some c0
  a1 : W0.cell? ⟨w.heap.size, 1, none⟩ = some c1
  b0 : W0.cell? ⟨w.heap.size + 1, 0, none⟩ = some d0
  b1 : W0.cell? ⟨w.heap.size + 1, 1, none⟩ = some d1
  r0 : W0.cell? ⟨w.heap.size + 1 + 1, 0, none⟩ = some (.int .i64 0)
  r1 : W0.cell? ⟨w.heap.size + 1 + 1, 1, none⟩ = some (.slice none 0 0)
  f0 : W0.frozen? ⟨w.heap.size + 1 + 1, 0, none⟩ = false
  f1 : W0.frozen? ⟨w.heap.size + 1 + 1, 1, none⟩ = false
  rb : W0.heap[w.heap.size + 1 + 1]? = some (.cells #[.int .i64 0, .slice none 0 0] 49)
  z0 : w.heap.size < W0.heap.size
  z1 : w.heap.size + 1 < W0.heap.size
  z2 : w.heap.size + 1 + 1 < W0.heap.size
theorem setup2 (w : World) (c0 c1 d0 d1 : Value) : ∃ W0, ((w.alloc (Obj.cells #[c0, c1] 49)).alloc (Obj.cells #[d0, d1] 49)).alloc (Obj.cells #[.int .i64 0, .slice none 0 0] 49) = W0 ∧ Set2 w W0 c0 c1 d0 d1 := by
  have fB := box_facts (w.alloc (Obj.cells #[c0, c1] 49)) d0 d1 49
  have fR := box_facts ((w.alloc (Obj.cells #[c0, c1] 49)).alloc (Obj.cells #[d0, d1] 49)) (.int .i64 0) (.slice none 0 0) 49
  simp only [World.size_alloc] at fB fR
  refine ⟨_, rfl, (((Below.refl _ _).alloc (Nat.le_refl _) _).alloc (by simp) _).alloc (by simp <;> omega) _, ?_, ?_, ?_, ?_, fR.1, fR.2.1, fR.2.2 0, fR.2.2 1, top_block _ _ (by simp), by simp <;> omega, by simp <;> omega, by simp <;> omega⟩
  · rw [World.cell?_alloc_past _ _ _ (by simp; omega), World.cell?_alloc_past _ _ _ (by simp)]; exact (box_facts w c0 c1 _).1
  · rw [World.cell?_alloc_past _ _ _ (by simp; omega), World.cell?_alloc_past _ _ _ (by simp)]; exact (box_facts w c0 c1 _).2.1
  · rw [World.cell?_alloc_past _ _ _ (by simp)]; exact fB.1
  · rw [World.cell?_alloc_past _ _ _ (by simp)]; exact fB.2.1

end Go.Proofs.YthgdmppmjnmiiaaGreatDoor.Nm

/- Numbers in boxes: a block that holds a number's two cells, while other blocks are made and written. -/
namespace Go.Proofs.YthgdmppmjnmiiaaGreatDoor.Nm
open Go.RowKit

/-- The block R holds the number value v. -/
def Bx (W : World) (R : Nat) (v : Value) : Prop := ∃ n a l c, v = .agg #[.int .i64 n, .slice a l c] ∧ W.heap[R]? = some (.cells #[.int .i64 n, .slice a l c] 49)
theorem Bx.lt {W : World} {R : Nat} {v : Value} (h : Bx W R v) : R < W.heap.size := by
  obtain ⟨_, _, _, _, _, h⟩ := h
  exact (Array.getElem?_eq_some_iff.1 h).1
/-- .. so its cells. -/
theorem Bx.facts {W : World} {R : Nat} {n : Int} {a : Option Addr} {l c : Nat} (h : Bx W R (.agg #[.int .i64 n, .slice a l c])) : W.cell? ⟨R, 0, none⟩ = some (.int .i64 n) ∧ W.cell? ⟨R, 1, none⟩ = some (.slice a l c) ∧ W.frozen? ⟨R, 0, none⟩ = false ∧ W.frozen? ⟨R, 1, none⟩ = false := by
  obtain ⟨n', a', l', c', e, h⟩ := h
  simp only [Value.agg.injEq, Array.mk.injEq, List.cons.injEq, Value.int.injEq, Value.slice.injEq, true_and, and_true] at e
  obtain ⟨rfl, rfl, rfl, rfl⟩ := e
  refine ⟨?_, ?_, ?_, ?_⟩
  · simp [World.cell?, h]
  · simp [World.cell?, h]
  · simp [World.frozen?, h]
  · simp [World.frozen?, h]
theorem Bx.below {W W' : World} {R : Nat} {v : Value} (h : Bx W R v) (hb : Below W.heap.size W W') : Bx W' R v := by
  have hl := h.lt
  obtain ⟨n, a, l, c, e, h⟩ := h
  exact ⟨n, a, l, c, e, (hb.block R hl).trans h⟩
theorem Bx.drew {W : World} {R : Nat} {v : Value} (h : Bx W R v) : Bx W.drew R v := h
theorem Bx.new (W : World) (n : Int) (a : Option Addr) (l c : Nat) : Bx (W.alloc (.cells #[.int .i64 n, .slice a l c] 49)) W.heap.size (.agg #[.int .i64 n, .slice a l c]) := ⟨n, a, l, c, rfl, heap_alloc_new W _⟩
theorem Bx.alloc {W : World} {R : Nat} {v : Value} (h : Bx W R v) (o : Obj) : Bx (W.alloc o) R v := h.below ((Below.refl _ W).alloc (Nat.le_refl _) _)
theorem heap_set {W : World} {R : Nat} {c0 c1 v0 v1 : Value} {T : TypeId} (h : W.heap[R]? = some (.cells #[c0, c1] T)) : ((W.setCell ⟨R, 0, none⟩ v0).setCell ⟨R, 1, none⟩ v1).heap[R]? = some (.cells #[v0, v1] T) := by
  simp [World.setCell, Array.getElem?_modify, h]
theorem Bx.set {W : World} {R : Nat} {v : Value} (h : Bx W R v) (n : Int) (a : Option Addr) (l c : Nat) : Bx ((W.setCell ⟨R, 0, none⟩ (.int .i64 n)).setCell ⟨R, 1, none⟩ (.slice a l c)) R (.agg #[.int .i64 n, .slice a l c]) := by
  obtain ⟨_, _, _, _, _, h⟩ := h
  exact ⟨n, a, l, c, rfl, heap_set h⟩
theorem Bx.other {W : World} {R : Nat} {v : Value} (h : Bx W R v) {p : Addr} (hp : p.block ≠ R) (x : Value) : Bx (W.setCell p x) R v := by
  obtain ⟨n, a, l, c, e, h⟩ := h
  exact ⟨n, a, l, c, e, (Below.heap_setCell _ _ _ _ (fun e => hp e.symm)).trans h⟩
/-- A number is kept while a box is written. -/
theorem IsI.put {W : World} {v u : Value} {z : Int} (h : IsI W v z) {R : Nat} (hR : Bx W R u) (c0 c1 : Value) : IsI ((W.setCell ⟨R, 0, none⟩ c0).setCell ⟨R, 1, none⟩ c1) v z := by
  obtain ⟨n, a, l, c, _, hR⟩ := hR
  rcases h with h | ⟨b, off, cap, xs, e, h1, h2, h3, h4, h5, h6, h7⟩
  · exact .inl h
  · have hbR := h3.ne (IsI.ne_nil h6 h7) (by intro q; simp) hR
    refine .inr ⟨b, off, cap, xs, e, h1, by simpa using h2, fun j hj => ?_, h4, h5, h6, h7⟩
    rw [World.cell?_setCell_other _ _ _ _ (by intro e; injection e with e1; exact hbR e1.symm), World.cell?_setCell_other _ _ _ _ (by intro e; injection e with e1; exact hbR e1.symm)]
    exact h3 j hj
theorem below_put {B : Nat} {w W : World} (h : Below B w W) {R : Nat} (hR : B ≤ R) (c0 c1 : Value) : Below B w ((W.setCell ⟨R, 0, none⟩ c0).setCell ⟨R, 1, none⟩ c1) := (h.setCell (p := ⟨R, 0, none⟩) hR _).setCell (p := ⟨R, 1, none⟩) hR _
/-- A value is one number alone. -/
theorem IsI.inj {W : World} {v : Value} {y z : Int} (h : IsI W v y) (k : IsI W v z) : y = z := by
  rcases h with ⟨rfl, h1, h2⟩ | ⟨b, off, cap, xs, rfl, h1, h2, h3, h4, h5, h6, h7⟩
  · rcases k with ⟨e, _⟩ | ⟨b, off, cap, xs, e, _⟩
    · simpa using e
    · simp at e
  · rcases k with ⟨e, _⟩ | ⟨b', off', cap', xs', e, k1, k2, k3, k4, k5, k6, k7⟩
    · simp at e
    · simp only [Value.agg.injEq, Array.mk.injEq, List.cons.injEq, Value.int.injEq, Value.slice.injEq, Option.some.injEq, Addr.mk.injEq, true_and, and_true] at e
      obtain ⟨e1, ⟨rfl, rfl⟩, e2, rfl⟩ := e
      have hx : xs = xs' := by
        apply List.ext_getElem e2
        intro i a b
        have p := h3 i a
        rw [k3 i b] at p
        simp only [Option.some.injEq, Value.int.injEq, true_and] at p
        rw [List.getElem?_eq_getElem a, List.getElem?_eq_getElem b] at p
        exact p.symm
      subst hx
      rw [h6] at k6
      by_cases hy : y < 0
      · by_cases hz : z < 0
        · omega
        · rw [if_pos hy, if_neg hz] at e1; omega
      · by_cases hz : z < 0
        · rw [if_neg hy, if_pos hz] at e1; omega
        · omega
theorem Bx.inj {W : World} {R : Nat} {v u : Value} (h : Bx W R v) (k : Bx W R u) : v = u := by
  obtain ⟨n, a, l, c, rfl, h⟩ := h
  obtain ⟨n', a', l', c', rfl, k⟩ := k
  rw [h] at k
  simpa using k
end Go.Proofs.YthgdmppmjnmiiaaGreatDoor.Nm

namespace Go.Proofs
open Go.Shelf
def Tryz.lays103_ren : Go.Shelf.Ren := ⟨fun | 103 => 54 | 210 => 78 | 206 => 104 | n => n, fun | 9 => 9 | 4 => 4 | 24 => 103 | 3 => 3 | n => n, fun | n => n⟩
theorem Tryz.lays103 : Go.Proofs.Lays.n103 Tryz.prog Tryz.lays103_ren := {
  mixed := by kernel_rfl
  f103 := Tryz.func54.trans (congrArg some (by kernel_rfl))
  f206 := Tryz.func104.trans (congrArg some (by kernel_rfl))
  f210 := Tryz.func78.trans (congrArg some (by kernel_rfl))
  t3 := Tryz.underlying3
  a3 := Tryz.isAgg3
  z3 := Tryz.sizeOf3
  v3 := Tryz.zeroValue3
  t4 := Tryz.underlying4
  a4 := Tryz.isAgg4
  z4 := Tryz.sizeOf4
  v4 := Tryz.zeroValue4
  t9 := Tryz.underlying9
  a9 := Tryz.isAgg9
  z9 := Tryz.sizeOf9
  v9 := Tryz.zeroValue9
  t24 := Tryz.underlying103
  a24 := Tryz.isAgg103
  z24 := Tryz.sizeOf103
  v24 := Tryz.zeroValue103 }
open Go.RowKit in
theorem Tryz.strings_CutPrefix (s p : ByteArray) (w : World) :
    Calls Tryz.prog 54 #[.string s, .string p] w fun e w' => e = .returned (.tuple #[.string ⟨(Lib.trimPrefix s.data.toList p.data.toList).toArray⟩, .bool (Lib.hasPrefix s.data.toList p.data.toList)]) ∧ w' = w := Any.strings_CutPrefix Tryz.lays103 s p w
open Go.Lib in
def Tryz.laysM284_ren : Go.Shelf.Ren := ⟨fun | 284 => 87 | 129 => 103 | 317 => 107 | 318 => 108 | n => n, fun | 53 => 86 | 3 => 3 | 212 => 156 | 0 => 0 | 4 => 4 | 46 => 126 | 5 => 5 | 9 => 9 | n => n, fun | 17 => 0 | n => n⟩
theorem Tryz.laysM284 : Go.Proofs.LaysM.n284 Tryz.prog Tryz.laysM284_ren := {
  mixed := by kernel_rfl
  f129 := Tryz.func103.trans (congrArg some (by kernel_rfl))
  f284 := Tryz.func87.trans (congrArg some (by kernel_rfl))
  f317 := Tryz.func107.trans (congrArg some (by kernel_rfl))
  f318 := Tryz.func108.trans (congrArg some (by kernel_rfl))
  t0 := Tryz.underlying0
  a0 := Tryz.isAgg0
  z0 := Tryz.sizeOf0
  v0 := Tryz.zeroValue0
  t3 := Tryz.underlying3
  a3 := Tryz.isAgg3
  z3 := Tryz.sizeOf3
  v3 := Tryz.zeroValue3
  t4 := Tryz.underlying4
  a4 := Tryz.isAgg4
  z4 := Tryz.sizeOf4
  v4 := Tryz.zeroValue4
  t5 := Tryz.underlying5
  a5 := Tryz.isAgg5
  z5 := Tryz.sizeOf5
  v5 := Tryz.zeroValue5
  t9 := Tryz.underlying9
  a9 := Tryz.isAgg9
  z9 := Tryz.sizeOf9
  v9 := Tryz.zeroValue9
  t46 := Tryz.underlying126
  a46 := Tryz.isAgg126
  z46 := Tryz.sizeOf126
  v46 := Tryz.zeroValue126
  t53 := Tryz.underlying86
  a53 := Tryz.isAgg86
  z53 := Tryz.sizeOf86
  v53 := Tryz.zeroValue86
  t212 := Tryz.underlying156
  a212 := Tryz.isAgg156
  z212 := Tryz.sizeOf156
  v212 := Tryz.zeroValue156
  g17 := by kernel_rfl
  i0 := by kernel_rfl
  i3 := by kernel_rfl
  i4 := by kernel_rfl
  i5 := by kernel_rfl
  i9 := by kernel_rfl
  i46 := by kernel_rfl
  i53 := by kernel_rfl
  i212 := by kernel_rfl
  m17 := by kernel_rfl }
open Go.Lib in
theorem Tryz.internal_strconv_numDigits (u : Nat) (h1 : 1 ≤ u) (h2 : u < 18446744073709551616) (w : World) (htab : Lib.TabIs Tryz.prog w "internal/strconv.uint64pow10" .u64 Lib.pow10Tab) :
    Calls Tryz.prog 87 #[.int .u64 u] w fun e w' => e = .returned (.int .i64 (Lib.nDigits u)) ∧ w' = w := Any.internal_strconv_numDigits Tryz.laysM284 u h1 h2 w htab
def Tryz.lays285_ren : Go.Shelf.Ren := ⟨fun | 285 => 88 | n => n, fun | 37 => 90 | 53 => 86 | 3 => 3 | 4 => 4 | 51 => 118 | 9 => 9 | 5 => 5 | 0 => 0 | n => n, fun | n => n⟩
theorem Tryz.lays285 : Go.Proofs.Lays.n285 Tryz.prog Tryz.lays285_ren := {
  mixed := by kernel_rfl
  f285 := Tryz.func88.trans (congrArg some (by kernel_rfl))
  t0 := Tryz.underlying0
  a0 := Tryz.isAgg0
  z0 := Tryz.sizeOf0
  v0 := Tryz.zeroValue0
  t3 := Tryz.underlying3
  a3 := Tryz.isAgg3
  z3 := Tryz.sizeOf3
  v3 := Tryz.zeroValue3
  t4 := Tryz.underlying4
  a4 := Tryz.isAgg4
  z4 := Tryz.sizeOf4
  v4 := Tryz.zeroValue4
  t5 := Tryz.underlying5
  a5 := Tryz.isAgg5
  z5 := Tryz.sizeOf5
  v5 := Tryz.zeroValue5
  t9 := Tryz.underlying9
  a9 := Tryz.isAgg9
  z9 := Tryz.sizeOf9
  v9 := Tryz.zeroValue9
  t37 := Tryz.underlying90
  a37 := Tryz.isAgg90
  z37 := Tryz.sizeOf90
  v37 := Tryz.zeroValue90
  t51 := Tryz.underlying118
  a51 := Tryz.isAgg118
  z51 := Tryz.sizeOf118
  v51 := Tryz.zeroValue118
  t53 := Tryz.underlying86
  a53 := Tryz.isAgg86
  z53 := Tryz.sizeOf86
  v53 := Tryz.zeroValue86 }
open Go.RowKit Go.Sort Go.Lib in
theorem Tryz.internal_strconv_formatBase10 (blk off cap : Nat) (u : Nat) (d : Array UInt8) (w : World) (hH : Holds (fun (b : UInt8) => Value.int .u8 (b.toNat : Int)) w blk off d) (hu : u < 10 ^ d.size) (hu64 : u < 18446744073709551616) (hsz : d.size < 4611686018427387904) :
    Calls Tryz.prog 88 #[.slice (some ⟨blk, off, none⟩) d.size cap, .int .u64 u] w fun e w' =>
      e = .returned (.tuple #[]) ∧ ∃ (n v' : Nat) (dk : Array UInt8), w' = (putRow (fun (b : UInt8) => Value.int .u8 (b.toNat : Int)) w blk off dk).drewN n ∧ FmtInv d.size u 0 v' dk := Any.internal_strconv_formatBase10 Tryz.lays285 blk off cap u d w hH hu hu64 hsz
def Tryz.laysM173_ren : Go.Shelf.Ren := ⟨fun | 173 => 47 | 246 => 68 | 283 => 86 | 284 => 87 | 285 => 88 | 286 => 89 | 129 => 103 | 317 => 107 | 318 => 108 | 319 => 109 | 320 => 110 | 337 => 117 | 338 => 118 | n => n, fun | 2 => 2 | 3 => 3 | 9 => 9 | 4 => 4 | 171 => 136 | 0 => 0 | 53 => 86 | 37 => 90 | 5 => 5 | 173 => 139 | 212 => 156 | 51 => 118 | 20 => 20 | 213 => 157 | 46 => 126 | 232 => 167 | 233 => 168 | n => n, fun | 17 => 0 | 18 => 1 | 19 => 2 | n => n⟩
theorem Tryz.laysM173 : Go.Proofs.LaysM.n173 Tryz.prog Tryz.laysM173_ren := {
  mixed := by kernel_rfl
  f129 := Tryz.func103.trans (congrArg some (by kernel_rfl))
  f173 := Tryz.func47.trans (congrArg some (by kernel_rfl))
  f246 := Tryz.func68.trans (congrArg some (by kernel_rfl))
  f283 := Tryz.func86.trans (congrArg some (by kernel_rfl))
  f284 := Tryz.func87.trans (congrArg some (by kernel_rfl))
  f285 := Tryz.func88.trans (congrArg some (by kernel_rfl))
  f286 := Tryz.func89.trans (congrArg some (by kernel_rfl))
  f317 := Tryz.func107.trans (congrArg some (by kernel_rfl))
  f318 := Tryz.func108.trans (congrArg some (by kernel_rfl))
  f319 := Tryz.func109.trans (congrArg some (by kernel_rfl))
  f320 := Tryz.func110.trans (congrArg some (by kernel_rfl))
  f337 := Tryz.func117.trans (congrArg some (by kernel_rfl))
  f338 := Tryz.func118.trans (congrArg some (by kernel_rfl))
  t0 := Tryz.underlying0
  a0 := Tryz.isAgg0
  z0 := Tryz.sizeOf0
  v0 := Tryz.zeroValue0
  t2 := Tryz.underlying2
  a2 := Tryz.isAgg2
  z2 := Tryz.sizeOf2
  v2 := Tryz.zeroValue2
  t3 := Tryz.underlying3
  a3 := Tryz.isAgg3
  z3 := Tryz.sizeOf3
  v3 := Tryz.zeroValue3
  t4 := Tryz.underlying4
  a4 := Tryz.isAgg4
  z4 := Tryz.sizeOf4
  v4 := Tryz.zeroValue4
  t5 := Tryz.underlying5
  a5 := Tryz.isAgg5
  z5 := Tryz.sizeOf5
  v5 := Tryz.zeroValue5
  t9 := Tryz.underlying9
  a9 := Tryz.isAgg9
  z9 := Tryz.sizeOf9
  v9 := Tryz.zeroValue9
  t20 := Tryz.underlying20
  a20 := Tryz.isAgg20
  z20 := Tryz.sizeOf20
  v20 := Tryz.zeroValue20
  t37 := Tryz.underlying90
  a37 := Tryz.isAgg90
  z37 := Tryz.sizeOf90
  v37 := Tryz.zeroValue90
  t46 := Tryz.underlying126
  a46 := Tryz.isAgg126
  z46 := Tryz.sizeOf126
  v46 := Tryz.zeroValue126
  t51 := Tryz.underlying118
  a51 := Tryz.isAgg118
  z51 := Tryz.sizeOf118
  v51 := Tryz.zeroValue118
  t53 := Tryz.underlying86
  a53 := Tryz.isAgg86
  z53 := Tryz.sizeOf86
  v53 := Tryz.zeroValue86
  t171 := Tryz.underlying136
  a171 := Tryz.isAgg136
  z171 := Tryz.sizeOf136
  v171 := Tryz.zeroValue136
  t173 := Tryz.underlying139
  a173 := Tryz.isAgg139
  z173 := Tryz.sizeOf139
  v173 := Tryz.zeroValue139
  t212 := Tryz.underlying156
  a212 := Tryz.isAgg156
  z212 := Tryz.sizeOf156
  v212 := Tryz.zeroValue156
  t213 := Tryz.underlying157
  a213 := Tryz.isAgg157
  z213 := Tryz.sizeOf157
  t232 := Tryz.underlying167
  a232 := Tryz.isAgg167
  z232 := Tryz.sizeOf167
  v232 := Tryz.zeroValue167
  t233 := Tryz.underlying168
  a233 := Tryz.isAgg168
  z233 := Tryz.sizeOf168
  v233 := Tryz.zeroValue168
  g17 := by kernel_rfl
  g18 := by kernel_rfl
  g19 := by kernel_rfl
  i0 := by kernel_rfl
  i2 := by kernel_rfl
  i3 := by kernel_rfl
  i4 := by kernel_rfl
  i5 := by kernel_rfl
  i9 := by kernel_rfl
  i20 := by kernel_rfl
  i37 := by kernel_rfl
  i46 := by kernel_rfl
  i51 := by kernel_rfl
  i53 := by kernel_rfl
  i171 := by kernel_rfl
  i173 := by kernel_rfl
  i212 := by kernel_rfl
  i232 := by kernel_rfl
  i233 := by kernel_rfl
  m17 := by kernel_rfl
  m18 := by kernel_rfl
  m19 := by kernel_rfl }
open Go.RowKit Go.Sort Go.Lib in
theorem Tryz.strconv_FormatInt_10 (n : Int) (h0 : -9223372036854775808 ≤ n) (h1 : n ≤ 9223372036854775807) (w : World) (htab : Lib.TabIs Tryz.prog w "internal/strconv.uint64pow10" .u64 Lib.pow10Tab) :
    Calls Tryz.prog 47 #[.int .i64 n, .int .i64 10] w fun e w' => e = .returned (.string ⟨(Lib.itoa n).toArray⟩) ∧ ∃ k os, w' = grow (w.drewN k) os := Any.strconv_FormatInt_10 Tryz.laysM173 n h0 h1 w htab
open Go.RowKit Go.Sort Go.Lib in
def Tryz.laysM288_ren : Go.Shelf.Ren := ⟨fun | 288 => 90 | 283 => 86 | 284 => 87 | 285 => 88 | 286 => 89 | 129 => 103 | 317 => 107 | 318 => 108 | 319 => 109 | 320 => 110 | 337 => 117 | 338 => 118 | n => n, fun | 37 => 90 | 53 => 86 | 3 => 3 | 4 => 4 | 9 => 9 | 171 => 136 | 0 => 0 | 173 => 139 | 212 => 156 | 51 => 118 | 5 => 5 | 20 => 20 | 213 => 157 | 46 => 126 | 232 => 167 | 233 => 168 | n => n, fun | 17 => 0 | 18 => 1 | 19 => 2 | n => n⟩
theorem Tryz.laysM288 : Go.Proofs.LaysM.n288 Tryz.prog Tryz.laysM288_ren := {
  mixed := by kernel_rfl
  f129 := Tryz.func103.trans (congrArg some (by kernel_rfl))
  f283 := Tryz.func86.trans (congrArg some (by kernel_rfl))
  f284 := Tryz.func87.trans (congrArg some (by kernel_rfl))
  f285 := Tryz.func88.trans (congrArg some (by kernel_rfl))
  f286 := Tryz.func89.trans (congrArg some (by kernel_rfl))
  f288 := Tryz.func90.trans (congrArg some (by kernel_rfl))
  f317 := Tryz.func107.trans (congrArg some (by kernel_rfl))
  f318 := Tryz.func108.trans (congrArg some (by kernel_rfl))
  f319 := Tryz.func109.trans (congrArg some (by kernel_rfl))
  f320 := Tryz.func110.trans (congrArg some (by kernel_rfl))
  f337 := Tryz.func117.trans (congrArg some (by kernel_rfl))
  f338 := Tryz.func118.trans (congrArg some (by kernel_rfl))
  t0 := Tryz.underlying0
  a0 := Tryz.isAgg0
  z0 := Tryz.sizeOf0
  v0 := Tryz.zeroValue0
  t3 := Tryz.underlying3
  a3 := Tryz.isAgg3
  z3 := Tryz.sizeOf3
  v3 := Tryz.zeroValue3
  t4 := Tryz.underlying4
  a4 := Tryz.isAgg4
  z4 := Tryz.sizeOf4
  v4 := Tryz.zeroValue4
  t5 := Tryz.underlying5
  a5 := Tryz.isAgg5
  z5 := Tryz.sizeOf5
  v5 := Tryz.zeroValue5
  t9 := Tryz.underlying9
  a9 := Tryz.isAgg9
  z9 := Tryz.sizeOf9
  v9 := Tryz.zeroValue9
  t20 := Tryz.underlying20
  a20 := Tryz.isAgg20
  z20 := Tryz.sizeOf20
  v20 := Tryz.zeroValue20
  t37 := Tryz.underlying90
  a37 := Tryz.isAgg90
  z37 := Tryz.sizeOf90
  v37 := Tryz.zeroValue90
  t46 := Tryz.underlying126
  a46 := Tryz.isAgg126
  z46 := Tryz.sizeOf126
  v46 := Tryz.zeroValue126
  t51 := Tryz.underlying118
  a51 := Tryz.isAgg118
  z51 := Tryz.sizeOf118
  v51 := Tryz.zeroValue118
  t53 := Tryz.underlying86
  a53 := Tryz.isAgg86
  z53 := Tryz.sizeOf86
  v53 := Tryz.zeroValue86
  t171 := Tryz.underlying136
  a171 := Tryz.isAgg136
  z171 := Tryz.sizeOf136
  v171 := Tryz.zeroValue136
  t173 := Tryz.underlying139
  a173 := Tryz.isAgg139
  z173 := Tryz.sizeOf139
  v173 := Tryz.zeroValue139
  t212 := Tryz.underlying156
  a212 := Tryz.isAgg156
  z212 := Tryz.sizeOf156
  v212 := Tryz.zeroValue156
  t213 := Tryz.underlying157
  a213 := Tryz.isAgg157
  z213 := Tryz.sizeOf157
  t232 := Tryz.underlying167
  a232 := Tryz.isAgg167
  z232 := Tryz.sizeOf167
  v232 := Tryz.zeroValue167
  t233 := Tryz.underlying168
  a233 := Tryz.isAgg168
  z233 := Tryz.sizeOf168
  v233 := Tryz.zeroValue168
  g17 := by kernel_rfl
  g18 := by kernel_rfl
  g19 := by kernel_rfl
  i0 := by kernel_rfl
  i3 := by kernel_rfl
  i4 := by kernel_rfl
  i5 := by kernel_rfl
  i9 := by kernel_rfl
  i20 := by kernel_rfl
  i37 := by kernel_rfl
  i46 := by kernel_rfl
  i51 := by kernel_rfl
  i53 := by kernel_rfl
  i171 := by kernel_rfl
  i173 := by kernel_rfl
  i212 := by kernel_rfl
  i232 := by kernel_rfl
  i233 := by kernel_rfl
  m17 := by kernel_rfl
  m18 := by kernel_rfl
  m19 := by kernel_rfl }
open Go.RowKit Go.Sort Go.Lib in
theorem Tryz.internal_strconv_AppendUint_10_small (B n u : Nat) (hu : u < 100) (sv : Value) (xs : List Value) (w : World) (hown : w.ownsRow B 5 1 sv n xs) (hBw : B ≤ w.heap.size) (hlim : n + 20 ≤ 140737488355328) :
    Calls Tryz.prog 90 #[sv, .int .u64 u, .int .i64 10] w fun e w' => ∃ v', e = .returned v' ∧ w'.ownsRow B 5 1 v' (n + (Lib.decDigits u).length) (xs ++ Lib.byteCells (Lib.decDigits u)) ∧ Below B w w' ∧ Lib.OthersKept 5 none w w' := Any.internal_strconv_AppendUint_10_small Tryz.laysM288 B n u hu sv xs w hown hBw hlim
open Go.RowKit Go.Sort Go.Lib in
theorem Tryz.internal_strconv_AppendUint_10_big (B n u : Nat) (hu : 100 ≤ u) (hu64 : u < 18446744073709551616) (sv : Value) (xs : List Value) (w : World) (hown : w.ownsRow B 5 1 sv n xs) (hBw : B ≤ w.heap.size) (hlim : n + 20 ≤ 140737488355328) (htab : Lib.TabIs Tryz.prog w "internal/strconv.uint64pow10" .u64 Lib.pow10Tab) :
    Calls Tryz.prog 90 #[sv, .int .u64 u, .int .i64 10] w fun e w' => ∃ v', e = .returned v' ∧ w'.ownsRow B 5 1 v' (n + (Lib.decDigits u).length) (xs ++ Lib.byteCells (Lib.decDigits u)) ∧ Below B w w' ∧ Lib.OthersKept 5 none w w' := Any.internal_strconv_AppendUint_10_big Tryz.laysM288 B n u hu hu64 sv xs w hown hBw hlim htab
def Tryz.lays101_ren : Go.Shelf.Ren := ⟨fun | 101 => 53 | 208 => 77 | 206 => 104 | n => n, fun | 9 => 9 | 4 => 4 | 3 => 3 | n => n, fun | n => n⟩
theorem Tryz.lays101 : Go.Proofs.Lays.n101 Tryz.prog Tryz.lays101_ren := {
  mixed := by kernel_rfl
  f101 := Tryz.func53.trans (congrArg some (by kernel_rfl))
  f206 := Tryz.func104.trans (congrArg some (by kernel_rfl))
  f208 := Tryz.func77.trans (congrArg some (by kernel_rfl))
  t3 := Tryz.underlying3
  a3 := Tryz.isAgg3
  z3 := Tryz.sizeOf3
  v3 := Tryz.zeroValue3
  t4 := Tryz.underlying4
  a4 := Tryz.isAgg4
  z4 := Tryz.sizeOf4
  v4 := Tryz.zeroValue4
  t9 := Tryz.underlying9
  a9 := Tryz.isAgg9
  z9 := Tryz.sizeOf9
  v9 := Tryz.zeroValue9 }
open Go.RowKit Go.Lib in
theorem Tryz.strings_TrimPrefix (s p : ByteArray) (w : World) :
    Calls Tryz.prog 53 #[.string s, .string p] w fun e w' => e = .returned (.string ⟨(Lib.trimPrefix s.data.toList p.data.toList).toArray⟩) ∧ w' = w := Any.strings_TrimPrefix Tryz.lays101 s p w
end Go.Proofs
