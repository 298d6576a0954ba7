/- areDigits and parseMag at texts of digits. -/
import Derived.Test.YtlcfldkmojpkpaaGreatDoorP0
import Derived.Test.YtlcfldkmojpkpaaGreatDoorQ
import Derived.Lib.OthersKept
import Derived.Lib.Strings
namespace Go.Proofs.YtlcfldkmojpkpaaGreatDoor
open Go.RowKit

theorem Dg.at {s : ByteArray} (h : Dg s.data.toList) (i : Nat) (hi : i < s.size) : 48 ≤ (s[i]'hi).toNat ∧ (s[i]'hi).toNat ≤ 57 := h _ (by
  show s.data[i] ∈ s.data.toList
  simp)

theorem get_toList (s : ByteArray) (i : Nat) (hi : i < s.size) (h : i < s.data.toList.length) : s.data.toList[i]'h = s[i]'hi := by
  rw [Array.getElem_toList]
  rfl

set_option maxRecDepth 100000 in
set_option maxHeartbeats 800000 in
theorem areDigits_yes (s : ByteArray) (w : World) (hd : Dg s.data.toList) (hn : 0 < s.size) (hl : s.size ≤ 1000) :
    Calls Tryz.prog 89 #[.string s] w fun e w' => e = .returned (.bool true) ∧ Below w.heap.size w w' := by
  have hk0 : (w.iter s 0).heap[w.heap.size]? = some (.stringIter s 0) := World.iter_heap w s 0
  have hb0 : Below w.heap.size w (w.iter s 0) := (Below.refl _ w).alloc (Nat.le_refl _) _
  go_enter Tryz.func89, Tryz.ntmps89
  go_wp2
  go_loopw [4] (fun _ wr => ∃ pos : Nat, pos ≤ s.size ∧ wr.heap[w.heap.size]? = some (.stringIter s pos) ∧ Below w.heap.size w wr) (fun _ wr => s.size - wr.iterPos w.heap.size)
  case atStart => exact ⟨0, Nat.zero_le _, hk0, hb0⟩
  case round =>
    obtain ⟨pos, hps, hk, hnx⟩ := hrel
    clear hk0 hb0
    by_cases hp : pos < s.size
    · obtain ⟨c0, c1⟩ := hd.at pos hp
      have hnext : ∀ ty, (Instr.next (.pointer (some ⟨w.heap.size, 0, none⟩)) true ty).run Tryz.prog wr = _ := fun ty => Lib.run_next_ascii_at wr w.heap.size s pos ty hk hp (by omega)
      have hk1 := Lib.iterAt_heap wr w.heap.size s pos (pos + 1) hk
      have hnx1 : Below w.heap.size w (wr.iterAt w.heap.size s (pos + 1)) := Lib.below_iterAt hnx (by omega) s (pos + 1)
      have hmu : wr.iterPos w.heap.size = pos := by simp [World.iterPos, hk]
      generalize wr.iterAt w.heap.size s (pos + 1) = W1 at hnext hk1 hnx1
      obtain ⟨c, hc⟩ : ∃ c : Int, c = ((s[pos]'hp).toNat : Int) := ⟨_, rfl⟩
      have c0' : 48 ≤ c := by omega
      have c1' : c ≤ 57 := by omega
      rw [← hc] at hnext
      clear hc c0 c1
      have ct0 : decide (c < 48) = false := by simp; omega
      have ct1 : decide (57 < c) = false := by simp; omega
      have HM := hide hmu
      clear hmu
      go_wp2
      exact ⟨⟨pos + 1, by omega, hk1, hnx1⟩, by rw [unhide HM]; simp [World.iterPos, hk1]; omega⟩
    · have hnext : ∀ ty, (Instr.next (.pointer (some ⟨w.heap.size, 0, none⟩)) true ty).run Tryz.prog wr = _ := fun ty => Lib.run_next_end_at wr w.heap.size s pos ty hk hp
      have hemp : (!s.toList.isEmpty) = true := by
        rw [Lib.toList_data]
        cases h : s.data.toList with
        | nil =>
          have h2 : s.data.toList.length = s.size := by simp
          rw [h] at h2
          simp only [List.length_nil] at h2
          omega
        | cons _ _ => rfl
      have HE := hide hemp
      clear hemp
      go_wp2
      go_ret
      exact ⟨by show Ending.returned (Value.bool (!s.toList.isEmpty)) = _; rw [unhide HE], hnx⟩

theorem At.at_ {w : World} {b : Nat} {xs : List Int} (h : At w b 0 xs) {j : Nat} (hj : j < xs.length) : w.cell? ⟨b, j, none⟩ = some (.int .u32 (xs[j]?.getD 0)) := by
  have := h j hj
  rwa [Nat.zero_add] at this
theorem iterAt_cell (w : World) (k : Nat) (s : ByteArray) (pos : Nat) (p : Addr) (hp : p.block ≠ k) : (w.iterAt k s pos).cell? p = w.cell? p := World.cell?_of_block (w := w) (by simp [World.iterAt, hp.symm])
theorem iterAt_frozen (w : World) (k : Nat) (s : ByteArray) (pos : Nat) (p : Addr) (hp : p.block ≠ k) : (w.iterAt k s pos).frozen? p = w.frozen? p := World.frozen?_of_block (w := w) (by simp [World.iterAt, hp.symm])
theorem iterAt_size (w : World) (k : Nat) (s : ByteArray) (pos : Nat) : (w.iterAt k s pos).heap.size = w.heap.size := by simp [World.iterAt]

set_option maxRecDepth 100000 in
set_option maxHeartbeats 1600000 in
theorem parseMag_any (s : ByteArray) (w : World) (hd : Dg s.data.toList) (hl : s.size ≤ 1000) :
    Calls Tryz.prog 90 #[.string s] w fun e w' => ∃ v xs, e = .returned v ∧ Below w.heap.size w w' ∧ Mg w' v xs ∧ Dig xs ∧ Norm xs ∧ val xs = dec s.data.toList ∧ xs.length ≤ s.size + 8 := by
  have hsz : s.data.toList.length = s.size := by simp
  obtain ⟨n, hn⟩ : ∃ n, n = (s.size + 8) / 9 := ⟨_, rfl⟩
  have hq1 : ((s.size : Int) + 9 - 1).tdiv 9 = (n : Int) := by rw [Int.tdiv_eq_ediv_of_nonneg (by omega)]; omega
  have hmk := mk32 n w (by omega)
  have hk0 : ((w.alloc (.cells (madeCells #[.int .u32 0] n) 88)).iter s 0).heap[w.heap.size + 1]? = some (.stringIter s 0) := by
    have := World.iter_heap (w.alloc (.cells (madeCells #[.int .u32 0] n) 88)) s 0
    rwa [World.size_alloc] at this
  have hb0 : Below w.heap.size w ((w.alloc (.cells (madeCells #[.int .u32 0] n) 88)).iter s 0) := ((Below.refl _ w).alloc (Nat.le_refl _) _).alloc (by simp) _
  have hA0 : At ((w.alloc (.cells (madeCells #[.int .u32 0] n) 88)).iter s 0) w.heap.size 0 (List.replicate n 0) := fun j hj => by
    have h1 : ((w.alloc (.cells (madeCells #[.int .u32 0] n) 88)).iter s 0).cell? ⟨w.heap.size, 0 + j, none⟩ = (w.alloc (.cells (madeCells #[.int .u32 0] n) 88)).cell? ⟨w.heap.size, 0 + j, none⟩ := World.cell?_alloc_past _ _ _ (by simp)
    rw [h1]
    exact at_made w n j hj
  have hF0 : ∀ j, ((w.alloc (.cells (madeCells #[.int .u32 0] n) 88)).iter s 0).frozen? ⟨w.heap.size, j, none⟩ = false := fun j => by
    have h1 : ((w.alloc (.cells (madeCells #[.int .u32 0] n) 88)).iter s 0).frozen? ⟨w.heap.size, j, none⟩ = (w.alloc (.cells (madeCells #[.int .u32 0] n) 88)).frozen? ⟨w.heap.size, j, none⟩ := World.frozen?_alloc_past _ _ _ (by simp)
    rw [h1]
    exact World.frozen?_alloc_at _ _ _ _ rfl
  have hZ0 : w.heap.size + 1 < ((w.alloc (.cells (madeCells #[.int .u32 0] n) 88)).iter s 0).heap.size := by
    have : ((w.alloc (.cells (madeCells #[.int .u32 0] n) 88)).iter s 0).heap.size = (w.alloc (.cells (madeCells #[.int .u32 0] n) 88)).heap.size + 1 := World.size_alloc _ _
    rw [this, World.size_alloc]; omega
  have hwn : wrap64 (n : Int) = n := by unfold wrap64; omega
  have HN := hide hn
  clear hn
  go_enter Tryz.func90, Tryz.ntmps90
  go_wp2
  go_loopw [4] (fun _ wr => ∃ (pos : Nat) (O : List Int), pos ≤ s.size ∧ wr.heap[w.heap.size + 1]? = some (.stringIter s pos) ∧ At wr w.heap.size 0 O ∧ O.length = n ∧ (∀ j, wr.frozen? ⟨w.heap.size, j, none⟩ = false) ∧ Below w.heap.size w wr ∧ w.heap.size + 1 < wr.heap.size ∧ PM s.data.toList s.size pos O) (fun _ wr => s.size - wr.iterPos (w.heap.size + 1))
  case atStart => exact ⟨0, List.replicate n 0, Nat.zero_le _, hk0, hA0, by simp, hF0, hb0, hZ0, by rw [unhide HN]; exact PM.start _ _⟩
  case round =>
    obtain ⟨pos, O, hps, hk, hA, hOl, hF, hnx, hZ, hPM⟩ := hrel
    clear hk0 hb0 hA0 hF0 hZ0 hmk
    by_cases hp : pos < s.size
    · obtain ⟨c0, c1⟩ := hd.at pos hp
      have hnext : ∀ ty, (Instr.next (.pointer (some ⟨w.heap.size + 1, 0, none⟩)) true ty).run Tryz.prog wr = _ := fun ty => Lib.run_next_ascii_at wr (w.heap.size + 1) s pos ty hk hp (by omega)
      have hk1 := Lib.iterAt_heap wr (w.heap.size + 1) s pos (pos + 1) hk
      have hnx1 : Below w.heap.size w (wr.iterAt (w.heap.size + 1) s (pos + 1)) := Lib.below_iterAt hnx (by omega) s (pos + 1)
      have hA1 : At (wr.iterAt (w.heap.size + 1) s (pos + 1)) w.heap.size 0 O := fun j hj => (iterAt_cell _ _ _ _ ⟨w.heap.size, 0 + j, none⟩ (by show w.heap.size ≠ w.heap.size + 1; omega)).trans (hA j hj)
      have hF1 : ∀ j, (wr.iterAt (w.heap.size + 1) s (pos + 1)).frozen? ⟨w.heap.size, j, none⟩ = false := fun j => (iterAt_frozen _ _ _ _ ⟨w.heap.size, j, none⟩ (by show w.heap.size ≠ w.heap.size + 1; omega)).trans (hF j)
      have hZ1 : w.heap.size + 1 < (wr.iterAt (w.heap.size + 1) s (pos + 1)).heap.size := by rw [iterAt_size]; exact hZ
      have hmu : wr.iterPos (w.heap.size + 1) = pos := by simp [World.iterPos, hk]
      obtain ⟨c, hc⟩ : ∃ c : Int, c = ((s[pos]'hp).toNat : Int) := ⟨_, rfl⟩
      have c0' : 48 ≤ c := by omega
      have c1' : c ≤ 57 := by omega
      rw [← hc] at hnext
      obtain ⟨x, hx, x0, x1, hal, hPM1⟩ := hPM.step hp hsz (d := c - 48) (by rw [hc, get_toList s pos hp (by omega)]) (by omega) (by omega)
      obtain ⟨a, ha⟩ : ∃ a, a = (s.size - 1 - pos) / 9 := ⟨_, rfl⟩
      rw [← ha] at hx hal hPM1
      have hq2 : ((s.size : Int) - 1 - (pos : Int)).tdiv 9 = (a : Int) := by rw [Int.tdiv_eq_ediv_of_nonneg (by omega)]; omega
      have hwa : wrap64 (a : Int) = a := by unfold wrap64; omega
      have hca := hA1.at_ hal
      rw [hx] at hca
      have hfa := hF1 a
      have han : a < n := by rw [← hOl]; exact hal
      have hwd : IntKind.u32.wrap (c - 48) = c - 48 := by rw [IntKind.wrap_u32]; omega
      generalize wr.iterAt (w.heap.size + 1) s (pos + 1) = W1 at *
      have HM := hide hmu
      have HX := hide hx
      have HO := hide hOl
      have HP := hide hPM1
      have HA1 := hide hA1
      have HF1 := hide hF1
      clear hmu hc c0 c1 hx hOl hPM hPM1 hA hF hA1 hF1 ha
      have hkf : (W1.setCell ⟨w.heap.size, a, none⟩ (.int .u32 (x * 10 + (c - 48)))).heap[w.heap.size + 1]? = some (.stringIter s (pos + 1)) := by
        rw [Below.heap_setCell _ _ _ _ (by show w.heap.size + 1 ≠ w.heap.size; omega)]; exact hk1
      have HKF := hide hkf
      clear hkf
      go_wp2
      refine ⟨⟨pos + 1, O.set a (x * 10 + (c - 48)), by omega, unhide HKF, (unhide HA1).setAt hal _, by rw [List.length_set]; exact unhide HO, fun j => (World.frozen?_setCell _ _ _ _).trans (unhide HF1 j), hnx1.setCell (p := ⟨w.heap.size, a, none⟩) (Nat.le_refl _) _, by simpa using hZ1, unhide HP⟩, ?_⟩
      rw [unhide HM]
      simp only [World.iterPos, unhide HKF]
      omega
    · have hnext : ∀ ty, (Instr.next (.pointer (some ⟨w.heap.size + 1, 0, none⟩)) true ty).run Tryz.prog wr = _ := fun ty => Lib.run_next_end_at wr (w.heap.size + 1) s pos ty hk hp
      obtain rfl : pos = s.size := by omega
      obtain ⟨hv, hdO⟩ := hPM.done hsz
      have hm : Mg wr (.slice (some ⟨w.heap.size, 0, none⟩) n n) O := by
        have := hA.mg (cap := n) (by omega) (by omega)
        rwa [hOl] at this
      have hOn : O.length ≤ s.size + 8 := by have := unhide HN; omega
      have HV := hide hv
      clear hv hA hF hPM hOl
      go_wp2_with fail
      refine (trim_any _ O wr hm hdO (by omega)).mono ?_
      rintro e w3 ⟨v3, ys3, rfl, rfl, hm3, hd3, hn3, hv3, hl3⟩
      have HV3 := hide hv3
      clear hv3
      go_wp2
      go_ret
      exact ⟨_, ys3, rfl, hnx, hm3, hd3, hn3, (unhide HV3).trans (unhide HV), by omega⟩

end Go.Proofs.YtlcfldkmojpkpaaGreatDoor
