/- The package-level variables that the rows list, as the walks want them: the signs, errors.errorType, the two tables of unicode/utf8. -/
import Derived.Test.YtjkaibnblkggbaaDoorZAB
import Derived.Test.YtjkaibnblkggbaaDoorRows
import Derived.Lib.LaidU8T
import Derived.LaidHandle
import Derived.LaidLaws
import Derived.OpenShut
import Derived.ChangeArms
set_option linter.unusedVariables false
set_option linter.unusedSimpArgs false

/- The walk of LexBounds. -/
namespace Go.Proofs.YtjkaibnblkggbaaDoor
open Go Go.RowKit

/-! ### texts of blanks, and of digits -/
theorem lit_By (l : List UInt8) (i : Nat) : By ⟨l.toArray⟩ i = (l.getD i 0).toNat := by
  unfold By
  rw [get_toList]
theorem lit_size (l : List UInt8) : (⟨l.toArray⟩ : ByteArray).size = l.length := by simp [ByteArray.size]
theorem rd_blank (s : ByteArray) (i : Nat) (h : By s i = 32) : rd s i = (-1, i + 1, none) := by
  have hr := rn_ascii s i (by omega)
  unfold rd
  rw [noR_ascii s i (by omega), if_neg Bool.false_ne_true, hr.1, h, if_pos (by rfl)]
theorem lx_blanks (s : ByteArray) (h : ∀ i, i < s.size → By s i = 32) : ∀ f i, s.size ≤ i + f → lx s f i = ([], none) := by
  intro f
  induction f with
  | zero => intro i _; rfl
  | succ f ih =>
    intro i hf
    by_cases hi : i < s.size
    · have hb := rd_blank s i (h i hi)
      rw [lx_gap s hf hi (by rw [hb]) (by rw [hb]), hb]
      exact ih (i + 1) (by omega)
    · exact lx_end s _ i hi
theorem tk_blanks (n : Nat) (hn : n ≤ 65536) : tk ⟨(List.replicate n 32).toArray⟩ = ([], none) := by
  unfold tk
  rw [lit_size, List.length_replicate, if_neg (by omega)]
  refine lx_blanks _ (fun i hi => ?_) _ _ (by rw [lit_size, List.length_replicate]; omega)
  rw [lit_size, List.length_replicate] at hi
  rw [lit_By, List.getD_eq_getElem?_getD, List.getElem?_replicate_of_lt hi]
  rfl
theorem tkL_blanks (n : Nat) (hn : n ≤ 65536) : tkL ⟨(List.replicate n 32).toArray⟩ = [(0, ⟨#[]⟩, (n : Int))] := by
  unfold tkL
  rw [tk_blanks n hn, lit_size, List.length_replicate]
  rfl
theorem tk_great (n : Nat) (hn : 65536 < n) : (tk ⟨(List.replicate n 32).toArray⟩).2 = some (65536, 141) := by
  unfold tk
  rw [lit_size, List.length_replicate, if_pos hn]
theorem digEnd_all (s : ByteArray) (h : ∀ i, i < s.size → isDi (rn s i) = true) : ∀ f i, s.size ≤ i + f → i ≤ s.size → digEnd s f i = s.size := by
  intro f
  induction f with
  | zero => intro i h1 h2; unfold digEnd; omega
  | succ f ih =>
    intro i h1 h2
    unfold digEnd
    by_cases hi : i < s.size
    · rw [if_pos hi, if_pos (h i hi)]
      exact ih (i + 1) (by omega) hi
    · rw [if_neg hi]; omega
theorem dig_rn (s : ByteArray) (i : Nat) (h : 48 ≤ By s i ∧ By s i ≤ 57) : noR s i = false ∧ rn s i = By s i ∧ isBl (rn s i) = false ∧ isLe (rn s i) = false ∧ isDi (rn s i) = true := by
  have hr := (rn_ascii s i (by omega)).1
  refine ⟨noR_ascii s i (by omega), hr, ?_, ?_, ?_⟩
  · rw [hr]; unfold isBl; simp; omega
  · rw [hr]; unfold isLe; simp; omega
  · rw [hr]; unfold isDi; simp; omega
theorem tk_digits (s : ByteArray) (h : ∀ i, i < s.size → 48 ≤ By s i ∧ By s i ≤ 57) (h0 : 0 < s.size) (hz : s.size ≤ 65536) : (tk s).2 = if (By s 0 == 48 && decide (1 < s.size)) = true then some (0, 140) else if 400 < s.size then some (0, 141) else none := by
  have e : tk s = lx s s.size 0 := by unfold tk; rw [if_neg (by omega)]
  have hd := dig_rn s 0 (h 0 h0)
  have he : digEnd s (s.size - 0) 0 = s.size := digEnd_all s (fun i hi => (dig_rn s i (h i hi)).2.2.2.2) _ _ (by omega) (by omega)
  have hrd : rd s 0 = rdNum s 0 := by
    unfold rd
    rw [hd.1, if_neg Bool.false_ne_true, hd.2.2.1, if_neg Bool.false_ne_true, hd.2.2.2.1, if_neg Bool.false_ne_true, hd.2.2.2.2, if_pos rfl]
  rw [e]
  unfold rdNum at hrd
  rw [he, Nat.sub_zero] at hrd
  by_cases h1 : (By s 0 == 48 && decide (1 < s.size)) = true
  · rw [if_pos h1] at hrd ⊢
    rw [lx_err s (by omega) h0 (by rw [hrd])]
  · rw [if_neg h1] at hrd ⊢
    by_cases h2 : 400 < s.size
    · rw [if_pos h2] at hrd ⊢
      rw [lx_err s (by omega) h0 (by rw [hrd])]
    · rw [if_neg h2] at hrd ⊢
      rw [lx_tok s (by omega) h0 (by rw [hrd]) (by rw [hrd]; exact (by decide : (3 : Int) ≠ -1)), hrd]
      simp only
      rw [lx_end s _ s.size (by omega)]
/-- The digits of LexBounds. -/
def dg (n : Nat) (nought : Bool) : List UInt8 := if nought then (List.replicate n 55).set 0 48 else List.replicate n 55
theorem dg_len (n : Nat) (b : Bool) : (dg n b).length = n := by unfold dg; cases b <;> simp
theorem dg_get (n : Nat) (b : Bool) (i : Nat) (hi : i < n) : (dg n b).getD i 0 = if b && i == 0 then 48 else 55 := by
  unfold dg
  cases b with
  | false => rw [if_neg Bool.false_ne_true, List.getD_eq_getElem?_getD, List.getElem?_replicate_of_lt hi]; rfl
  | true =>
    rw [if_pos rfl, List.getD_eq_getElem?_getD, List.getElem?_set]
    by_cases h0 : 0 = i
    · subst h0
      rw [if_pos rfl, if_pos (by simpa using hi)]
      rfl
    · rw [if_neg h0, List.getElem?_replicate_of_lt hi]
      have : (i == 0) = false := by simp; omega
      rw [this]
      rfl
theorem tk_dg (n : Nat) (b : Bool) (h1 : 1 < n) (h2 : n ≤ 65536) : (tk ⟨(dg n b).toArray⟩).2 = if b then some (0, 140) else if 400 < n then some (0, 141) else none := by
  have hb : ∀ i, i < n → By ⟨(dg n b).toArray⟩ i = if b && i == 0 then 48 else 55 := fun i hi => by
    rw [lit_By, dg_get n b i hi]
    split <;> rfl
  rw [tk_digits _ (fun i hi => ?_) (by rw [lit_size, dg_len]; omega) (by rw [lit_size, dg_len]; omega)]
  · rw [lit_size, dg_len, hb 0 (by omega)]
    have d : decide (1 < n) = true := by simpa using h1
    rw [d]
    cases b <;> rfl
  · rw [lit_size, dg_len] at hi
    rw [hb i hi]
    split <;> omega
/-- A block of bytes. -/
def BL (V : World) (g : Nat) (l : List UInt8) : Prop := V.heap[g]? = some (.cells (Lib.byteCells l).toArray 5)
theorem BL.conv {V : World} {g n : Nat} {l : List UInt8} (h : BL V g l) (hn : l.length = n) : (convert 34 9 (.slice (some ⟨g, 0, none⟩) n n)).run Tryd.prog V = .ok (.string ⟨l.toArray⟩) V := by
  refine conv8 V g n n l hn fun j hj => ?_
  refine (blk h).2.1 j _ ?_
  simp [Lib.byteCells, hj]
theorem FY.full {V : World} {g n : Nat} {d : UInt8} (h : FY V g n n d) : BL V g (List.replicate n d) := by
  unfold FY at h
  have e : fillL n n d = List.replicate n d := by simp [fillL]
  rw [e] at h
  exact h
theorem BL.set {V : World} {g : Nat} {l : List UInt8} (h : BL V g l) (i : Nat) (d : UInt8) : BL (V.setCell ⟨g, i, none⟩ (.int .u8 d.toNat)) g (l.set i d) := by
  unfold BL at h ⊢
  rw [set_block h]
  congr 2
  simp [Lib.byteCells, List.map_set]
theorem BL.cell {V : World} {g i : Nat} {l : List UInt8} (h : BL V g l) (hi : i < l.length) : ∃ u, V.cell? ⟨g, i, none⟩ = some u ∧ V.frozen? ⟨g, i, none⟩ = false := by
  have hl : i < (Lib.byteCells l).toArray.size := by simp [bc_len, hi]
  exact ⟨_, (blk h).2.1 i _ (Array.getElem?_eq_getElem hl), (blk h).2.2 i⟩
theorem fy_new (w : World) (n : Nat) (d : UInt8) : FY (w.alloc (.cells (Lib.byteCells (List.replicate n 0)).toArray 5)) w.heap.size n 0 d := by
  unfold FY
  rw [heap_new]
  simp [fillL]
end Go.Proofs.YtjkaibnblkggbaaDoor

/- The walk of LexBounds. -/
namespace Go.Proofs.YtjkaibnblkggbaaDoor
open Go Go.RowKit

theorem FY.put55 {V : World} {g n i : Nat} (h : FY V g n i 55) (hi : i < n) : FY (V.setCell ⟨g, i, none⟩ (.int .u8 55)) g n (i + 1) 55 := h.put hi
theorem FY.put32 {V : World} {g n i : Nat} (h : FY V g n i 32) (hi : i < n) : FY (V.setCell ⟨g, i, none⟩ (.int .u8 32)) g n (i + 1) 32 := h.put hi
theorem BL.set48 {V : World} {g : Nat} {l : List UInt8} (h : BL V g l) : BL (V.setCell ⟨g, 0, none⟩ (.int .u8 48)) g (l.set 0 48) := h.set 0 48

set_option maxRecDepth 100000 in
set_option maxHeartbeats 16000000 in
theorem bounds_A (n m : Int) (d b : Nat) (hP0 : ∀ W, Calls Tryd.prog 15 #[.int .i64 n, .int .i64 5] W fun e w' => e = .returned (.int .i64 ((d : Int) - 398)) ∧ w' = W) (hQ0 : ∀ W, Calls Tryd.prog 15 #[.int .i64 m, .int .i64 5] W fun e w' => e = .returned (.int .i64 ((b : Int) - 65534)) ∧ w' = W) (hd1 : 398 ≤ d ∧ d ≤ 402) (hb1 : 65534 ≤ b ∧ b ≤ 65538) (w : World) (hG : SG w) (hE : EH w) : Calls Tryd.prog 7 #[.int .i64 n, .int .i64 m, .bool true] w fun e w' => e = .returned (.bool true) ∧ Below w.heap.size w w' := by
  have hK := hide (known_any w hG hE)
  have h1w := hG.lt
  replace hG := hide hG
  replace hE := hide hE
  have hP := hide hP0
  have hQ := hide hQ0
  clear hP0 hQ0
  have hdi : (398 : Int) + ((d : Int) - 398) = (d : Int) := by omega
  have hbi : (65534 : Int) + ((b : Int) - 65534) = (b : Int) := by omega
  have hx := tk_dg d true (by omega) (by omega)
  rw [if_pos rfl] at hx
  replace hx := hide hx
  go_enter Tryd.func7, Tryd.ntmps7
  go_wp2_with fail
  refine (unhide hK).mono ?_
  rintro e w1 ⟨rfl, hb1'⟩
  replace hb1' := hide hb1'
  go_wp2_with fail
  refine (unhide hP _).mono ?_
  rintro e w2 ⟨rfl, rfl⟩
  go_wp2_with fail
  refine (unhide hQ _).mono ?_
  rintro e w3 ⟨rfl, rfl⟩
  have hmk := mkB d w3 (by omega)
  have hfy := fy_new w3 d 55
  have hbn : Below w3.heap.size w3 (w3.alloc (.cells (Lib.byteCells (List.replicate d 0)).toArray 5)) := (Below.refl _ _).alloc (Nat.le_refl _) _
  obtain ⟨V, hV⟩ : ∃ V, w3.alloc (.cells (Lib.byteCells (List.replicate d 0)).toArray 5) = V := ⟨_, rfl⟩
  rw [hV] at hmk hfy hbn
  replace hV := hide hV
  go_wp2_with fail
  go_loopw [8] (fun i wr => ∃ k : Nat, k ≤ d ∧ i = .int .i64 k ∧ FY wr w3.heap.size d k 55 ∧ Below w3.heap.size w3 wr) (fun i _ => d - (intOf i).toNat)
  case atStart => exact ⟨0, Nat.zero_le _, rfl, hfy, hbn⟩
  case round =>
    obtain ⟨k, hk, rfl, f1, f2⟩ := hrel
    clear hfy hbn hmk
    by_cases hlt : k < d
    · obtain ⟨u, hc, hf⟩ := f1.cell hlt
      have hdk : decide ((k : Int) < (d : Int)) = true := by simp; omega
      replace f1 := hide f1
      replace f2 := hide f2
      go_wp2
      exact ⟨⟨k + 1, hlt, by simp, (unhide f1).put55 hlt, (unhide f2).setCell (Nat.le_refl _) _⟩, by simp [intOf]; omega⟩
    · obtain rfl : k = d := by omega
      have hdk : decide ((k : Int) < (k : Int)) = false := by simp
      clear hlt hk
      have fb := f1.full
      obtain ⟨u, hc, hf⟩ := fb.cell (i := 0) (by simp; omega)
      have fs := fb.set48
      have f3 := f2.setCell (p := ⟨w3.heap.size, 0, none⟩) (Nat.le_refl _) (.int .u8 48)
      have hcv : ∀ W, W = wr.setCell ⟨w3.heap.size, 0, none⟩ (.int .u8 48) → (convert 34 9 (.slice (some ⟨w3.heap.size, 0, none⟩) k k)).run Tryd.prog W = .ok (.string ⟨(dg k true).toArray⟩) W := fun W hW => by rw [hW]; exact fs.conv (dg_len k true)
      replace hcv := hcv _ rfl
      have hz : (k : Int) ≠ 0 := by omega
      replace fb := hide fb
      replace fs := hide fs
      replace f1 := hide f1
      replace f2 := hide f2
      replace f3 := hide f3
      obtain ⟨t, ht⟩ : ∃ t : ByteArray, ⟨(dg k true).toArray⟩ = t := ⟨_, rfl⟩
      rw [ht] at hcv hx
      replace ht := hide ht
      have hbw : Hid (Below w.heap.size w (wr.setCell ⟨w3.heap.size, 0, none⟩ (.int .u8 48))) := (unhide hb1').trans ((unhide f3).mono (unhide hb1').size)
      have c := tokens_any t (wr.setCell ⟨w3.heap.size, 0, none⟩ (.int .u8 48)) ((unhide hG).below (unhide hbw) h1w)
      go_wp2_with fail
      refine c.mono ?_
      rintro e w5 h5
      obtain ⟨hb5, bb, rfl, hr5⟩ := tkp_err h5 (unhide hx)
      have hbz := (unhide hbw).trans (hb5.mono (unhide hbw).size)
      have c3 := told_err 0 140 bb w5 ((unhide hE).below hbz (by omega)) hr5
      replace hr5 := hide hr5
      clear c h5 hcv
      go_wp2_with fail
      refine c3.mono ?_
      rintro e w6 ⟨rfl, hb6⟩
      replace hbw := hide (hbz.trans (hb6.mono hbz.size))
      clear c3 hb5 hb6 hbz
      have hmk := mkB b w6 (by omega)
      have hfy := fy_new w6 b 32
      have hbn : Below w6.heap.size w6 (w6.alloc (.cells (Lib.byteCells (List.replicate b 0)).toArray 5)) := (Below.refl _ _).alloc (Nat.le_refl _) _
      obtain ⟨U, hU⟩ : ∃ U, w6.alloc (.cells (Lib.byteCells (List.replicate b 0)).toArray 5) = U := ⟨_, rfl⟩
      rw [hU] at hmk hfy hbn
      replace hU := hide hU
      go_wp2_with fail
      go_loopw [15] (fun i w7 => ∃ j : Nat, j ≤ b ∧ i = .int .i64 j ∧ FY w7 w6.heap.size b j 32 ∧ Below w6.heap.size w6 w7) (fun i _ => b - (intOf i).toNat)
      case atStart => exact ⟨0, Nat.zero_le _, rfl, hfy, hbn⟩
      case round =>
        obtain ⟨j, hj, rfl, n1, n2⟩ := hrel
        clear hfy hbn hmk
        by_cases hlt : j < b
        · obtain ⟨u, hc, hf⟩ := n1.cell hlt
          have hdj : decide ((j : Int) < (b : Int)) = true := by simp; omega
          replace n1 := hide n1
          replace n2 := hide n2
          go_wp2
          exact ⟨⟨j + 1, hlt, by simp, (unhide n1).put32 hlt, (unhide n2).setCell (Nat.le_refl _) _⟩, by simp [intOf]; omega⟩
        · obtain rfl : j = b := by omega
          have hdj : decide ((j : Int) < (j : Int)) = false := by simp
          clear hlt hj
          have nb := n1.full
          have hcv2 : (convert 34 9 (.slice (some ⟨w6.heap.size, 0, none⟩) j j)).run Tryd.prog wr = .ok (.string ⟨(List.replicate j 32).toArray⟩) wr := nb.conv (by simp)
          have hbw2 : Hid (Below w.heap.size w wr) := (unhide hbw).trans (n2.mono (unhide hbw).size)
          replace n1 := hide n1
          replace n2 := hide n2
          replace nb := hide nb
          obtain ⟨t2, ht2⟩ : ∃ t : ByteArray, ⟨(List.replicate j 32).toArray⟩ = t := ⟨_, rfl⟩
          rw [ht2] at hcv2
          have c := tokens_any t2 wr ((unhide hG).below (unhide hbw2) h1w)
          by_cases hgr : 65536 < j
          · have hy := tk_great j hgr
            rw [ht2] at hy
            have hdg : decide ((65536 : Int) < (j : Int)) = true := by simp; omega
            replace hy := hide hy
            replace ht2 := hide ht2
            go_wp2_with fail
            refine c.mono ?_
            rintro e w8 h8
            obtain ⟨hb8, bb2, rfl, hr8⟩ := tkp_err h8 (unhide hy)
            have hbz := (unhide hbw2).trans (hb8.mono (unhide hbw2).size)
            have c4 := told_err 65536 141 bb2 w8 ((unhide hE).below hbz (by omega)) hr8
            replace hr8 := hide hr8
            clear c h8 hcv2
            go_wp2_with fail
            refine c4.mono ?_
            rintro e w9 ⟨rfl, hb9⟩
            have hbf := hide (hbz.trans (hb9.mono hbz.size))
            clear c4
            go_wp2_with fail
            go_ret
            exact ⟨rfl, unhide hbf⟩
          · have hy := And.intro (tk_blanks j (by omega)) (tkL_blanks j (by omega))
            rw [ht2] at hy
            have hdg : decide ((65536 : Int) < (j : Int)) = false := by simp; omega
            replace hy := hide hy
            replace ht2 := hide ht2
            go_wp2_with fail
            refine c.mono ?_
            rintro e w8 h8
            obtain ⟨hb8, v8, rfl, hr8⟩ := tkp_ok h8 (by rw [(unhide hy).1])
            rw [(unhide hy).2] at hr8
            obtain ⟨a8, c8, rfl, hr9⟩ := hr8
            obtain ⟨g8, rfl, hg8, hc8⟩ := hr9 (by simp)
            have r2 : w8.cell? ⟨g8, 2, none⟩ = some (.int .i64 j) := (hc8 0 _ rfl).2.2
            have hbf := hide ((unhide hbw2).trans (hb8.mono (unhide hbw2).size))
            replace hc8 := hide hc8
            clear c h8 hcv2 hr9
            go_wp2_with fail
            refine (told_nil _).mono ?_
            rintro e w9 ⟨rfl, rfl⟩
            go_wp2_with fail
            go_ret
            exact ⟨rfl, unhide hbf⟩

set_option maxRecDepth 100000 in
set_option maxHeartbeats 16000000 in
theorem bounds_B (n m : Int) (d b : Nat) (hP0 : ∀ W, Calls Tryd.prog 15 #[.int .i64 n, .int .i64 5] W fun e w' => e = .returned (.int .i64 ((d : Int) - 398)) ∧ w' = W) (hQ0 : ∀ W, Calls Tryd.prog 15 #[.int .i64 m, .int .i64 5] W fun e w' => e = .returned (.int .i64 ((b : Int) - 65534)) ∧ w' = W) (hd1 : 398 ≤ d ∧ d ≤ 402) (hb1 : 65534 ≤ b ∧ b ≤ 65538) (hd4 : 400 < d) (w : World) (hG : SG w) (hE : EH w) : Calls Tryd.prog 7 #[.int .i64 n, .int .i64 m, .bool false] w fun e w' => e = .returned (.bool true) ∧ Below w.heap.size w w' := by
  have hK := hide (known_any w hG hE)
  have h1w := hG.lt
  replace hG := hide hG
  replace hE := hide hE
  have hP := hide hP0
  have hQ := hide hQ0
  clear hP0 hQ0
  have hdi : (398 : Int) + ((d : Int) - 398) = (d : Int) := by omega
  have hbi : (65534 : Int) + ((b : Int) - 65534) = (b : Int) := by omega
  have hd5 : decide ((400 : Int) < (d : Int)) = true := by simp; omega
  have hx := tk_dg d false (by omega) (by omega)
  rw [if_neg Bool.false_ne_true, if_pos hd4] at hx
  replace hx := hide hx
  go_enter Tryd.func7, Tryd.ntmps7
  go_wp2_with fail
  refine (unhide hK).mono ?_
  rintro e w1 ⟨rfl, hb1'⟩
  replace hb1' := hide hb1'
  go_wp2_with fail
  refine (unhide hP _).mono ?_
  rintro e w2 ⟨rfl, rfl⟩
  go_wp2_with fail
  refine (unhide hQ _).mono ?_
  rintro e w3 ⟨rfl, rfl⟩
  have hmk := mkB d w3 (by omega)
  have hfy := fy_new w3 d 55
  have hbn : Below w3.heap.size w3 (w3.alloc (.cells (Lib.byteCells (List.replicate d 0)).toArray 5)) := (Below.refl _ _).alloc (Nat.le_refl _) _
  obtain ⟨V, hV⟩ : ∃ V, w3.alloc (.cells (Lib.byteCells (List.replicate d 0)).toArray 5) = V := ⟨_, rfl⟩
  rw [hV] at hmk hfy hbn
  replace hV := hide hV
  go_wp2_with fail
  go_loopw [8] (fun i wr => ∃ k : Nat, k ≤ d ∧ i = .int .i64 k ∧ FY wr w3.heap.size d k 55 ∧ Below w3.heap.size w3 wr) (fun i _ => d - (intOf i).toNat)
  case atStart => exact ⟨0, Nat.zero_le _, rfl, hfy, hbn⟩
  case round =>
    obtain ⟨k, hk, rfl, f1, f2⟩ := hrel
    clear hfy hbn hmk
    by_cases hlt : k < d
    · obtain ⟨u, hc, hf⟩ := f1.cell hlt
      have hdk : decide ((k : Int) < (d : Int)) = true := by simp; omega
      replace f1 := hide f1
      replace f2 := hide f2
      go_wp2
      exact ⟨⟨k + 1, hlt, by simp, (unhide f1).put55 hlt, (unhide f2).setCell (Nat.le_refl _) _⟩, by simp [intOf]; omega⟩
    · obtain rfl : k = d := by omega
      have hdk : decide ((k : Int) < (k : Int)) = false := by simp
      clear hlt hk
      have fb := f1.full
      have hcv : (convert 34 9 (.slice (some ⟨w3.heap.size, 0, none⟩) k k)).run Tryd.prog wr = .ok (.string ⟨(dg k false).toArray⟩) wr := fb.conv (dg_len k false)
      replace fb := hide fb
      replace f1 := hide f1
      replace f2 := hide f2
      obtain ⟨t, ht⟩ : ∃ t : ByteArray, ⟨(dg k false).toArray⟩ = t := ⟨_, rfl⟩
      rw [ht] at hcv hx
      replace ht := hide ht
      have hbw : Hid (Below w.heap.size w wr) := (unhide hb1').trans ((unhide f2).mono (unhide hb1').size)
      have c := tokens_any t wr ((unhide hG).below (unhide hbw) h1w)
      go_wp2_with fail
      refine c.mono ?_
      rintro e w5 h5
      obtain ⟨hb5, bb, rfl, hr5⟩ := tkp_err h5 (unhide hx)
      have hbz := (unhide hbw).trans (hb5.mono (unhide hbw).size)
      have c3 := told_err 0 141 bb w5 ((unhide hE).below hbz (by omega)) hr5
      replace hr5 := hide hr5
      clear c h5 hcv
      go_wp2_with fail
      refine c3.mono ?_
      rintro e w6 ⟨rfl, hb6⟩
      replace hbw := hide (hbz.trans (hb6.mono hbz.size))
      clear c3 hb5 hb6 hbz
      have hmk := mkB b w6 (by omega)
      have hfy := fy_new w6 b 32
      have hbn : Below w6.heap.size w6 (w6.alloc (.cells (Lib.byteCells (List.replicate b 0)).toArray 5)) := (Below.refl _ _).alloc (Nat.le_refl _) _
      obtain ⟨U, hU⟩ : ∃ U, w6.alloc (.cells (Lib.byteCells (List.replicate b 0)).toArray 5) = U := ⟨_, rfl⟩
      rw [hU] at hmk hfy hbn
      replace hU := hide hU
      go_wp2_with fail
      go_loopw [15] (fun i w7 => ∃ j : Nat, j ≤ b ∧ i = .int .i64 j ∧ FY w7 w6.heap.size b j 32 ∧ Below w6.heap.size w6 w7) (fun i _ => b - (intOf i).toNat)
      case atStart => exact ⟨0, Nat.zero_le _, rfl, hfy, hbn⟩
      case round =>
        obtain ⟨j, hj, rfl, n1, n2⟩ := hrel
        clear hfy hbn hmk
        by_cases hlt : j < b
        · obtain ⟨u, hc, hf⟩ := n1.cell hlt
          have hdj : decide ((j : Int) < (b : Int)) = true := by simp; omega
          replace n1 := hide n1
          replace n2 := hide n2
          go_wp2
          exact ⟨⟨j + 1, hlt, by simp, (unhide n1).put32 hlt, (unhide n2).setCell (Nat.le_refl _) _⟩, by simp [intOf]; omega⟩
        · obtain rfl : j = b := by omega
          have hdj : decide ((j : Int) < (j : Int)) = false := by simp
          clear hlt hj
          have nb := n1.full
          have hcv2 : (convert 34 9 (.slice (some ⟨w6.heap.size, 0, none⟩) j j)).run Tryd.prog wr = .ok (.string ⟨(List.replicate j 32).toArray⟩) wr := nb.conv (by simp)
          have hbw2 : Hid (Below w.heap.size w wr) := (unhide hbw).trans (n2.mono (unhide hbw).size)
          replace n1 := hide n1
          replace n2 := hide n2
          replace nb := hide nb
          obtain ⟨t2, ht2⟩ : ∃ t : ByteArray, ⟨(List.replicate j 32).toArray⟩ = t := ⟨_, rfl⟩
          rw [ht2] at hcv2
          have c := tokens_any t2 wr ((unhide hG).below (unhide hbw2) h1w)
          by_cases hgr : 65536 < j
          · have hy := tk_great j hgr
            rw [ht2] at hy
            have hdg : decide ((65536 : Int) < (j : Int)) = true := by simp; omega
            replace hy := hide hy
            replace ht2 := hide ht2
            go_wp2_with fail
            refine c.mono ?_
            rintro e w8 h8
            obtain ⟨hb8, bb2, rfl, hr8⟩ := tkp_err h8 (unhide hy)
            have hbz := (unhide hbw2).trans (hb8.mono (unhide hbw2).size)
            have c4 := told_err 65536 141 bb2 w8 ((unhide hE).below hbz (by omega)) hr8
            replace hr8 := hide hr8
            clear c h8 hcv2
            go_wp2_with fail
            refine c4.mono ?_
            rintro e w9 ⟨rfl, hb9⟩
            have hbf := hide (hbz.trans (hb9.mono hbz.size))
            clear c4
            go_wp2_with fail
            go_ret
            exact ⟨rfl, unhide hbf⟩
          · have hy := And.intro (tk_blanks j (by omega)) (tkL_blanks j (by omega))
            rw [ht2] at hy
            have hdg : decide ((65536 : Int) < (j : Int)) = false := by simp; omega
            replace hy := hide hy
            replace ht2 := hide ht2
            go_wp2_with fail
            refine c.mono ?_
            rintro e w8 h8
            obtain ⟨hb8, v8, rfl, hr8⟩ := tkp_ok h8 (by rw [(unhide hy).1])
            rw [(unhide hy).2] at hr8
            obtain ⟨a8, c8, rfl, hr9⟩ := hr8
            obtain ⟨g8, rfl, hg8, hc8⟩ := hr9 (by simp)
            have r2 : w8.cell? ⟨g8, 2, none⟩ = some (.int .i64 j) := (hc8 0 _ rfl).2.2
            have hbf := hide ((unhide hbw2).trans (hb8.mono (unhide hbw2).size))
            replace hc8 := hide hc8
            clear c h8 hcv2 hr9
            go_wp2_with fail
            refine (told_nil _).mono ?_
            rintro e w9 ⟨rfl, rfl⟩
            go_wp2_with fail
            go_ret
            exact ⟨rfl, unhide hbf⟩

set_option maxRecDepth 100000 in
set_option maxHeartbeats 16000000 in
theorem bounds_C (n m : Int) (d b : Nat) (hP0 : ∀ W, Calls Tryd.prog 15 #[.int .i64 n, .int .i64 5] W fun e w' => e = .returned (.int .i64 ((d : Int) - 398)) ∧ w' = W) (hQ0 : ∀ W, Calls Tryd.prog 15 #[.int .i64 m, .int .i64 5] W fun e w' => e = .returned (.int .i64 ((b : Int) - 65534)) ∧ w' = W) (hd1 : 398 ≤ d ∧ d ≤ 402) (hb1 : 65534 ≤ b ∧ b ≤ 65538) (hd4 : ¬ 400 < d) (w : World) (hG : SG w) (hE : EH w) : Calls Tryd.prog 7 #[.int .i64 n, .int .i64 m, .bool false] w fun e w' => e = .returned (.bool true) ∧ Below w.heap.size w w' := by
  have hK := hide (known_any w hG hE)
  have h1w := hG.lt
  replace hG := hide hG
  replace hE := hide hE
  have hP := hide hP0
  have hQ := hide hQ0
  clear hP0 hQ0
  have hdi : (398 : Int) + ((d : Int) - 398) = (d : Int) := by omega
  have hbi : (65534 : Int) + ((b : Int) - 65534) = (b : Int) := by omega
  have hd5 : decide ((400 : Int) < (d : Int)) = false := by simp; omega
  have hx := tk_dg d false (by omega) (by omega)
  rw [if_neg Bool.false_ne_true, if_neg hd4] at hx
  replace hx := hide hx
  go_enter Tryd.func7, Tryd.ntmps7
  go_wp2_with fail
  refine (unhide hK).mono ?_
  rintro e w1 ⟨rfl, hb1'⟩
  replace hb1' := hide hb1'
  go_wp2_with fail
  refine (unhide hP _).mono ?_
  rintro e w2 ⟨rfl, rfl⟩
  go_wp2_with fail
  refine (unhide hQ _).mono ?_
  rintro e w3 ⟨rfl, rfl⟩
  have hmk := mkB d w3 (by omega)
  have hfy := fy_new w3 d 55
  have hbn : Below w3.heap.size w3 (w3.alloc (.cells (Lib.byteCells (List.replicate d 0)).toArray 5)) := (Below.refl _ _).alloc (Nat.le_refl _) _
  obtain ⟨V, hV⟩ : ∃ V, w3.alloc (.cells (Lib.byteCells (List.replicate d 0)).toArray 5) = V := ⟨_, rfl⟩
  rw [hV] at hmk hfy hbn
  replace hV := hide hV
  go_wp2_with fail
  go_loopw [8] (fun i wr => ∃ k : Nat, k ≤ d ∧ i = .int .i64 k ∧ FY wr w3.heap.size d k 55 ∧ Below w3.heap.size w3 wr) (fun i _ => d - (intOf i).toNat)
  case atStart => exact ⟨0, Nat.zero_le _, rfl, hfy, hbn⟩
  case round =>
    obtain ⟨k, hk, rfl, f1, f2⟩ := hrel
    clear hfy hbn hmk
    by_cases hlt : k < d
    · obtain ⟨u, hc, hf⟩ := f1.cell hlt
      have hdk : decide ((k : Int) < (d : Int)) = true := by simp; omega
      replace f1 := hide f1
      replace f2 := hide f2
      go_wp2
      exact ⟨⟨k + 1, hlt, by simp, (unhide f1).put55 hlt, (unhide f2).setCell (Nat.le_refl _) _⟩, by simp [intOf]; omega⟩
    · obtain rfl : k = d := by omega
      have hdk : decide ((k : Int) < (k : Int)) = false := by simp
      clear hlt hk
      have fb := f1.full
      have hcv : (convert 34 9 (.slice (some ⟨w3.heap.size, 0, none⟩) k k)).run Tryd.prog wr = .ok (.string ⟨(dg k false).toArray⟩) wr := fb.conv (dg_len k false)
      replace fb := hide fb
      replace f1 := hide f1
      replace f2 := hide f2
      obtain ⟨t, ht⟩ : ∃ t : ByteArray, ⟨(dg k false).toArray⟩ = t := ⟨_, rfl⟩
      rw [ht] at hcv hx
      replace ht := hide ht
      have hbw : Hid (Below w.heap.size w wr) := (unhide hb1').trans ((unhide f2).mono (unhide hb1').size)
      have c := tokens_any t wr ((unhide hG).below (unhide hbw) h1w)
      go_wp2_with fail
      refine c.mono ?_
      rintro e w5 h5
      obtain ⟨hb5, v5, rfl, hr5⟩ := tkp_ok h5 (unhide hx)
      replace hr5 := hide hr5
      have hbz := (unhide hbw).trans (hb5.mono (unhide hbw).size)
      clear c h5 hcv
      go_wp2_with fail
      refine (told_nil _).mono ?_
      rintro e w6 ⟨rfl, rfl⟩
      replace hbw := hide hbz
      clear hb5 hbz
      have hmk := mkB b w6 (by omega)
      have hfy := fy_new w6 b 32
      have hbn : Below w6.heap.size w6 (w6.alloc (.cells (Lib.byteCells (List.replicate b 0)).toArray 5)) := (Below.refl _ _).alloc (Nat.le_refl _) _
      obtain ⟨U, hU⟩ : ∃ U, w6.alloc (.cells (Lib.byteCells (List.replicate b 0)).toArray 5) = U := ⟨_, rfl⟩
      rw [hU] at hmk hfy hbn
      replace hU := hide hU
      go_wp2_with fail
      go_loopw [15] (fun i w7 => ∃ j : Nat, j ≤ b ∧ i = .int .i64 j ∧ FY w7 w6.heap.size b j 32 ∧ Below w6.heap.size w6 w7) (fun i _ => b - (intOf i).toNat)
      case atStart => exact ⟨0, Nat.zero_le _, rfl, hfy, hbn⟩
      case round =>
        obtain ⟨j, hj, rfl, n1, n2⟩ := hrel
        clear hfy hbn hmk
        by_cases hlt : j < b
        · obtain ⟨u, hc, hf⟩ := n1.cell hlt
          have hdj : decide ((j : Int) < (b : Int)) = true := by simp; omega
          replace n1 := hide n1
          replace n2 := hide n2
          go_wp2
          exact ⟨⟨j + 1, hlt, by simp, (unhide n1).put32 hlt, (unhide n2).setCell (Nat.le_refl _) _⟩, by simp [intOf]; omega⟩
        · obtain rfl : j = b := by omega
          have hdj : decide ((j : Int) < (j : Int)) = false := by simp
          clear hlt hj
          have nb := n1.full
          have hcv2 : (convert 34 9 (.slice (some ⟨w6.heap.size, 0, none⟩) j j)).run Tryd.prog wr = .ok (.string ⟨(List.replicate j 32).toArray⟩) wr := nb.conv (by simp)
          have hbw2 : Hid (Below w.heap.size w wr) := (unhide hbw).trans (n2.mono (unhide hbw).size)
          replace n1 := hide n1
          replace n2 := hide n2
          replace nb := hide nb
          obtain ⟨t2, ht2⟩ : ∃ t : ByteArray, ⟨(List.replicate j 32).toArray⟩ = t := ⟨_, rfl⟩
          rw [ht2] at hcv2
          have c := tokens_any t2 wr ((unhide hG).below (unhide hbw2) h1w)
          by_cases hgr : 65536 < j
          · have hy := tk_great j hgr
            rw [ht2] at hy
            have hdg : decide ((65536 : Int) < (j : Int)) = true := by simp; omega
            replace hy := hide hy
            replace ht2 := hide ht2
            go_wp2_with fail
            refine c.mono ?_
            rintro e w8 h8
            obtain ⟨hb8, bb2, rfl, hr8⟩ := tkp_err h8 (unhide hy)
            have hbz := (unhide hbw2).trans (hb8.mono (unhide hbw2).size)
            have c4 := told_err 65536 141 bb2 w8 ((unhide hE).below hbz (by omega)) hr8
            replace hr8 := hide hr8
            clear c h8 hcv2
            go_wp2_with fail
            refine c4.mono ?_
            rintro e w9 ⟨rfl, hb9⟩
            have hbf := hide (hbz.trans (hb9.mono hbz.size))
            clear c4
            go_wp2_with fail
            go_ret
            exact ⟨rfl, unhide hbf⟩
          · have hy := And.intro (tk_blanks j (by omega)) (tkL_blanks j (by omega))
            rw [ht2] at hy
            have hdg : decide ((65536 : Int) < (j : Int)) = false := by simp; omega
            replace hy := hide hy
            replace ht2 := hide ht2
            go_wp2_with fail
            refine c.mono ?_
            rintro e w8 h8
            obtain ⟨hb8, v8, rfl, hr8⟩ := tkp_ok h8 (by rw [(unhide hy).1])
            rw [(unhide hy).2] at hr8
            obtain ⟨a8, c8, rfl, hr9⟩ := hr8
            obtain ⟨g8, rfl, hg8, hc8⟩ := hr9 (by simp)
            have r2 : w8.cell? ⟨g8, 2, none⟩ = some (.int .i64 j) := (hc8 0 _ rfl).2.2
            have hbf := hide ((unhide hbw2).trans (hb8.mono (unhide hbw2).size))
            replace hc8 := hide hc8
            clear c h8 hcv2 hr9
            go_wp2_with fail
            refine (told_nil _).mono ?_
            rintro e w9 ⟨rfl, rfl⟩
            go_wp2_with fail
            go_ret
            exact ⟨rfl, unhide hbf⟩

theorem bounds_walk (n m : Int) (nought : Bool) (w : World) (hG : SG w) (hE : EH w) : Calls Tryd.prog 7 #[.int .i64 n, .int .i64 m, .bool nought] w fun e w' => e = .returned (.bool true) ∧ Below w.heap.size w w' := by
  obtain ⟨d, hd, hd1⟩ : ∃ d : Nat, plc n 5 = (d : Int) - 398 ∧ (398 ≤ d ∧ d ≤ 402) := ⟨(plc n 5).toNat + 398, by have := plc_in n (n := 5) (by omega); omega, by have := plc_in n (n := 5) (by omega); omega⟩
  obtain ⟨b, hb, hb1⟩ : ∃ b : Nat, plc m 5 = (b : Int) - 65534 ∧ (65534 ≤ b ∧ b ≤ 65538) := ⟨(plc m 5).toNat + 65534, by have := plc_in m (n := 5) (by omega); omega, by have := plc_in m (n := 5) (by omega); omega⟩
  have hP := fun W => place_any n 5 W (by omega) (by omega)
  rw [hd] at hP
  have hQ := fun W => place_any m 5 W (by omega) (by omega)
  rw [hb] at hQ
  cases nought with
  | true => exact bounds_A n m d b hP hQ hd1 hb1 w hG hE
  | false =>
    by_cases h4 : 400 < d
    · exact bounds_B n m d b hP hQ hd1 hb1 h4 w hG hE
    · exact bounds_C n m d b hP hQ hd1 hb1 h4 w hG hE
end Go.Proofs.YtjkaibnblkggbaaDoor

namespace Go.Proofs.YtjkaibnblkggbaaDoor
open Go Go.RowKit

theorem la_et : Tryd.prog.globalNamed "errors.errorType" = some 0 := by kernel_rfl
theorem la_rt : (Tryd.prog.cutTypes.find? (·.1 == "internal/reflectlite.rtype")).map (·.2) = some 75 := by kernel_rfl
theorem la_one : ((List.range Tryd.prog.types.size).filter fun t => Tryd.prog.rowNamed t [101, 114, 114, 111, 114]) = [25] := by kernel_rfl
theorem eh_of {W : World} (h : handlesMet Tryd.prog [("errors.errorType", Rows.laid_errors_errorType)] W) : EH W := by
  obtain ⟨name, u, ty, e1, e2, e3, e4, e5⟩ := h _ (List.mem_singleton.2 rfl)
  have en : name = [101, 114, 114, 111, 114] := (Option.some.inj e1).symm
  subst en
  obtain rfl := Option.some.inj (la_rt.symm.trans e2)
  have hm : ty ∈ (List.range Tryd.prog.types.size).filter fun t => Tryd.prog.rowNamed t [101, 114, 114, 111, 114] := List.mem_filter.2 ⟨List.mem_range.2 e3, e4⟩
  rw [la_one] at hm
  obtain rfl := List.mem_singleton.1 hm
  have hh : typeHandle Tryd.prog 25 = .pointer (some ⟨4, 25, none⟩) := by kernel_rfl
  rw [hh] at e5
  have := World.var?_cell la_et e5 0
  simpa [EH] using this
theorem la_sg : Tryd.prog.globalNamed "avow/lex.signs" = some 1 := by kernel_rfl
theorem la_st : (Tryd.prog.globals[1]?).map (·.type) = some 73 := by kernel_rfl
theorem la_arr : Tryd.prog.underlying 73 = some (.array 25 9) := by kernel_rfl
theorem la_ca : Tryd.prog.cellsOf 73 = 25 := by kernel_rfl
theorem la_ce : Tryd.prog.cellsOf 9 = 1 := by kernel_rfl
theorem la_data : (Rows.laid_avow_lex_signs : DataW Unit) = .agg ((List.range 25).map fun k => .lit (.string (sgB k).data.toList)) := by kernel_rfl
theorem sg_of {W : World} (h : Lib.VarReads Tryd.prog W "avow/lex.signs" Rows.laid_avow_lex_signs) : SG W := by
  obtain ⟨g, t, cs, fuel, p, hg, hty, hvar, hd⟩ := h
  obtain rfl := Option.some.inj (la_sg.symm.trans hg)
  obtain rfl := Option.some.inj (la_st.symm.trans hty)
  obtain ⟨xs, m, _, hx, hl, hxl, hall⟩ := DataW.trod_array la_arr hd
  rw [la_ca] at hl
  have hxs : xs.map (·.1) = (List.range 25).map fun k => (.lit (.string (sgB k).data.toList) : DataW Unit) := by
    have := congrArg Prod.fst hx
    simp only [la_data] at this
    injection this with this
    exact this.symm
  have hcs : cs.toList = signV := by
    apply List.ext_getElem?
    intro i
    by_cases hi : i < 25
    · have h1 := hall i hi
      obtain ⟨b, hb⟩ : ∃ b, xs[i]? = some b := ⟨xs[i]'(by omega), List.getElem?_eq_getElem (by omega)⟩
      rw [hb, la_ce] at h1
      obtain ⟨z, hcz, rfl, _⟩ := DataW.trod_string (P := Tryd.prog) (t := 9) (by kernel_rfl) h1
      have h2 : cs.toList[i]? = some (.string z) := by
        have := congrArg (·[0]?) hcz
        simpa [List.getElem?_take, List.getElem?_drop] using this
      have h3 : (xs.map (·.1))[i]? = some (.lit (.string z.data.toList) : DataW Unit) := by simp [hb]
      rw [hxs, List.getElem?_map, List.getElem?_range hi] at h3
      simp only [Option.map_some, Option.some.injEq, DataW.lit.injEq, Lit.string.injEq] at h3
      have hz : z = sgB i := by
        cases z with
        | mk z =>
          obtain ⟨y, hy⟩ : ∃ y, sgB i = y := ⟨_, rfl⟩
          rw [hy] at h3 ⊢
          cases y with
          | mk y => simp only at h3; rw [Array.toList_inj.1 h3.symm]
      rw [h2, hz]
      unfold signV
      rw [List.getElem?_map, List.getElem?_range hi]
      rfl
    · rw [List.getElem?_eq_none (by omega), List.getElem?_eq_none (by simp [signV]; omega)]
  unfold World.var? at hvar
  rw [la_sg] at hvar
  simp only [Option.bind_some] at hvar
  split at hvar
  · rename_i c t fr hh
    obtain rfl := Option.some.inj hvar
    refine ⟨t, fr, ?_⟩
    rw [← hcs]
    simpa using hh
  · cases hvar
/-- A row that lists errors.errorType and the signs. -/
theorem two_of {W : World} (h : laidMetH Tryd.prog [("errors.errorType", Rows.laid_errors_errorType), ("avow/lex.signs", Rows.laid_avow_lex_signs)] W) : SG W ∧ EH W := by
  have h' : laidMet Tryd.prog [("avow/lex.signs", Rows.laid_avow_lex_signs)] W ∧ handlesMet Tryd.prog [("errors.errorType", Rows.laid_errors_errorType)] W := h
  exact ⟨sg_of (Lib.laidMet.reads h'.1 (List.mem_singleton.2 rfl)), eh_of h'.2⟩
end Go.Proofs.YtjkaibnblkggbaaDoor
