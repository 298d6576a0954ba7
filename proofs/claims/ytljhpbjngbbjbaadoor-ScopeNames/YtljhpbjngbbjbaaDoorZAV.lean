/- ScopeNames: a frame in which region 17 has written. -/
import Derived.Test.YtljhpbjngbbjbaaDoorZAU
import Derived.Test.YtljhpbjngbbjbaaDoorZAC
import Derived.Test.YtljhpbjngbbjbaaDoorZAH
import Derived.Test.YtljhpbjngbbjbaaDoorZAE
set_option linter.unusedVariables false
set_option linter.unusedSimpArgs false

/- ScopeNames: its texts, and their bytes by a function. -/
namespace Go.Proofs.YtljhpbjngbbjbaaDoor
open Go Go.RowKit
def nmN (y : Bool) (i : Nat) : Nat := if y then 100 - i else i
def nmH (y : Bool) : ByteArray := if y then ⟨#[108, 101, 116, 32, 121]⟩ else ⟨#[108, 101, 116, 32, 120]⟩
def nmC (y : Bool) : ByteArray := if y then ⟨#[121]⟩ else ⟨#[120]⟩
/-- So many binders, one within the other. -/
def nmA (y : Bool) : Nat → ByteArray
  | 0 => ⟨#[]⟩
  | i + 1 => nmA y i ++ nmH y ++ numF 2 (nmN y i) ++ ⟨#[32, 61, 32]⟩ ++ numF 2 i ++ ⟨#[32, 105, 110, 32]⟩
def nmT (y : Bool) (d k : Nat) : ByteArray := ⟨#[108, 101, 116, 32, 102, 32, 58, 32, 80, 117, 114, 101, 32, 105, 110, 116, 32, 105, 115, 32]⟩ ++ nmA y d ++ nmC y ++ numF 2 (nmN y k) ++ ⟨#[59, 59]⟩
def lsB (s : ByteArray) : List UInt8 := s.data.toList
theorem lsB_app (a b : ByteArray) : lsB (a ++ b) = lsB a ++ lsB b := by simp [lsB, ByteArray.data_append]
def nmL (y : Bool) : Nat → List UInt8
  | 0 => []
  | i + 1 => nmL y i ++ (lsB (nmH y) ++ (lsB (numF 2 (nmN y i)) ++ ([32, 61, 32] ++ (lsB (numF 2 i) ++ [32, 105, 110, 32]))))
def hdN : List UInt8 := [108, 101, 116, 32, 102, 32, 58, 32, 80, 117, 114, 101, 32, 105, 110, 116, 32, 105, 115, 32]
def tlN (y : Bool) (k : Nat) : List UInt8 := lsB (nmC y) ++ (lsB (numF 2 (nmN y k)) ++ [59, 59])
theorem nmA_list (y : Bool) : ∀ d, lsB (nmA y d) = nmL y d
  | 0 => rfl
  | d + 1 => by
    show lsB (nmA y d ++ nmH y ++ numF 2 (nmN y d) ++ ⟨#[32, 61, 32]⟩ ++ numF 2 d ++ ⟨#[32, 105, 110, 32]⟩) = _
    simp only [lsB_app, nmA_list y d]
    show _ = nmL y d ++ _
    simp only [List.append_assoc]
    rfl
theorem nmT_list (y : Bool) (d k : Nat) : lsB (nmT y d k) = (hdN ++ nmL y d) ++ tlN y k := by
  unfold nmT tlN
  simp only [lsB_app, nmA_list y d, List.append_assoc]
  rfl
/-- What stands ahead of the name, of as many binders as may be. -/
def upN (y : Bool) : List (List Nat) := if y then [[108, 101, 116, 32, 102, 32, 58, 32, 80, 117, 114, 101, 32, 105, 110, 116, 32, 105], [115, 32, 108, 101, 116, 32, 121, 49, 48, 48, 32, 61, 32, 48, 32, 105, 110, 32], [108, 101, 116, 32, 121, 57, 57, 32, 61, 32, 49, 32, 105, 110, 32, 108, 101, 116], [32, 121, 57, 56, 32, 61, 32, 50, 32, 105, 110, 32, 108, 101, 116, 32, 121, 57], [55, 32, 61, 32, 51, 32, 105, 110, 32, 108, 101, 116, 32, 121, 57, 54, 32, 61], [32, 52, 32, 105, 110, 32, 108, 101, 116, 32, 121, 57, 53, 32, 61, 32, 53, 32], [105, 110, 32, 108, 101, 116, 32, 121, 57, 52, 32, 61, 32, 54, 32, 105, 110, 32], [108, 101, 116, 32, 121, 57, 51, 32, 61, 32, 55, 32, 105, 110, 32, 108, 101, 116], [32, 121, 57, 50, 32, 61, 32, 56, 32, 105, 110, 32, 108, 101, 116, 32, 121, 57], [49, 32, 61, 32, 57, 32, 105, 110, 32, 108, 101, 116, 32, 121, 57, 48, 32, 61], [32, 49, 48, 32, 105, 110, 32, 108, 101, 116, 32, 121, 56, 57, 32, 61, 32, 49], [49, 32, 105, 110, 32, 108, 101, 116, 32, 121, 56, 56, 32, 61, 32, 49, 50, 32], [105, 110, 32, 108, 101, 116, 32, 121, 56, 55, 32, 61, 32, 49, 51, 32, 105, 110], [32, 108, 101, 116, 32, 121, 56, 54, 32, 61, 32, 49, 52, 32, 105, 110, 32, 108], [101, 116, 32, 121, 56, 53, 32, 61, 32, 49, 53, 32, 105, 110, 32, 108, 101, 116], [32, 121, 56, 52, 32, 61, 32, 49, 54, 32, 105, 110, 32, 108, 101, 116, 32, 121], [56, 51, 32, 61, 32, 49, 55, 32, 105, 110, 32, 108, 101, 116, 32, 121, 56, 50], [32, 61, 32, 49, 56, 32, 105, 110, 32, 108, 101, 116, 32, 121, 56, 49, 32, 61], [32, 49, 57, 32, 105, 110, 32]] else [[108, 101, 116, 32, 102, 32, 58, 32, 80, 117, 114, 101, 32, 105, 110, 116, 32, 105], [115, 32, 108, 101, 116, 32, 120, 48, 32, 61, 32, 48, 32, 105, 110, 32, 108, 101], [116, 32, 120, 49, 32, 61, 32, 49, 32, 105, 110, 32, 108, 101, 116, 32, 120, 50], [32, 61, 32, 50, 32, 105, 110, 32, 108, 101, 116, 32, 120, 51, 32, 61, 32, 51], [32, 105, 110, 32, 108, 101, 116, 32, 120, 52, 32, 61, 32, 52, 32, 105, 110, 32], [108, 101, 116, 32, 120, 53, 32, 61, 32, 53, 32, 105, 110, 32, 108, 101, 116, 32], [120, 54, 32, 61, 32, 54, 32, 105, 110, 32, 108, 101, 116, 32, 120, 55, 32, 61], [32, 55, 32, 105, 110, 32, 108, 101, 116, 32, 120, 56, 32, 61, 32, 56, 32, 105], [110, 32, 108, 101, 116, 32, 120, 57, 32, 61, 32, 57, 32, 105, 110, 32, 108, 101], [116, 32, 120, 49, 48, 32, 61, 32, 49, 48, 32, 105, 110, 32, 108, 101, 116, 32], [120, 49, 49, 32, 61, 32, 49, 49, 32, 105, 110, 32, 108, 101, 116, 32, 120, 49], [50, 32, 61, 32, 49, 50, 32, 105, 110, 32, 108, 101, 116, 32, 120, 49, 51, 32], [61, 32, 49, 51, 32, 105, 110, 32, 108, 101, 116, 32, 120, 49, 52, 32, 61, 32], [49, 52, 32, 105, 110, 32, 108, 101, 116, 32, 120, 49, 53, 32, 61, 32, 49, 53], [32, 105, 110, 32, 108, 101, 116, 32, 120, 49, 54, 32, 61, 32, 49, 54, 32, 105], [110, 32, 108, 101, 116, 32, 120, 49, 55, 32, 61, 32, 49, 55, 32, 105, 110, 32], [108, 101, 116, 32, 120, 49, 56, 32, 61, 32, 49, 56, 32, 105, 110, 32, 108, 101], [116, 32, 120, 49, 57, 32, 61, 32, 49, 57, 32, 105, 110, 32]]
def ofN (y : Bool) (d : Nat) : Nat := (if y then [20, 36, 51, 66, 81, 96, 111, 126, 141, 156, 171, 187, 203, 219, 235, 251, 267, 283, 299, 315, 331] else [20, 34, 48, 62, 76, 90, 104, 118, 132, 146, 160, 176, 192, 208, 224, 240, 256, 272, 288, 304, 320] : List Nat).getD d 0
def cuN (y : Bool) (i : Nat) : Nat := ((upN y).getD (i / 18) []).getD (i % 18) 0
def taN (y : Bool) (k : Nat) : List Nat := (tlN y k).map UInt8.toNat
/-- The bytes of a text. -/
def byN (y : Bool) (m : Nat) (t : List Nat) (i : Nat) : Nat := if i < m then cuN y i else t.getD (i - m) 0
def ckU (y : Bool) : Nat → List UInt8 → Bool
  | _, [] => true
  | i, x :: l => decide (x.toNat = cuN y i) && decide (x.toNat < 128) && ckU y (i + 1) l
theorem ckU_of {y : Bool} : ∀ (l : List UInt8) (i j : Nat) (x : UInt8), ckU y i l = true → l[j]? = some x → x.toNat = cuN y (i + j) ∧ x.toNat < 128
  | [], _, _, _, _, h => by simp at h
  | u :: l, i, 0, x, h, hx => by
    unfold ckU at h
    simp only [Bool.and_eq_true, decide_eq_true_eq] at h
    obtain rfl : u = x := by simpa using hx
    exact h.1
  | u :: l, i, j + 1, x, h, hx => by
    unfold ckU at h
    simp only [Bool.and_eq_true, decide_eq_true_eq] at h
    have := ckU_of l (i + 1) j x h.2 (by simpa using hx)
    rw [show i + (j + 1) = i + 1 + j by omega]
    exact this
theorem up_ok (y : Bool) : ckU y 0 (hdN ++ nmL y 20) = true := by cases y <;> kernel_rfl
theorem of_ok (y : Bool) : ((List.range 21).all fun d => decide (ofN y d = (hdN ++ nmL y d).length)) = true := by cases y <;> kernel_rfl
theorem ta_ok (y : Bool) : ((List.range 20).all fun k => (taN y k).all fun x => decide (x < 128)) = true := by cases y <;> kernel_rfl
theorem nmL_pre (y : Bool) (d : Nat) : ∀ j, ∃ r, nmL y (d + j) = nmL y d ++ r
  | 0 => ⟨[], by simp⟩
  | j + 1 => by
    obtain ⟨r, h⟩ := nmL_pre y d j
    refine ⟨r ++ (lsB (nmH y) ++ (lsB (numF 2 (nmN y (d + j))) ++ ([32, 61, 32] ++ (lsB (numF 2 (d + j)) ++ [32, 105, 110, 32])))), ?_⟩
    show nmL y (d + j) ++ _ = _
    rw [h, List.append_assoc]
    rfl
theorem sz_lst (s : ByteArray) : s.size = (lsB s).length := (Array.length_toList).symm
theorem by_lst {s : ByteArray} {i : Nat} (hi : i < s.size) : ∃ x, (lsB s)[i]? = some x ∧ By s i = x.toNat := by
  have h1 : i < s.data.size := hi
  refine ⟨s.data[i], by unfold lsB; simp [h1], ?_⟩
  unfold By
  rw [get_lt s i hi]
  rfl
theorem nm_bytes {y : Bool} {d k : Nat} (hd : d ≤ 20) (hk : k < 20) : (nmT y d k).size = ofN y d + (taN y k).length ∧ ∀ i, i < (nmT y d k).size → By (nmT y d k) i = byN y (ofN y d) (taN y k) i ∧ byN y (ofN y d) (taN y k) i < 128 := by
  have h1 := nmT_list y d k
  have h2 : ofN y d = (hdN ++ nmL y d).length := of_decide_eq_true (List.all_eq_true.1 (of_ok y) d (List.mem_range.2 (by omega)))
  have hsz : (nmT y d k).size = (lsB (nmT y d k)).length := sz_lst _
  have hta : (taN y k).length = (tlN y k).length := List.length_map _
  refine ⟨by rw [hsz, h1, List.length_append, h2, hta], fun i hi => ?_⟩
  obtain ⟨x, hx, hb⟩ := by_lst hi
  rw [h1] at hx
  rw [hb]
  unfold byN
  by_cases hm : i < ofN y d
  · rw [if_pos hm]
    rw [List.getElem?_append_left (by omega)] at hx
    obtain ⟨r, hr⟩ := nmL_pre y d (20 - d)
    rw [show d + (20 - d) = 20 by omega] at hr
    have h3 : (hdN ++ nmL y 20)[i]? = some x := by
      rw [hr, ← List.append_assoc, List.getElem?_append_left (by omega)]
      exact hx
    have h4 := ckU_of _ 0 i x (up_ok y) h3
    rw [Nat.zero_add] at h4
    exact ⟨h4.1, by rw [← h4.1]; exact h4.2⟩
  · rw [if_neg hm]
    rw [List.getElem?_append_right (by omega), ← h2] at hx
    have h5 : (taN y k).getD (i - ofN y d) 0 = x.toNat := by
      unfold taN
      rw [List.getD_eq_getElem?_getD, List.getElem?_map, hx]
      rfl
    rw [h5]
    refine ⟨rfl, ?_⟩
    have h6 := List.all_eq_true.1 (ta_ok y) k (List.mem_range.2 hk)
    have h7 : x.toNat ∈ taN y k := by
      unfold taN
      exact List.mem_map_of_mem (List.mem_of_getElem? hx)
    exact of_decide_eq_true (List.all_eq_true.1 h6 _ h7)
/-- So far within, by second operands: the number there. -/
def deepI : Nat → Er → Option Int
  | 0, t => some t.i
  | d + 1, t => match t.l with
    | [_, u] => deepI d u
    | _ => none
def ckV (d k : Nat) (x : Except (Int × Int) (List De)) : Bool := match x with
  | .error _ => false
  | .ok l => l.all (hiD 30) && decide (coS 30 l ≤ 65536) && decide (l.length = 1) && (match rxR 30 l with
    | .ok [z] => decide (deepI d z.body = some ((d : Int) - 1 - k))
    | _ => false)
def ckNm (y : Bool) (d k : Nat) : Bool := lxOk (byN y (ofN y d) (taN y k)) (ofN y d + (taN y k).length) (lxF (byN y (ofN y d) (taN y k)) (ofN y d + (taN y k).length) (ofN y d + (taN y k).length) 0) && ckV d k (progD (toF (byN y (ofN y d) (taN y k)) (ofN y d + (taN y k).length) (lxF (byN y (ofN y d) (taN y k)) (ofN y d + (taN y k).length) (ofN y d + (taN y k).length) 0).1))
theorem ckNm_of {y : Bool} {d k : Nat} (hd : d ≤ 20) (hk : k < 20) (h : ckNm y d k = true) : ∃ l z, progRD (nmT y d k) = .ok l ∧ l.all (hiD 30) = true ∧ coS 30 l ≤ 65536 ∧ l.length = 1 ∧ rxR 30 l = .ok [z] ∧ deepI d z.body = some ((d : Int) - 1 - k) := by
  unfold ckNm at h
  rw [Bool.and_eq_true] at h
  obtain ⟨h1, h2⟩ := nm_bytes (y := y) hd hk
  have h3 : ofN y d ≤ 1000 := by
    have : ((List.range 21).all fun d => decide (ofN y d ≤ 1000)) = true := by cases y <;> kernel_rfl
    exact of_decide_eq_true (List.all_eq_true.1 this d (List.mem_range.2 (by omega)))
  have h4 : (taN y k).length ≤ 1000 := by
    have : ((List.range 20).all fun k => decide ((taN y k).length ≤ 1000)) = true := by cases y <;> kernel_rfl
    exact of_decide_eq_true (List.all_eq_true.1 this k (List.mem_range.2 hk))
  have h5 := prF h2 h1 (by omega) h.1
  have h6 := h.2
  rw [← h5] at h6
  unfold ckV at h6
  split at h6
  · cases h6
  · rename_i l e
    simp only [Bool.and_eq_true, decide_eq_true_eq] at h6
    obtain ⟨⟨⟨a1, a2⟩, a3⟩, a4⟩ := h6
    split at a4
    · rename_i z ez
      exact ⟨l, z, e, a1, a2, a3, ez, by simpa using a4⟩
    · cases a4
end Go.Proofs.YtljhpbjngbbjbaaDoor

/- ScopeNames: the kernel's part. -/
namespace Go.Proofs.YtljhpbjngbbjbaaDoor
open Go Go.RowKit
theorem nka_1 : ((List.range 1).all fun k => ckNm false 1 k) = true := by kernel_rfl
theorem nka_2 : ((List.range 2).all fun k => ckNm false 2 k) = true := by kernel_rfl
theorem nka_3 : ((List.range 3).all fun k => ckNm false 3 k) = true := by kernel_rfl
theorem nka_4 : ((List.range 4).all fun k => ckNm false 4 k) = true := by kernel_rfl
theorem nka_5 : ((List.range 5).all fun k => ckNm false 5 k) = true := by kernel_rfl
theorem nka_6 : ((List.range 6).all fun k => ckNm false 6 k) = true := by kernel_rfl
theorem nka_7 : ((List.range 7).all fun k => ckNm false 7 k) = true := by kernel_rfl
theorem nka_8 : ((List.range 8).all fun k => ckNm false 8 k) = true := by kernel_rfl
theorem nka_9 : ((List.range 9).all fun k => ckNm false 9 k) = true := by kernel_rfl
theorem nka_10 : ((List.range 10).all fun k => ckNm false 10 k) = true := by kernel_rfl
theorem nka_11 : ((List.range 11).all fun k => ckNm false 11 k) = true := by kernel_rfl
theorem nka_12 : ((List.range 12).all fun k => ckNm false 12 k) = true := by kernel_rfl
end Go.Proofs.YtljhpbjngbbjbaaDoor

/- ScopeNames: the kernel's part. -/
namespace Go.Proofs.YtljhpbjngbbjbaaDoor
open Go Go.RowKit
theorem nkb_13 : ((List.range 13).all fun k => ckNm false 13 k) = true := by kernel_rfl
theorem nkb_14 : ((List.range 14).all fun k => ckNm false 14 k) = true := by kernel_rfl
theorem nkb_15 : ((List.range 15).all fun k => ckNm false 15 k) = true := by kernel_rfl
end Go.Proofs.YtljhpbjngbbjbaaDoor

/- ScopeNames: the kernel's part. -/
namespace Go.Proofs.YtljhpbjngbbjbaaDoor
open Go Go.RowKit
theorem nkc_16 : ((List.range 16).all fun k => ckNm false 16 k) = true := by kernel_rfl
theorem nkc_17 : ((List.range 17).all fun k => ckNm false 17 k) = true := by kernel_rfl
theorem nkc_18 : ((List.range 18).all fun k => ckNm false 18 k) = true := by kernel_rfl
end Go.Proofs.YtljhpbjngbbjbaaDoor

/- ScopeNames: the kernel's part. -/
namespace Go.Proofs.YtljhpbjngbbjbaaDoor
open Go Go.RowKit
theorem nkd_19 : ((List.range 19).all fun k => ckNm false 19 k) = true := by kernel_rfl
theorem nkd_20 : ((List.range 20).all fun k => ckNm false 20 k) = true := by kernel_rfl
end Go.Proofs.YtljhpbjngbbjbaaDoor

/- ScopeNames: the kernel's part. -/
namespace Go.Proofs.YtljhpbjngbbjbaaDoor
open Go Go.RowKit
theorem nke_1 : ((List.range 1).all fun k => ckNm true 1 k) = true := by kernel_rfl
theorem nke_2 : ((List.range 2).all fun k => ckNm true 2 k) = true := by kernel_rfl
theorem nke_3 : ((List.range 3).all fun k => ckNm true 3 k) = true := by kernel_rfl
theorem nke_4 : ((List.range 4).all fun k => ckNm true 4 k) = true := by kernel_rfl
theorem nke_5 : ((List.range 5).all fun k => ckNm true 5 k) = true := by kernel_rfl
theorem nke_6 : ((List.range 6).all fun k => ckNm true 6 k) = true := by kernel_rfl
theorem nke_7 : ((List.range 7).all fun k => ckNm true 7 k) = true := by kernel_rfl
theorem nke_8 : ((List.range 8).all fun k => ckNm true 8 k) = true := by kernel_rfl
theorem nke_9 : ((List.range 9).all fun k => ckNm true 9 k) = true := by kernel_rfl
theorem nke_10 : ((List.range 10).all fun k => ckNm true 10 k) = true := by kernel_rfl
theorem nke_11 : ((List.range 11).all fun k => ckNm true 11 k) = true := by kernel_rfl
theorem nke_12 : ((List.range 12).all fun k => ckNm true 12 k) = true := by kernel_rfl
end Go.Proofs.YtljhpbjngbbjbaaDoor

/- ScopeNames: the kernel's part. -/
namespace Go.Proofs.YtljhpbjngbbjbaaDoor
open Go Go.RowKit
theorem nkf_13 : ((List.range 13).all fun k => ckNm true 13 k) = true := by kernel_rfl
theorem nkf_14 : ((List.range 14).all fun k => ckNm true 14 k) = true := by kernel_rfl
theorem nkf_15 : ((List.range 15).all fun k => ckNm true 15 k) = true := by kernel_rfl
end Go.Proofs.YtljhpbjngbbjbaaDoor

/- ScopeNames: the kernel's part. -/
namespace Go.Proofs.YtljhpbjngbbjbaaDoor
open Go Go.RowKit
theorem nkg_16 : ((List.range 16).all fun k => ckNm true 16 k) = true := by kernel_rfl
theorem nkg_17 : ((List.range 17).all fun k => ckNm true 17 k) = true := by kernel_rfl
theorem nkg_18 : ((List.range 18).all fun k => ckNm true 18 k) = true := by kernel_rfl
end Go.Proofs.YtljhpbjngbbjbaaDoor

/- ScopeNames: the kernel's part. -/
namespace Go.Proofs.YtljhpbjngbbjbaaDoor
open Go Go.RowKit
theorem nkh_19 : ((List.range 19).all fun k => ckNm true 19 k) = true := by kernel_rfl
theorem nkh_20 : ((List.range 20).all fun k => ckNm true 20 k) = true := by kernel_rfl
end Go.Proofs.YtljhpbjngbbjbaaDoor

/- ScopeNames: its two drawn regions. -/
namespace Go.Proofs.YtljhpbjngbbjbaaDoor
open Go Go.RowKit
def zeN : List Value := [.int .i64 0, .string ⟨#[]⟩, .string ⟨#[]⟩, .bool false, .slice none 0 0, .int .i64 0, .int .i64 0]
theorem exN_info : (Tryd.prog.info? 51).map (·.size) = some 7 := by kernel_rfl
theorem ix_deN {b o c : Nat} {w : World} : (Instr.indexAt 23 (.slice (some ⟨b, o, none⟩) 1 c) (.int .i64 0)).run Tryd.prog w = .ok (.pointer (some ⟨b, o, none⟩)) w := by
  go_simp
theorem ix_exN {b o c : Nat} {w : World} : (Instr.indexAt 47 (.slice (some ⟨b, o, none⟩) 2 c) (.int .i64 1)).run Tryd.prog w = .ok (.pointer (some ⟨b, o + 7, none⟩)) w := by
  go_simp
theorem fa_deN {b o : Nat} {w : World} : (Instr.fieldAt 53 (.pointer (some ⟨b, o, none⟩)) 11).run Tryd.prog w = .ok (.pointer (some ⟨b, o + 14, none⟩)) w := by
  go_simp
theorem fa_exN {b : Nat} {w : World} : (Instr.fieldAt 51 (.pointer (some ⟨b, 0, none⟩)) 4).run Tryd.prog w = .ok (.pointer (some ⟨b, 4, none⟩)) w := by
  go_simp
theorem ld_exN {w : World} {b o : Nat} {l : List Value} (h : w.rangeAt b o l) (hl : l.length = 7) : (Instr.loadAt 51 (.pointer (some ⟨b, o, none⟩))).run Tryd.prog w = .ok (.agg l.toArray) w := run_loadAt_mid (P := Tryd.prog) w b o 51 l _ h Tryd.underlying51 rfl (by rw [exN_info, hl])
theorem ld_slN {w : World} {b : Nat} {a : Option Addr} {n c : Nat} (h : w.cell? ⟨b, 4, none⟩ = some (.slice a n c)) : (Instr.loadAt 47 (.pointer (some ⟨b, 4, none⟩))).run Tryd.prog w = .ok (.slice a n c) w := by
  go_simp
section
variable {X : Exit → Act → World → Prop} {K : Act → World → Prop} {a0 : Act} {w : World} {dst : Option Tmp} {ty : TypeId} {pos : String} {af : Array Edge} {gd : Option (Nat × Bool)}
theorem op_idxN {t : TypeId} {x ix : Operand} {u i v : Value} (h1 : a0.eval x = u) (h2 : a0.eval ix = i) (hr : (Instr.indexAt t u i).run Tryd.prog w = .ok v w) (h : K (a0.put dst v) w) : Oper.wp Tryd.prog ⟨dst, .indexAddr t x ix, ty, pos, af, gd⟩ a0 w K X := by
  unfold Oper.wp
  simp only [execOp, h1, h2]
  simp [go_sem, hr, Oper.upon]
  exact h
set_option maxRecDepth 100000 in
theorem op_alN (h : K (a0.put dst (.pointer (some ⟨w.heap.size, 0, none⟩))) (w.alloc (.cells zeN.toArray 51))) : Oper.wp Tryd.prog ⟨dst, .alloc 51, ty, pos, af, gd⟩ a0 w K X := by
  unfold zeN at h
  unfold Oper.wp
  go_simp
  exact h
theorem op_stN {k1 k2 q : Nat} {l : List Value} {cs : Array Value} (h1 : a0.tmps.getD k1 undef = .pointer (some ⟨q, 0, none⟩)) (h2 : a0.tmps.getD k2 undef = .agg l.toArray) (hz : w.heap[q]? = some (.cells cs 51)) (hc : cs.size = 7) (hl : l.length = 7) (ho : l.all (·.oneCell') = true) (h : K a0 (setN w q 0 l)) : Oper.wp Tryd.prog ⟨none, .store 51 (.tmp k1) (.tmp k2), ty, pos, af, gd⟩ a0 w K X :=
  wp_store_mid 51 (.tmp k1) (.tmp k2) rfl q 0 l.toArray h1 h2 (by simpa [hl] using there_of (o := 0) (n := 7) hz (by omega)) (by rw [exN_info]; simp [hl]) (all_one l ho) (by rw [setCells_eq, List.toList_toArray]; exact h)
end
/-- Behind a node's seven cells: its text of cells. -/
def nodC (t : Er) (s : Option Addr × Nat × Nat) : List Value := nodeC t s.1 s.2.1 s.2.2
/-- How far region 17 has come. -/
def boxN (W : World) (x1 x2 : List Value) (L : Nat → Bool) (s : Nat → Value) (w : World) : Prop :=
  Below W.heap.size W w ∧ (L 8 = true → ∃ q, s 8 = .pointer (some ⟨q, 0, none⟩) ∧ W.heap.size ≤ q ∧ w.heap[q]? = some (.cells (if L 10 = true then x1 else zeN).toArray 51)) ∧ (L 9 = true → ∃ q, s 9 = .pointer (some ⟨q, 0, none⟩) ∧ W.heap.size ≤ q ∧ w.heap[q]? = some (.cells (if L 11 = true then x2 else zeN).toArray 51)) ∧ (L 8 = true → L 9 = true → s 8 ≠ s 9)
set_option maxRecDepth 100000 in
set_option maxHeartbeats 8000000 in
theorem names_r17 {Q : Exit → Act → World → Prop} {a0 : Act} {W : World} {b1 o1 b2 o2 c1 c2 : Nat} {t1 t2 : Er} {s1 s2 : Option Addr × Nat × Nat} (hN : a0.tmps.size = 157) (h0 : a0.tmps[14]? = some (.slice (some ⟨b1, o1, none⟩) 1 c1)) (h1 : a0.tmps[16]? = some (.slice (some ⟨b2, o2, none⟩) 1 c2)) (hr1 : W.rangeAt b1 (o1 + 14) (nodC t1 s1)) (hr2 : W.rangeAt b2 (o2 + 14) (nodC t2 s2)) (hb1 : b1 < W.heap.size) (hb2 : b2 < W.heap.size)
    (hend : ∀ (a : Act) (w : World) (qx qy : Nat), a.defers = a0.defers → (∀ k, k ∈ ((List.range 157).filter fun i => !([112, 113, 114, 115, 116, 117, 118, 119, 18, 19].contains i)) → a.tmps[k]? = a0.tmps[k]?) → a.tmps.size = 157 → a.tmps[18]? = some (.pointer (some ⟨qx, 0, none⟩)) → a.tmps[19]? = some (.pointer (some ⟨qy, 0, none⟩)) → qx ≠ qy → W.heap.size ≤ qx → W.heap.size ≤ qy → Below W.heap.size W w → w.heap[qx]? = some (.cells (nodC t1 s1).toArray 51) → w.heap[qy]? = some (.cells (nodC t2 s2).toArray 51) → Q .normal a w) :
    (Code.region 17 (regionOf Tryd.f5 17).toArray true).wp Tryd.prog Q a0 W := by
  have hl : (regionOf Tryd.f5 17).length = 12 := by kernel_rfl
  have hds : ((List.range 12).all fun i => i == 10 || i == 11 || ((regionOf Tryd.f5 17).getD i default).dst.isSome) = true := by kernel_rfl
  have hk0 : 14 ∈ ((List.range 157).filter fun i => !([112, 113, 114, 115, 116, 117, 118, 119, 18, 19].contains i)) := by decide
  have hk1 : 16 ∈ ((List.range 157).filter fun i => !([112, 113, 114, 115, 116, 117, 118, 119, 18, 19].contains i)) := by decide
  refine wp_region_any (by kernel_rfl) ?_
  refine seqP (l := (regionOf Tryd.f5 17)) 157 ((List.range 157).filter fun i => !([112, 113, 114, 115, 116, 117, 118, 119, 18, 19].contains i)) (fun j v => ∀ u, ([.slice (some ⟨b1, o1, none⟩) 1 c1, .pointer (some ⟨b1, o1, none⟩), .pointer (some ⟨b1, o1 + 14, none⟩), .agg (nodC t1 s1).toArray, .slice (some ⟨b2, o2, none⟩) 1 c2, .pointer (some ⟨b2, o2, none⟩), .pointer (some ⟨b2, o2 + 14, none⟩), .agg (nodC t2 s2).toArray] : List Value)[j]? = some u → v = u) (fun j => j == 8 || j == 9 || j == 10 || j == 11) (boxN W (nodC t1 s1) (nodC t2 s2)) (by kernel_rfl) hN ?_ ?_ ?_ ?_ ?_ ?_ ?_
  · intro i hi
    rw [hl]
    simp at hi
    omega
  · exact ⟨(Below.refl _ W).drew, fun h => (by cases h), fun h => (by cases h), fun h => (by cases h)⟩
  · intro L L' s s' w h hs
    have l8 := (h 8 (by decide)).1
    have l9 := (h 9 (by decide)).1
    have l10 := (h 10 (by decide)).1
    have l11 := (h 11 (by decide)).1
    have s8 := (h 8 (by decide)).2 (by kernel_rfl)
    have s9 := (h 9 (by decide)).2 (by kernel_rfl)
    unfold boxN at hs ⊢
    rw [← l8, ← l9, ← l10, ← l11, ← s8, ← s9]
    exact hs
  · intro i o ho hd
    have hi : i < 12 := by rw [← hl]; exact (List.getElem?_eq_some_iff.1 ho).1
    have he : (regionOf Tryd.f5 17).getD i default = o := by simp [List.getD, ho]
    have := List.all_eq_true.1 hds i (List.mem_range.2 hi)
    rw [he, hd] at this
    have h2 : i = 10 ∨ i = 11 := by simpa using this
    rcases h2 with rfl | rfl <;> exact ⟨by decide, fun v u hu => by cases hu⟩
  · intro i hi hni a w L hd hsz hk hp hs
    rw [hl] at hi
    have hii : i = 0 ∨ i = 1 ∨ i = 2 ∨ i = 3 ∨ i = 4 ∨ i = 5 ∨ i = 6 ∨ i = 7 := by simp at hni; omega
    have hB := hs.1
    rcases hii with rfl | rfl | rfl | rfl | rfl | rfl | rfl | rfl
    · exact st_want (wnone rfl) (op_move ⟨_, rfl, rfl, fun u hu => (getD_of ((hk 14 hk0).trans h0)).trans (Option.some.inj hu)⟩)
    · have e1 : a.eval (.tmp 112) = .slice (some ⟨b1, o1, none⟩) 1 c1 := hp 0 (by kernel_rfl) _ rfl
      exact st_want (wnone rfl) (op_idxN e1 rfl ix_deN ⟨_, rfl, rfl, fun u hu => (Option.some.inj hu)⟩)
    · have e1 : a.eval (.tmp 113) = .pointer (some ⟨b1, o1, none⟩) := hp 1 (by kernel_rfl) _ rfl
      exact st_want (wnone rfl) (op_fieldAddr e1 fa_deN ⟨_, rfl, rfl, fun u hu => (Option.some.inj hu)⟩)
    · have e1 : a.eval (.tmp 114) = .pointer (some ⟨b1, o1 + 14, none⟩) := hp 2 (by kernel_rfl) _ rfl
      exact st_want (wnone rfl) (op_load e1 (ld_exN (range_same hr1 (hB.block _ hb1)) rfl) ⟨_, rfl, rfl, fun u hu => (Option.some.inj hu)⟩)
    · exact st_want (wnone rfl) (op_move ⟨_, rfl, rfl, fun u hu => (getD_of ((hk 16 hk1).trans h1)).trans (Option.some.inj hu)⟩)
    · have e1 : a.eval (.tmp 116) = .slice (some ⟨b2, o2, none⟩) 1 c2 := hp 4 (by kernel_rfl) _ rfl
      exact st_want (wnone rfl) (op_idxN e1 rfl ix_deN ⟨_, rfl, rfl, fun u hu => (Option.some.inj hu)⟩)
    · have e1 : a.eval (.tmp 117) = .pointer (some ⟨b2, o2, none⟩) := hp 5 (by kernel_rfl) _ rfl
      exact st_want (wnone rfl) (op_fieldAddr e1 fa_deN ⟨_, rfl, rfl, fun u hu => (Option.some.inj hu)⟩)
    · have e1 : a.eval (.tmp 118) = .pointer (some ⟨b2, o2 + 14, none⟩) := hp 6 (by kernel_rfl) _ rfl
      exact st_want (wnone rfl) (op_load e1 (ld_exN (range_same hr2 (hB.block _ hb2)) rfl) ⟨_, rfl, rfl, fun u hu => (Option.some.inj hu)⟩)
  · intro i hi a w L hd hsz hk hp hLi hdown hs
    have hi4 : i = 8 ∨ i = 9 ∨ i = 10 ∨ i = 11 := by simp at hi; omega
    obtain ⟨hB, g8, g9, gne⟩ := hs
    have dn : ∀ j k, j < 12 → L j = true → (preds ((regionOf Tryd.f5 17).getD j default)).contains k = true → L k = true := fun j k hj h1 h2 => hdown j (by rw [hl]; exact hj) h1 k h2
    rcases hi4 with rfl | rfl | rfl | rfl
    · have hst : L 10 = false := by
        cases e : L 10 with
        | false => rfl
        | true => exact absurd (dn 10 8 (by omega) e (by kernel_rfl)) (by rw [hLi]; exact Bool.false_ne_true)
      have hA : Below w.heap.size w (w.alloc (.cells zeN.toArray 51)) := (Below.refl _ w).alloc (Nat.le_refl _) _
      refine st_want (wnone rfl) (op_alN ⟨_, rfl, (fun _ u hu => by cases hu), hB.trans (hA.mono hB.size), ?_, ?_, ?_⟩)
      · intro _
        rw [upS_same, upL_other (by decide), hst]
        exact ⟨w.heap.size, rfl, hB.size, (MapKept.heap_alloc w _).1⟩
      · intro h
        rw [upL_other (by decide)] at h
        obtain ⟨q, e, hq, hh⟩ := g9 h
        rw [upS_other (by decide), upL_other (by decide)]
        exact ⟨q, e, hq, (hA.block q (blk hh).1).trans hh⟩
      · intro h8 h9
        rw [upL_other (by decide)] at h9
        obtain ⟨q, e, hq, hh⟩ := g9 h9
        rw [upS_same, upS_other (by decide), e]
        intro he
        have := (blk hh).1
        simp at he
        try omega
    · have hst : L 11 = false := by
        cases e : L 11 with
        | false => rfl
        | true => exact absurd (dn 11 9 (by omega) e (by kernel_rfl)) (by rw [hLi]; exact Bool.false_ne_true)
      have hA : Below w.heap.size w (w.alloc (.cells zeN.toArray 51)) := (Below.refl _ w).alloc (Nat.le_refl _) _
      refine st_want (wnone rfl) (op_alN ⟨_, rfl, (fun _ u hu => by cases hu), hB.trans (hA.mono hB.size), ?_, ?_, ?_⟩)
      · intro h
        rw [upL_other (by decide)] at h
        obtain ⟨q, e, hq, hh⟩ := g8 h
        rw [upS_other (by decide), upL_other (by decide)]
        exact ⟨q, e, hq, (hA.block q (blk hh).1).trans hh⟩
      · intro _
        rw [upS_same, upL_other (by decide), hst]
        exact ⟨w.heap.size, rfl, hB.size, (MapKept.heap_alloc w _).1⟩
      · intro h8 h9
        rw [upL_other (by decide)] at h8
        obtain ⟨q, e, hq, hh⟩ := g8 h8
        rw [upS_same, upS_other (by decide), e]
        intro he
        have := (blk hh).1
        simp at he
        try omega
    · have hb' := (hp 8 (by kernel_rfl)).1
      obtain ⟨q, e8, hq, hh⟩ := g8 hb'
      have e1 : a.tmps.getD 18 undef = .pointer (some ⟨q, 0, none⟩) := e8
      have e2 : a.tmps.getD 115 undef = .agg (nodC t1 s1).toArray := (hp 3 (by kernel_rfl)).2 _ rfl
      rw [hLi] at hh
      refine st_want (wnone rfl) (op_stN e1 e2 hh rfl rfl rfl ⟨undef, rfl, (fun h => absurd (show false = true from h) (by decide)), below_setN _ _ 0 hB hq, ?_, ?_, ?_⟩)
      · intro _
        rw [upS_other (by decide), upL_same]
        exact ⟨q, e8, hq, blk_all (xs := zeN) hh rfl⟩
      · intro h
        rw [upL_other (by decide)] at h
        obtain ⟨q2, e9, hq2, hh2⟩ := g9 h
        rw [upS_other (by decide), upL_other (by decide)]
        have hne : q2 ≠ q := fun e => (gne hb' h) (by rw [e8, e9, e])
        exact ⟨q2, e9, hq2, (heap_setN hne _ w 0).trans hh2⟩
      · intro h8 h9
        rw [upL_other (by decide)] at h8 h9
        rw [upS_other (by decide), upS_other (by decide)]
        exact gne h8 h9
    · have hb' := (hp 9 (by kernel_rfl)).1
      obtain ⟨q, e8, hq, hh⟩ := g9 hb'
      have e1 : a.tmps.getD 19 undef = .pointer (some ⟨q, 0, none⟩) := e8
      have e2 : a.tmps.getD 119 undef = .agg (nodC t2 s2).toArray := (hp 7 (by kernel_rfl)).2 _ rfl
      rw [hLi] at hh
      refine st_want (wnone rfl) (op_stN e1 e2 hh rfl rfl rfl ⟨undef, rfl, (fun h => absurd (show false = true from h) (by decide)), below_setN _ _ 0 hB hq, ?_, ?_, ?_⟩)
      · intro h
        rw [upL_other (by decide)] at h
        obtain ⟨q2, e9, hq2, hh2⟩ := g8 h
        rw [upS_other (by decide), upL_other (by decide)]
        have hne : q2 ≠ q := fun e => (gne h hb') (by rw [e8, e9, e])
        exact ⟨q2, e9, hq2, (heap_setN hne _ w 0).trans hh2⟩
      · intro _
        rw [upS_other (by decide), upL_same]
        exact ⟨q, e8, hq, blk_all (xs := zeN) hh rfl⟩
      · intro h8 h9
        rw [upL_other (by decide)] at h8 h9
        rw [upS_other (by decide), upS_other (by decide)]
        exact gne h8 h9
  · intro a w hd hsz hk hp hs
    obtain ⟨hB, g8, g9, gne⟩ := hs
    obtain ⟨qx, e8, hqx, hhx⟩ := g8 rfl
    obtain ⟨qy, e9, hqy, hhy⟩ := g9 rfl
    have e8' : a.tmps.getD 18 undef = .pointer (some ⟨qx, 0, none⟩) := e8
    have e9' : a.tmps.getD 19 undef = .pointer (some ⟨qy, 0, none⟩) := e9
    have get : ∀ k v, k < 157 → a.tmps.getD k undef = v → a.tmps[k]? = some v := fun k v hk h => by
      have h1 : k < a.tmps.size := by omega
      rw [Array.getD_eq_getD_getElem?, Array.getElem?_eq_getElem h1] at h
      rw [Array.getElem?_eq_getElem h1]
      exact congrArg some h
    exact hend a w qx qy hd hk hsz (get _ _ (by omega) e8') (get _ _ (by omega) e9') (fun e => gne rfl rfl (by rw [e8, e9, e])) hqx hqy hB hhx hhy
/-- How far region 23 has come. -/
def kidN (B qx qy : Nat) (W : World) (x1 x2 y1 y2 : List Value) (L : Nat → Bool) (w : World) : Prop :=
  Below B W w ∧ w.heap[qx]? = some (.cells (if L 8 = true then y1 else x1).toArray 51) ∧ w.heap[qy]? = some (.cells (if L 9 = true then y2 else x2).toArray 51)
set_option maxRecDepth 100000 in
set_option maxHeartbeats 8000000 in
theorem names_r23 {Q : Exit → Act → World → Prop} {a0 : Act} {W : World} {B qx qy b1 o1 b2 o2 c1 c2 : Nat} {t1 t2 u1 u2 : Er} {r1 r2 : Option Addr × Nat × Nat} (hN : a0.tmps.size = 157) (h0 : a0.tmps[18]? = some (.pointer (some ⟨qx, 0, none⟩))) (h1 : a0.tmps[19]? = some (.pointer (some ⟨qy, 0, none⟩))) (hne : qx ≠ qy) (hqx : B ≤ qx) (hqy : B ≤ qy) (hx : W.heap[qx]? = some (.cells (nodC t1 (some ⟨b1, o1, none⟩, 2, c1)).toArray 51)) (hy : W.heap[qy]? = some (.cells (nodC t2 (some ⟨b2, o2, none⟩, 2, c2)).toArray 51)) (hr1 : W.rangeAt b1 (o1 + 7) (nodC u1 r1)) (hr2 : W.rangeAt b2 (o2 + 7) (nodC u2 r2)) (hb1 : b1 < B) (hb2 : b2 < B)
    (hend : ∀ (a : Act) (w : World), a.defers = a0.defers → (∀ k, k ∈ ((List.range 157).filter fun i => !([135, 136, 137, 138, 139, 140, 141, 142].contains i)) → a.tmps[k]? = a0.tmps[k]?) → a.tmps.size = 157 → Below B W w → w.heap[qx]? = some (.cells (nodC u1 r1).toArray 51) → w.heap[qy]? = some (.cells (nodC u2 r2).toArray 51) → Q .normal a w) :
    (Code.region 23 (regionOf Tryd.f5 23).toArray true).wp Tryd.prog Q a0 W := by
  have hl : (regionOf Tryd.f5 23).length = 10 := by kernel_rfl
  have hds : ((List.range 10).all fun i => i == 8 || i == 9 || ((regionOf Tryd.f5 23).getD i default).dst.isSome) = true := by kernel_rfl
  have hk0 : 18 ∈ ((List.range 157).filter fun i => !([135, 136, 137, 138, 139, 140, 141, 142].contains i)) := by decide
  have hk1 : 19 ∈ ((List.range 157).filter fun i => !([135, 136, 137, 138, 139, 140, 141, 142].contains i)) := by decide
  refine wp_region_any (by kernel_rfl) ?_
  refine seqP (l := (regionOf Tryd.f5 23)) 157 ((List.range 157).filter fun i => !([135, 136, 137, 138, 139, 140, 141, 142].contains i)) (fun j v => ∀ u, ([.pointer (some ⟨qx, 4, none⟩), .slice (some ⟨b1, o1, none⟩) 2 c1, .pointer (some ⟨b1, o1 + 7, none⟩), .agg (nodC u1 r1).toArray, .pointer (some ⟨qy, 4, none⟩), .slice (some ⟨b2, o2, none⟩) 2 c2, .pointer (some ⟨b2, o2 + 7, none⟩), .agg (nodC u2 r2).toArray] : List Value)[j]? = some u → v = u) (fun j => j == 1 || j == 5 || j == 8 || j == 9) (fun L _ w => kidN B qx qy W (nodC t1 (some ⟨b1, o1, none⟩, 2, c1)) (nodC t2 (some ⟨b2, o2, none⟩, 2, c2)) (nodC u1 r1) (nodC u2 r2) L w) (by kernel_rfl) hN ?_ ?_ ?_ ?_ ?_ ?_ ?_
  · intro i hi
    rw [hl]
    simp at hi
    omega
  · exact ⟨(Below.refl _ W).drew, hx, hy⟩
  · intro L L' s s' w h hs
    have l8 := (h 8 (by decide)).1
    have l9 := (h 9 (by decide)).1
    unfold kidN at hs ⊢
    rw [← l8, ← l9]
    exact hs
  · intro i o ho hd
    have hi : i < 10 := by rw [← hl]; exact (List.getElem?_eq_some_iff.1 ho).1
    have he : (regionOf Tryd.f5 23).getD i default = o := by simp [List.getD, ho]
    have := List.all_eq_true.1 hds i (List.mem_range.2 hi)
    rw [he, hd] at this
    have h2 : i = 8 ∨ i = 9 := by simpa using this
    rcases h2 with rfl | rfl <;> exact ⟨by decide, fun v u hu => by cases hu⟩
  · intro i hi hni a w L hd hsz hk hp hs
    rw [hl] at hi
    have hii : i = 0 ∨ i = 2 ∨ i = 3 ∨ i = 4 ∨ i = 6 ∨ i = 7 := by simp at hni; omega
    have hB := hs.1
    rcases hii with rfl | rfl | rfl | rfl | rfl | rfl
    · have e1 : a.eval (.tmp 18) = .pointer (some ⟨qx, 0, none⟩) := getD_of ((hk 18 hk0).trans h0)
      exact st_want (wnone rfl) (op_fieldAddr e1 fa_exN ⟨_, rfl, rfl, fun u hu => (Option.some.inj hu)⟩)
    · have e1 : a.eval (.tmp 136) = .slice (some ⟨b1, o1, none⟩) 2 c1 := hp 1 (by kernel_rfl) _ rfl
      exact st_want (wnone rfl) (op_idxN e1 rfl ix_exN ⟨_, rfl, rfl, fun u hu => (Option.some.inj hu)⟩)
    · have e1 : a.eval (.tmp 137) = .pointer (some ⟨b1, o1 + 7, none⟩) := hp 2 (by kernel_rfl) _ rfl
      exact st_want (wnone rfl) (op_load e1 (ld_exN (range_same hr1 (hB.block _ hb1)) rfl) ⟨_, rfl, rfl, fun u hu => (Option.some.inj hu)⟩)
    · have e1 : a.eval (.tmp 19) = .pointer (some ⟨qy, 0, none⟩) := getD_of ((hk 19 hk1).trans h1)
      exact st_want (wnone rfl) (op_fieldAddr e1 fa_exN ⟨_, rfl, rfl, fun u hu => (Option.some.inj hu)⟩)
    · have e1 : a.eval (.tmp 140) = .slice (some ⟨b2, o2, none⟩) 2 c2 := hp 5 (by kernel_rfl) _ rfl
      exact st_want (wnone rfl) (op_idxN e1 rfl ix_exN ⟨_, rfl, rfl, fun u hu => (Option.some.inj hu)⟩)
    · have e1 : a.eval (.tmp 141) = .pointer (some ⟨b2, o2 + 7, none⟩) := hp 6 (by kernel_rfl) _ rfl
      exact st_want (wnone rfl) (op_load e1 (ld_exN (range_same hr2 (hB.block _ hb2)) rfl) ⟨_, rfl, rfl, fun u hu => (Option.some.inj hu)⟩)
  · intro i hi a w L hd hsz hk hp hLi hdown hs
    have hi4 : i = 1 ∨ i = 5 ∨ i = 8 ∨ i = 9 := by simp at hi; omega
    obtain ⟨hB, g8, g9⟩ := hs
    have dn : ∀ j k, j < 10 → L j = true → (preds ((regionOf Tryd.f5 23).getD j default)).contains k = true → L k = true := fun j k hj h1 h2 => hdown j (by rw [hl]; exact hj) h1 k h2
    rcases hi4 with rfl | rfl | rfl | rfl
    · have hst : L 8 = false := by
        cases e : L 8 with
        | false => rfl
        | true => exact absurd (dn 2 1 (by omega) (dn 3 2 (by omega) (dn 8 3 (by omega) e (by kernel_rfl)) (by kernel_rfl)) (by kernel_rfl)) (by rw [hLi]; exact Bool.false_ne_true)
      have e1 : a.eval (.tmp 135) = .pointer (some ⟨qx, 4, none⟩) := (hp 0 (by kernel_rfl)).2 _ rfl
      have g := g8
      rw [hst] at g
      refine st_want (wnone rfl) (op_load e1 (ld_slN ((blk g).2.1 4 _ rfl)) ⟨_, rfl, fun _ u hu => (Option.some.inj hu), hB, ?_, ?_⟩)
      · rw [upL_other (by decide)]; exact g8
      · rw [upL_other (by decide)]; exact g9
    · have hst : L 9 = false := by
        cases e : L 9 with
        | false => rfl
        | true => exact absurd (dn 6 5 (by omega) (dn 7 6 (by omega) (dn 9 7 (by omega) e (by kernel_rfl)) (by kernel_rfl)) (by kernel_rfl)) (by rw [hLi]; exact Bool.false_ne_true)
      have e1 : a.eval (.tmp 139) = .pointer (some ⟨qy, 4, none⟩) := (hp 4 (by kernel_rfl)).2 _ rfl
      have g := g9
      rw [hst] at g
      refine st_want (wnone rfl) (op_load e1 (ld_slN ((blk g).2.1 4 _ rfl)) ⟨_, rfl, fun _ u hu => (Option.some.inj hu), hB, ?_, ?_⟩)
      · rw [upL_other (by decide)]; exact g8
      · rw [upL_other (by decide)]; exact g9
    · have e1 : a.tmps.getD 18 undef = .pointer (some ⟨qx, 0, none⟩) := getD_of ((hk 18 hk0).trans h0)
      have e2 : a.tmps.getD 138 undef = .agg (nodC u1 r1).toArray := (hp 3 (by kernel_rfl)).2 _ rfl
      rw [hLi] at g8
      refine st_want (wnone rfl) (op_stN e1 e2 g8 rfl rfl rfl ⟨undef, rfl, (fun h => absurd (show false = true from h) (by decide)), below_setN _ _ 0 hB hqx, ?_, ?_⟩)
      · rw [upL_same]; exact blk_all (xs := nodC t1 (some ⟨b1, o1, none⟩, 2, c1)) g8 rfl
      · rw [upL_other (by decide)]; exact (heap_setN hne.symm _ w 0).trans g9
    · have e1 : a.tmps.getD 19 undef = .pointer (some ⟨qy, 0, none⟩) := getD_of ((hk 19 hk1).trans h1)
      have e2 : a.tmps.getD 142 undef = .agg (nodC u2 r2).toArray := (hp 7 (by kernel_rfl)).2 _ rfl
      rw [hLi] at g9
      refine st_want (wnone rfl) (op_stN e1 e2 g9 rfl rfl rfl ⟨undef, rfl, (fun h => absurd (show false = true from h) (by decide)), below_setN _ _ 0 hB hqy, ?_, ?_⟩)
      · rw [upL_other (by decide)]; exact (heap_setN hne _ w 0).trans g8
      · rw [upL_same]; exact blk_all (xs := nodC t2 (some ⟨b2, o2, none⟩, 2, c2)) g9 rfl
  · intro a w hd hsz hk hp hs
    obtain ⟨hB, g8, g9⟩ := hs
    exact hend a w hd hk hsz hB g8 g9
end Go.Proofs.YtljhpbjngbbjbaaDoor

/- ScopeNames: nodes that lie, and nodes in boxes. -/
namespace Go.Proofs.YtljhpbjngbbjbaaDoor
open Go Go.RowKit
theorem OLg.nth2 {α : Type} {st : Nat} {p : Nat → Nat → Nat → Nat → α → Prop} {q : Nat} : ∀ (l : List α) (j lo hi o : Nat) (t : α), OLg st p q lo hi o l → l[j]? = some t → ∃ m1 m2, p m1 m2 q (o + st * j) t ∧ m2 ≤ hi
  | [], _, _, _, _, _, _, h => by simp at h
  | u :: l, 0, lo, hi, o, t, ⟨m, h1, h2, h3⟩, h => by
    obtain rfl : u = t := by simpa using h
    exact ⟨lo, m, h2, OLg.le _ _ _ _ h3⟩
  | u :: l, j + 1, lo, hi, o, t, ⟨m, h1, h2, h3⟩, h => by
    obtain ⟨m1, m2, h4, h5⟩ := OLg.nth2 l j m hi (o + st) t h3 (by simpa using h)
    exact ⟨m1, m2, by rw [show o + st * (j + 1) = o + st + st * j by rw [Nat.mul_add]; omega]; exact h4, h5⟩
theorem OLp.nth2 {p : Nat → Nat → Nat → Nat → Er → Prop} {q : Nat} : ∀ (l : List Er) (j lo hi o : Nat) (t : Er), OLp p q lo hi o l → l[j]? = some t → ∃ m1 m2, p m1 m2 q (o + 7 * j) t ∧ m2 ≤ hi
  | [], _, _, _, _, _, _, h => by simp at h
  | u :: l, 0, lo, hi, o, t, ⟨m, h1, h2, h3⟩, h => by
    obtain rfl : u = t := by simpa using h
    exact ⟨lo, m, h2, OLp.le _ _ _ _ h3⟩
  | u :: l, j + 1, lo, hi, o, t, ⟨m, h1, h2, h3⟩, h => by
    obtain ⟨m1, m2, h4, h5⟩ := OLp.nth2 l j m hi (o + 7) t h3 (by simpa using h)
    exact ⟨m1, m2, by rw [show o + 7 * (j + 1) = o + 7 + 7 * j by omega]; exact h4, h5⟩
/-- A tree's node as it lies, all of it below H. -/
def ND (w : World) (H k b o : Nat) (t : Er) : Prop := ∃ a n c lo hi, w.rangeAt b o (nodeC t a n c) ∧ OSp (OE w k) lo hi a n c t.l ∧ hi ≤ H ∧ b < H
theorem od_node {w : World} {K lo hi n c j : Nat} {a : Option Addr} {ds : List Dz} {d : Dz} (h : OSg 22 (OD w K) lo hi a n c ds) (hd : ds[j]? = some d) : ∃ q o, a = some ⟨q, o, none⟩ ∧ ND w hi K q (o + (22 * j + 14)) d.body := by
  have hne : ds ≠ [] := fun e => by rw [e] at hd; simp at hd
  obtain ⟨q, o, e, h1, h2, h3⟩ := h.2.2.2.2.1 hne
  obtain ⟨m1, m2, ⟨x, i1, i2, i3, i4, i5, h4⟩, h5⟩ := OLg.nth2 ds j _ _ _ d h3 hd
  obtain ⟨a', n', c', k1, k2, k3⟩ := h4.body
  exact ⟨q, o, e, a', n', c', i5, m2, by rw [← Nat.add_assoc]; exact k1, k3, h5, h2⟩
theorem ND.up {w w' : World} {H H' k b o : Nat} {t : Er} (h : ND w H k b o t) (hb : Below H w w') (hH : H ≤ H') : ND w' H' k b o t := by
  obtain ⟨a, n, c, lo, hi, h1, h2, h3, h4⟩ := h
  exact ⟨a, n, c, lo, hi, range_same h1 (hb.block b h4), h2.fr (Fr.of (fun _ _ => False) hb) h3 fun _ _ _ _ h => h, by omega, by omega⟩
/-- A node in a box: all that hangs on it below H. -/
def NB (w : World) (H k Q : Nat) (t : Er) : Prop := ∃ a n c lo hi, w.heap[Q]? = some (.cells (nodC t (a, n, c)).toArray 51) ∧ OSp (OE w k) lo hi a n c t.l ∧ hi ≤ H
theorem deepI_two {m : Nat} {t : Er} {v : Int} (h : deepI (m + 1) t = some v) : ∃ x u, t.l = [x, u] ∧ deepI m u = some v := by
  unfold deepI at h
  split at h
  · rename_i x u e
    exact ⟨x, u, e, h⟩
  · cases h
theorem NB.two {w : World} {H k Q m : Nat} {t : Er} {v : Int} (h : NB w H (k + 1) Q t) (hd : deepI (m + 1) t = some v) : ∃ q o c u s, w.heap[Q]? = some (.cells (nodC t (some ⟨q, o, none⟩, 2, c)).toArray 51) ∧ w.rangeAt q (o + 7) (nodC u s) ∧ q < H ∧ deepI m u = some v ∧ ∀ w', Below H w w' → ∀ Q', w'.heap[Q']? = some (.cells (nodC u s).toArray 51) → NB w' H k Q' u := by
  obtain ⟨a, n, c, lo, hi, h1, h2, h3⟩ := h
  obtain ⟨x, u, e, hu⟩ := deepI_two hd
  rw [e] at h2
  obtain ⟨b1, b2, b3, b4, b5, -⟩ := h2
  obtain ⟨q, o, rfl, g1, g2, g3⟩ := b5 (by simp)
  obtain rfl : n = 2 := b1
  obtain ⟨m1, i1, j1, m2, i2, ⟨a', n', c', k1, k2, k3⟩, j3⟩ := g3
  obtain rfl : m2 = hi := j3
  refine ⟨q, o, c, u, (a', n', c'), h1, k1, by omega, hu, fun w' hb Q' hQ => ⟨a', n', c', m1, m2, hQ, k3.fr (Fr.of (fun _ _ => False) hb) h3 fun _ _ _ _ h => h, h3⟩⟩
theorem NB.up {w w' : World} {H k Q : Nat} {t : Er} (h : NB w H k Q t) (hb : Below H w w') (hQ : w'.heap[Q]? = w.heap[Q]?) : NB w' H k Q t := by
  obtain ⟨a, n, c, lo, hi, h1, h2, h3⟩ := h
  exact ⟨a, n, c, lo, hi, hQ.trans h1, h2.fr (Fr.of (fun _ _ => False) hb) h3 fun _ _ _ _ h => h, h3⟩
theorem NB.cell5 {w : World} {H k Q : Nat} {t : Er} (h : NB w H k Q t) : w.cell? ⟨Q, 5, none⟩ = some (.int .i64 t.i) := by
  obtain ⟨a, n, c, lo, hi, h1, -⟩ := h
  exact (blk h1).2.1 5 _ rfl
theorem ND.box {w : World} {H k b o : Nat} {t : Er} (h : ND w H k b o t) : ∃ s, w.rangeAt b o (nodC t s) ∧ b < H ∧ ∀ w', Below H w w' → ∀ Q', w'.heap[Q']? = some (.cells (nodC t s).toArray 51) → NB w' H k Q' t := by
  obtain ⟨a, n, c, lo, hi, h1, h2, h3, h4⟩ := h
  exact ⟨(a, n, c), h1, h4, fun w' hb Q' hQ => ⟨a, n, c, lo, hi, hQ, h2.fr (Fr.of (fun _ _ => False) hb) h3 fun _ _ _ _ h => h, h3⟩⟩
end Go.Proofs.YtljhpbjngbbjbaaDoor

/- ScopeNames: what stands behind the two boxes. -/
namespace Go.Proofs.YtljhpbjngbbjbaaDoor
open Go Go.RowKit
def nR : Code → Code
  | .seq _ b => b
  | c => c
/-- What stands behind region 17. -/
def nTail (f : Func) : Code := nR (nR (nR (nR (nR (nR (nR (nR (nR (nR (nR (nR (f.body.getD .skip))))))))))))
set_option maxRecDepth 100000 in
set_option maxHeartbeats 16000000 in
theorem names_tail {W : World} {H d k qx qy : Nat} {t1 t2 : Er} {x2 x3 x5 x6 x7 x8 x9 x10 x11 x12 x13 x14 x15 x16 x17 x21 x22 x23 x24 x25 x26 x27 x28 x29 x30 x31 x32 x33 x34 x35 x36 x37 x38 x39 x40 x41 x42 x43 x44 x45 x46 x47 x48 x49 x50 x51 x52 x53 x54 x55 x56 x57 x58 x59 x60 x61 x62 x63 x64 x65 x66 x67 x68 x69 x70 x71 x72 x73 x74 x75 x76 x77 x78 x79 x80 x81 x82 x83 x84 x85 x86 x87 x88 x89 x90 x91 x92 x93 x94 x95 x96 x97 x98 x99 x100 x101 x102 x103 x104 x105 x106 x107 x108 x109 x110 x111 x112 x113 x114 x115 x116 x117 x118 x119 : Value} {Q : Exit → Act → World → Prop} (hd20 : d ≤ 20) (hkd : k < d) (hne : qx ≠ qy) (hqx : H ≤ qx) (hqy : H ≤ qy) (hB1 : NB W H 30 qx t1) (hB2 : NB W H 30 qy t2) (he1 : deepI d t1 = some ((d : Int) - 1 - k)) (he2 : deepI d t2 = some ((d : Int) - 1 - k))
    (hQ : ∀ (a : Act) (w' : World), a.tmps[4]? = some (.bool true) → a.defers = [] → Below H W w' → Q .ret a w') :
    Code.wp Tryd.prog (nTail Tryd.f5) Q { tmps := #[.int .i64 (d : Int), .int .i64 (k : Int), x2, x3, .bool false, x5, x6, x7, x8, x9, x10, x11, x12, x13, x14, x15, x16, x17, .pointer (some ⟨qx, 0, none⟩), .pointer (some ⟨qy, 0, none⟩), undef, x21, x22, x23, x24, x25, x26, x27, x28, x29, x30, x31, x32, x33, x34, x35, x36, x37, x38, x39, x40, x41, x42, x43, x44, x45, x46, x47, x48, x49, x50, x51, x52, x53, x54, x55, x56, x57, x58, x59, x60, x61, x62, x63, x64, x65, x66, x67, x68, x69, x70, x71, x72, x73, x74, x75, x76, x77, x78, x79, x80, x81, x82, x83, x84, x85, x86, x87, x88, x89, x90, x91, x92, x93, x94, x95, x96, x97, x98, x99, x100, x101, x102, x103, x104, x105, x106, x107, x108, x109, x110, x111, x112, x113, x114, x115, x116, x117, x118, x119, undef, undef, undef, undef, undef, undef, undef, undef, undef, undef, undef, undef, undef, undef, undef, undef, undef, undef, undef, undef, undef, undef, undef, undef, undef, undef, undef, undef, undef, undef, undef, undef, undef, undef, undef, undef, undef], defers := [] } W := by
  have HQ := hide hQ
  have HG := hide (And.intro hd20 (And.intro hkd (And.intro hne (And.intro hqx hqy))))
  have HI0 := hide (And.intro hB1 (And.intro hB2 (And.intro he1 he2)))
  have hw1 : wrap64 ((d : Int) - 1) = (d : Int) - 1 := by unfold wrap64; omega
  have hw2 : wrap64 ((d : Int) - 1 - k) = (d : Int) - 1 - k := by unfold wrap64; omega
  clear hQ hd20 hkd hne hqx hqy hB1 hB2 he1 he2
  conv => arg 2; whnf
  go_wp2_with fail
  go_loopw [20] (fun iv wr => ∃ (i : Nat) (u1 u2 : Er), iv = .int .i64 (i : Int) ∧ Hid (i ≤ d ∧ Below H W wr ∧ NB wr H (30 - i) qx u1 ∧ NB wr H (30 - i) qy u2 ∧ deepI (d - i) u1 = some ((d : Int) - 1 - k) ∧ deepI (d - i) u2 = some ((d : Int) - 1 - k))) (fun iv _ => d - (intOf iv).toNat)
  case atStart => exact ⟨0, t1, t2, rfl, hide ⟨Nat.zero_le _, Below.refl _ _, (unhide HI0).1, (unhide HI0).2.1, (unhide HI0).2.2.1, (unhide HI0).2.2.2⟩⟩
  case round =>
    obtain ⟨i, u1, u2, rfl, HI⟩ := hrel
    have g5 : (0 : Int) ≤ (i : Int) := by omega
    have hin : i ≤ 20 := by have := (unhide HI).1; have := (unhide HG).1; omega
    have g6 : (i : Int) ≤ 20 := by omega
    have hwi : wrap64 ((i : Int) + 1) = (i : Int) + 1 := by unfold wrap64; omega
    by_cases hid : i < d
    · have d1 : (i : Int) < (d : Int) := by omega
      have d2 : decide ((i : Int) < (d : Int)) = true := by simp; omega
      have HJ := hide hid
      obtain ⟨-, hbw, n1, n2, e1, e2⟩ := unhide HI
      rw [show 30 - i = (29 - i) + 1 by omega] at n1 n2
      rw [show d - i = (d - (i + 1)) + 1 by omega] at e1 e2
      obtain ⟨b1, o1, c1, v1, s1, z1, r1, l1, f1, m1⟩ := n1.two e1
      obtain ⟨b2, o2, c2, v2, s2, z2, r2, l2, f2, m2⟩ := n2.two e2
      have k1 : _ = some (Value.slice (some ⟨b1, o1, none⟩) 2 c1) := (blk z1).2.1 4 _ rfl
      have k2 : _ = some (Value.slice (some ⟨b2, o2, none⟩) 2 c2) := (blk z2).2.1 4 _ rfl
      have HX := hide (And.intro z1 (And.intro r1 (And.intro l1 (And.intro f1 m1))))
      have HY := hide (And.intro z2 (And.intro r2 (And.intro l2 (And.intro f2 m2))))
      have HB := hide hbw
      clear hid n1 n2 e1 e2 z1 r1 l1 f1 m1 z2 r2 l2 f2 m2 hbw hin HI
      go_wp2_with fail
      refine names_r23 (B := H) (t1 := u1) (t2 := u2) (u1 := v1) (u2 := v2) (r1 := s1) (r2 := s2) rfl rfl rfl (unhide HG).2.2.1 (unhide HG).2.2.2.1 (unhide HG).2.2.2.2 (unhide HX).1 (unhide HY).1 (unhide HX).2.1 (unhide HY).2.1 (unhide HX).2.2.1 (unhide HY).2.2.1 ?_
      intro a6 w6 hdf hk hsz hb6 hX hY
      obtain ⟨x, hae, hxx⟩ := act_set (N := 157) (kept := ((List.range 157).filter fun i => !([135, 136, 137, 138, 139, 140, 141, 142].contains i))) [135, 136, 137, 138, 139, 140, 141, 142] (by decide) hdf hsz rfl hk
      subst hae
      have HN := hide (And.intro ((unhide HX).2.2.2.2 w6 hb6 _ hX) ((unhide HY).2.2.2.2 w6 hb6 _ hY))
      have HB6 := hide ((unhide HB).trans hb6)
      clear hdf hk hsz hb6 hX hY hxx
      simp only [setAll]
      go_wp2
      refine ⟨⟨i + 1, v1, v2, by push_cast; rfl, hide ⟨unhide HJ, unhide HB6, ?_, ?_, (unhide HX).2.2.2.1, (unhide HY).2.2.2.1⟩⟩, by simp only [intOf]; have := unhide HJ; omega⟩
      · rw [show 30 - (i + 1) = 29 - i by omega]; exact (unhide HN).1
      · rw [show 30 - (i + 1) = 29 - i by omega]; exact (unhide HN).2
    · have d1 : ¬ ((i : Int) < (d : Int)) := by omega
      have d2 : decide ((i : Int) < (d : Int)) = false := by simp; omega
      obtain rfl : i = d := by have := (unhide HI).1; omega
      obtain ⟨-, hbw, n1, n2, e1, e2⟩ := unhide HI
      rw [Nat.sub_self] at e1 e2
      have k1 := n1.cell5
      have k2 := n2.cell5
      rw [show u1.i = (i : Int) - 1 - k from Option.some.inj e1] at k1
      rw [show u2.i = (i : Int) - 1 - k from Option.some.inj e2] at k2
      have HB := hide hbw
      clear hid n1 n2 e1 e2 hbw hin HI HI0
      go_wp2
      exact unhide HQ _ _ rfl rfl (unhide HB)
end Go.Proofs.YtljhpbjngbbjbaaDoor

namespace Go.Proofs.YtljhpbjngbbjbaaDoor
open Go Go.RowKit
set_option maxRecDepth 100000 in
theorem act157 {a a0 : Act} {y0 y1 y2 y3 y4 y5 y6 y7 y8 y9 y10 y11 y12 y13 y14 y15 y16 y17 y18 y19 y20 y21 y22 y23 y24 y25 y26 y27 y28 y29 y30 y31 y32 y33 y34 y35 y36 y37 y38 y39 y40 y41 y42 y43 y44 y45 y46 y47 y48 y49 y50 y51 y52 y53 y54 y55 y56 y57 y58 y59 y60 y61 y62 y63 y64 y65 y66 y67 y68 y69 y70 y71 y72 y73 y74 y75 y76 y77 y78 y79 y80 y81 y82 y83 y84 y85 y86 y87 y88 y89 y90 y91 y92 y93 y94 y95 y96 y97 y98 y99 y100 y101 y102 y103 y104 y105 y106 y107 y108 y109 y110 y111 y112 y113 y114 y115 y116 y117 y118 y119 y120 y121 y122 y123 y124 y125 y126 y127 y128 y129 y130 y131 y132 y133 y134 y135 y136 y137 y138 y139 y140 y141 y142 y143 y144 y145 y146 y147 y148 y149 y150 y151 y152 y153 y154 y155 y156 : Value} (h0 : a0.tmps = (List.toArray (y0 :: y1 :: y2 :: y3 :: y4 :: y5 :: y6 :: y7 :: y8 :: y9 :: y10 :: y11 :: y12 :: y13 :: y14 :: y15 :: y16 :: y17 :: y18 :: y19 :: y20 :: y21 :: y22 :: y23 :: y24 :: y25 :: y26 :: y27 :: y28 :: y29 :: y30 :: y31 :: y32 :: y33 :: y34 :: y35 :: y36 :: y37 :: y38 :: y39 :: y40 :: y41 :: y42 :: y43 :: y44 :: y45 :: y46 :: y47 :: y48 :: y49 :: y50 :: y51 :: y52 :: y53 :: y54 :: y55 :: y56 :: y57 :: y58 :: y59 :: y60 :: y61 :: y62 :: y63 :: y64 :: y65 :: y66 :: y67 :: y68 :: y69 :: y70 :: y71 :: y72 :: y73 :: y74 :: y75 :: y76 :: y77 :: y78 :: y79 :: y80 :: y81 :: y82 :: y83 :: y84 :: y85 :: y86 :: y87 :: y88 :: y89 :: y90 :: y91 :: y92 :: y93 :: y94 :: y95 :: y96 :: y97 :: y98 :: y99 :: y100 :: y101 :: y102 :: y103 :: y104 :: y105 :: y106 :: y107 :: y108 :: y109 :: y110 :: y111 :: y112 :: y113 :: y114 :: y115 :: y116 :: y117 :: y118 :: y119 :: y120 :: y121 :: y122 :: y123 :: y124 :: y125 :: y126 :: y127 :: y128 :: y129 :: y130 :: y131 :: y132 :: y133 :: y134 :: y135 :: y136 :: y137 :: y138 :: y139 :: y140 :: y141 :: y142 :: y143 :: y144 :: y145 :: y146 :: y147 :: y148 :: y149 :: y150 :: y151 :: y152 :: y153 :: y154 :: y155 :: y156 :: []))) (hd : a.defers = a0.defers) (hn : a.tmps.size = 157) (hk : ∀ k, k ∈ ((List.range 157).filter fun i => !([112, 113, 114, 115, 116, 117, 118, 119, 18, 19].contains i)) → a.tmps[k]? = a0.tmps[k]?) : ∃ x : Nat → Value, a = ⟨(List.toArray (y0 :: y1 :: y2 :: y3 :: y4 :: y5 :: y6 :: y7 :: y8 :: y9 :: y10 :: y11 :: y12 :: y13 :: y14 :: y15 :: y16 :: y17 :: x 18 :: x 19 :: y20 :: y21 :: y22 :: y23 :: y24 :: y25 :: y26 :: y27 :: y28 :: y29 :: y30 :: y31 :: y32 :: y33 :: y34 :: y35 :: y36 :: y37 :: y38 :: y39 :: y40 :: y41 :: y42 :: y43 :: y44 :: y45 :: y46 :: y47 :: y48 :: y49 :: y50 :: y51 :: y52 :: y53 :: y54 :: y55 :: y56 :: y57 :: y58 :: y59 :: y60 :: y61 :: y62 :: y63 :: y64 :: y65 :: y66 :: y67 :: y68 :: y69 :: y70 :: y71 :: y72 :: y73 :: y74 :: y75 :: y76 :: y77 :: y78 :: y79 :: y80 :: y81 :: y82 :: y83 :: y84 :: y85 :: y86 :: y87 :: y88 :: y89 :: y90 :: y91 :: y92 :: y93 :: y94 :: y95 :: y96 :: y97 :: y98 :: y99 :: y100 :: y101 :: y102 :: y103 :: y104 :: y105 :: y106 :: y107 :: y108 :: y109 :: y110 :: y111 :: x 112 :: x 113 :: x 114 :: x 115 :: x 116 :: x 117 :: x 118 :: x 119 :: y120 :: y121 :: y122 :: y123 :: y124 :: y125 :: y126 :: y127 :: y128 :: y129 :: y130 :: y131 :: y132 :: y133 :: y134 :: y135 :: y136 :: y137 :: y138 :: y139 :: y140 :: y141 :: y142 :: y143 :: y144 :: y145 :: y146 :: y147 :: y148 :: y149 :: y150 :: y151 :: y152 :: y153 :: y154 :: y155 :: y156 :: [])), a0.defers⟩ ∧ ∀ i, x i = a.tmps.getD i undef := by
  obtain ⟨x, e, hx⟩ := act_set (N := 157) (kept := ((List.range 157).filter fun i => !([112, 113, 114, 115, 116, 117, 118, 119, 18, 19].contains i))) [112, 113, 114, 115, 116, 117, 118, 119, 18, 19] (by decide) hd hn (by rw [h0]; rfl) hk
  refine ⟨x, ?_, hx⟩
  have e2 : setAll x [112, 113, 114, 115, 116, 117, 118, 119, 18, 19] (List.toArray (y0 :: y1 :: y2 :: y3 :: y4 :: y5 :: y6 :: y7 :: y8 :: y9 :: y10 :: y11 :: y12 :: y13 :: y14 :: y15 :: y16 :: y17 :: y18 :: y19 :: y20 :: y21 :: y22 :: y23 :: y24 :: y25 :: y26 :: y27 :: y28 :: y29 :: y30 :: y31 :: y32 :: y33 :: y34 :: y35 :: y36 :: y37 :: y38 :: y39 :: y40 :: y41 :: y42 :: y43 :: y44 :: y45 :: y46 :: y47 :: y48 :: y49 :: y50 :: y51 :: y52 :: y53 :: y54 :: y55 :: y56 :: y57 :: y58 :: y59 :: y60 :: y61 :: y62 :: y63 :: y64 :: y65 :: y66 :: y67 :: y68 :: y69 :: y70 :: y71 :: y72 :: y73 :: y74 :: y75 :: y76 :: y77 :: y78 :: y79 :: y80 :: y81 :: y82 :: y83 :: y84 :: y85 :: y86 :: y87 :: y88 :: y89 :: y90 :: y91 :: y92 :: y93 :: y94 :: y95 :: y96 :: y97 :: y98 :: y99 :: y100 :: y101 :: y102 :: y103 :: y104 :: y105 :: y106 :: y107 :: y108 :: y109 :: y110 :: y111 :: y112 :: y113 :: y114 :: y115 :: y116 :: y117 :: y118 :: y119 :: y120 :: y121 :: y122 :: y123 :: y124 :: y125 :: y126 :: y127 :: y128 :: y129 :: y130 :: y131 :: y132 :: y133 :: y134 :: y135 :: y136 :: y137 :: y138 :: y139 :: y140 :: y141 :: y142 :: y143 :: y144 :: y145 :: y146 :: y147 :: y148 :: y149 :: y150 :: y151 :: y152 :: y153 :: y154 :: y155 :: y156 :: [])) = (List.toArray (y0 :: y1 :: y2 :: y3 :: y4 :: y5 :: y6 :: y7 :: y8 :: y9 :: y10 :: y11 :: y12 :: y13 :: y14 :: y15 :: y16 :: y17 :: x 18 :: x 19 :: y20 :: y21 :: y22 :: y23 :: y24 :: y25 :: y26 :: y27 :: y28 :: y29 :: y30 :: y31 :: y32 :: y33 :: y34 :: y35 :: y36 :: y37 :: y38 :: y39 :: y40 :: y41 :: y42 :: y43 :: y44 :: y45 :: y46 :: y47 :: y48 :: y49 :: y50 :: y51 :: y52 :: y53 :: y54 :: y55 :: y56 :: y57 :: y58 :: y59 :: y60 :: y61 :: y62 :: y63 :: y64 :: y65 :: y66 :: y67 :: y68 :: y69 :: y70 :: y71 :: y72 :: y73 :: y74 :: y75 :: y76 :: y77 :: y78 :: y79 :: y80 :: y81 :: y82 :: y83 :: y84 :: y85 :: y86 :: y87 :: y88 :: y89 :: y90 :: y91 :: y92 :: y93 :: y94 :: y95 :: y96 :: y97 :: y98 :: y99 :: y100 :: y101 :: y102 :: y103 :: y104 :: y105 :: y106 :: y107 :: y108 :: y109 :: y110 :: y111 :: x 112 :: x 113 :: x 114 :: x 115 :: x 116 :: x 117 :: x 118 :: x 119 :: y120 :: y121 :: y122 :: y123 :: y124 :: y125 :: y126 :: y127 :: y128 :: y129 :: y130 :: y131 :: y132 :: y133 :: y134 :: y135 :: y136 :: y137 :: y138 :: y139 :: y140 :: y141 :: y142 :: y143 :: y144 :: y145 :: y146 :: y147 :: y148 :: y149 :: y150 :: y151 :: y152 :: y153 :: y154 :: y155 :: y156 :: [])) := by kernel_rfl
  rw [e, h0, e2]
end Go.Proofs.YtljhpbjngbbjbaaDoor
