/- NumPowers: the comparison of a digit. -/
import Derived.Test.YtpkpkpjhpkndnaaDoorSG
namespace Go.Proofs.YtpkpkpjhpkndnaaDoor
open Go Go.RowKit

theorem foldl_set (f : Nat → Value) (k : Nat) : ∀ (ds : List Nat) (t : Array Value), (ds.foldl (fun t d => t.setIfInBounds d (f d)) t)[k]? = if k ∈ ds then (if k < t.size then some (f k) else none) else t[k]?
  | [], t => by simp
  | d :: ds, t => by
    rw [List.foldl_cons, foldl_set f k ds, Array.size_setIfInBounds]
    by_cases h : k ∈ ds
    · simp [h]
    · by_cases e : k = d
      · subst e; simp [h, Array.getElem?_setIfInBounds_self]
      · simp [h, e, Array.getElem?_setIfInBounds_ne (Ne.symm e)]
theorem foldl_put (f : Nat → Value) : ∀ (ds : List Nat) (a : Act), ds.foldl (fun x d => x.put (some d) (f d)) a = { tmps := ds.foldl (fun t d => t.setIfInBounds d (f d)) a.tmps, defers := a.defers }
  | [], _ => rfl
  | d :: ds, a => by rw [List.foldl_cons, List.foldl_cons, foldl_put f ds]; rfl
/-- An act that differs from another in these slots alone. -/
theorem act_puts {a a0 : Act} (ds : List Nat) (hs : a.tmps.size = a0.tmps.size) (hd : a.defers = a0.defers) (h : ∀ k, k < a0.tmps.size → k ∉ ds → a.tmps[k]? = a0.tmps[k]?) :
    a = ds.foldl (fun x d => x.put (some d) (a.tmps.getD d undef)) a0 := by
  rw [foldl_put]
  obtain ⟨ts, df⟩ := a
  obtain rfl : df = a0.defers := hd
  congr 1
  apply Array.ext_getElem?
  intro k
  rw [foldl_set]
  have hs' : ts.size = a0.tmps.size := hs
  by_cases hk : k < a0.tmps.size
  · by_cases hm : k ∈ ds
    · rw [if_pos hm, if_pos hk]
      have : k < ts.size := by omega
      simp [this]
    · rw [if_neg hm]; exact h k hk hm
  · have h1 : ts[k]? = none := Array.getElem?_eq_none (by omega)
    rw [h1]
    by_cases hm : k ∈ ds
    · rw [if_pos hm, if_neg hk]
    · rw [if_neg hm, Array.getElem?_eq_none (by omega)]

section
variable {Q : Exit → Act → World → Prop} {a a0 : Act} {w w0 : World} {dst : Option Tmp} {ty : TypeId} {pos : String} {af : Array Edge} {gd : Option (Nat × Bool)}
theorem st_moveK {s : Nat} {u : Value} (hk : a.tmps[s]? = a0.tmps[s]?) (h0 : a0.tmps[s]? = some u) :
    Oper.wp Tryd.prog ⟨dst, .move (.tmp s), ty, pos, af, gd⟩ a w (fun a' w' => ∃ v, a' = a.put dst v ∧ Below w.heap.size w w' ∧ (Sp.val u).ok w' v) Q := op_move ⟨_, rfl, Below.refl _ _, eval_kept hk h0⟩
end
theorem index_u8 {w : World} {b off n c k : Nat} (h : k < n) : (Instr.indexAt 56 (.slice (some ⟨b, off, none⟩) n c) (.int .i64 (k : Int))).run Tryd.prog w = .ok (.pointer (some ⟨b, off + k, none⟩)) w := by
  have h0 : (0 : Int) ≤ (k : Int) := by omega
  have h1 : (k : Int) < (n : Int) := by omega
  go_simp
theorem load_u8 {w : World} {r o : Nat} {v : Value} (h : w.cell? ⟨r, o, none⟩ = some v) : (Instr.loadAt 5 (.pointer (some ⟨r, o, none⟩))).run Tryd.prog w = .ok v w := by go_simp
theorem rem_u8 {w : World} {d : Int} (h0 : 0 ≤ d) (_h1 : d < 256) : (binOp .rem 5 (.int .u8 d) (.int .u8 10)).run Tryd.prog w = .ok (.int .u8 (d % 10)) w := by
  go_simp
  exact Int.tmod_eq_emod_of_nonneg h0
theorem wrap_i64_id {d : Int} (h0 : -9223372036854775808 ≤ d) (h1 : d ≤ 9223372036854775807) : IntKind.i64.wrap d = d := by
  simp only [IntKind.wrap_i64]
  omega
theorem conv_u8i64 {w : World} {d : Int} (h0 : 0 ≤ d) (h1 : d < 256) : (convert 5 2 (.int .u8 d)).run Tryd.prog w = .ok (.int .i64 d) w := by
  go_simp
  exact wrap_i64_id (by omega) (by omega)
theorem enter_Of : Enters Tryd.prog 17 := ⟨fun xs w => by go_simp⟩
theorem op_neq {Q : Exit → Act → World → Prop} {a : Act} {w : World} {dst : Option Tmp} {ty : TypeId} {pos : String} {af : Array Edge} {gd : Option (Nat × Bool)} {K : Act → World → Prop} {x y : Operand} {m n : Int} (hx : a.eval x = .int .i64 m) (hy : a.eval y = .int .i64 n) (h : K (a.put dst (.bool (m != n))) w) :
    Oper.wp Tryd.prog ⟨dst, .binOp .neq 3 x y 3, ty, pos, af, gd⟩ a w K Q := by
  unfold Oper.wp
  simp only [execOp, hx, hy]
  go_simp
  exact h

def pxSp (b off n c j : Nat) (d : Int) : List Sp :=
  [Sp.num (d % 10), Sp.val (.slice (some ⟨b, off, none⟩) n c), Sp.int (j : Int), Sp.val (.pointer (some ⟨b, off + j, none⟩)), Sp.val (.int .u8 d), Sp.val (.int .u8 (d % 10)), Sp.int (d % 10), Sp.num (d % 10), Sp.int 0, Sp.bool false]

set_option maxRecDepth 100000 in
theorem pw_digit {Q : Exit → Act → World → Prop} {a0 : Act} {w0 : World} (b off n c j r : Nat) (d : Int) (hN : a0.tmps.size = 91) (h0 : a0.tmps[0]? = some (.slice (some ⟨b, off, none⟩) n c)) (h10 : a0.tmps[10]? = some (.int .i64 (j : Int))) (h12 : a0.tmps[12]? = some (.pointer (some ⟨r, 0, none⟩)))
    (hj : j < n) (hd0 : 0 ≤ d) (hd1 : d < 256) (hB : BI w0 r (d % 10)) (hb : b < w0.heap.size) (hc : w0.cell? ⟨b, off + j, none⟩ = some (.int .u8 d))
    (hQ : ∀ (v77 v78 v79 v80 v81 v82 v83 v84 v85 : Value) (w : World), Below w0.heap.size w0 w → Q .normal (((((((((((((((((((a0.put (some 77) v77)).put (some 78) v78)).put (some 79) v79)).put (some 80) v80)).put (some 81) v81)).put (some 82) v82)).put (some 83) v83)).put (some 84) v84)).put (some 85) v85)).put (some 86) (.bool false)) w) :
    (Code.region 26 (regionOf Tryd.f7 26).toArray true).wp Tryd.prog Q a0 w0 := by
  have hdm : 0 ≤ d % 10 ∧ d % 10 < 10 := by omega
  refine region_sp 91 ((List.range 91).filter fun k => decide (k < 77) || decide (86 < k)) (pxSp b off n c j d) (by kernel_rfl) (by kernel_rfl) hN 10 (by kernel_rfl) ?_ ?_
  · intro i hi a w hb' hk hp
    match i, hi with
    | 0, _ => exact st_want (wanted_none rfl) (st_load (hk 12 (by decide)) ⟨r, h12, hB⟩ hb')
    | 1, _ => exact st_want (wanted_none rfl) (st_moveK (hk 0 (by decide)) h0)
    | 2, _ => exact st_want (wanted_none rfl) (op_move ⟨_, rfl, Below.refl _ _, eval_kept (hk 10 (by decide)) h10⟩)
    | 3, _ =>
      have p0 : a.tmps.getD 78 undef = .slice (some ⟨b, off, none⟩) n c := hp 1 rfl
      have p1 : a.tmps.getD 79 undef = .int .i64 (j : Int) := hp 2 rfl
      exact st_want (wanted_none rfl) (op_indexAddr (a := a) p0 p1 (index_u8 hj) ⟨_, rfl, Below.refl _ _, rfl⟩)
    | 4, _ =>
      have p0 : a.tmps.getD 80 undef = .pointer (some ⟨b, off + j, none⟩) := hp 3 rfl
      exact st_want (wanted_none rfl) (op_load (a := a) p0 (load_u8 ((hb'.cell (p := ⟨b, off + j, none⟩) hb).trans hc)) ⟨_, rfl, Below.refl _ _, rfl⟩)
    | 5, _ =>
      have p0 : a.tmps.getD 81 undef = .int .u8 d := hp 4 rfl
      exact st_want (wanted_none rfl) (op_bin (a := a) p0 rfl (by go_simp) (rem_u8 hd0 hd1) ⟨_, rfl, Below.refl _ _, rfl⟩)
    | 6, _ =>
      have p0 : a.tmps.getD 82 undef = .int .u8 (d % 10) := hp 5 rfl
      exact st_want (wanted_none rfl) (op_convert (a := a) p0 (conv_u8i64 hdm.1 (by omega)) ⟨_, rfl, Below.refl _ _, rfl⟩)
    | 7, _ =>
      have p0 : a.tmps.getD 83 undef = .int .i64 (d % 10) := hp 6 rfl
      refine st_want (wanted_none rfl) (st_call1 enter_Of ?_)
      rw [p0]
      exact Calls.mono (of_any (d % 10) w) fun _ _ ⟨h1, h2⟩ => ⟨_, h1, h2, .inl ⟨rfl, by omega, by omega⟩⟩
    | 8, _ =>
      have p0 : (Sp.num (d % 10)).ok w (a.tmps.getD 77 undef) := hp 0 rfl
      have p1 : (Sp.num (d % 10)).ok w (a.tmps.getD 84 undef) := hp 7 rfl
      exact st_want (wanted_none rfl) (st_Cmp (j := 4000) (k := 4000) p0 p1 (small_pw (by omega) (by omega)) (small_pw (by omega) (by omega)) (by decide) (by decide) (cmpI_eq rfl))
    | 9, _ =>
      have p0 : a.tmps.getD 85 undef = .int .i64 0 := hp 8 rfl
      exact st_want (wanted_none rfl) (op_neq (a := a) p0 rfl ⟨_, rfl, Below.refl _ _, rfl⟩)
  · intro a w hb' hd hn hk hsp
    have e := act_puts [77, 78, 79, 80, 81, 82, 83, 84, 85, 86] (a := a) (a0 := a0) (by omega) hd (fun k hk1 hk2 => hk k (by
      have h1 : k < 91 := by omega
      simp at hk2
      simp
      omega))
    have e86 : a.tmps.getD 86 undef = .bool false := hsp 9 (by decide)
    rw [e]
    simp only [List.foldl_cons, List.foldl_nil, e86]
    exact hQ _ _ _ _ _ _ _ _ _ w hb'

end Go.Proofs.YtpkpkpjhpkndnaaDoor
