/- Size, Depth, Ground, withinLimits of package term. -/
import Derived.Test.YtegmckpcchhmdaaDoorZAB
import Derived.Deep.RegionHeld3
set_option linter.unusedVariables false
set_option linter.unusedSimpArgs false

/- The document's sizes and depths of terms. -/
namespace Go.Proofs.YtegmckpcchhmdaaDoor
open Go Go.RowKit
def Tm.size : Tm → Nat | ⟨_, _, _, _, l, _, _⟩ => 1 + (l.map fun u => Tm.size u).sum
theorem Tm.size_eq (t : Tm) : t.size = 1 + (t.l.map Tm.size).sum := by
  cases t
  rw [Tm.size]
def maxOf (l : List Nat) : Nat := l.foldl max 0
def Tm.depth : Tm → Nat | ⟨_, _, _, _, l, _, _⟩ => maxOf (l.map fun u => Tm.depth u) + 1
theorem Tm.depth_eq (t : Tm) : t.depth = maxOf (t.l.map Tm.depth) + 1 := by
  cases t
  rw [Tm.depth]
/-- Of the first i, and one more. -/
theorem take_more {α : Type} {l : List α} {i : Nat} (h : i < l.length) : l.take (i + 1) = l.take i ++ [l[i]] := List.take_succ_eq_append_getElem h
theorem sum_take_le (l : List Nat) (i : Nat) : (l.take i).sum ≤ l.sum := by
  conv => rhs; rw [← List.take_append_drop i l, List.sum_append]
  omega
theorem sum_more {l : List Tm} {i : Nat} (h : i < l.length) : ((l.take (i + 1)).map Tm.size).sum = ((l.take i).map Tm.size).sum + l[i].size := by
  rw [take_more h, List.map_append, List.sum_append]; simp
theorem sum_some (t : Tm) (i : Nat) : 1 + ((t.l.take i).map Tm.size).sum ≤ t.size := by
  rw [Tm.size_eq, List.map_take]
  have := sum_take_le (t.l.map Tm.size) i
  omega
/-- A term's seven cells. -/
def Cells7 (w : World) (b o : Nat) (u : Tm) (aL aV aP : Option Addr) (lL lV lP cL cV cP : Nat) : Prop :=
  w.cell? ⟨b, o, none⟩ = some (.int .i64 u.op) ∧ w.cell? ⟨b, o + 1, none⟩ = some (.string u.name) ∧ w.cell? ⟨b, o + 2, none⟩ = some (.int .i64 u.sort) ∧ w.cell? ⟨b, o + 3, none⟩ = some (.string u.num)
    ∧ w.cell? ⟨b, o + 4, none⟩ = some (.slice aL lL cL) ∧ w.cell? ⟨b, o + 5, none⟩ = some (.slice aV lV cV) ∧ w.cell? ⟨b, o + 6, none⟩ = some (.slice aP lP cP)
/-- The value of a term whose lists are these. -/
def tval (u : Tm) (aL aV aP : Option Addr) (lL lV lP cL cV cP : Nat) : Value := .agg #[.int .i64 u.op, .string u.name, .int .i64 u.sort, .string u.num, .slice aL lL cL, .slice aV lV cV, .slice aP lP cP]
theorem TmAt.cells {w : World} {B d b o : Nat} {u : Tm} (h : TmAt w B d b o u) :
    ∃ d' aL aV aP lL lV lP cL cV cP, d = d' + 1 ∧ Cells7 w b o u aL aV aP lL lV lP cL cV cP ∧ IsT w B d' (tval u aL aV aP lL lV lP cL cV cP) u := by
  cases d with
  | zero => exact h.elim
  | succ d =>
    obtain ⟨hb, h1, h2, aL, aV, aP, cL, cV, cP, hr, hL, hV, hP, _⟩ := h
    exact ⟨d, aL, aV, aP, _, _, _, cL, cV, cP, rfl, ⟨hr 0 _ rfl, hr 1 _ rfl, hr 2 _ rfl, hr 3 _ rfl, hr 4 _ rfl, hr 5 _ rfl, hr 6 _ rfl⟩, h1, h2, aL, aV, aP, cL, cV, cP, rfl, hL, hV, hP⟩
theorem Row.at {w : World} {B d n cap : Nat} {a : Option Addr} {l : List Tm} (h : Row B a n cap 7 (fun b o j => ∀ u, l[j]? = some u → TmAt w B d b o u)) (hn : n = l.length) {i : Nat} (hi : i < n) :
    ∃ b off, a = some ⟨b, off, none⟩ ∧ b < B ∧ TmAt w B d b (off + i * 7) (l[i]'(by omega)) := by
  obtain ⟨b, off, e, hb, hj⟩ := h.2.2 (by omega)
  exact ⟨b, off, e, hb, hj i hi _ (List.getElem?_eq_getElem (by omega))⟩
/-- The walk answers a number, and leaves memory alone. -/
def NPost (n : Nat) (w : World) (e : Ending) (w' : World) : Prop := e = .returned (.int .i64 n) ∧ Below w.heap.size w w'
set_option maxRecDepth 100000 in
set_option maxHeartbeats 16000000 in
theorem size_any (d : Nat) : ∀ (B : Nat) (v : Value) (t : Tm) (w : World), IsT w B d v t → B ≤ w.heap.size → t.size ≤ 9223372036854775807 →
    Calls Tryd.prog 21 #[v] w (NPost t.size w) := by
  induction d using Nat.strongRecOn with
  | _ d ih =>
  intro B v t w hT hB hM
  obtain ⟨h1, h2, aL, aV, aP, cL, cV, cP, rfl, hL, hV, hP⟩ := hT
  have IH := hide ih
  clear ih hV hP h1 h2
  simp only [tcells, List.toArray]
  generalize t.vars.length = nV at *
  generalize t.pat.length = nP at *
  obtain ⟨n, hn⟩ : ∃ n, t.l.length = n := ⟨_, rfl⟩
  rw [hn] at hL ⊢
  have hmax : n ≤ 9223372036854775807 := by have := hL.1; have := hL.2.1; omega
  have HN := hide hn
  have HL := hide hL
  have HM := hide hM
  clear hn hL hM
  go_enter Tryd.func21, Tryd.ntmps21
  go_wp2
  obtain ⟨w0, e0, hb0, hs0, hc0, hh⟩ := box_new w #[.int .i64 t.op, .string t.name, .int .i64 t.sort, .string t.num, .slice aL n cL, .slice aV nV cV, .slice aP nP cP] 25
  rw [e0]
  have hc4 : w0.cell? ⟨w.heap.size, 4, none⟩ = some (.slice aL n cL) := hc0 4 _ rfl
  clear hc0 e0 hh
  have HB0 := hide hb0
  have HC4 := hide hc4
  clear hb0 hc4
  go_loopw [3, 4] (fun nv iv wr => ∃ i : Nat, i ≤ n ∧ iv = .int .i64 i ∧ nv = .int .i64 (1 + ((t.l.take i).map Tm.size).sum : Nat) ∧ Below w0.heap.size w0 wr) (fun _ iv _ => n - (intOf iv).toNat)
  case atStart => exact ⟨0, Nat.zero_le _, rfl, by simp, Below.refl _ _⟩
  case round =>
    obtain ⟨i, hi0, rfl, rfl, hb⟩ := hrel
    have hc4 := (hb.cell (p := ⟨w.heap.size, 4, none⟩) (show w.heap.size < w0.heap.size by omega)).trans (unhide HC4)
    have hbw : Below w.heap.size w wr := (unhide HB0).trans (hb.mono (by omega))
    by_cases hi : i < n
    · obtain ⟨b, off, rfl, hbB, hAt⟩ := ((unhide HL).below (hbw.mono hB)).at (unhide HN).symm hi
      obtain ⟨d', bL, bV, bP, mL, mV, mP, kL, kV, kP, rfl, ⟨c0, c1, c2, c3, c4, c5, c6⟩, hT⟩ := hAt.cells
      have hil : i < t.l.length := by rw [unhide HN]; exact hi
      have hm := sum_more hil
      have hle := sum_some t (i + 1)
      rw [hm] at hle
      have hM := unhide HM
      generalize t.l[i] = u at *
      generalize ((t.l.take i).map Tm.size).sum = s at *
      have HT := hide hT
      have HB := hide hb
      have HBw := hide hbw
      have HM1 := hide hm
      clear hT hb hbw hm hAt
      go_wp2_with fail
      refine (unhide IH d' (by omega) B _ u wr (unhide HT) (by have := (unhide HBw).size; omega) (by omega)).mono ?_
      rintro e w1 ⟨rfl, hb1⟩
      have hsz := (unhide HBw).size
      have HB1 := hide hb1
      clear hb1
      have hwr : IntKind.i64.wrap ((1 + s : Nat) + (u.size : Nat) : Int) = ((1 + (s + u.size) : Nat) : Int) := by simp only [IntKind.wrap_i64]; omega
      go_wp2
      refine ⟨⟨i + 1, by omega, by simp, ?_, (unhide HB).trans ((unhide HB1).mono (unhide HB).size)⟩, by simp [intOf]; omega⟩
      rw [unhide HM1]
      congr 1
      omega
    · have hall : 1 + ((t.l.take i).map Tm.size).sum = t.size := by rw [List.take_of_length_le (by rw [unhide HN]; omega), Tm.size_eq]
      rw [hall]
      have HBw := hide hbw
      clear hbw hb hall
      go_wp2
      go_ret
      exact ⟨rfl, unhide HBw⟩
theorem max_more {l : List Tm} {i : Nat} (h : i < l.length) : maxOf ((l.take (i + 1)).map Tm.depth) = max (maxOf ((l.take i).map Tm.depth)) l[i].depth := by
  rw [take_more h, List.map_append, maxOf, List.foldl_append]; rfl
theorem max_grows (l : List Nat) : ∀ a, a ≤ l.foldl max a := by
  induction l with
  | nil => intro a; exact Nat.le_refl _
  | cons x l ih => intro a; exact Nat.le_trans (Nat.le_max_left a x) (ih (max a x))
theorem max_some (t : Tm) (i : Nat) : maxOf ((t.l.take i).map Tm.depth) + 1 ≤ t.depth := by
  rw [Tm.depth_eq]
  have : maxOf (t.l.map Tm.depth) = ((t.l.drop i).map Tm.depth).foldl max (maxOf ((t.l.take i).map Tm.depth)) := by
    unfold maxOf
    rw [← List.foldl_append, ← List.map_append, List.take_append_drop]
  rw [this]
  have := max_grows ((t.l.drop i).map Tm.depth) (maxOf ((t.l.take i).map Tm.depth))
  omega
set_option maxRecDepth 100000 in
set_option maxHeartbeats 16000000 in
theorem depth_any (d : Nat) : ∀ (B : Nat) (v : Value) (t : Tm) (w : World), IsT w B d v t → B ≤ w.heap.size → t.depth ≤ 9223372036854775807 →
    Calls Tryd.prog 22 #[v] w (NPost t.depth w) := by
  induction d using Nat.strongRecOn with
  | _ d ih =>
  intro B v t w hT hB hM
  obtain ⟨h1, h2, aL, aV, aP, cL, cV, cP, rfl, hL, hV, hP⟩ := hT
  have IH := hide ih
  clear ih hV hP h1 h2
  simp only [tcells, List.toArray]
  generalize t.vars.length = nV at *
  generalize t.pat.length = nP at *
  obtain ⟨n, hn⟩ : ∃ n, t.l.length = n := ⟨_, rfl⟩
  rw [hn] at hL ⊢
  have hmax : n ≤ 9223372036854775807 := by have := hL.1; have := hL.2.1; omega
  have HN := hide hn
  have HL := hide hL
  have HM := hide hM
  clear hn hL hM
  go_enter Tryd.func22, Tryd.ntmps22
  go_wp2
  obtain ⟨w0, e0, hb0, hs0, hc0, hh⟩ := box_new w #[.int .i64 t.op, .string t.name, .int .i64 t.sort, .string t.num, .slice aL n cL, .slice aV nV cV, .slice aP nP cP] 25
  rw [e0]
  have hc4 : w0.cell? ⟨w.heap.size, 4, none⟩ = some (.slice aL n cL) := hc0 4 _ rfl
  clear hc0 e0 hh
  have HB0 := hide hb0
  have HC4 := hide hc4
  clear hb0 hc4
  go_loopw [3, 4] (fun nv iv wr => ∃ i : Nat, i ≤ n ∧ iv = .int .i64 i ∧ nv = .int .i64 (maxOf ((t.l.take i).map Tm.depth) : Nat) ∧ Below w0.heap.size w0 wr) (fun _ iv _ => n - (intOf iv).toNat)
  case atStart => exact ⟨0, Nat.zero_le _, rfl, by simp [maxOf], Below.refl _ _⟩
  case round =>
    obtain ⟨i, hi0, rfl, rfl, hb⟩ := hrel
    have hc4 := (hb.cell (p := ⟨w.heap.size, 4, none⟩) (show w.heap.size < w0.heap.size by omega)).trans (unhide HC4)
    have hbw : Below w.heap.size w wr := (unhide HB0).trans (hb.mono (by omega))
    by_cases hi : i < n
    · obtain ⟨b, off, rfl, hbB, hAt⟩ := ((unhide HL).below (hbw.mono hB)).at (unhide HN).symm hi
      obtain ⟨d', bL, bV, bP, mL, mV, mP, kL, kV, kP, rfl, ⟨c0, c1, c2, c3, c4, c5, c6⟩, hT⟩ := hAt.cells
      have hil : i < t.l.length := by rw [unhide HN]; exact hi
      have hm := max_more hil
      have hle := max_some t (i + 1)
      rw [hm] at hle
      have hM := unhide HM
      generalize t.l[i] = u at *
      generalize maxOf ((t.l.take i).map Tm.depth) = s at *
      have HT := hide hT
      have HB := hide hb
      have HBw := hide hbw
      have HM1 := hide hm
      clear hT hb hbw hm hAt
      go_wp2_with fail
      refine (unhide IH d' (by omega) B _ u wr (unhide HT) (by have := (unhide HBw).size; omega) (by omega)).mono ?_
      rintro e w1 ⟨rfl, hb1⟩
      have hsz := (unhide HBw).size
      have HB1 := hide hb1
      clear hb1
      go_wp2
      refine ⟨⟨i + 1, by omega, by simp, ?_, (unhide HB).trans ((unhide HB1).mono (unhide HB).size)⟩, by simp [intOf]; omega⟩
      rw [unhide HM1]
      congr 1
      omega
    · have hall : maxOf ((t.l.take i).map Tm.depth) + 1 = t.depth := by rw [List.take_of_length_le (by rw [unhide HN]; omega), Tm.depth_eq]
      generalize maxOf ((t.l.take i).map Tm.depth) = s at *
      have hM := unhide HM
      have HA := hide hall
      rw [← hall] at hM
      have HBw := hide hbw
      clear hbw hb hall
      go_wp2
      go_ret
      exact ⟨by rw [← unhide HA]; rfl, unhide HBw⟩
end Go.Proofs.YtegmckpcchhmdaaDoor

/- What a term's operator makes of it (view), measures. -/
namespace Go.Proofs.YtegmckpcchhmdaaDoor
open Go Go.RowKit
/-- The type of the node that a term with this operator is. -/
def kindOf (op : Int) : TypeId :=
  if op = 1 then 108 else if op = 2 ∨ op = 3 then 132 else if 4 ≤ op ∧ op ≤ 16 then 133 else if op = 17 then 134 else if op = 18 then 101 else if op = 19 then 82 else 135
def VPost (v : Value) (w : World) (e : Ending) (w' : World) : Prop := e = .returned v ∧ Below w.heap.size w w'
set_option maxRecDepth 100000 in
set_option maxHeartbeats 16000000 in
theorem view_any (b o : Nat) (op : Int) (w : World) (hc : w.cell? ⟨b, o, none⟩ = some (.int .i64 op)) (hb : b < w.heap.size) :
    Calls Tryd.prog 34 #[.pointer (some ⟨b, o, none⟩)] w (VPost (.iface (kindOf op) (.agg #[.pointer (some ⟨b, o, none⟩)])) w) := by
  have hcases : op = 1 ∨ op = 2 ∨ op = 3 ∨ (4 ≤ op ∧ op ≤ 16) ∨ op = 17 ∨ op = 18 ∨ op = 19 ∨ (op < 1 ∨ 19 < op) := by omega
  rcases hcases with rfl | rfl | rfl | ⟨ha, hz⟩ | rfl | rfl | rfl | hout
  · go_enter Tryd.func34, Tryd.ntmps34
    go_wp2
    go_ret
    exact ⟨rfl, (Below.refl _ w).alloc (Nat.le_refl _) _⟩
  · go_enter Tryd.func34, Tryd.ntmps34
    go_wp2
    go_ret
    exact ⟨rfl, (Below.refl _ w).alloc (Nat.le_refl _) _⟩
  · go_enter Tryd.func34, Tryd.ntmps34
    go_wp2
    go_ret
    exact ⟨rfl, (Below.refl _ w).alloc (Nat.le_refl _) _⟩
  · have d1 : (op == 1) = false := by simp; omega
    have d2 : (op == 2) = false := by simp; omega
    have d3 : (op == 3) = false := by simp; omega
    have d4 : decide (4 ≤ op) = true := by simp; omega
    have d5 : decide (op ≤ 16) = true := by simp; omega
    have hk := hide (show kindOf op = 133 by unfold kindOf; rw [if_neg (by omega), if_neg (by omega), if_pos (by omega)])
    clear ha hz
    go_enter Tryd.func34, Tryd.ntmps34
    go_wp2
    go_ret
    exact ⟨by rw [unhide hk]; rfl, (Below.refl _ w).alloc (Nat.le_refl _) _⟩
  · go_enter Tryd.func34, Tryd.ntmps34
    go_wp2
    go_ret
    exact ⟨rfl, (Below.refl _ w).alloc (Nat.le_refl _) _⟩
  · go_enter Tryd.func34, Tryd.ntmps34
    go_wp2
    go_ret
    exact ⟨rfl, (Below.refl _ w).alloc (Nat.le_refl _) _⟩
  · go_enter Tryd.func34, Tryd.ntmps34
    go_wp2
    go_ret
    exact ⟨rfl, (Below.refl _ w).alloc (Nat.le_refl _) _⟩
  · have d1 : (op == 1) = false := by simp; omega
    have d2 : (op == 2) = false := by simp; omega
    have d3 : (op == 3) = false := by simp; omega
    have d6 : (op == 17) = false := by simp; omega
    have d7 : (op == 18) = false := by simp; omega
    have d8 : (op == 19) = false := by simp; omega
    have hk := hide (show kindOf op = 135 by unfold kindOf; rw [if_neg (by omega), if_neg (by omega), if_neg (by omega), if_neg (by omega), if_neg (by omega), if_neg (by omega)])
    rcases hout with hout | hout
    · have d4 : decide (4 ≤ op) = false := by simp; omega
      clear hout
      go_enter Tryd.func34, Tryd.ntmps34
      go_wp2
      go_ret
      exact ⟨by rw [unhide hk]; rfl, (Below.refl _ w).alloc (Nat.le_refl _) _⟩
    · have d4 : decide (4 ≤ op) = true := by simp; omega
      have d5 : decide (op ≤ 16) = false := by simp; omega
      clear hout
      go_enter Tryd.func34, Tryd.ntmps34
      go_wp2
      go_ret
      exact ⟨by rw [unhide hk]; rfl, (Below.refl _ w).alloc (Nat.le_refl _) _⟩
set_option maxRecDepth 100000 in
set_option maxHeartbeats 16000000 in
theorem keyOf_any (b o n cap : Nat) (w : World) (h : 0 < n) (hn : n ≤ 9223372036854775807) : Calls Tryd.prog 76 #[.slice (some ⟨b, o, none⟩) n cap] w (VPost (.agg #[.pointer (some ⟨b, o, none⟩), .int .i64 n]) w) := by
  go_enter Tryd.func76, Tryd.ntmps76
  go_wp2
  exact ⟨rfl, _, res_row rfl rfl (range_new w [.pointer (some ⟨b, o, none⟩), .int .i64 n] _) rfl rfl rfl, rfl, (Below.refl _ w).alloc (Nat.le_refl _) _⟩
end Go.Proofs.YtegmckpcchhmdaaDoor

/- Measures. -/
namespace Go.Proofs.YtegmckpcchhmdaaDoor
open Go Go.RowKit
/-- A measurer that has kept nothing yet. -/
def MS (w : World) (r s : Nat) : Prop := w.heap[r]? = some (.cells #[.map none, .int .i64 s, .bool false] 123)
theorem MS.cells {w : World} {r s : Nat} (h : MS w r s) : r < w.heap.size ∧ w.cell? ⟨r, 0, none⟩ = some (.map none) ∧ w.cell? ⟨r, 1, none⟩ = some (.int .i64 s) ∧ w.cell? ⟨r, 2, none⟩ = some (.bool false) ∧ (∀ o, w.frozen? ⟨r, o, none⟩ = false) := by
  refine ⟨(Array.getElem?_eq_some_iff.1 h).1, ?_, ?_, ?_, fun o => ?_⟩
  all_goals simp [World.cell?, World.frozen?, show w.heap[r]? = _ from h]
theorem MS.alloc {w : World} {r s : Nat} (h : MS w r s) (o : Obj) : MS (w.alloc o) r s := by
  unfold MS
  rw [Below.heap_alloc w o r h.cells.1]
  exact h
theorem set_block {w : World} {r o : Nat} {cs : Array Value} {ty : TypeId} (h : w.heap[r]? = some (.cells cs ty)) (v : Value) : (w.setCell ⟨r, o, none⟩ v).heap[r]? = some (.cells (cs.setIfInBounds o v) ty) := by
  simp [World.setCell, Array.getElem?_modify, h]
theorem MS.set1 {w : World} {r s : Nat} (h : MS w r s) (x : Nat) : MS (w.setCell ⟨r, 1, none⟩ (.int .i64 x)) r x := set_block h _
theorem MS.set2 {w : World} {r s : Nat} (h : MS w r s) : MS (w.setCell ⟨r, 2, none⟩ (.bool false)) r s := set_block h _
theorem MS.below {w w' : World} {r s B : Nat} (h : MS w r s) (hb : Below B w w') (hB : r < B) : MS w' r s := by
  unfold MS
  rw [hb.block r hB]
  exact h
def KPost (r s : Nat) (w : World) (e : Ending) (w' : World) : Prop := e = .returned (.tuple #[]) ∧ MS w' r s ∧ But r w w'
set_option maxRecDepth 100000 in
set_option maxHeartbeats 16000000 in
theorem keep_any (r s n cap : Nat) (a : Option Addr) (x y z : Value) (w : World) (h : MS w r s) (hs : s + n < 65536) :
    Calls Tryd.prog 77 #[.pointer (some ⟨r, 0, none⟩), .slice a n cap, .agg #[x, y, z]] w (KPost r (s + n) w) := by
  obtain ⟨hr, c0, c1, c2, cf⟩ := h.cells
  have cf1 := cf 1
  have H := hide h
  clear h cf
  have d1 : decide (((s : Int) + (n : Int)) < 65536) = true := by simp; omega
  go_enter Tryd.func77, Tryd.ntmps77
  go_wp2
  refine ⟨rfl, _, results_none (by rfl) _ _ _, rfl, ?_, ((But.refl r w).setCell (.inl rfl) _).alloc _⟩
  exact ((unhide H).set1 (s + n)).alloc _
end Go.Proofs.YtegmckpcchhmdaaDoor

/- Measures: a term's, out of its list's. -/
namespace Go.Proofs.YtegmckpcchhmdaaDoor
open Go Go.RowKit
def Tm.ground : Tm → Bool | ⟨op, _, _, _, l, _, _⟩ => !(op == 18) && !(op == 19) && ((l.map fun u => Tm.ground u).all id)
theorem Tm.ground_eq (t : Tm) : t.ground = (!(t.op == 18) && !(t.op == 19) && t.l.all Tm.ground) := by
  cases t
  rw [Tm.ground, List.all_map]
  rfl
def lsum (l : List Tm) : Nat := (l.map Tm.size).sum
def ldep (l : List Tm) : Nat := maxOf (l.map Tm.depth)
def MPost (r s x y : Nat) (g : Bool) (w : World) (e : Ending) (w' : World) : Prop := e = .returned (.agg #[.int .i64 x, .int .i64 y, .bool g]) ∧ MS w' r s ∧ But r w w'
def ListC (d : Nat) : Prop := ∀ (B r s : Nat) (w : World) (a : Option Addr) (n cap : Nat) (l : List Tm) (k : Nat), Row B a n cap 7 (fun b o j => ∀ u, l[j]? = some u → TmAt w B d b o u) → n = l.length → MS w r s → B ≤ r → s + lsum l < 65536 → k + ldep l ≤ 65537 →
    Calls Tryd.prog 66 #[.pointer (some ⟨r, 0, none⟩), .slice a n cap, .int .i64 k] w (MPost r (s + lsum l) (lsum l) (ldep l) (l.all Tm.ground) w)
def TermC (d : Nat) : Prop := ∀ (B r s : Nat) (w : World) (b o : Nat) (t : Tm) (k : Nat), TmAt w B d b o t → MS w r s → B ≤ r → s + t.size ≤ 65536 → k + t.depth ≤ 65537 →
    Calls Tryd.prog 47 #[.pointer (some ⟨r, 0, none⟩), .pointer (some ⟨b, o, none⟩), .int .i64 k] w (MPost r (s + (t.size - 1)) t.size t.depth t.ground w)
set_option maxRecDepth 100000 in
set_option maxHeartbeats 16000000 in
theorem capped_eq (a b : Nat) (w : World) (h : a + b ≤ 9223372036854775807) : Calls Tryd.prog 48 #[.int .i64 a, .int .i64 b] w fun e w' => e = .returned (.int .i64 ((a + b : Nat) : Int)) ∧ w' = w := by
  have d1 : decide ((9223372036854775807 - (b : Int)) < (a : Int)) = false := by simp; omega
  go_enter Tryd.func48, Tryd.ntmps48
  go_wp2
  go_ret
  exact ⟨by simp, rfl⟩
/-- A node told by its type. -/
theorem ta_yes {ty : TypeId} {v : Value} {w : World} {d : TypeDesc} (hu : Tryd.prog.underlying ty = some d) (hd : d.isRow = true) : (Instr.typeAssert (.iface ty v) 85 ty true).run Tryd.prog w = .ok (.tuple #[v, .bool true]) w := by
  unfold Instr.typeAssert
  rw [Sem.run_bind, run_underlying hu w]
  cases d <;> simp_all
theorem ta_no {k ty : TypeId} {v z : Value} {w : World} {d : TypeDesc} (hk : k ≠ ty) (hu : Tryd.prog.underlying ty = some d) (hd : d.isRow = true) (hz : (zeroValue ty).run Tryd.prog w = .ok z w) : (Instr.typeAssert (.iface k v) 85 ty true).run Tryd.prog w = .ok (.tuple #[z, .bool false]) w := by
  unfold Instr.typeAssert
  rw [Sem.run_bind, run_underlying hu w]
  cases d <;> simp_all [Sem.run_bind]
theorem keep_alloc {w : World} {q : Nat} {x : Obj} (h : w.heap[q]? = some x) (o : Obj) : (w.alloc o).heap[q]? = some x := by
  rw [Below.heap_alloc w o q (Array.getElem?_eq_some_iff.1 h).1]
  exact h
theorem keep_set {w : World} {q : Nat} {x : Obj} {p : Addr} (h : w.heap[q]? = some x) (hp : q ≠ p.block) (v : Value) : (w.setCell p v).heap[q]? = some x := by
  rw [Below.heap_setCell w p v q hp]
  exact h
theorem range_block {w : World} {q : Nat} {cs : List Value} {ty : TypeId} (h : w.heap[q]? = some (.cells cs.toArray ty)) : w.rangeAt q 0 cs := by
  intro j v hv
  have hv' : cs.toArray[0 + j]? = some v := by simpa using hv
  simp only [World.cell?, h, hv']
  rfl
/-- What a struct's block holds when all three cells are filled. -/
theorem fill3 {w : World} {q : Nat} {a b c x y z : Value} {ty : TypeId} (h : w.heap[q]? = some (.cells #[a, b, c] ty)) : (((w.setCell ⟨q, 0, none⟩ x).setCell ⟨q, 1, none⟩ y).setCell ⟨q, 2, none⟩ z).heap[q]? = some (.cells #[x, y, z] ty) := set_block (set_block (set_block h _) _) _
theorem kindOf_var {x : Int} (h : x ≠ 18) : kindOf x ≠ 101 := by
  unfold kindOf
  split
  · decide
  · split
    · decide
    · split
      · decide
      · split
        · decide
        · split <;> decide
theorem kindOf_all {x : Int} (h : x ≠ 19) : kindOf x ≠ 82 := by
  unfold kindOf
  split
  · decide
  · split
    · decide
    · split
      · decide
      · split
        · decide
        · split
          · decide
          · decide
/-- A block of a struct's cells. -/
theorem blk {w : World} {q : Nat} {cs : Array Value} {ty : TypeId} (h : w.heap[q]? = some (.cells cs ty)) : q < w.heap.size ∧ (∀ (o : Nat) v, cs[o]? = some v → w.cell? ⟨q, o, none⟩ = some v) ∧ ∀ o, w.frozen? ⟨q, o, none⟩ = false := by
  refine ⟨(Array.getElem?_eq_some_iff.1 h).1, fun o v hv => ?_, fun o => by simp [World.frozen?, h]⟩
  simp only [World.cell?, h, hv]
  rfl
theorem But.blk {r q : Nat} {w w' : World} {x : Obj} (h : But r w w') (hx : w.heap[q]? = some x) (hq : q ≠ r) : w'.heap[q]? = some x := by
  rw [h.block q (Array.getElem?_eq_some_iff.1 hx).1 hq]
  exact hx
set_option maxRecDepth 100000 in
set_option maxHeartbeats 16000000 in
theorem mterm_of {d : Nat} (hl : ListC d) : TermC (d + 1) := by
  intro B r s w b o t k hT hM hB hs hk
  have HL := hide hl
  obtain ⟨hb, h1, h2, aL, aV, aP, cL, cV, cP, hrg, hRow, hV, hP, _⟩ := hT
  have c0 : w.cell? ⟨b, o, none⟩ = some (.int .i64 t.op) := hrg 0 _ rfl
  have c4 : w.cell? ⟨b, o + 4, none⟩ = some (.slice aL t.l.length cL) := hrg 4 _ rfl
  obtain ⟨hr, m0, m1, m2, mf⟩ := hM.cells
  obtain ⟨n, hn⟩ : ∃ n, t.l.length = n := ⟨_, rfl⟩
  rw [hn] at c4 hRow
  have HRow := hide hRow
  have HM := hide hM
  have HMf := hide mf
  have es : t.size = 1 + lsum t.l := t.size_eq
  have ed : t.depth = ldep t.l + 1 := t.depth_eq
  rw [es] at hs ⊢
  rw [ed] at hk ⊢
  have HE := hide (And.intro es ed)
  clear hl h1 h2 hrg hRow hV hP hM mf m0 m1 m2 es ed
  have HN := hide hn
  have hbw : b < w.heap.size := by omega
  clear hn
  go_enter Tryd.func47, Tryd.ntmps47
  go_wp2_with fail
  obtain ⟨w1, e1, hb1, hs1, hc1, hh1⟩ := box_new w #[.int .i64 0, .int .i64 0, .bool false] 74
  rw [e1]
  have ek : ((k : Int) + 1) = ((k + 1 : Nat) : Int) := by omega
  rw [ek]
  refine (unhide HL B r s w1 aL n cL t.l (k + 1) ((unhide HRow).below (hb1.mono (by omega))) (unhide HN).symm ((unhide HM).below hb1 hr) hB (by omega) (by omega)).mono ?_
  rintro e w2 ⟨rfl, hM2, hbut⟩
  have hq2 := hbut.blk hh1 (by omega)
  obtain ⟨hql, hqc, hqf⟩ := blk hq2
  have HQ2 := hide hq2
  have c0' : w2.cell? ⟨b, o, none⟩ = some (.int .i64 t.op) := by
    rw [hbut.cell (p := ⟨b, o, none⟩) (by show b < _; omega) (by show b ≠ r; omega), hb1.cell (p := ⟨b, o, none⟩) (show b < w.heap.size by omega)]
    exact c0
  have HB := hide (And.intro hb1 hbut)
  have HM2 := hide hM2
  clear hb1 hbut hM2 e1 hc1 hh1 hqc hqf hq2 c0 ek
  generalize hLS : lsum t.l = LS at *
  generalize hLD : ldep t.l = LD at *
  go_wp2_with fail
  refine (capped_eq LS 1 _ (by omega)).mono ?_
  rintro e w3 ⟨rfl, rfl⟩
  go_wp2_with fail
  obtain ⟨w3, e3, hb3, hs3, hc3, hh3⟩ := box_new w2 #[.int .i64 ((LS : Int) + 1), .int .i64 ((LD : Int) + 1), .bool (t.l.all Tm.ground)] 74
  rw [e3]
  refine (view_any b o t.op w3 ((hb3.cell (p := ⟨b, o, none⟩) (show b < w2.heap.size by omega)).trans c0') (by omega)).mono ?_
  rintro e w4 ⟨rfl, hb4⟩
  have hq4 : w4.heap[w.heap.size]? = some (.cells #[.int .i64 0, .int .i64 0, .bool false] 74) := by
    rw [hb4.block _ (by omega), hb3.block _ hql]
    exact unhide HQ2
  have hp4 : w4.heap[w2.heap.size]? = some (.cells #[.int .i64 ((LS : Int) + 1), .int .i64 ((LD : Int) + 1), .bool (t.l.all Tm.ground)] 74) := by
    rw [hb4.block _ (by omega)]
    exact hh3
  obtain ⟨hql4, hqc4, hqf4⟩ := blk hq4
  obtain ⟨hpl4, hpc4, hpf4⟩ := blk hp4
  have q0 : w4.cell? ⟨w.heap.size, 0, none⟩ = some (.int .i64 0) := hqc4 0 _ rfl
  have q1 : w4.cell? ⟨w.heap.size, 1, none⟩ = some (.int .i64 0) := hqc4 1 _ rfl
  have q2 : w4.cell? ⟨w.heap.size, 2, none⟩ = some (.bool false) := hqc4 2 _ rfl
  have f0 := hqf4 0
  have f1 := hqf4 1
  have f2 := hqf4 2
  have p0 : w4.cell? ⟨w2.heap.size, 0, none⟩ = some (.int .i64 ((LS : Int) + 1)) := hpc4 0 _ rfl
  have p1 : w4.cell? ⟨w2.heap.size, 1, none⟩ = some (.int .i64 ((LD : Int) + 1)) := hpc4 1 _ rfl
  have p2 : w4.cell? ⟨w2.heap.size, 2, none⟩ = some (.bool (t.l.all Tm.ground)) := hpc4 2 _ rfl
  have g0 := hpf4 0
  have g1 := hpf4 1
  have g2 := hpf4 2
  have hne : w2.heap.size ≠ w.heap.size := by omega
  have hne2 : w.heap.size ≠ w2.heap.size := by omega
  have hG := hide t.ground_eq
  have HB4 := hide (And.intro hb3 hb4)
  have HS4 := hide (((unhide HM2).below hb3 (by have := (unhide HB).2.size; omega)).below hb4 (by have := (unhide HB).2.size; omega))
  have HBW := hide (show But r w w4 from ((But.of (unhide HB).1 (Nat.le_refl _)).trans (unhide HB).2).trans ((But.of hb3 (Nat.le_refl _)).trans (But.of hb4 (Nat.le_refl _))))
  have HQ4 := hide (And.intro hq4 hp4)
  clear hb3 hb4 hq4 hp4 hqc4 hqf4 hpc4 hpf4 hc3 hh3 e3
  generalize hGA : t.l.all Tm.ground = ga at *
  by_cases h18 : t.op = 18
  · have hkk : kindOf t.op = 101 := by rw [h18]; rfl
    rw [hkk]
    clear hkk
    have ta1 := fun w => ta_yes (ty := 101) (v := .agg #[.pointer (some ⟨b, o, none⟩)]) (w := w) rfl rfl
    have ta2 := fun w => ta_no (k := 101) (ty := 82) (v := .agg #[.pointer (some ⟨b, o, none⟩)]) (z := .agg #[.pointer none]) (w := w) (by decide) rfl rfl (by go_simp)
    go_wp2
    refine ⟨rfl, _, res_row (cs := [.int .i64 ((LS : Int) + 1), .int .i64 ((LD : Int) + 1), .bool false]) rfl rfl (range_block (keep_alloc (keep_alloc (fill3 (keep_set (unhide HQ4).1 hne2 _)) _) _)) rfl rfl rfl, ?_, ?_, ?_⟩
    · rw [unhide hG, h18]
      simp
      omega
    · rw [show s + (1 + LS - 1) = s + LS by omega]
      unfold MS
      exact keep_alloc (keep_alloc (keep_set (keep_set (keep_set (keep_set (unhide HS4) (by show r ≠ w2.heap.size; omega) _) (by show r ≠ w.heap.size; omega) _) (by show r ≠ w.heap.size; omega) _) (by show r ≠ w.heap.size; omega) _) _) _
    · exact (((((((unhide HBW).setCell (.inr (by show w.heap.size ≤ w2.heap.size; omega)) _).setCell (.inr (Nat.le_refl _)) _).setCell (.inr (Nat.le_refl _)) _).setCell (.inr (Nat.le_refl _)) _).alloc _).alloc _)
  by_cases h19 : t.op = 19
  · have hkk : kindOf t.op = 82 := by rw [h19]; rfl
    rw [hkk]
    clear hkk
    have ta1 := fun w => ta_yes (ty := 82) (v := .agg #[.pointer (some ⟨b, o, none⟩)]) (w := w) rfl rfl
    have ta2 := fun w => ta_no (k := 82) (ty := 101) (v := .agg #[.pointer (some ⟨b, o, none⟩)]) (z := .agg #[.pointer none]) (w := w) (by decide) rfl rfl (by go_simp)
    go_wp2
    refine ⟨rfl, _, res_row (cs := [.int .i64 ((LS : Int) + 1), .int .i64 ((LD : Int) + 1), .bool false]) rfl rfl (range_block (keep_alloc (keep_alloc (fill3 (keep_set (unhide HQ4).1 hne2 _)) _) _)) rfl rfl rfl, ?_, ?_, ?_⟩
    · rw [unhide hG, h19]
      simp
      omega
    · rw [show s + (1 + LS - 1) = s + LS by omega]
      unfold MS
      exact keep_alloc (keep_alloc (keep_set (keep_set (keep_set (keep_set (unhide HS4) (by show r ≠ w2.heap.size; omega) _) (by show r ≠ w.heap.size; omega) _) (by show r ≠ w.heap.size; omega) _) (by show r ≠ w.heap.size; omega) _) _) _
    · exact (((((((unhide HBW).setCell (.inr (by show w.heap.size ≤ w2.heap.size; omega)) _).setCell (.inr (Nat.le_refl _)) _).setCell (.inr (Nat.le_refl _)) _).setCell (.inr (Nat.le_refl _)) _).alloc _).alloc _)
  · have hk1 : kindOf t.op ≠ 101 := kindOf_var h18
    have hk2 : kindOf t.op ≠ 82 := kindOf_all h19
    generalize kindOf t.op = kk at *
    have ta1 := fun w => ta_no (ty := 101) (v := .agg #[.pointer (some ⟨b, o, none⟩)]) (z := .agg #[.pointer none]) (w := w) hk1 rfl rfl (by go_simp)
    have ta2 := fun w => ta_no (ty := 82) (v := .agg #[.pointer (some ⟨b, o, none⟩)]) (z := .agg #[.pointer none]) (w := w) hk2 rfl rfl (by go_simp)
    go_wp2
    refine ⟨rfl, _, res_row (cs := [.int .i64 ((LS : Int) + 1), .int .i64 ((LD : Int) + 1), .bool ga]) rfl rfl (range_block (keep_alloc (keep_alloc (fill3 (unhide HQ4).1) _) _)) rfl rfl rfl, ?_, ?_, ?_⟩
    · rw [unhide hG, beq_eq_false_iff_ne.2 h18, beq_eq_false_iff_ne.2 h19]
      simp
      omega
    · rw [show s + (1 + LS - 1) = s + LS by omega]
      unfold MS
      exact keep_alloc (keep_alloc (keep_set (keep_set (keep_set (unhide HS4) (by show r ≠ w.heap.size; omega) _) (by show r ≠ w.heap.size; omega) _) (by show r ≠ w.heap.size; omega) _) _) _
    · exact ((((((unhide HBW).setCell (.inr (Nat.le_refl _)) _).setCell (.inr (Nat.le_refl _)) _).setCell (.inr (Nat.le_refl _)) _).alloc _).alloc _)
end Go.Proofs.YtegmckpcchhmdaaDoor

/- Measures: a list's. -/
namespace Go.Proofs.YtegmckpcchhmdaaDoor
open Go Go.RowKit
/-- A way that goes on, and what holds there. -/
def nrm (R : Act → World → Prop) : Exit → Act → World → Prop
  | .normal, a, w => R a w
  | _, _, _ => False
theorem nrm_mk {R : Act → World → Prop} {a : Act} {w : World} (h : R a w) : nrm R .normal a w := h
theorem nrm_out {R : Act → World → Prop} {e : Exit} {a : Act} {w : World} (h : nrm R e a w) : e = .normal ∧ R a w := by
  cases e with
  | normal => exact ⟨rfl, h⟩
  | _ => exact h.elim
theorem keepC {W0 cur w' : World} {X : Prop} (h : Below W0.heap.size W0 cur ∧ X) (hb : Below cur.heap.size cur w') : Below W0.heap.size W0 w' := h.1.trans (hb.mono h.1.size)
theorem keepA {W0 cur : World} {X : Prop} (h : Below W0.heap.size W0 cur ∧ X) (o : Obj) : Below W0.heap.size W0 (cur.alloc o) := h.1.alloc h.1.size _
theorem new_in {W v1 : World} {o : Obj} (hv : Below (W.alloc o).drew.heap.size (W.alloc o).drew v1) : v1.heap[W.heap.size]? = some o := by
  have h := (MapKept.heap_alloc W o).1
  have hl : W.heap.size < (W.alloc o).drew.heap.size := (Array.getElem?_eq_some_iff.1 (show (W.alloc o).drew.heap[W.heap.size]? = some o from h)).1
  rw [hv.block W.heap.size hl]
  exact h
theorem keep0 (W0 : World) : Below W0.heap.size W0 W0.drew := (Below.refl _ W0).drew
set_option maxRecDepth 100000 in
theorem lk_nil (b off : Nat) (n : Int) (w : World) : (Instr.lookup 121 (.map none) (.agg #[.pointer (some ⟨b, off, none⟩), .int .i64 n]) true).run Tryd.prog w = .ok (.tuple #[.agg #[.int .i64 0, .int .i64 0, .bool false], .bool false]) w := rfl
set_option maxRecDepth 100000 in
set_option maxHeartbeats 16000000 in
theorem mlist_of {d : Nat} (hl : TermC d) : ListC d := by
  intro B r s w a n cap l k hRow hn hM hB hs hk
  have HL := hide hl
  obtain ⟨hr, m0, m1, m2, mf⟩ := hM.cells
  have hmax : n ≤ 9223372036854775807 := by have := hRow.1; have := hRow.2.1; omega
  have HRow := hide hRow
  have HM := hide hM
  have HN := hide hn
  have HS := hide hs
  have HK := hide hk
  clear hl hRow hM hn mf hs hk m0 m1 m2
  by_cases hn0 : n = 0
  · subst hn0
    have hl0 : l = [] := List.length_eq_zero_iff.1 (unhide HN).symm
    subst hl0
    go_enter Tryd.func66, Tryd.ntmps66
    go_wp2
    refine ⟨rfl, _, res_row (cs := [.int .i64 0, .int .i64 0, .bool true]) rfl rfl (range_block (keep_alloc (MapKept.heap_alloc w _).1 _)) rfl rfl rfl, rfl, ?_, ((But.refl r w).alloc _).alloc _⟩
    exact ((unhide HM).alloc _).alloc _
  · have hpos : 0 < n := by omega
    have d0 : ((n : Int) == 0) = false := by simp; omega
    obtain ⟨b, off, rfl, hbB, _⟩ := (unhide HRow).2.2 hn0
    go_enter Tryd.func66, Tryd.ntmps66
    go_wp2
    obtain ⟨w1, e1, hb1, hs1, _, hh1⟩ := box_new w #[.int .i64 0, .int .i64 0, .bool false] 74
    obtain ⟨W, e2, hb2, hs2, _, hh2⟩ := box_new w1 #[.int .i64 0, .int .i64 0, .bool true] 74
    rw [e1, e2]
    have hM2 : MS W r s := ((unhide HM).below hb1 hr).below hb2 (by omega)
    obtain ⟨hrW, m0, m1, m2, mf⟩ := hM2.cells
    have hq6 : W.heap[w.heap.size]? = some (.cells #[.int .i64 0, .int .i64 0, .bool false] 74) := by rw [hb2.block _ (by omega)]; exact hh1
    have hq7 : W.heap[w.heap.size + 1]? = some (.cells #[.int .i64 0, .int .i64 0, .bool true] 74) := by rw [← hs1]; exact hh2
    have HQ := hide (And.intro hq6 hq7)
    have HM2 := hide hM2
    have HBW := hide (show Below w.heap.size w W from hb1.trans (hb2.mono (by omega)))
    have hlk := lk_nil b off n
    have HSz := hide (show W.heap.size = w.heap.size + 2 by omega)
    clear e1 e2 hs1 hs2 hb1 hb2 hh1 hh2 hq6 hq7 hM2 m1 m2 mf
    have HSS : Hid (∀ w', Below W.heap.size W w' → (Below W.heap.size W w' ∧ w'.cell? ⟨r, 0, none⟩ = some (.map none))) := fun w' h => ⟨h, (h.cell (p := ⟨r, 0, none⟩) hrW).trans m0⟩
    refine wp_mono (Q := nrm (fun a' W' => ∃ (x8 y17 y18 y19 y20 y21 y22 y23 y24 y25 y26 : Value), a' = { tmps := #[.pointer (some ⟨r, 0, none⟩), .slice (some ⟨b, off, none⟩) n cap, .int .i64 k, undef, undef, undef, .pointer (some ⟨w.heap.size, 0, none⟩), .pointer (some ⟨w.heap.size + 1, 0, none⟩), x8, .bool false, undef, undef, .agg #[.int .i64 0, .int .i64 0, .bool true], .slice (some ⟨b, off, none⟩) n cap, .int .i64 n, .bool false, undef, y17, y18, y19, y20, y21, y22, y23, y24, y25, y26, undef, undef, undef, undef, undef, undef, undef, undef, undef, undef, undef, undef, undef, undef, undef, undef, undef, undef, undef, undef, undef, undef, undef, undef, undef, undef, undef, undef, undef, undef, undef, undef, undef, undef, undef, undef, undef, undef, undef, undef, undef, undef, undef, undef, undef, undef, undef, undef, undef, undef, undef, undef, undef, undef], defers := [] } ∧ Below W.heap.size W W')) ?reg ?go
    case reg =>
      go_region_held3 (fun w' => Below W.heap.size W w' ∧ w'.cell? ⟨r, 0, none⟩ = some (.map none)) (first | assumption | exact unhide HSS _ hT1 | exact unhide HSS _ (by assumption) | exact unhide HSS _ (keep0 _) | exact unhide HSS _ (keepC (by assumption) (by assumption)) | exact unhide HSS _ (keepA (by assumption) _) | exact unhide HSS _ (((hT1.setCell (Nat.le_refl _) _).setCell (Nat.le_refl _) _).setCell (Nat.le_refl _) _) | exact unhide HSS _ (hT1.alloc hT1.size _)) (first
        | (go_at_call 76; refine (keyOf_any b off n cap _ hpos hmax).mono ?_; rintro e v1 ⟨rfl, hv1⟩; have hT1 : Below W.heap.size W v1 := keepC (by assumption) hv1; (try (have hg := new_in (W := W) (o := .cells #[.int .i64 0, .int .i64 0, .bool false] 74) hv1; obtain ⟨gl, gc, gf⟩ := blk hg; have gc0 : v1.cell? ⟨W.heap.size, 0, none⟩ = some (.int .i64 0) := gc 0 _ rfl; have gc1 : v1.cell? ⟨W.heap.size, 1, none⟩ = some (.int .i64 0) := gc 1 _ rfl; have gc2 : v1.cell? ⟨W.heap.size, 2, none⟩ = some (.bool false) := gc 2 _ rfl; have gf0 := gf 0; have gf1 := gf 1; have gf2 := gf 2; clear gc gf))))
      all_goals first
        | exact nrm_mk ⟨_, _, _, _, _, _, _, _, _, _, _, rfl, hT1.alloc hT1.size _⟩
        | exact nrm_mk ⟨_, _, _, _, _, _, _, _, _, _, _, rfl, ((hT1.setCell (Nat.le_refl _) _).setCell (Nat.le_refl _) _).setCell (Nat.le_refl _) _⟩

    case go =>
      intro e a' Wg h9
      obtain ⟨rfl, h9⟩ := nrm_out h9
      obtain ⟨x8, y17, y18, y19, y20, y21, y22, y23, y24, y25, y26, rfl, hbg⟩ := h9
      clear h9
      have hsz := unhide HSz
      have hMg : MS Wg r s := (unhide HM2).below hbg hrW
      have hq6 := (hbg.block w.heap.size (by omega)).trans (unhide HQ).1
      have hq7 := (hbg.block (w.heap.size + 1) (by omega)).trans (unhide HQ).2
      have hBg : But r w Wg := (But.of (unhide HBW) (Nat.le_refl _)).trans (But.of hbg (Nat.le_refl _))
      obtain ⟨hrg, m0, m1, m2, mf⟩ := hMg.cells
      have mf2 := mf 2
      have hldp : 0 < ldep l := by
        have hlen : 0 < l.length := by have := unhide HN; omega
        match l, hlen with
        | u :: l', _ =>
          have := max_grows (l'.map Tm.depth) (max 0 u.depth)
          have h1 : ldep (u :: l') = (l'.map Tm.depth).foldl max (max 0 u.depth) := rfl
          have h2 : 0 < u.depth := by rw [u.depth_eq]; omega
          omega
      have d2 : decide (65536 < (k : Int)) = false := by have := unhide HK; simp; omega
      have HMg := hide hMg
      have HQg := hide (And.intro hq6 hq7)
      have HBg := hide hBg
      clear hMg hq6 hq7 hBg mf hbg hldp hlk
      go_wp2
      obtain ⟨W0, e0⟩ : ∃ W0, Wg.setCell ⟨r, 2, none⟩ (.bool false) = W0 := ⟨_, rfl⟩
      have hM0 : MS W0 r s := by rw [← e0]; exact (unhide HMg).set2
      have hq60 : W0.heap[w.heap.size]? = some (.cells #[.int .i64 0, .int .i64 0, .bool false] 74) := by rw [← e0]; exact keep_set (unhide HQg).1 (by show w.heap.size ≠ r; omega) _
      have hq70 : W0.heap[w.heap.size + 1]? = some (.cells #[.int .i64 0, .int .i64 0, .bool true] 74) := by rw [← e0]; exact keep_set (unhide HQg).2 (by show w.heap.size + 1 ≠ r; omega) _
      have hB0 : But r w W0 := by rw [← e0]; exact (unhide HBg).setCell (.inl rfl) _
      rw [e0]
      have H0 := hide (And.intro hM0 (And.intro hB0 (And.intro hq60 hq70)))
      clear hM0 hq60 hq70 hB0 e0 m0 m1 m2 mf2 d2
      go_loopw [42] (fun iv wr => ∃ (i c : Nat), i ≤ n ∧ iv = .int .i64 i ∧ c + i = lsum (l.take i) ∧ MS wr r (s + c) ∧ But r w wr ∧ wr.heap[w.heap.size]? = some (.cells #[.int .i64 0, .int .i64 0, .bool false] 74) ∧ wr.heap[w.heap.size + 1]? = some (.cells #[.int .i64 (lsum (l.take i)), .int .i64 (ldep (l.take i)), .bool ((l.take i).all Tm.ground)] 74)) (fun iv _ => n - (intOf iv).toNat)
      case atStart => exact ⟨0, 0, Nat.zero_le _, rfl, by simp [lsum], (unhide H0).1, (unhide H0).2.1, (unhide H0).2.2.1, by simpa [lsum, ldep, maxOf] using (unhide H0).2.2.2⟩
      case round =>
        obtain ⟨i, c, hi0, rfl, hc, hMr, hBr, hq6, hq7⟩ := hrel
        obtain ⟨hrr, m0, m1, m2, mf⟩ := hMr.cells
        by_cases hi : i < n
        · have hil : i < l.length := by have := unhide HN; omega
          obtain ⟨b', off', e', _, hAt⟩ := ((unhide HRow).below (hBr.below hB (by omega))).at (unhide HN) hi
          cases e'
          have hsm : lsum (l.take (i + 1)) = lsum (l.take i) + l[i].size := sum_more hil
          have hdm : ldep (l.take (i + 1)) = max (ldep (l.take i)) l[i].depth := max_more hil
          have hgm : (l.take (i + 1)).all Tm.ground = ((l.take i).all Tm.ground && l[i].ground) := by rw [take_more hil, List.all_append]; simp only [List.all_cons, List.all_nil, Bool.and_true]
          have hle : lsum (l.take (i + 1)) ≤ lsum l := by
            unfold lsum
            rw [List.map_take]
            exact sum_take_le _ _
          have hle2 := hle
          rw [hsm] at hle2
          have hlk : l[i].depth ≤ ldep l := by
            have h1 : ldep l = ((l.drop (i + 1)).map Tm.depth).foldl max (ldep (l.take (i + 1))) := by
              unfold ldep maxOf
              rw [← List.foldl_append, ← List.map_append, List.take_append_drop]
            have h2 := max_grows ((l.drop (i + 1)).map Tm.depth) (ldep (l.take (i + 1)))
            have h3 := Nat.le_max_right (ldep (l.take i)) l[i].depth
            omega
          have hpos1 : 1 ≤ l[i].size := by rw [Tm.size_eq]; omega
          have hs := unhide HS
          have hk := unhide HK
          generalize l[i] = u at *
          generalize lsum (l.take i) = LS at *
          generalize ldep (l.take i) = LD at *
          generalize (l.take i).all Tm.ground = LG at *
          obtain ⟨hq6l, hq6c, hq6f⟩ := blk hq6
          obtain ⟨hq7l, hq7c, hq7f⟩ := blk hq7
          have HR := hide (And.intro hMr (And.intro hBr (And.intro hq6 hq7)))
          have HAt := hide hAt
          have HE := hide (And.intro hsm (And.intro hdm hgm))
          clear hMr hBr hq6 hq7 hAt hsm hdm hgm hq6c hq6f hq7c hq7f
          go_wp2_with fail
          refine (unhide HL B r (s + c) wr b (off + i * 7) u k (unhide HAt) (unhide HR).1 hB (by omega) (by omega)).mono ?_
          rintro e w2 ⟨rfl, hM2, hB2⟩
          have HR2 := hide (And.intro hM2 hB2)
          have hq62 := hB2.blk (unhide HR).2.2.1 (by omega)
          have hq72 := hB2.blk (unhide HR).2.2.2 (by omega)
          obtain ⟨hq7l, hq7c, hq7f⟩ := blk hq72
          have p0 : w2.cell? ⟨w.heap.size + 1, 0, none⟩ = some (.int .i64 LS) := hq7c 0 _ rfl
          have p1 : w2.cell? ⟨w.heap.size + 1, 1, none⟩ = some (.int .i64 LD) := hq7c 1 _ rfl
          have p2 : w2.cell? ⟨w.heap.size + 1, 2, none⟩ = some (.bool LG) := hq7c 2 _ rfl
          have g0 := hq7f 0
          have g1 := hq7f 1
          have g2 := hq7f 2
          have HQ2 := hide (And.intro hq62 hq72)
          clear hM2 hB2 hq62 hq72 hq7c hq7f m0 m1 m2 mf
          go_wp2_with fail
          refine (capped_eq LS u.size _ (by omega)).mono ?_
          rintro e w3 ⟨rfl, rfl⟩
          cases LG with
          | true =>
            go_wp2
            refine ⟨⟨i + 1, c + (u.size - 1), by omega, by simp, by rw [(unhide HE).1]; omega, ?_, ?_, ?_, ?_⟩, by simp [intOf]; omega⟩
            · have h := (unhide HR2).1
              rw [show s + (c + (u.size - 1)) = s + c + (u.size - 1) by omega]
              unfold MS
              exact keep_alloc (keep_set (keep_set (keep_set h (by show r ≠ w.heap.size + 1; omega) _) (by show r ≠ w.heap.size + 1; omega) _) (by show r ≠ w.heap.size + 1; omega) _) _
            · exact (((((unhide HR).2.1.trans (unhide HR2).2).setCell (.inr (by show w.heap.size ≤ w.heap.size + 1; omega)) _).setCell (.inr (by show w.heap.size ≤ w.heap.size + 1; omega)) _).setCell (.inr (by show w.heap.size ≤ w.heap.size + 1; omega)) _).alloc _
            · exact keep_alloc (keep_set (keep_set (keep_set (unhide HQ2).1 (by show w.heap.size ≠ w.heap.size + 1; omega) _) (by show w.heap.size ≠ w.heap.size + 1; omega) _) (by show w.heap.size ≠ w.heap.size + 1; omega) _) _
            · rw [(unhide HE).1, (unhide HE).2.1, (unhide HE).2.2, show ((LS + u.size : Nat) : Int) = (LS : Int) + u.size from by omega, show ((max LD u.depth : Nat) : Int) = max (LD : Int) u.depth from by omega]
              exact keep_alloc (fill3 (unhide HQ2).2) _
          | false =>
            go_wp2
            refine ⟨⟨i + 1, c + (u.size - 1), by omega, by simp, by rw [(unhide HE).1]; omega, ?_, ?_, ?_, ?_⟩, by simp [intOf]; omega⟩
            · have h := (unhide HR2).1
              rw [show s + (c + (u.size - 1)) = s + c + (u.size - 1) by omega]
              unfold MS
              exact keep_alloc (keep_set (keep_set (keep_set h (by show r ≠ w.heap.size + 1; omega) _) (by show r ≠ w.heap.size + 1; omega) _) (by show r ≠ w.heap.size + 1; omega) _) _
            · exact (((((unhide HR).2.1.trans (unhide HR2).2).setCell (.inr (by show w.heap.size ≤ w.heap.size + 1; omega)) _).setCell (.inr (by show w.heap.size ≤ w.heap.size + 1; omega)) _).setCell (.inr (by show w.heap.size ≤ w.heap.size + 1; omega)) _).alloc _
            · exact keep_alloc (keep_set (keep_set (keep_set (unhide HQ2).1 (by show w.heap.size ≠ w.heap.size + 1; omega) _) (by show w.heap.size ≠ w.heap.size + 1; omega) _) (by show w.heap.size ≠ w.heap.size + 1; omega) _) _
            · rw [(unhide HE).1, (unhide HE).2.1, (unhide HE).2.2, show ((LS + u.size : Nat) : Int) = (LS : Int) + u.size from by omega, show ((max LD u.depth : Nat) : Int) = max (LD : Int) u.depth from by omega]
              exact keep_alloc (fill3 (unhide HQ2).2) _
        · have hin : i = n := by omega
          subst hin
          have htk : l.take i = l := List.take_of_length_le (by have := unhide HN; omega)
          rw [htk] at hc hq7
          have hs := unhide HS
          obtain ⟨hq6l, hq6c, hq6f⟩ := blk hq6
          obtain ⟨hq7l, hq7c, hq7f⟩ := blk hq7
          have p0 : wr.cell? ⟨w.heap.size + 1, 0, none⟩ = some (.int .i64 (lsum l)) := hq7c 0 _ rfl
          have p1 : wr.cell? ⟨w.heap.size + 1, 1, none⟩ = some (.int .i64 (ldep l)) := hq7c 1 _ rfl
          have p2 : wr.cell? ⟨w.heap.size + 1, 2, none⟩ = some (.bool (l.all Tm.ground)) := hq7c 2 _ rfl
          have HR := hide (And.intro hMr (And.intro hBr (And.intro hq6 hq7)))
          clear hMr hBr hq6 hq7 hq6c hq6f hq7c hq7f htk m0 m1 m2 mf
          generalize lsum l = LS at *
          generalize ldep l = LD at *
          generalize l.all Tm.ground = LG at *
          go_wp2_with fail
          refine (keep_any r (s + c) i cap _ _ _ _ wr (unhide HR).1 (by omega)).mono ?_
          rintro e w2 ⟨rfl, hM2, hB2⟩
          have hq62 := hB2.blk (unhide HR).2.2.1 (by omega)
          have hq72 := hB2.blk (unhide HR).2.2.2 (by omega)
          obtain ⟨hq6l, hq6c, hq6f⟩ := blk hq62
          obtain ⟨hq7l, hq7c, hq7f⟩ := blk hq72
          have p0 : w2.cell? ⟨w.heap.size + 1, 0, none⟩ = some (.int .i64 LS) := hq7c 0 _ rfl
          have p1 : w2.cell? ⟨w.heap.size + 1, 1, none⟩ = some (.int .i64 LD) := hq7c 1 _ rfl
          have p2 : w2.cell? ⟨w.heap.size + 1, 2, none⟩ = some (.bool LG) := hq7c 2 _ rfl
          have q0 : w2.cell? ⟨w.heap.size, 0, none⟩ = some (.int .i64 0) := hq6c 0 _ rfl
          have q1 : w2.cell? ⟨w.heap.size, 1, none⟩ = some (.int .i64 0) := hq6c 1 _ rfl
          have q2 : w2.cell? ⟨w.heap.size, 2, none⟩ = some (.bool false) := hq6c 2 _ rfl
          have g0 := hq6f 0
          have g1 := hq6f 1
          have g2 := hq6f 2
          have HQ2 := hide (And.intro hq62 hq72)
          have HR2 := hide (And.intro hM2 hB2)
          clear hM2 hB2 hq62 hq72 hq6c hq6f hq7c hq7f
          go_wp2
          refine ⟨rfl, _, res_row (cs := [.int .i64 LS, .int .i64 LD, .bool LG]) rfl rfl (range_block (fill3 (unhide HQ2).1)) rfl rfl rfl, rfl, ?_, ?_⟩
          · have h := (unhide HR2).1
            rw [show s + c + i = s + LS by omega] at h
            unfold MS
            exact keep_set (keep_set (keep_set h (by show r ≠ w.heap.size; omega) _) (by show r ≠ w.heap.size; omega) _) (by show r ≠ w.heap.size; omega) _
          · exact ((((unhide HR).2.1.trans (unhide HR2).2).setCell (.inr (Nat.le_refl _)) _).setCell (.inr (Nat.le_refl _)) _).setCell (.inr (Nat.le_refl _)) _

end Go.Proofs.YtegmckpcchhmdaaDoor

namespace Go.Proofs.YtegmckpcchhmdaaDoor
open Go Go.RowKit
theorem mterm_any : ∀ d, TermC d
  | 0 => fun _ _ _ _ _ _ _ _ h => h.elim
  | d + 1 => mterm_of (mlist_of (mterm_any d))
def mval (t : Tm) : Value := .agg #[.int .i64 t.size, .int .i64 t.depth, .bool t.ground]
set_option maxRecDepth 100000 in
set_option maxHeartbeats 16000000 in
theorem measure_any {B d : Nat} {w : World} {b o : Nat} {t : Tm} (hT : TmAt w B d b o t) (hB : B ≤ w.heap.size) (hs : t.size ≤ 65536) (hd : t.depth ≤ 65537) :
    Calls Tryd.prog 31 #[.pointer (some ⟨b, o, none⟩)] w (VPost (mval t) w) := by
  have HT := hide hT
  clear hT
  go_enter Tryd.func31, Tryd.ntmps31
  go_wp2_with fail
  obtain ⟨w1, e1, hb1, hs1, _, hh1⟩ := box_new w #[.int .i64 0, .int .i64 0, .bool false] 74
  obtain ⟨W, e2, hb2, hs2, _, hh2⟩ := box_new w1 #[.map none, .int .i64 0, .bool false] 123
  rw [e1, e2]
  have hbW : Below w.heap.size w W := hb1.trans (hb2.mono (by omega))
  rw [hs1] at hh2
  have hM : MS W (w.heap.size + 1) 0 := hh2
  refine (mterm_any d B (w.heap.size + 1) 0 W b o t 0 ((unhide HT).more (hbW.mono hB) (Nat.le_refl _) (Nat.le_refl _)) hM (by omega) (by omega) (by omega)).mono ?_
  rintro e w2 ⟨rfl, hM2, hB2⟩
  have hq6 : W.heap[w.heap.size]? = some (.cells #[.int .i64 0, .int .i64 0, .bool false] 74) := by rw [hb2.block _ (by omega)]; exact hh1
  have hq62 := hB2.blk hq6 (by omega)
  obtain ⟨hq6l, hq6c, hq6f⟩ := blk hq62
  have q0 : w2.cell? ⟨w.heap.size, 0, none⟩ = some (.int .i64 0) := hq6c 0 _ rfl
  have q1 : w2.cell? ⟨w.heap.size, 1, none⟩ = some (.int .i64 0) := hq6c 1 _ rfl
  have q2 : w2.cell? ⟨w.heap.size, 2, none⟩ = some (.bool false) := hq6c 2 _ rfl
  have g0 := hq6f 0
  have g1 := hq6f 1
  have g2 := hq6f 2
  have HQ := hide hq62
  have HB := hide (show Below w.heap.size w w2 from hbW.trans (hB2.below (by omega) (by omega)))
  clear e1 e2 hb1 hb2 hs1 hs2 hh1 hh2 hM hM2 hB2 hq6 hq62 hq6c hq6f hbW
  go_wp2
  exact ⟨rfl, _, res_row (cs := [.int .i64 t.size, .int .i64 t.depth, .bool t.ground]) rfl rfl (range_block (fill3 (unhide HQ))) rfl rfl rfl, rfl, (((unhide HB).setCell (Nat.le_refl _) _).setCell (Nat.le_refl _) _).setCell (Nat.le_refl _) _⟩
/-- A term's value, boxed. -/
theorem IsT.boxed {w : World} {B d : Nat} {t : Tm} {cs : Array Value} (h : IsT w B d (.agg cs) t) (hB : B ≤ w.heap.size) : TmAt (w.alloc (.cells cs 25)) (w.heap.size + 1) (d + 1) w.heap.size 0 t := by
  have hb : Below w.heap.size w (w.alloc (.cells cs 25)) := (Below.refl _ w).alloc (Nat.le_refl _) _
  obtain ⟨h1, h2, aL, aV, aP, cL, cV, cP, e, hL, hV, hP⟩ := h.more (hb.mono hB) (show B ≤ w.heap.size + 1 by omega) (Nat.le_refl d)
  cases e
  exact ⟨by omega, h1, h2, aL, aV, aP, cL, cV, cP, range_new w _ _, hL, hV, hP, trivial⟩
theorem IsT.form {w : World} {B d : Nat} {v : Value} {t : Tm} (h : IsT w B d v t) : ∃ x0 x1 x2 x3 x4 x5 x6, v = .agg #[x0, x1, x2, x3, x4, x5, x6] := by
  obtain ⟨_, _, aL, aV, aP, cL, cV, cP, e, _⟩ := h
  exact ⟨_, _, _, _, _, _, _, e⟩
set_option maxRecDepth 100000 in
theorem fm0 (x y z : Value) (w : World) : (Instr.field 74 (.agg #[x, y, z]) 0).run Tryd.prog w = .ok x w := rfl
set_option maxRecDepth 100000 in
theorem fm1 (x y z : Value) (w : World) : (Instr.field 74 (.agg #[x, y, z]) 1).run Tryd.prog w = .ok y w := rfl
set_option maxRecDepth 100000 in
theorem fm2 (x y z : Value) (w : World) : (Instr.field 74 (.agg #[x, y, z]) 2).run Tryd.prog w = .ok z w := rfl
set_option maxRecDepth 100000 in
set_option maxHeartbeats 16000000 in
theorem Size_any {B d : Nat} {w : World} {v : Value} {t : Tm} (hT : IsT w B d v t) (hB : B ≤ w.heap.size) (hs : t.size ≤ 65536) (hd : t.depth ≤ 65537) :
    Calls Tryd.prog 15 #[v] w (VPost (.int .i64 t.size) w) := by
  obtain ⟨x0, x1, x2, x3, x4, x5, x6, rfl⟩ := hT.form
  have HA := hide (hT.boxed hB)
  clear hT
  go_enter Tryd.func15, Tryd.ntmps15
  go_wp2_with fail
  refine (measure_any (unhide HA) (by simp) hs hd).mono ?_
  rintro e w2 ⟨rfl, hb2⟩
  have HB := hide (show Below w.heap.size w w2 from ((Below.refl _ w).alloc (Nat.le_refl _) _).trans (hb2.mono (by simp)))
  have hf := fm0 (.int .i64 t.size) (.int .i64 t.depth) (.bool t.ground)
  clear hb2 HA
  unfold mval
  go_wp2
  go_ret
  exact ⟨rfl, unhide HB⟩
set_option maxRecDepth 100000 in
set_option maxHeartbeats 16000000 in
theorem Depth_any {B d : Nat} {w : World} {v : Value} {t : Tm} (hT : IsT w B d v t) (hB : B ≤ w.heap.size) (hs : t.size ≤ 65536) (hd : t.depth ≤ 65537) :
    Calls Tryd.prog 16 #[v] w (VPost (.int .i64 t.depth) w) := by
  obtain ⟨x0, x1, x2, x3, x4, x5, x6, rfl⟩ := hT.form
  have HA := hide (hT.boxed hB)
  clear hT
  go_enter Tryd.func16, Tryd.ntmps16
  go_wp2_with fail
  refine (measure_any (unhide HA) (by simp) hs hd).mono ?_
  rintro e w2 ⟨rfl, hb2⟩
  have HB := hide (show Below w.heap.size w w2 from ((Below.refl _ w).alloc (Nat.le_refl _) _).trans (hb2.mono (by simp)))
  have hf := fm1 (.int .i64 t.size) (.int .i64 t.depth) (.bool t.ground)
  clear hb2 HA
  unfold mval
  go_wp2
  go_ret
  exact ⟨rfl, unhide HB⟩
set_option maxRecDepth 100000 in
set_option maxHeartbeats 16000000 in
theorem Ground_any {B d : Nat} {w : World} {v : Value} {t : Tm} (hT : IsT w B d v t) (hB : B ≤ w.heap.size) (hs : t.size ≤ 65536) (hd : t.depth ≤ 65537) :
    Calls Tryd.prog 13 #[v] w (VPost (.bool t.ground) w) := by
  obtain ⟨x0, x1, x2, x3, x4, x5, x6, rfl⟩ := hT.form
  have HA := hide (hT.boxed hB)
  clear hT
  go_enter Tryd.func13, Tryd.ntmps13
  go_wp2_with fail
  refine (measure_any (unhide HA) (by simp) hs hd).mono ?_
  rintro e w2 ⟨rfl, hb2⟩
  have HB := hide (show Below w.heap.size w w2 from ((Below.refl _ w).alloc (Nat.le_refl _) _).trans (hb2.mono (by simp)))
  have hf := fm2 (.int .i64 t.size) (.int .i64 t.depth) (.bool t.ground)
  clear hb2 HA
  unfold mval
  go_wp2
  go_ret
  exact ⟨rfl, unhide HB⟩
/-- What is wrong with a term's measures. -/
def limE (t : Tm) : Int := if 200 < t.depth then 33 else if 50000 < t.size then 34 else 0
set_option maxRecDepth 100000 in
set_option maxHeartbeats 16000000 in
theorem limits_any {B d : Nat} {w : World} {b o : Nat} {t : Tm} (hT : TmAt w B d b o t) (hB : B ≤ w.heap.size) (hs : t.size ≤ 65536) (hd : t.depth ≤ 65537) :
    Calls Tryd.prog 26 #[.pointer (some ⟨b, o, none⟩)] w (VPost (.int .i64 (limE t)) w) := by
  have HT := hide hT
  clear hT
  go_enter Tryd.func26, Tryd.ntmps26
  go_wp2_with fail
  refine (measure_any (unhide HT) hB hs hd).mono ?_
  rintro e w2 ⟨rfl, hb2⟩
  have HB := hide hb2
  clear hb2
  unfold mval
  by_cases h1 : 200 < t.depth
  · have d1 : decide (200 < (t.depth : Int)) = true := by simp; omega
    have HE := hide (show limE t = 33 by unfold limE; rw [if_pos h1])
    clear h1
    go_wp2
    go_ret
    exact ⟨by rw [unhide HE]; rfl, (unhide HB).alloc (unhide HB).size _⟩
  · have d1 : decide (200 < (t.depth : Int)) = false := by simp; omega
    by_cases h2 : 50000 < t.size
    · have d2 : decide (50000 < (t.size : Int)) = true := by simp; omega
      have HE := hide (show limE t = 34 by unfold limE; rw [if_neg h1, if_pos h2])
      clear h1 h2
      go_wp2
      go_ret
      exact ⟨by rw [unhide HE]; rfl, (unhide HB).alloc (unhide HB).size _⟩
    · have d2 : decide (50000 < (t.size : Int)) = false := by simp; omega
      have HE := hide (show limE t = 0 by unfold limE; rw [if_neg h1, if_neg h2])
      clear h1 h2
      go_wp2
      go_ret
      exact ⟨by rw [unhide HE]; rfl, (unhide HB).alloc (unhide HB).size _⟩
end Go.Proofs.YtegmckpcchhmdaaDoor
