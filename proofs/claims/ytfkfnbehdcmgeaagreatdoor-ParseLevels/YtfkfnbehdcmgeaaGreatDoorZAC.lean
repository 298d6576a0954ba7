/- Package parse: what an operator's sign is; which tokens begin what. -/
import Derived.Test.YtfkfnbehdcmgeaaGreatDoorZAB
import Derived.WalkKit
import Derived.ProofKit
import Derived.Handy
import Derived.MapKept
import Derived.Deep.MidRow
import Derived.Deep.QuietTactic
import Derived.BigQuiet
import Derived.BigRegion
import Derived.WalkSmall
set_option linter.unusedVariables false
set_option linter.unusedSimpArgs false

/- Package parse: expressions and the reader as they lie. -/
namespace Go.Proofs.YtfkfnbehdcmgeaaGreatDoor
open Go Go.RowKit
theorem range_block {w : World} {q : Nat} {cs : List Value} {ty : TypeId} (h : w.heap[q]? = some (.cells cs.toArray ty)) : w.rangeAt q 0 cs := by
  intro j v hv
  have hv' : cs.toArray[0 + j]? = some v := by simpa using hv
  simp only [World.cell?, h, hv']
  rfl
theorem res_row {P : Program} {W : World} {fn : Func} {tmps : Array Value} {t b o : Nat} {ty : TypeId} {cs : List Value} {d : TypeDesc} (hf : fn.results = #[.cell t ty]) (ht : tmps[t]? = some (.pointer (some ⟨b, o, none⟩))) (hr : W.rangeAt b o cs)
    (hu : P.underlying ty = some d) (hd : d.isRow = true) (hi : (P.info? ty).map (·.size) = some cs.length) : (results fn tmps).run P W = .ok (.agg cs.toArray) W := by
  have h := run_loadVar_mid (P := P) W b o ty cs d hr hu hd hi
  simp [results, hf, ht, asAddr, h]
theorem box_new (w : World) (cs : Array Value) (ty : TypeId) : ∃ w0, w.alloc (.cells cs ty) = w0 ∧ Below w.heap.size w w0 ∧ w0.heap.size = w.heap.size + 1 ∧ w0.heap[w.heap.size]? = some (.cells cs ty) :=
  ⟨_, rfl, (Below.refl _ w).alloc (Nat.le_refl _) _, by simp, (MapKept.heap_alloc w (.cells cs ty)).1⟩
/-- All stands but one block. -/
structure But (r : Nat) (w w' : World) : Prop where
  os : w'.os = w.os
  tape : w'.tape = w.tape
  output : w'.output = w.output
  size : w.heap.size ≤ w'.heap.size
  block : ∀ k, k < w.heap.size → k ≠ r → w'.heap[k]? = w.heap[k]?
theorem But.refl (r : Nat) (w : World) : But r w w := ⟨rfl, rfl, rfl, Nat.le_refl _, fun _ _ _ => rfl⟩
theorem But.trans {r : Nat} {a b c : World} (h : But r a b) (k : But r b c) : But r a c :=
  ⟨k.os.trans h.os, k.tape.trans h.tape, k.output.trans h.output, Nat.le_trans h.size k.size, fun j hj hr => (k.block j (Nat.lt_of_lt_of_le hj h.size) hr).trans (h.block j hj hr)⟩
theorem But.of {r : Nat} {w w' : World} (h : Below w.heap.size w w') : But r w w' := ⟨h.os, h.tape, h.output, h.size, fun k hk _ => h.block k hk⟩
theorem But.set {r : Nat} {w w' : World} (h : But r w w') (o : Nat) (v : Value) : But r w (w'.setCell ⟨r, o, none⟩ v) :=
  ⟨h.os, h.tape, h.output, by simpa using h.size, fun k hk hr => (Below.heap_setCell w' ⟨r, o, none⟩ v k hr).trans (h.block k hk hr)⟩
theorem range_same {w w' : World} {b o : Nat} {cs : List Value} (h : w.rangeAt b o cs) (hb : w'.heap[b]? = w.heap[b]?) : w'.rangeAt b o cs := fun j v hv => by
  rw [World.cell?_of_block (w := w) (a := ⟨b, o + j, none⟩) hb]
  exact h j v hv
/-- A row of expressions. -/
def RowX (w : World) (P : Nat → Prop) (a : Option Addr) (n c : Nat) (p : Nat → Nat → Nat → Prop) : Prop := n ≤ c ∧ n ≤ 281474976710656 ∧ (n ≠ 0 → ∃ b off, a = some ⟨b, off, none⟩ ∧ P b ∧ b < w.heap.size ∧ ∀ j, j < n → p b (off + j * 7) j)
/-- An expression that lies at a place, all of it in blocks of one kind, and is so high at most. -/
def ExAt (w : World) (P : Nat → Prop) : Nat → Nat → Nat → Ex → Prop
  | 0, _, _, _ => False
  | h + 1, b, o, .mk op nm nu bl l i => ∃ a c, w.rangeAt b o [.int .i64 op, .string nm, .string nu, .bool bl, .slice a l.length c, .int .i64 0, .int .i64 i] ∧ RowX w P a l.length c fun b o j => ∀ t, l[j]? = some t → ExAt w P h b o t
/-- An expression as a value. -/
def IsEP (w : World) (P : Nat → Prop) (v : Value) : Ex → Prop
  | .mk op nm nu bl l i => ∃ h a c, v = .agg #[.int .i64 op, .string nm, .string nu, .bool bl, .slice a l.length c, .int .i64 0, .int .i64 i] ∧ RowX w P a l.length c fun b o j => ∀ t, l[j]? = some t → ExAt w P h b o t
/-- An expression as a value, all of it from block lo on. -/
def IsE (w : World) (lo : Nat) (v : Value) (t : Ex) : Prop := IsEP w (fun b => lo ≤ b) v t
theorem RowX.mono {w w' : World} {P P' : Nat → Prop} {n c : Nat} {a : Option Addr} {p q : Nat → Nat → Nat → Prop} (h : RowX w P a n c p) (hs : w.heap.size ≤ w'.heap.size) (hl : ∀ b, P b → P' b) (hp : ∀ b o j, P b → b < w.heap.size → p b o j → q b o j) : RowX w' P' a n c q :=
  ⟨h.1, h.2.1, fun h0 => by
    obtain ⟨b, off, e, hr, hb, hj⟩ := h.2.2 h0
    exact ⟨b, off, e, hl b hr, Nat.lt_of_lt_of_le hb hs, fun j hjn => hp _ _ _ hr hb (hj j hjn)⟩⟩
/-- Blocks of a kind stand. -/
def StaysP (P : Nat → Prop) (w w' : World) : Prop := w.heap.size ≤ w'.heap.size ∧ ∀ k, P k → k < w.heap.size → w'.heap[k]? = w.heap[k]?
/-- Blocks from lo on stand. -/
def Stays (lo : Nat) (w w' : World) : Prop := w.heap.size ≤ w'.heap.size ∧ ∀ k, lo ≤ k → k < w.heap.size → w'.heap[k]? = w.heap[k]?
theorem Stays.trans {lo : Nat} {a b c : World} (h : Stays lo a b) (k : Stays lo b c) : Stays lo a c := ⟨Nat.le_trans h.1 k.1, fun j hj hs => (k.2 j hj (Nat.lt_of_lt_of_le hs h.1)).trans (h.2 j hj hs)⟩
theorem Stays.of {lo : Nat} {w w' : World} (h : Below w.heap.size w w') : Stays lo w w' := ⟨h.size, fun k _ hk => h.block k hk⟩
theorem Stays.but {lo r : Nat} {w w' : World} (h : But r w w') (hr : r < lo) : Stays lo w w' := ⟨h.size, fun k hl hk => h.block k hk (by omega)⟩
theorem Stays.set {lo q : Nat} {w w' : World} (h : Stays lo w w') (hq : q < lo) (o : Nat) (v : Value) : Stays lo w (w'.setCell ⟨q, o, none⟩ v) := ⟨by simpa using h.1, fun k hl hk => (Below.heap_setCell w' ⟨q, o, none⟩ v k (by show k ≠ q; omega)).trans (h.2 k hl hk)⟩
theorem ExAt.keep {w w' : World} {P P' : Nat → Prop} (hb : StaysP P w w') (hl : ∀ b, P b → P' b) : ∀ (h b o : Nat) (t : Ex), P b → b < w.heap.size → ExAt w P h b o t → ExAt w' P' h b o t
  | 0, _, _, _, _, _, h => h
  | h + 1, b, o, .mk op nm nu bl l i, hr, hbl, hx => by
    obtain ⟨a, c, h1, h2⟩ := hx
    exact ⟨a, c, range_same h1 (hb.2 b hr hbl), h2.mono hb.1 hl fun b o j hr hbl hj t ht => ExAt.keep hb hl h b o t hr hbl (hj t ht)⟩
theorem ExAt.up {w : World} {P : Nat → Prop} : ∀ (h k b o : Nat) (t : Ex), ExAt w P h b o t → h ≤ k → ExAt w P k b o t
  | 0, _, _, _, _, h, _ => h.elim
  | h + 1, 0, _, _, _, _, hk => absurd hk (by omega)
  | h + 1, k + 1, b, o, .mk op nm nu bl l i, hx, hk => by
    obtain ⟨a, c, h1, h2⟩ := hx
    exact ⟨a, c, h1, h2.mono (Nat.le_refl _) (fun _ h => h) fun b o j _ _ hj t ht => ExAt.up h k b o t (hj t ht) (by omega)⟩
theorem IsEP.keep {w w' : World} {P P' : Nat → Prop} {v : Value} {t : Ex} (h : IsEP w P v t) (hb : StaysP P w w') (hl : ∀ b, P b → P' b) : IsEP w' P' v t := by
  obtain ⟨op, nm, nu, bl, l, i⟩ := t
  obtain ⟨k, a, c, e, h2⟩ := h
  exact ⟨k, a, c, e, h2.mono hb.1 hl fun b o j hr hbl hj t ht => ExAt.keep hb hl k b o t hr hbl (hj t ht)⟩
theorem IsE.keep {w w' : World} {lo lo' : Nat} {v : Value} {t : Ex} (h : IsE w lo v t) (hb : Stays lo w w') (hl : lo' ≤ lo) : IsE w' lo' v t := IsEP.keep h hb fun _ hb => Nat.le_trans hl hb
/-- Tokens, as a text has them: the last one is the end, and no other one. -/
structure TsOk (ts : List (Int × ByteArray × Int)) : Prop where
  len : ts.length ≤ 100000
  pos : 0 < ts.length
  txt : ∀ (j : Nat) x, ts[j]? = some x → (x.2.1 ≠ ⟨#[]⟩ ∨ x.1 ≠ 0) → j + 1 < ts.length
/-- The reader: its tokens, the place of the next one, its depth. -/
structure RD (w : World) (r : Nat) (ts : List (Int × ByteArray × Int)) (p d : Nat) : Prop where
  cells : ∃ g c, w.heap[r]? = some (.cells #[.slice (some ⟨g, 0, none⟩) ts.length c, .int .i64 p, .int .i64 d] 91) ∧ g < r ∧ ts.length ≤ c ∧ ∀ j x, ts[j]? = some x → w.rangeAt g (j * 3) [.int .i64 x.1, .string x.2.1, .int .i64 x.2.2]
  lt : p < ts.length
theorem RD.keep {w w' : World} {r p d : Nat} {ts : List (Int × ByteArray × Int)} (h : RD w r ts p d) (hb : Below w.heap.size w w') : RD w' r ts p d := by
  obtain ⟨⟨g, c, h1, h2, h3, h4⟩, h5⟩ := h
  have hr := (Array.getElem?_eq_some_iff.1 h1).1
  exact ⟨⟨g, c, (hb.block r hr).trans h1, h2, h3, fun j x hx => range_same (h4 j x hx) (hb.block g (by omega))⟩, h5⟩
theorem RD.set {w w' : World} {r p d q e : Nat} {ts : List (Int × ByteArray × Int)} (h : RD w r ts p d) (hb : But r w w') (hq : q < ts.length) (hc : ∀ g c, w.heap[r]? = some (.cells #[.slice (some ⟨g, 0, none⟩) ts.length c, .int .i64 p, .int .i64 d] 91) → w'.heap[r]? = some (.cells #[.slice (some ⟨g, 0, none⟩) ts.length c, .int .i64 q, .int .i64 e] 91)) : RD w' r ts q e := by
  obtain ⟨⟨g, c, h1, h2, h3, h4⟩, h5⟩ := h
  have hr := (Array.getElem?_eq_some_iff.1 h1).1
  exact ⟨⟨g, c, hc g c h1, h2, h3, fun j x hx => range_same (h4 j x hx) (hb.block g (by omega) (by omega))⟩, hq⟩
theorem nx_of {ts : List (Int × ByteArray × Int)} {p : Nat} (h : p < ts.length) : ts[p]? = some (nx ts p) := by
  unfold nx
  rw [List.getD_eq_getElem?_getD, List.getElem?_eq_getElem h]
  rfl
end Go.Proofs.YtfkfnbehdcmgeaaGreatDoor

/- Package parse: the reader's small functions. -/
namespace Go.Proofs.YtfkfnbehdcmgeaaGreatDoor
open Go Go.RowKit
def tkV (x : (Int × ByteArray × Int)) : Value := .agg #[.int .i64 x.1, .string x.2.1, .int .i64 x.2.2]
def VP (v : Value) (w : World) (e : Ending) (w' : World) : Prop := e = .returned v ∧ Below w.heap.size w w'
theorem RD.facts {w w' : World} {r p d : Nat} {ts : List (Int × ByteArray × Int)} (h : RD w r ts p d) (hb : Below w.heap.size w w') : ∃ g c, w'.cell? ⟨r, 0, none⟩ = some (.slice (some ⟨g, 0, none⟩) ts.length c) ∧ w'.cell? ⟨r, 1, none⟩ = some (.int .i64 p) ∧ w'.cell? ⟨r, 2, none⟩ = some (.int .i64 d) ∧ ts.length ≤ c ∧ r < w'.heap.size ∧ w'.frozen? ⟨r, 1, none⟩ = false ∧ w'.frozen? ⟨r, 2, none⟩ = false ∧ ∀ j x, ts[j]? = some x → w'.cell? ⟨g, j * 3, none⟩ = some (.int .i64 x.1) ∧ w'.cell? ⟨g, j * 3 + 1, none⟩ = some (.string x.2.1) ∧ w'.cell? ⟨g, j * 3 + 2, none⟩ = some (.int .i64 x.2.2) := by
  obtain ⟨⟨g, c, h1, h2, h3, h4⟩, h5⟩ := h.keep hb
  exact ⟨g, c, (blk h1).2.1 0 _ rfl, (blk h1).2.1 1 _ rfl, (blk h1).2.1 2 _ rfl, h3, (blk h1).1, (blk h1).2.2 1, (blk h1).2.2 2, fun j x hx => ⟨h4 j x hx 0 _ rfl, h4 j x hx 1 _ rfl, h4 j x hx 2 _ rfl⟩⟩
theorem below_set {w A : World} {B q : Nat} (h : Below B w A) (hq : B ≤ q) (o : Nat) (v : Value) : Below B w (A.setCell ⟨q, o, none⟩ v) :=
  ⟨h.os, h.tape, h.output, by simpa using h.size, fun k hk => (Below.heap_setCell A ⟨q, o, none⟩ v k (by show k ≠ q; omega)).trans (h.block k hk)⟩
theorem fill3 {w : World} {q : Nat} {a b c x y z : Value} {ty : TypeId} (h : w.heap[q]? = some (.cells #[a, b, c] ty)) : (((w.setCell ⟨q, 0, none⟩ x).setCell ⟨q, 1, none⟩ y).setCell ⟨q, 2, none⟩ z).heap[q]? = some (.cells #[x, y, z] ty) := set_block (set_block (set_block h _) _) _
theorem fill2 {w : World} {q : Nat} {a b x y : Value} {ty : TypeId} (h : w.heap[q]? = some (.cells #[a, b] ty)) : ((w.setCell ⟨q, 0, none⟩ x).setCell ⟨q, 1, none⟩ y).heap[q]? = some (.cells #[x, y] ty) := set_block (set_block h _) _
theorem but_new {r q : Nat} {w A : World} (h : But r w A) (hq : w.heap.size ≤ q) (o : Nat) (v : Value) : But r w (A.setCell ⟨q, o, none⟩ v) :=
  ⟨h.os, h.tape, h.output, by simpa using h.size, fun k hk hr => (Below.heap_setCell A ⟨q, o, none⟩ v k (by show k ≠ q; omega)).trans (h.block k hk hr)⟩
theorem heap_set {A : World} {q k : Nat} (o : Nat) (v : Value) (h : k ≠ q) : (A.setCell ⟨q, o, none⟩ v).heap[k]? = A.heap[k]? := Below.heap_setCell A ⟨q, o, none⟩ v k h
theorem heap_drew (w : World) : w.drew.heap = w.heap := rfl
set_option maxRecDepth 100000 in
set_option maxHeartbeats 4000000 in
theorem next_any {w : World} {r p d : Nat} {ts : List (Int × ByteArray × Int)} (hR : RD w r ts p d) (hT : TsOk ts) : Calls Tryz.prog 64 #[.pointer (some ⟨r, 0, none⟩)] w (VP (tkV (nx ts p)) w) := by
  obtain ⟨A, eA, hbA, hsA, hhA⟩ := box_new w #[.int .i64 0, .string ⟨#[]⟩, .int .i64 0] 74
  obtain ⟨g, c, x0, x1, x2, hc, hr, f1, f2, ht⟩ := hR.facts hbA
  obtain ⟨t0, t1, t2⟩ := ht p _ (nx_of hR.lt)
  have hp := hR.lt
  have hl := hT.len
  have g1 : (p : Int) < (ts.length : Int) := by omega
  have g2 : (ts.length : Int) ≤ 100000 := by omega
  have g3 : (0 : Int) ≤ (p : Int) := by omega
  skip
  have y0 : A.cell? ⟨w.heap.size, 0, none⟩ = some (.int .i64 0) := (blk hhA).2.1 0 _ rfl
  have y1 : A.cell? ⟨w.heap.size, 1, none⟩ = some (.string ⟨#[]⟩) := (blk hhA).2.1 1 _ rfl
  have y2 : A.cell? ⟨w.heap.size, 2, none⟩ = some (.int .i64 0) := (blk hhA).2.1 2 _ rfl
  have z0 := (blk hhA).2.2 0
  have z1 := (blk hhA).2.2 1
  have z2 := (blk hhA).2.2 2
  have HE := hide eA
  have HB := hide (And.intro hbA hhA)
  unfold tkV VP
  obtain ⟨X, hX⟩ : ∃ X, nx ts p = X := ⟨_, rfl⟩
  obtain ⟨L, hL⟩ : ∃ L, ts.length = L := ⟨_, rfl⟩
  rw [hX] at t0 t1 t2 ⊢
  rw [hL] at x0 g1 g2
  clear hR hT eA hbA hsA hhA hX hL ht hc hp hl
  go_enter Tryz.func64, Tryz.ntmps64
  go_wp2_with fail
  rw [unhide HE]
  go_region
  go_wp2
  obtain ⟨hbA, hhA⟩ := unhide HB
  refine bodyPost_ret (res_row (cs := [.int .i64 X.1, .string X.2.1, .int .i64 X.2.2]) rfl rfl (range_block (by rw [heap_drew]; exact fill3 hhA)) rfl rfl rfl) rfl ?_
  exact ⟨rfl, (below_set (below_set (below_set hbA (Nat.le_refl _) _ _) (Nat.le_refl _) _ _) (Nat.le_refl _) _ _).drew⟩
set_option maxRecDepth 100000 in
set_option maxHeartbeats 4000000 in
theorem behind_any {w : World} {r p d : Nat} {ts : List (Int × ByteArray × Int)} (hR : RD w r ts p d) (hT : TsOk ts) (hp1 : p + 1 < ts.length) : Calls Tryz.prog 114 #[.pointer (some ⟨r, 0, none⟩)] w (VP (tkV (nx ts (p + 1))) w) := by
  obtain ⟨A, eA, hbA, hsA, hhA⟩ := box_new w #[.int .i64 0, .string ⟨#[]⟩, .int .i64 0] 74
  obtain ⟨g, c, x0, x1, x2, hc, hr, f1, f2, ht⟩ := hR.facts hbA
  obtain ⟨t0, t1, t2⟩ := ht (p + 1) _ (nx_of hp1)
  have hp := hp1
  have hl := hT.len
  have g1 : (p : Int) < (ts.length : Int) := by omega
  have g2 : (ts.length : Int) ≤ 100000 := by omega
  have g3 : (0 : Int) ≤ (p : Int) := by omega
  have g4 : (p : Int) + 1 < (ts.length : Int) := by omega
  have y0 : A.cell? ⟨w.heap.size, 0, none⟩ = some (.int .i64 0) := (blk hhA).2.1 0 _ rfl
  have y1 : A.cell? ⟨w.heap.size, 1, none⟩ = some (.string ⟨#[]⟩) := (blk hhA).2.1 1 _ rfl
  have y2 : A.cell? ⟨w.heap.size, 2, none⟩ = some (.int .i64 0) := (blk hhA).2.1 2 _ rfl
  have z0 := (blk hhA).2.2 0
  have z1 := (blk hhA).2.2 1
  have z2 := (blk hhA).2.2 2
  have HE := hide eA
  have HB := hide (And.intro hbA hhA)
  unfold tkV VP
  obtain ⟨X, hX⟩ : ∃ X, nx ts (p + 1) = X := ⟨_, rfl⟩
  obtain ⟨L, hL⟩ : ∃ L, ts.length = L := ⟨_, rfl⟩
  rw [hX] at t0 t1 t2 ⊢
  rw [hL] at x0 g1 g2 g4
  clear hR hT eA hbA hsA hhA hX hL ht hc hp hl hp1
  go_enter Tryz.func114, Tryz.ntmps114
  go_wp2_with fail
  rw [unhide HE]
  go_region
  go_wp2
  obtain ⟨hbA, hhA⟩ := unhide HB
  refine bodyPost_ret (res_row (cs := [.int .i64 X.1, .string X.2.1, .int .i64 X.2.2]) rfl rfl (range_block (by rw [heap_drew]; exact fill3 hhA)) rfl rfl rfl) rfl ?_
  exact ⟨rfl, (below_set (below_set (below_set hbA (Nat.le_refl _) _ _) (Nat.le_refl _) _ _) (Nat.le_refl _) _ _).drew⟩
theorem toList_inj {x y : ByteArray} (h : x.toList = y.toList) : x = y := by
  rw [Lib.toList_data, Lib.toList_data] at h
  obtain ⟨a⟩ := x
  obtain ⟨b⟩ := y
  congr
  exact Array.toList_inj.1 h
theorem str_eq (a b : ByteArray) : (a.toList == b.toList) = decide (a = b) := by
  rw [Bool.eq_iff_iff]
  simp only [beq_iff_eq, decide_eq_true_eq]
  exact ⟨toList_inj, fun h => by rw [h]⟩
set_option maxRecDepth 100000 in
theorem fld0 (x y z : Value) (W : World) : (Instr.field 74 (.agg #[x, y, z]) 0).run Tryz.prog W = .ok x W := by rfl
set_option maxRecDepth 100000 in
theorem fld1 (x y z : Value) (W : World) : (Instr.field 74 (.agg #[x, y, z]) 1).run Tryz.prog W = .ok y W := by rfl
set_option maxRecDepth 100000 in
theorem fld2 (x y z : Value) (W : World) : (Instr.field 74 (.agg #[x, y, z]) 2).run Tryz.prog W = .ok z W := by rfl
set_option maxRecDepth 100000 in
set_option maxHeartbeats 4000000 in
theorem sees_any {w : World} {r p d : Nat} {ts : List (Int × ByteArray × Int)} (hR : RD w r ts p d) (hT : TsOk ts) (s : ByteArray) : Calls Tryz.prog 63 #[.pointer (some ⟨r, 0, none⟩), .string s] w (VP (.bool (sees ts p s)) w) := by
  have HN := hide (next_any hR hT)
  unfold sees txt VP
  unfold tkV at HN
  obtain ⟨⟨k, T, i⟩, hX⟩ : ∃ X, nx ts p = X := ⟨_, rfl⟩
  rw [hX] at HN ⊢
  clear hR hT hX
  have h1 := fld1 (.int .i64 k) (.string T) (.int .i64 i)
  go_enter Tryz.func63, Tryz.ntmps63
  go_wp2_with fail
  refine (unhide HN).mono ?_
  rintro e w2 ⟨rfl, hb⟩
  have HB := hide hb
  clear hb HN
  go_wp2
  go_ret
  rw [str_eq]
  exact ⟨rfl, unhide HB⟩
set_option maxRecDepth 100000 in
set_option maxHeartbeats 4000000 in
theorem refused_any {w : World} {r p d : Nat} {ts : List (Int × ByteArray × Int)} (hR : RD w r ts p d) (hT : TsOk ts) (n : Int) : Calls Tryz.prog 44 #[.pointer (some ⟨r, 0, none⟩), .int .i64 n] w (VP (.agg #[.int .i64 (nx ts p).2.2, .int .i64 n]) w) := by
  obtain ⟨A, eA, hbA, hsA, hhA⟩ := box_new w #[.int .i64 0, .int .i64 0] 89
  have HN := hide (next_any (hR.keep hbA) hT)
  unfold VP
  unfold tkV at HN
  obtain ⟨⟨k, T, i⟩, hX⟩ : ∃ X, nx ts p = X := ⟨_, rfl⟩
  rw [hX] at HN ⊢
  have HA := hide (And.intro hbA hhA)
  have HE := hide eA
  clear hR hT hX eA hbA hsA hhA
  have h2 := fld2 (.int .i64 k) (.string T) (.int .i64 i)
  go_enter Tryz.func44, Tryz.ntmps44
  go_wp2_with fail
  rw [unhide HE]
  refine (unhide HN).mono ?_
  rintro e w2 ⟨rfl, hb⟩
  obtain ⟨hbA, hhA⟩ := unhide HA
  have hh2 := (hb.block w.heap.size (Array.getElem?_eq_some_iff.1 hhA).1).trans hhA
  have x0 : w2.cell? ⟨w.heap.size, 0, none⟩ = some (.int .i64 0) := (blk hh2).2.1 0 _ rfl
  have x1 : w2.cell? ⟨w.heap.size, 1, none⟩ = some (.int .i64 0) := (blk hh2).2.1 1 _ rfl
  have f0 := (blk hh2).2.2 0
  have f1 := (blk hh2).2.2 1
  have HB := hide (And.intro (hbA.trans (hb.mono hbA.size)) hh2)
  clear hb HN hbA hhA hh2
  go_wp2
  obtain ⟨hb, hh2⟩ := unhide HB
  refine bodyPost_ret (res_row (cs := [.int .i64 i, .int .i64 n]) rfl rfl (range_block (fill2 hh2)) rfl rfl rfl) rfl ?_
  exact ⟨rfl, below_set (below_set hb (Nat.le_refl _) _ _) (Nat.le_refl _) _ _⟩
set_option maxRecDepth 100000 in
set_option maxHeartbeats 4000000 in
theorem take_any {w : World} {r p d : Nat} {ts : List (Int × ByteArray × Int)} (hR : RD w r ts p d) (hT : TsOk ts) (hp : p + 1 < ts.length) : Calls Tryz.prog 87 #[.pointer (some ⟨r, 0, none⟩)] w fun e w' => e = .returned (tkV (nx ts p)) ∧ But r w w' ∧ RD w' r ts (p + 1) d := by
  obtain ⟨A, eA, hbA, hsA, hhA⟩ := box_new w #[.int .i64 0, .string ⟨#[]⟩, .int .i64 0] 74
  have HN := hide (next_any (hR.keep hbA) hT)
  unfold tkV at HN ⊢
  obtain ⟨⟨k, T, i⟩, hX⟩ : ∃ X, nx ts p = X := ⟨_, rfl⟩
  rw [hX] at HN ⊢
  have HA := hide (And.intro hbA (And.intro hhA (And.intro hR (And.intro hT hp))))
  have HE := hide eA
  clear hR hT hX eA hbA hsA hhA hp
  go_enter Tryz.func87, Tryz.ntmps87
  go_wp2_with fail
  rw [unhide HE]
  refine (unhide HN).mono ?_
  rintro e w2 ⟨rfl, hb⟩
  obtain ⟨hbA, hhA, hR, hT, hp⟩ := unhide HA
  have hh2 := (hb.block w.heap.size (Array.getElem?_eq_some_iff.1 hhA).1).trans hhA
  obtain ⟨B, eB, hbB, hsB, hhB⟩ := box_new w2 #[.int .i64 k, .string T, .int .i64 i] 74
  have hh3 := (hbB.block w.heap.size (Array.getElem?_eq_some_iff.1 hh2).1).trans hh2
  have hb03 : Below w.heap.size w B := hbA.trans ((hb.trans (hbB.mono hb.size)).mono hbA.size)
  have hRB := hR.keep hb03
  obtain ⟨g, c, r0, r1, r2, -, hrl, f1, f2, -⟩ := hRB.facts (Below.refl _ _)
  have x0 : B.cell? ⟨w.heap.size, 0, none⟩ = some (.int .i64 0) := (blk hh3).2.1 0 _ rfl
  have x1 : B.cell? ⟨w.heap.size, 1, none⟩ = some (.string ⟨#[]⟩) := (blk hh3).2.1 1 _ rfl
  have x2 : B.cell? ⟨w.heap.size, 2, none⟩ = some (.int .i64 0) := (blk hh3).2.1 2 _ rfl
  have z0 := (blk hh3).2.2 0
  have z1 := (blk hh3).2.2 1
  have z2 := (blk hh3).2.2 2
  have y0 : B.cell? ⟨w2.heap.size, 0, none⟩ = some (.int .i64 k) := (blk hhB).2.1 0 _ rfl
  have y1 : B.cell? ⟨w2.heap.size, 1, none⟩ = some (.string T) := (blk hhB).2.1 1 _ rfl
  have y2 : B.cell? ⟨w2.heap.size, 2, none⟩ = some (.int .i64 i) := (blk hhB).2.1 2 _ rfl
  have hl := hT.len
  have hrw : r ≠ w.heap.size := by
    have : r < w.heap.size := (by obtain ⟨⟨g, c, h1, -⟩, -⟩ := hR; exact (blk h1).1)
    omega
  have hrw2 : r ≠ w2.heap.size := by
    have : r < w.heap.size := (by obtain ⟨⟨g, c, h1, -⟩, -⟩ := hR; exact (blk h1).1)
    have := hbA.size
    have := hb.size
    omega
  have hww : w.heap.size ≠ w2.heap.size := by
    have := hb.size
    have := (blk hhA).1
    omega
  have g2 : (p : Int) ≤ 100000 := by omega
  have g3 : (0 : Int) ≤ (p : Int) := by omega
  have HB := hide (And.intro hb03 (And.intro hh3 (And.intro hR (And.intro hp hrw))))
  have HEB := hide eB
  rw [← eB] at r0 r1 r2 f1 f2 x0 x1 x2 z0 z1 z2 y0 y1 y2
  clear hb HN hbA hhA hR hT hp hh2 hbB hsB hhB hh3 hb03 hRB hl eB
  go_wp2
  rw [unhide HEB]
  obtain ⟨hb03, hh3, hR, hp, hrw⟩ := unhide HB
  refine bodyPost_ret (res_row (cs := [.int .i64 k, .string T, .int .i64 i]) rfl rfl (range_block (fill3 ((heap_set _ _ (Ne.symm hrw)).trans hh3))) rfl rfl rfl) rfl ?_
  have hbu := but_new (but_new (but_new ((But.of (r := r) hb03).set 1 (.int .i64 ((p : Int) + 1))) (Nat.le_refl _) 0 (.int .i64 k)) (Nat.le_refl _) 1 (.string T)) (Nat.le_refl _) 2 (.int .i64 i)
  refine ⟨rfl, hbu, hR.set hbu hp fun g c h => ?_⟩
  rw [heap_set _ _ hrw, heap_set _ _ hrw, heap_set _ _ hrw]
  exact set_block ((hb03.block r (blk h).1).trans h) _
end Go.Proofs.YtfkfnbehdcmgeaaGreatDoor

/- Package parse: the reader's small functions, and what a rule answers. -/
namespace Go.Proofs.YtfkfnbehdcmgeaaGreatDoor
open Go Go.RowKit
/-- A refusal that is thrown. -/
def Ref (i n : Int) (e : Ending) : Prop := e = .panicked [{ v := .iface 89 (.agg #[.int .i64 i, .int .i64 n]), recovered := false }]
/-- What a rule answers. -/
def RP {α : Type} (Φ : World → Value → α → Prop) (x : (Except (Int × Int) (α × Nat))) (r : Nat) (ts : List (Int × ByteArray × Int)) (p d : Nat) (w : World) (e : Ending) (w' : World) : Prop := But r w w' ∧ match x with
  | .ok (t, q) => p ≤ q ∧ RD w' r ts q d ∧ ∃ v, e = .returned v ∧ Φ w' v t
  | .error (i, n) => Ref i n e
def TkOk (_ : World) (v : Value) (t : (Int × ByteArray × Int)) : Prop := v = tkV t
def UnOk (_ : World) (v : Value) (_ : Unit) : Prop := v = .tuple #[]
theorem nx_txt {ts : List (Int × ByteArray × Int)} {p : Nat} (hT : TsOk ts) (hp : p < ts.length) (h : txt ts p ≠ ⟨#[]⟩) : p + 1 < ts.length := hT.txt p _ (nx_of hp) (.inl h)
theorem nx_kind {ts : List (Int × ByteArray × Int)} {p : Nat} (hT : TsOk ts) (hp : p < ts.length) (h : (nx ts p).1 ≠ 0) : p + 1 < ts.length := hT.txt p _ (nx_of hp) (.inr h)
theorem sees_txt {ts : List (Int × ByteArray × Int)} {p : Nat} {s : ByteArray} (h : sees ts p s = true) : txt ts p = s := of_decide_eq_true h
set_option maxRecDepth 100000 in
set_option maxHeartbeats 4000000 in
theorem one_any {w : World} {r p d g c : Nat} {ts : List (Int × ByteArray × Int)} {l : List ByteArray} (hR : RD w r ts p d) (hT : TsOk ts) (hg : g < w.heap.size) (hl : l.length ≤ 100) (hc : ∀ (j : Nat) s, l[j]? = some s → w.cell? ⟨g, j, none⟩ = some (.string s)) : Calls Tryz.prog 43 #[.pointer (some ⟨r, 0, none⟩), .slice (some ⟨g, 0, none⟩) l.length c] w (VP (.bool (l.any (sees ts p))) w) := by
  have HA := hide (And.intro hR (And.intro hT (And.intro hg (And.intro hl hc))))
  unfold VP
  obtain ⟨n, hn⟩ : ∃ n, l.length = n := ⟨_, rfl⟩
  obtain ⟨out, ho⟩ : ∃ out, l.any (sees ts p) = out := ⟨_, rfl⟩
  have hl' : (n : Int) ≤ 100 := by omega
  rw [hn, ho]
  have HN := hide (And.intro hn ho)
  clear hR hT hg hl hc hn ho
  go_enter Tryz.func43, Tryz.ntmps43
  go_wp2_with fail
  go_loopw [9] (fun iv wr => ∃ i : Nat, i ≤ n ∧ iv = .int .i64 i ∧ Hid ((l.take i).any (sees ts p) = false) ∧ Hid (Below w.heap.size w wr)) (fun iv _ => n - (intOf iv).toNat)
  case atStart => exact ⟨0, Nat.zero_le _, rfl, rfl, Below.refl _ _⟩
  case round =>
    obtain ⟨i, hi0, rfl, hR, hwr⟩ := hrel
    by_cases hi : i < n
    · obtain ⟨hRD, hT, hg, hl, hc⟩ := unhide HA
      obtain ⟨s, hs⟩ : ∃ s, l[i]? = some s := ⟨_, List.getElem?_eq_getElem (by rw [(unhide HN).1]; exact hi)⟩
      have x1 : wr.cell? ⟨g, i, none⟩ = some (.string s) := ((unhide hwr).cell (p := ⟨g, i, none⟩) hg).trans (hc i s hs)
      have g1 : (i : Int) < (n : Int) := by omega
      have g3 : (0 : Int) ≤ (i : Int) := by omega
      have HS := hide (sees_any (hRD.keep (unhide hwr)) hT s)
      have HX := hide hs
      obtain ⟨b, hb⟩ : ∃ b, sees ts p s = b := ⟨_, rfl⟩
      rw [hb] at HS
      have HBB := hide hb
      clear hRD hT hg hl hc hs hb
      go_wp2_with fail
      refine (unhide HS).mono ?_
      rintro e w2 ⟨rfl, hb2⟩
      have HW := hide ((unhide hwr).trans (hb2.mono (unhide hwr).size))
      clear hb2 HS
      have hany : Hid ((l.take (i + 1)).any (sees ts p) = b) := by
        show _ = _
        rw [List.take_add_one, unhide HX, List.any_append, unhide hR]
        simp [unhide HBB]
      cases b with
      | true =>
        go_wp2
        go_ret
        refine ⟨?_, unhide HW⟩
        have h1 := unhide hany
        have h2 : l.any (sees ts p) = true := by
          rw [List.any_eq_true] at h1 ⊢
          obtain ⟨x, hx, hx2⟩ := h1
          exact ⟨x, List.mem_of_mem_take hx, hx2⟩
        rw [(unhide HN).2] at h2
        rw [h2]
        rfl
      | false =>
        go_wp2
        refine ⟨⟨i + 1, by omega, by simp, hany, HW⟩, ?_⟩
        simp [intOf]
        omega
    · have gi : decide ((i : Int) < (n : Int)) = false := by simp; omega
      have g1 : ¬ ((i : Int) < (n : Int)) := by omega
      obtain rfl : i = n := by omega
      have h2 := unhide hR
      rw [← (unhide HN).1, List.take_length, (unhide HN).2] at h2
      subst h2
      have HW := hwr
      clear hR hwr hi hi0
      go_wp2
      go_ret
      exact ⟨rfl, unhide HW⟩
set_option maxRecDepth 100000 in
set_option maxHeartbeats 4000000 in
theorem takeIf_any {w : World} {r p d : Nat} {ts : List (Int × ByteArray × Int)} (hR : RD w r ts p d) (hT : TsOk ts) {s : ByteArray} (hs : s ≠ ⟨#[]⟩) : Calls Tryz.prog 65 #[.pointer (some ⟨r, 0, none⟩), .string s] w fun e w' => e = .returned (.bool (sees ts p s)) ∧ But r w w' ∧ RD w' r ts (if sees ts p s then p + 1 else p) d := by
  have HS := hide (sees_any hR hT s)
  obtain ⟨b, hb⟩ : ∃ b, sees ts p s = b := ⟨_, rfl⟩
  have hlen : b = true → p + 1 < ts.length := fun h => nx_txt hT hR.lt (by rw [sees_txt (hb.trans h)]; exact hs)
  rw [hb] at HS ⊢
  have HA := hide (And.intro hR (And.intro hT hlen))
  clear hR hT hs hb hlen
  go_enter Tryz.func65, Tryz.ntmps65
  go_wp2_with fail
  refine (unhide HS).mono ?_
  rintro e w2 ⟨rfl, hb2⟩
  have HB := hide hb2
  clear hb2 HS
  cases b with
  | false =>
    go_wp2
    go_ret
    exact ⟨rfl, But.of (unhide HB), (unhide HA).1.keep (unhide HB)⟩
  | true =>
    have HT := hide (take_any ((unhide HA).1.keep (unhide HB)) (unhide HA).2.1 ((unhide HA).2.2 rfl))
    go_wp2_with fail
    refine (unhide HT).mono ?_
    rintro e w3 ⟨rfl, hb3, hR3⟩
    have HB3 := hide (And.intro hb3 hR3)
    clear hb3 hR3 HT
    go_wp2
    go_ret
    exact ⟨rfl, (But.of (unhide HB)).trans (unhide HB3).1, (unhide HB3).2⟩
set_option maxRecDepth 100000 in
set_option maxHeartbeats 4000000 in
theorem must_any {w : World} {r p d : Nat} {ts : List (Int × ByteArray × Int)} (hR : RD w r ts p d) (hT : TsOk ts) {s : ByteArray} (hs : s ≠ ⟨#[]⟩) : Calls Tryz.prog 67 #[.pointer (some ⟨r, 0, none⟩), .string s] w (RP UnOk (mustR ts s p) r ts p d w) := by
  have HS := hide (takeIf_any hR hT hs)
  obtain ⟨b, hb⟩ : ∃ b, sees ts p s = b := ⟨_, rfl⟩
  obtain ⟨X, hX⟩ : ∃ X, mustR ts s p = X := ⟨_, rfl⟩
  rw [hX]
  unfold mustR at hX
  rw [hb] at HS hX
  replace hX := hide hX
  have HT := hide hT
  clear hR hT hs hb
  go_enter Tryz.func67, Tryz.ntmps67
  go_wp2_with fail
  refine (unhide HS).mono ?_
  rintro e w2 ⟨rfl, hb2, hR2⟩
  have HB := hide (And.intro hb2 hR2)
  clear hb2 hR2 HS
  cases b with
  | true =>
    go_wp2
    obtain rfl := unhide hX
    refine bodyPost_ret (results_none rfl _ _ _) rfl ?_
    exact ⟨(unhide HB).1, Nat.le_succ _, (unhide HB).2, _, rfl, rfl⟩
  | false =>
    have HRf := hide (refused_any (unhide HB).2 (unhide HT) 150)
    go_wp2_with fail
    refine (unhide HRf).mono ?_
    rintro e w3 ⟨rfl, hb3⟩
    have HB3 := hide hb3
    clear hb3 HRf
    go_wp2
    obtain rfl := unhide hX
    refine ⟨rfl, (unhide HB).1.trans (But.of (unhide HB3)), rfl⟩
set_option maxRecDepth 100000 in
set_option maxHeartbeats 4000000 in
theorem mustBe_any {w : World} {r p d : Nat} {ts : List (Int × ByteArray × Int)} (hR : RD w r ts p d) (hT : TsOk ts) {k : Int} (hk : k ≠ 0) : Calls Tryz.prog 88 #[.pointer (some ⟨r, 0, none⟩), .int .i64 k] w (RP TkOk (mustBeR ts k p) r ts p d w) := by
  obtain ⟨A, eA, hbA, hsA, hhA⟩ := box_new w #[.int .i64 0, .string ⟨#[]⟩, .int .i64 0] 74
  have hRA := hR.keep hbA
  have HS := hide (next_any hRA hT)
  obtain ⟨X, hX⟩ : ∃ X, mustBeR ts k p = X := ⟨_, rfl⟩
  rw [hX]
  unfold mustBeR at hX
  have hlen : (nx ts p).1 = k → p + 1 < ts.length := fun h => nx_kind hT hR.lt (by rw [h]; exact hk)
  have HT := hide (And.intro hRA (And.intro hT hlen))
  unfold tkV at HS
  obtain ⟨⟨kk, T, i⟩, hN⟩ : ∃ Y, nx ts p = Y := ⟨_, rfl⟩
  rw [hN] at HS
  have HA := hide (And.intro hbA (And.intro hhA (And.intro hX hN)))
  have HE := hide eA
  have h0 := fld0 (.int .i64 kk) (.string T) (.int .i64 i)
  clear hR hT hk hX hN hlen hRA eA hbA hsA hhA
  by_cases hkk : kk = k
  · subst hkk
    go_enter Tryz.func88, Tryz.ntmps88
    go_wp2_with fail
    rw [unhide HE]
    refine (unhide HS).mono ?_
    rintro e w2 ⟨rfl, hb2⟩
    obtain ⟨hRA, hT, hlen⟩ := unhide HT
    obtain ⟨hbA, hhA, hX, hN⟩ := unhide HA
    have HTk := hide (take_any (hRA.keep hb2) hT (hlen (by rw [hN])))
    have HB2 := hide hb2
    unfold tkV at HTk
    rw [hN] at HTk
    clear hb2 HS hRA hT hlen hbA hhA hX hN
    go_wp2_with fail
    refine (unhide HTk).mono ?_
    rintro e w3 ⟨rfl, hb3, hR3⟩
    obtain ⟨hRA, hT, hlen⟩ := unhide HT
    obtain ⟨hbA, hhA, hX, hN⟩ := unhide HA
    have hrw : r < w.heap.size ∧ r < A.heap.size := by
      obtain ⟨⟨g, c, h1, -⟩, -⟩ := hRA
      refine ⟨?_, (blk h1).1⟩
      rcases Nat.lt_or_ge r w.heap.size with h | h
      · exact h
      · have := (blk h1).1
        have e : r = w.heap.size := by have := (blk hhA).1; have hs : A.heap.size = w.heap.size + 1 := by rw [← unhide HE]; simp
                                       omega
        rw [e, hhA] at h1
        cases h1
    have hh3 := (hb3.block w.heap.size (Nat.lt_of_lt_of_le (blk hhA).1 (unhide HB2).size) (by omega)).trans (((unhide HB2).block w.heap.size (blk hhA).1).trans hhA)
    have x0 : w3.cell? ⟨w.heap.size, 0, none⟩ = some (.int .i64 0) := (blk hh3).2.1 0 _ rfl
    have x1 : w3.cell? ⟨w.heap.size, 1, none⟩ = some (.string ⟨#[]⟩) := (blk hh3).2.1 1 _ rfl
    have x2 : w3.cell? ⟨w.heap.size, 2, none⟩ = some (.int .i64 0) := (blk hh3).2.1 2 _ rfl
    have z0 := (blk hh3).2.2 0
    have z1 := (blk hh3).2.2 1
    have z2 := (blk hh3).2.2 2
    have hbu : But r w w3 := (But.of hbA).trans ((But.of (unhide HB2)).trans hb3)
    have HB3 := hide (And.intro hbu (And.intro hR3 (And.intro hh3 (And.intro hrw.1 hX))))
    clear hbA hhA hX hRA hT hlen hb3 hR3 hh3 hbu hrw HTk
    go_wp2
    obtain ⟨hbu, hR3, hh3, hrw, hX⟩ := unhide HB3
    refine bodyPost_ret (res_row (cs := [.int .i64 kk, .string T, .int .i64 i]) rfl rfl (range_block (fill3 hh3)) rfl rfl rfl) rfl ?_
    rw [hN, if_pos rfl] at hX
    obtain rfl := hX
    have hb4 := but_new (but_new (but_new hbu (Nat.le_refl _) 0 (.int .i64 kk)) (Nat.le_refl _) 1 (.string T)) (Nat.le_refl _) 2 (.int .i64 i)
    refine ⟨hb4, Nat.le_succ _, ?_, _, rfl, rfl⟩
    have hb5 : But r w3 _ := ⟨rfl, rfl, rfl, by simp, fun k hk hr => rfl⟩
    obtain ⟨⟨g, c, h1, h2, h3, h4⟩, h5⟩ := hR3
    refine ⟨⟨g, c, ?_, h2, h3, fun j x hx => range_same (h4 j x hx) ?_⟩, h5⟩
    · rw [heap_set _ _ (by omega), heap_set _ _ (by omega), heap_set _ _ (by omega)]
      exact h1
    · rw [heap_set _ _ (by omega), heap_set _ _ (by omega), heap_set _ _ (by omega)]
  · have g0 : decide (kk = k) = false := by simpa using hkk
    go_enter Tryz.func88, Tryz.ntmps88
    go_wp2_with fail
    rw [unhide HE]
    refine (unhide HS).mono ?_
    rintro e w2 ⟨rfl, hb2⟩
    obtain ⟨hRA, hT, hlen⟩ := unhide HT
    have HRf := hide (refused_any (hRA.keep hb2) hT 150)
    have HB2 := hide hb2
    clear hb2 HS hRA hT hlen
    go_wp2_with fail
    refine (unhide HRf).mono ?_
    rintro e w3 ⟨rfl, hb3⟩
    have HB3 := hide hb3
    clear hb3 HRf
    go_wp2
    obtain ⟨hbA, hhA, hX, hN⟩ := unhide HA
    rw [hN, if_neg hkk] at hX
    obtain rfl := hX
    refine ⟨rfl, (But.of hbA).trans ((But.of (unhide HB2)).trans (But.of (unhide HB3))), ?_⟩
    rfl
end Go.Proofs.YtfkfnbehdcmgeaaGreatDoor

/- Package parse: small functions that make or ask. -/
namespace Go.Proofs.YtfkfnbehdcmgeaaGreatDoor
open Go Go.RowKit
theorem fill7 {w : World} {q : Nat} {a0 a1 a2 a3 a4 a5 a6 x0 x1 x2 x3 x4 x5 x6 : Value} {ty : TypeId} (h : w.heap[q]? = some (.cells #[a0, a1, a2, a3, a4, a5, a6] ty)) : (((((((w.setCell ⟨q, 0, none⟩ x0).setCell ⟨q, 1, none⟩ x1).setCell ⟨q, 2, none⟩ x2).setCell ⟨q, 3, none⟩ x3).setCell ⟨q, 4, none⟩ x4).setCell ⟨q, 5, none⟩ x5).setCell ⟨q, 6, none⟩ x6).heap[q]? = some (.cells #[x0, x1, x2, x3, x4, x5, x6] ty) := by
  have h0 : (w.setCell ⟨q, 0, none⟩ x0).heap[q]? = some (.cells #[x0, a1, a2, a3, a4, a5, a6] ty) := set_block h x0
  have h1 : ((w.setCell ⟨q, 0, none⟩ x0).setCell ⟨q, 1, none⟩ x1).heap[q]? = some (.cells #[x0, x1, a2, a3, a4, a5, a6] ty) := set_block h0 x1
  have h2 : (((w.setCell ⟨q, 0, none⟩ x0).setCell ⟨q, 1, none⟩ x1).setCell ⟨q, 2, none⟩ x2).heap[q]? = some (.cells #[x0, x1, x2, a3, a4, a5, a6] ty) := set_block h1 x2
  have h3 : ((((w.setCell ⟨q, 0, none⟩ x0).setCell ⟨q, 1, none⟩ x1).setCell ⟨q, 2, none⟩ x2).setCell ⟨q, 3, none⟩ x3).heap[q]? = some (.cells #[x0, x1, x2, x3, a4, a5, a6] ty) := set_block h2 x3
  have h4 : (((((w.setCell ⟨q, 0, none⟩ x0).setCell ⟨q, 1, none⟩ x1).setCell ⟨q, 2, none⟩ x2).setCell ⟨q, 3, none⟩ x3).setCell ⟨q, 4, none⟩ x4).heap[q]? = some (.cells #[x0, x1, x2, x3, x4, a5, a6] ty) := set_block h3 x4
  have h5 : ((((((w.setCell ⟨q, 0, none⟩ x0).setCell ⟨q, 1, none⟩ x1).setCell ⟨q, 2, none⟩ x2).setCell ⟨q, 3, none⟩ x3).setCell ⟨q, 4, none⟩ x4).setCell ⟨q, 5, none⟩ x5).heap[q]? = some (.cells #[x0, x1, x2, x3, x4, x5, a6] ty) := set_block h4 x5
  have h6 : (((((((w.setCell ⟨q, 0, none⟩ x0).setCell ⟨q, 1, none⟩ x1).setCell ⟨q, 2, none⟩ x2).setCell ⟨q, 3, none⟩ x3).setCell ⟨q, 4, none⟩ x4).setCell ⟨q, 5, none⟩ x5).setCell ⟨q, 6, none⟩ x6).heap[q]? = some (.cells #[x0, x1, x2, x3, x4, x5, x6] ty) := set_block h5 x6
  exact h6
def zE : Array Value := #[.int .i64 0, .string ⟨#[]⟩, .string ⟨#[]⟩, .bool false, .slice none 0 0, .int .i64 0, .int .i64 0]
/-- The facts on a block of an expression that a walk wants. -/
theorem blk7 {w : World} {q : Nat} {x0 x1 x2 x3 x4 x5 x6 : Value} {ty : TypeId} (h : w.heap[q]? = some (.cells #[x0, x1, x2, x3, x4, x5, x6] ty)) : w.cell? ⟨q, 0, none⟩ = some x0 ∧ w.cell? ⟨q, 1, none⟩ = some x1 ∧ w.cell? ⟨q, 2, none⟩ = some x2 ∧ w.cell? ⟨q, 3, none⟩ = some x3 ∧ w.cell? ⟨q, 4, none⟩ = some x4 ∧ w.cell? ⟨q, 5, none⟩ = some x5 ∧ w.cell? ⟨q, 6, none⟩ = some x6 := ⟨(blk h).2.1 0 _ rfl, (blk h).2.1 1 _ rfl, (blk h).2.1 2 _ rfl, (blk h).2.1 3 _ rfl, (blk h).2.1 4 _ rfl, (blk h).2.1 5 _ rfl, (blk h).2.1 6 _ rfl⟩
theorem frz7 {w : World} {q : Nat} {cs : Array Value} {ty : TypeId} (h : w.heap[q]? = some (.cells cs ty)) : w.frozen? ⟨q, 0, none⟩ = false ∧ w.frozen? ⟨q, 1, none⟩ = false ∧ w.frozen? ⟨q, 2, none⟩ = false ∧ w.frozen? ⟨q, 3, none⟩ = false ∧ w.frozen? ⟨q, 4, none⟩ = false ∧ w.frozen? ⟨q, 5, none⟩ = false ∧ w.frozen? ⟨q, 6, none⟩ = false := ⟨(blk h).2.2 0, (blk h).2.2 1, (blk h).2.2 2, (blk h).2.2 3, (blk h).2.2 4, (blk h).2.2 5, (blk h).2.2 6⟩
theorem below7 {w A : World} {B q : Nat} (h : Below B w A) (hq : B ≤ q) (x0 x1 x2 x3 x4 x5 x6 : Value) : Below B w (((((((A.setCell ⟨q, 0, none⟩ x0).setCell ⟨q, 1, none⟩ x1).setCell ⟨q, 2, none⟩ x2).setCell ⟨q, 3, none⟩ x3).setCell ⟨q, 4, none⟩ x4).setCell ⟨q, 5, none⟩ x5).setCell ⟨q, 6, none⟩ x6) := below_set (below_set (below_set (below_set (below_set (below_set (below_set h hq _ _) hq _ _) hq _ _) hq _ _) hq _ _) hq _ _) hq _ _
theorem but7 {w A : World} {r q : Nat} (h : But r w A) (hq : w.heap.size ≤ q) (x0 x1 x2 x3 x4 x5 x6 : Value) : But r w (((((((A.setCell ⟨q, 0, none⟩ x0).setCell ⟨q, 1, none⟩ x1).setCell ⟨q, 2, none⟩ x2).setCell ⟨q, 3, none⟩ x3).setCell ⟨q, 4, none⟩ x4).setCell ⟨q, 5, none⟩ x5).setCell ⟨q, 6, none⟩ x6) := but_new (but_new (but_new (but_new (but_new (but_new (but_new h hq _ _) hq _ _) hq _ _) hq _ _) hq _ _) hq _ _) hq _ _
theorem stays7 {w A : World} {lo q : Nat} (h : Stays lo w A) (hq : q < lo) (x0 x1 x2 x3 x4 x5 x6 : Value) : Stays lo w (((((((A.setCell ⟨q, 0, none⟩ x0).setCell ⟨q, 1, none⟩ x1).setCell ⟨q, 2, none⟩ x2).setCell ⟨q, 3, none⟩ x3).setCell ⟨q, 4, none⟩ x4).setCell ⟨q, 5, none⟩ x5).setCell ⟨q, 6, none⟩ x6) := ((((((h.set hq _ _).set hq _ _).set hq _ _).set hq _ _).set hq _ _).set hq _ _).set hq _ _
theorem same7 {A : World} {q k : Nat} (h : k ≠ q) (x0 x1 x2 x3 x4 x5 x6 : Value) : (((((((A.setCell ⟨q, 0, none⟩ x0).setCell ⟨q, 1, none⟩ x1).setCell ⟨q, 2, none⟩ x2).setCell ⟨q, 3, none⟩ x3).setCell ⟨q, 4, none⟩ x4).setCell ⟨q, 5, none⟩ x5).setCell ⟨q, 6, none⟩ x6).heap[k]? = A.heap[k]? := by
  rw [heap_set _ _ h, heap_set _ _ h, heap_set _ _ h, heap_set _ _ h, heap_set _ _ h, heap_set _ _ h, heap_set _ _ h]
set_option maxRecDepth 100000 in
set_option maxHeartbeats 4000000 in
theorem made_any (op k i : Int) (T : ByteArray) (a : Option Addr) (n c : Nat) (w : World) : Calls Tryz.prog 110 #[.int .i64 op, .agg #[.int .i64 k, .string T, .int .i64 i], .slice a n c] w (VP (.agg #[.int .i64 op, .string ⟨#[]⟩, .string ⟨#[]⟩, .bool false, .slice a n c, .int .i64 0, .int .i64 i]) w) := by
  unfold VP
  go_enter Tryz.func110, Tryz.ntmps110
  go_wp2
  obtain ⟨B, eB, hbB, hsB, hhB⟩ := box_new (w.alloc (.cells #[.int .i64 k, .string T, .int .i64 i] 74)) #[.int .i64 op, .string ⟨#[]⟩, .string ⟨#[]⟩, .bool false, .slice a n c, .int .i64 0, .int .i64 i] 36
  rw [eB]
  rw [World.size_alloc] at hhB
  refine bodyPost_ret (res_row (cs := [.int .i64 op, .string ⟨#[]⟩, .string ⟨#[]⟩, .bool false, .slice a n c, .int .i64 0, .int .i64 i]) rfl rfl (range_block hhB) rfl rfl rfl) rfl ?_
  exact ⟨rfl, ((Below.refl _ w).alloc (Nat.le_refl _) _).trans (hbB.mono (by simp))⟩
set_option maxRecDepth 100000 in
set_option maxHeartbeats 4000000 in
theorem named_any (op k i : Int) (T N : ByteArray) (a : Option Addr) (n c : Nat) (w : World) : Calls Tryz.prog 111 #[.int .i64 op, .agg #[.int .i64 k, .string T, .int .i64 i], .string N, .slice a n c] w (VP (.agg #[.int .i64 op, .string N, .string ⟨#[]⟩, .bool false, .slice a n c, .int .i64 0, .int .i64 i]) w) := by
  unfold VP
  go_enter Tryz.func111, Tryz.ntmps111
  go_wp2
  obtain ⟨B, eB, hbB, hsB, hhB⟩ := box_new (w.alloc (.cells #[.int .i64 k, .string T, .int .i64 i] 74)) #[.int .i64 op, .string N, .string ⟨#[]⟩, .bool false, .slice a n c, .int .i64 0, .int .i64 i] 36
  rw [eB]
  rw [World.size_alloc] at hhB
  refine bodyPost_ret (res_row (cs := [.int .i64 op, .string N, .string ⟨#[]⟩, .bool false, .slice a n c, .int .i64 0, .int .i64 i]) rfl rfl (range_block hhB) rfl rfl rfl) rfl ?_
  exact ⟨rfl, ((Below.refl _ w).alloc (Nat.le_refl _) _).trans (hbB.mono (by simp))⟩
end Go.Proofs.YtfkfnbehdcmgeaaGreatDoor

namespace Go.Proofs.YtfkfnbehdcmgeaaGreatDoor
open Go Go.RowKit
theorem eqb (s l : ByteArray) (ll : List UInt8) (h : l.data.toList = ll) : (s = l) = ((s.toList == ll) = true) := by
  rw [← h, ← Lib.toList_data]
  exact propext ⟨fun h => by rw [h]; simp, fun h => toList_inj (by simpa using h)⟩
theorem strs_at {W : World} {l : List ByteArray} {cs : Array Value} {ty : TypeId} (h : cs = (l.map Value.string).toArray) (j : Nat) (s : ByteArray) (hs : l[j]? = some s) : (W.alloc (.cells cs ty)).cell? ⟨W.heap.size, j, none⟩ = some (.string s) :=
  (blk (MapKept.heap_alloc W (.cells cs ty)).1).2.1 j _ (by rw [h]; simp [hs])
set_option maxRecDepth 100000 in
set_option maxHeartbeats 16000000 in
theorem opOf_eq (s : ByteArray) (w : World) : Calls Tryz.prog 123 #[.string s] w (fun e w' => e = .returned (.int .i64 (opOf s)) ∧ w' = w) := by
  obtain ⟨o, ho⟩ : ∃ o, opOf s = o := ⟨_, rfl⟩
  rw [ho]
  unfold opOf at ho
  simp only [eqb s ⟨#[42]⟩ [42] rfl, eqb s ⟨#[43]⟩ [43] rfl, eqb s ⟨#[45]⟩ [45] rfl, eqb s ⟨#[61]⟩ [61] rfl, eqb s ⟨#[60, 62]⟩ [60, 62] rfl, eqb s ⟨#[60]⟩ [60] rfl, eqb s ⟨#[60, 61]⟩ [60, 61] rfl, eqb s ⟨#[62]⟩ [62] rfl, eqb s ⟨#[62, 61]⟩ [62, 61] rfl, eqb s ⟨#[38, 38]⟩ [38, 38] rfl] at ho
  replace ho := hide ho
  go_enter Tryz.func123, Tryz.ntmps123
  go_wp2_with fail
  all_goals
    go_ret
    refine ⟨?_, rfl⟩
    have ho2 := unhide ho
    simp only [*, if_true, if_false, Bool.false_eq_true] at ho2
    rw [← ho2]
    rfl
set_option maxRecDepth 100000 in
set_option maxHeartbeats 16000000 in
theorem begU_any {w : World} {r p d : Nat} {ts : List (Int × ByteArray × Int)} (hR : RD w r ts p d) (hT : TsOk ts) : Calls Tryz.prog 94 #[.pointer (some ⟨r, 0, none⟩)] w (VP (.bool (begU ts p)) w) := by
  have HS := hide (next_any hR hT)
  have HA := hide (And.intro hR hT)
  obtain ⟨b, hb⟩ : ∃ b, begU ts p = b := ⟨_, rfl⟩
  rw [hb]
  unfold VP
  unfold tkV at HS
  unfold begU at hb
  obtain ⟨⟨kk, T, i⟩, hN⟩ : ∃ Y, nx ts p = Y := ⟨_, rfl⟩
  rw [hN] at HS hb
  replace hb := hide hb
  have h0 := fld0 (.int .i64 kk) (.string T) (.int .i64 i)
  clear hR hT hN
  by_cases k1 : kk = 1
  · subst k1
    go_enter Tryz.func94, Tryz.ntmps94
    go_wp2_with fail
    refine (unhide HS).mono ?_
    rintro e w2 ⟨rfl, hb2⟩
    have HB := hide hb2
    clear hb2 HS
    go_wp2
    go_ret
    refine ⟨?_, unhide HB⟩
    rw [← unhide hb]
    rfl
  · by_cases k3 : kk = 3
    · subst k3
      go_enter Tryz.func94, Tryz.ntmps94
      go_wp2_with fail
      refine (unhide HS).mono ?_
      rintro e w2 ⟨rfl, hb2⟩
      have HB := hide hb2
      clear hb2 HS
      go_wp2
      go_ret
      refine ⟨?_, unhide HB⟩
      rw [← unhide hb]
      rfl
    · have d1 : decide (kk = 1) = false := by simpa using k1
      have d3 : decide (kk = 3) = false := by simpa using k3
      go_enter Tryz.func94, Tryz.ntmps94
      go_wp2_with fail
      refine (unhide HS).mono ?_
      rintro e w2 ⟨rfl, hb2⟩
      have HB := hide hb2
      clear hb2 HS
      obtain ⟨hRD, hT⟩ := unhide HA
      obtain ⟨B, eB, hbB, hsB, hhB⟩ := box_new w2 #[.string ⟨#[45]⟩, .string ⟨#[110, 111, 116]⟩, .string ⟨#[33]⟩, .string ⟨#[111, 108, 100]⟩, .string ⟨#[116, 114, 117, 101]⟩, .string ⟨#[102, 97, 108, 115, 101]⟩, .string ⟨#[40]⟩] 9
      have hb0 := (unhide HB).trans (hbB.mono (unhide HB).size)
      have HO := hide (one_any (c := 7) (l := [⟨#[45]⟩, ⟨#[110, 111, 116]⟩, ⟨#[33]⟩, ⟨#[111, 108, 100]⟩, ⟨#[116, 114, 117, 101]⟩, ⟨#[102, 97, 108, 115, 101]⟩, ⟨#[40]⟩]) (hRD.keep hb0) hT (blk hhB).1 (by decide) (fun j s hs => by rw [← eB]; exact strs_at rfl j s hs))
      have hb1 := unhide hb
      rw [d1, d3, Bool.false_or, Bool.false_or] at hb1
      rw [hb1] at HO
      have HB0 := hide hb0
      have HEB := hide eB
      have e1 : (kk == 1) = false := by simpa using k1
      have e3 : (kk == 3) = false := by simpa using k3
      clear hRD hT eB hbB hsB hhB hb0 hb1
      go_wp2_with fail
      rw [unhide HEB]
      refine (unhide HO).mono ?_
      rintro e w3 ⟨rfl, hb3⟩
      have HB3 := hide ((unhide HB0).trans (hb3.mono (unhide HB0).size))
      clear hb3 HO
      go_wp2
      go_ret
      refine ⟨?_, unhide HB3⟩
      simp [e1, e3]
set_option maxRecDepth 100000 in
set_option maxHeartbeats 16000000 in
theorem begE_any {w : World} {r p d : Nat} {ts : List (Int × ByteArray × Int)} (hR : RD w r ts p d) (hT : TsOk ts) : Calls Tryz.prog 74 #[.pointer (some ⟨r, 0, none⟩)] w (VP (.bool (begE ts p)) w) := by
  have HS := hide (begU_any hR hT)
  have HA := hide (And.intro hR hT)
  obtain ⟨b, hb⟩ : ∃ b, begE ts p = b := ⟨_, rfl⟩
  rw [hb]
  unfold VP
  unfold begE at hb
  obtain ⟨u, hu⟩ : ∃ u, begU ts p = u := ⟨_, rfl⟩
  rw [hu] at HS hb
  replace hb := hide hb
  clear hR hT hu
  cases u with
  | true =>
    go_enter Tryz.func74, Tryz.ntmps74
    go_wp2_with fail
    refine (unhide HS).mono ?_
    rintro e w2 ⟨rfl, hb2⟩
    have HB := hide hb2
    clear hb2 HS
    go_wp2
    go_ret
    refine ⟨?_, unhide HB⟩
    rw [← unhide hb]
    rfl
  | false =>
    go_enter Tryz.func74, Tryz.ntmps74
    go_wp2_with fail
    refine (unhide HS).mono ?_
    rintro e w2 ⟨rfl, hb2⟩
    have HB := hide hb2
    clear hb2 HS
    obtain ⟨hRD, hT⟩ := unhide HA
    obtain ⟨B, eB, hbB, hsB, hhB⟩ := box_new w2 #[.string ⟨#[105, 102]⟩, .string ⟨#[108, 101, 116]⟩, .string ⟨#[116, 114, 121]⟩, .string ⟨#[114, 97, 105, 115, 101]⟩, .string ⟨#[97, 115, 115, 101, 114, 116]⟩] 9
    have hb0 := (unhide HB).trans (hbB.mono (unhide HB).size)
    have HO := hide (one_any (c := 5) (l := [⟨#[105, 102]⟩, ⟨#[108, 101, 116]⟩, ⟨#[116, 114, 121]⟩, ⟨#[114, 97, 105, 115, 101]⟩, ⟨#[97, 115, 115, 101, 114, 116]⟩]) (hRD.keep hb0) hT (blk hhB).1 (by decide) (fun j s hs => by rw [← eB]; exact strs_at rfl j s hs))
    have hb1 := unhide hb
    rw [Bool.false_or] at hb1
    rw [hb1] at HO
    have HB0 := hide hb0
    have HEB := hide eB
    clear hRD hT eB hbB hsB hhB hb0 hb1
    go_wp2_with fail
    rw [unhide HEB]
    refine (unhide HO).mono ?_
    rintro e w3 ⟨rfl, hb3⟩
    have HB3 := hide ((unhide HB0).trans (hb3.mono (unhide HB0).size))
    clear hb3 HO
    go_wp2
    go_ret
    exact ⟨rfl, unhide HB3⟩
end Go.Proofs.YtfkfnbehdcmgeaaGreatDoor
