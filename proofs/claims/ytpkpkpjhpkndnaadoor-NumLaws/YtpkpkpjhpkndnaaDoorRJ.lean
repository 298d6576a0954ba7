/- The operations of a region over numbers, one by one: what each leaves in its slot. -/
import Derived.Test.YtpkpkpjhpkndnaaDoorRI
import Derived.Test.YtpkpkpjhpkndnaaDoorL0
import Derived.Test.YtpkpkpjhpkndnaaDoorK1
import Derived.Tactics
namespace Go.Proofs.YtpkpkpjhpkndnaaDoor
open Go Go.RowKit

/-- What is said of a slot; it stands when memory grows. -/
structure Sp where
  ok : World → Value → Prop
  mono : ∀ w w' v, ok w v → Below w.heap.size w w' → ok w' v
def Sp.any : Sp := ⟨fun _ _ => True, fun _ _ _ h _ => h⟩
def Sp.num (z : Int) : Sp := ⟨fun w v => IsI w v z, fun _ _ _ h hb => h.below hb⟩
def Sp.int (n : Int) : Sp := ⟨fun _ v => v = .int .i64 n, fun _ _ _ h _ => h⟩
def Sp.bool (b : Bool) : Sp := ⟨fun _ v => v = .bool b, fun _ _ _ h _ => h⟩
def Sp.val (u : Value) : Sp := ⟨fun _ v => v = u, fun _ _ _ h _ => h⟩

/-- All regions of a code. -/
def regionsOf : Code → List (Nat × List Oper)
  | .region id ops _ => [(id, ops.toList)]
  | .seq a b => regionsOf a ++ regionsOf b
  | .cond _ a b => regionsOf a ++ regionsOf b
  | .block _ c => regionsOf c
  | .loop c => regionsOf c
  | .scope c => regionsOf c
  | _ => []
def regionOf (f : Func) (k : Nat) : List Oper := ((f.body.map regionsOf).getD []).findSome? (fun p => if p.1 == k then some p.2 else none) |>.getD []

theorem lt_step {n : Nat} {C : Nat → Prop} (h : ∀ i, i < n → C i) (hn : C n) : ∀ i, i < n + 1 → C i := fun i hi => by
  rcases Nat.lt_or_ge i n with h' | h'
  · exact h i h'
  · have : i = n := by omega
    subst this; exact hn
theorem lt_zero {C : Nat → Prop} : ∀ i, i < 0 → C i := fun _ h => absurd h (Nat.not_lt_zero _)

/-- The world holds a number in a box. -/
def BI (w : World) (r : Nat) (z : Int) : Prop := ∃ v, Bx w r v ∧ IsI w v z
theorem BI.below {w w' : World} {r : Nat} {z : Int} (h : BI w r z) (hb : Below w.heap.size w w') : BI w' r z := let ⟨v, h1, h2⟩ := h; ⟨v, h1.below hb, h2.below hb⟩

/-- A slot points to a number in a box. -/
def PB (a0 : Act) (w0 : World) (t : Nat) (z : Int) : Prop := ∃ r, a0.tmps[t]? = some (.pointer (some ⟨r, 0, none⟩)) ∧ BI w0 r z

section
variable {Q : Exit → Act → World → Prop} {a a0 : Act} {w w0 : World} {dst : Option Tmp} {ty : TypeId} {pos : String} {af : Array Edge} {gd : Option (Nat × Bool)}

/-- A call of this function enters it. -/
structure Enters (P : Program) (f : FuncId) : Prop where
  run : ∀ (xs : Array Value) (w : World), (callFunc f xs).run P w = .ok (.enter f xs) w
theorem op_call {P : Program} {K : Act → World → Prop} {f : FuncId} {args : Array Operand} {tys : Array TypeId}
    (hf : Enters P f)
    (hc : Calls P f (args.map a.eval) w fun e w' => ∃ v, e = .returned v ∧ K (a.put dst v) w') :
    Oper.wp P ⟨dst, .call ⟨.value (.func f), args, tys⟩, ty, pos, af, gd⟩ a w K Q := by
  unfold Oper.wp
  simp [go_sem]
  rw [hf.run]
  refine Calls.mono hc ?_
  rintro e w' ⟨v, rfl, h⟩
  exact h
theorem op_eql {K : Act → World → Prop} {x y : Operand} {m n : Int} (hx : a.eval x = .int .i64 m) (hy : a.eval y = .int .i64 n) (h : K (a.put dst (.bool (m == n))) w) :
    Oper.wp Tryd.prog ⟨dst, .binOp .eql 3 x y 3, ty, pos, af, gd⟩ a w K Q := by
  unfold Oper.wp
  simp only [execOp, hx, hy]
  go_simp
  exact h

theorem load_bx {r : Nat} {v : Value} (h : Bx w r v) : (Instr.loadAt 26 (.pointer (some ⟨r, 0, none⟩))).run Tryd.prog w = .ok v w := by
  obtain ⟨n, s, l, c, rfl, h2⟩ := id h
  obtain ⟨k0, k1, f0, f1⟩ := h.facts
  go_simp

/-- What an operation leaves: a value in its slot, of which the spec holds; memory that was there stands. -/
def Leaves (o : Oper) (a : Act) (w : World) (s : Sp) : Act → World → Prop := fun a' w' => ∃ v, a' = a.put o.dst v ∧ Below w.heap.size w w' ∧ s.ok w' v

theorem st_load {t : Nat} {z : Int} (hk : a.tmps[t]? = a0.tmps[t]?) (hp : PB a0 w0 t z) (hb : Below w0.heap.size w0 w) :
    Oper.wp Tryd.prog ⟨dst, .load 26 (.tmp t), ty, pos, af, gd⟩ a w (fun a' w' => ∃ v, a' = a.put dst v ∧ Below w.heap.size w w' ∧ (Sp.num z).ok w' v) Q := by
  obtain ⟨r, ht, hbx⟩ := hp
  obtain ⟨v, h1, h2⟩ := hbx.below hb
  have he : a.eval (.tmp t) = .pointer (some ⟨r, 0, none⟩) := by simp [Act.eval, hk, ht]
  exact op_load he (load_bx h1) ⟨v, rfl, Below.refl _ _, h2⟩
theorem st_move {s : Nat} {S : Sp} (p : S.ok w (a.tmps.getD s undef)) :
    Oper.wp Tryd.prog ⟨dst, .move (.tmp s), ty, pos, af, gd⟩ a w (fun a' w' => ∃ v, a' = a.put dst v ∧ Below w.heap.size w w' ∧ S.ok w' v) Q := op_move ⟨_, rfl, Below.refl _ _, p⟩
theorem st_assign {s : Nat} {S : Sp} (p : S.ok w (a.tmps.getD s undef)) :
    Oper.wp Tryd.prog ⟨dst, .assign (.tmp s), ty, pos, af, gd⟩ a w (fun a' w' => ∃ v, a' = a.put dst v ∧ Below w.heap.size w w' ∧ S.ok w' v) Q := op_assign ⟨_, rfl, Below.refl _ _, p⟩
theorem st_pick {c : Nat} {x y : Operand} {b : Bool} {S : Sp} (hc : (Sp.bool b).ok w (a.tmps.getD c undef)) (p : S.ok w (if b then a.eval x else a.eval y)) :
    Oper.wp Tryd.prog ⟨dst, .pick (.tmp c) x y, ty, pos, af, gd⟩ a w (fun a' w' => ∃ v, a' = a.put dst v ∧ Below w.heap.size w w' ∧ S.ok w' v) Q := op_pick hc ⟨_, rfl, Below.refl _ _, p⟩
theorem st_eql0 {s : Nat} {m n : Int} {b : Bool} (p : (Sp.int m).ok w (a.tmps.getD s undef)) (hb : (m == n) = b) :
    Oper.wp Tryd.prog ⟨dst, .binOp .eql 3 (.tmp s) (.const (.int .i64 n)) 3, ty, pos, af, gd⟩ a w (fun a' w' => ∃ v, a' = a.put dst v ∧ Below w.heap.size w w' ∧ (Sp.bool b).ok w' v) Q :=
  op_eql (a := a) p rfl ⟨_, rfl, Below.refl _ _, by subst hb; rfl⟩
theorem st_eql {s t : Nat} {m n : Int} {b : Bool} (p : (Sp.int m).ok w (a.tmps.getD s undef)) (q : (Sp.int n).ok w (a.tmps.getD t undef)) (hb : (m == n) = b) :
    Oper.wp Tryd.prog ⟨dst, .binOp .eql 3 (.tmp s) (.tmp t) 3, ty, pos, af, gd⟩ a w (fun a' w' => ∃ v, a' = a.put dst v ∧ Below w.heap.size w w' ∧ (Sp.bool b).ok w' v) Q :=
  op_eql (a := a) p q ⟨_, rfl, Below.refl _ _, by subst hb; rfl⟩

theorem args2 {s t : Nat} : (#[Operand.tmp s, .tmp t]).map a.eval = #[a.tmps.getD s undef, a.tmps.getD t undef] := by simp only [List.map_toArray, List.map_cons, List.map_nil, Act.eval]
theorem args1 {s : Nat} : (#[Operand.tmp s]).map a.eval = #[a.tmps.getD s undef] := by simp only [List.map_toArray, List.map_cons, List.map_nil, Act.eval]
/-- A call of two slots by a contract. -/
theorem st_call2 {P : Program} {f : FuncId} {tys : Array TypeId} {s t : Nat} {S : Sp} (hf : Enters P f)
    (h : Calls P f #[a.tmps.getD s undef, a.tmps.getD t undef] w fun e w' => ∃ r, e = .returned r ∧ Below w.heap.size w w' ∧ S.ok w' r) :
    Oper.wp P ⟨dst, .call ⟨.value (.func f), #[.tmp s, .tmp t], tys⟩, ty, pos, af, gd⟩ a w (fun a' w' => ∃ v, a' = a.put dst v ∧ Below w.heap.size w w' ∧ S.ok w' v) Q :=
  op_call hf (by rw [args2]; exact Calls.mono h fun _ _ ⟨r, h1, h2, h3⟩ => ⟨r, h1, r, rfl, h2, h3⟩)
theorem st_call1 {P : Program} {f : FuncId} {tys : Array TypeId} {s : Nat} {S : Sp} (hf : Enters P f)
    (h : Calls P f #[a.tmps.getD s undef] w fun e w' => ∃ r, e = .returned r ∧ Below w.heap.size w w' ∧ S.ok w' r) :
    Oper.wp P ⟨dst, .call ⟨.value (.func f), #[.tmp s], tys⟩, ty, pos, af, gd⟩ a w (fun a' w' => ∃ v, a' = a.put dst v ∧ Below w.heap.size w w' ∧ S.ok w' v) Q :=
  op_call hf (by rw [args1]; exact Calls.mono h fun _ _ ⟨r, h1, h2, h3⟩ => ⟨r, h1, r, rfl, h2, h3⟩)

theorem enter_Add : Enters Tryd.prog 21 := ⟨fun xs w => by go_simp⟩
theorem enter_Sub : Enters Tryd.prog 23 := ⟨fun xs w => by go_simp⟩
theorem enter_Mul : Enters Tryd.prog 25 := ⟨fun xs w => by go_simp⟩
theorem enter_Neg : Enters Tryd.prog 27 := ⟨fun xs w => by go_simp⟩
theorem enter_Cmp : Enters Tryd.prog 29 := ⟨fun xs w => by go_simp⟩
theorem enter_Sign : Enters Tryd.prog 31 := ⟨fun xs w => by go_simp⟩
theorem enter_Gcd : Enters Tryd.prog 35 := ⟨fun xs w => by go_simp⟩

variable {tys : Array TypeId} {s t : Nat} {y z : Int} {j k : Nat}
theorem le4 {z : Int} {k : Nat} (h : (z.natAbs : Int) < pw k) (hk : k ≤ 4000) : (z.natAbs : Int) < pw 4000 := Int.lt_of_lt_of_le h (pw_mono hk)
set_option maxRecDepth 100000 in
theorem st_Add (p : (Sp.num y).ok w (a.tmps.getD s undef)) (q : (Sp.num z).ok w (a.tmps.getD t undef)) (b : (y.natAbs : Int) < pw j) (c : (z.natAbs : Int) < pw k) (hj : j ≤ 4000) (hk : k ≤ 4000) :
    Oper.wp Tryd.prog ⟨dst, .call ⟨.value (.func 21), #[.tmp s, .tmp t], tys⟩, ty, pos, af, gd⟩ a w (fun a' w' => ∃ v, a' = a.put dst v ∧ Below w.heap.size w w' ∧ (Sp.num (y + z)).ok w' v) Q :=
  st_call2 enter_Add (Calls.mono (add_any _ _ y z w p q (le4 b hj) (le4 c hk)) fun _ _ h => h)
set_option maxRecDepth 100000 in
theorem st_Sub (p : (Sp.num y).ok w (a.tmps.getD s undef)) (q : (Sp.num z).ok w (a.tmps.getD t undef)) (b : (y.natAbs : Int) < pw j) (c : (z.natAbs : Int) < pw k) (hj : j ≤ 4000) (hk : k ≤ 4000) :
    Oper.wp Tryd.prog ⟨dst, .call ⟨.value (.func 23), #[.tmp s, .tmp t], tys⟩, ty, pos, af, gd⟩ a w (fun a' w' => ∃ v, a' = a.put dst v ∧ Below w.heap.size w w' ∧ (Sp.num (y - z)).ok w' v) Q :=
  st_call2 enter_Sub (Calls.mono (sub_any _ _ y z w p q (le4 b hj) (le4 c hk)) fun _ _ h => h)
set_option maxRecDepth 100000 in
theorem st_Mul (p : (Sp.num y).ok w (a.tmps.getD s undef)) (q : (Sp.num z).ok w (a.tmps.getD t undef)) (b : (y.natAbs : Int) < pw j) (c : (z.natAbs : Int) < pw k) (hj : j ≤ 4000) (hk : k ≤ 4000) :
    Oper.wp Tryd.prog ⟨dst, .call ⟨.value (.func 25), #[.tmp s, .tmp t], tys⟩, ty, pos, af, gd⟩ a w (fun a' w' => ∃ v, a' = a.put dst v ∧ Below w.heap.size w w' ∧ (Sp.num (y * z)).ok w' v) Q :=
  st_call2 enter_Mul (Calls.mono (mul_any _ _ y z w p q (le4 b hj) (le4 c hk)) fun _ _ h => h)
set_option maxRecDepth 100000 in
theorem st_Gcd (p : (Sp.num y).ok w (a.tmps.getD s undef)) (q : (Sp.num z).ok w (a.tmps.getD t undef)) (b : (y.natAbs : Int) < pw j) (c : (z.natAbs : Int) < pw k) (hj : j ≤ 4000) (hk : k ≤ 4000) :
    Oper.wp Tryd.prog ⟨dst, .call ⟨.value (.func 35), #[.tmp s, .tmp t], tys⟩, ty, pos, af, gd⟩ a w (fun a' w' => ∃ v, a' = a.put dst v ∧ Below w.heap.size w w' ∧ (Sp.num (Int.gcd y z)).ok w' v) Q :=
  st_call2 enter_Gcd (Calls.mono (gcd_any quoLong_any _ _ y z w p q (le4 b hj) (le4 c hk)) fun _ _ h => h)
set_option maxRecDepth 100000 in
theorem st_Neg (p : (Sp.num y).ok w (a.tmps.getD s undef)) (b : (y.natAbs : Int) < pw j) (hj : j ≤ 4000) :
    Oper.wp Tryd.prog ⟨dst, .call ⟨.value (.func 27), #[.tmp s], tys⟩, ty, pos, af, gd⟩ a w (fun a' w' => ∃ v, a' = a.put dst v ∧ Below w.heap.size w w' ∧ (Sp.num (-y)).ok w' v) Q :=
  st_call1 enter_Neg (Calls.mono (neg_any _ y w p (Int.lt_of_lt_of_le b (pw_mono (Nat.le_trans hj (by decide))))) fun _ _ h => h)
set_option maxRecDepth 100000 in
theorem st_Cmp {n : Int} (p : (Sp.num y).ok w (a.tmps.getD s undef)) (q : (Sp.num z).ok w (a.tmps.getD t undef)) (b : (y.natAbs : Int) < pw j) (c : (z.natAbs : Int) < pw k) (hj : j ≤ 4000) (hk : k ≤ 4000) (hn : cmpI y z = n) :
    Oper.wp Tryd.prog ⟨dst, .call ⟨.value (.func 29), #[.tmp s, .tmp t], tys⟩, ty, pos, af, gd⟩ a w (fun a' w' => ∃ v, a' = a.put dst v ∧ Below w.heap.size w w' ∧ (Sp.int n).ok w' v) Q :=
  st_call2 enter_Cmp (Calls.mono (cmp_any _ _ y z w p q (le4 b hj) (le4 c hk)) fun _ _ ⟨h1, h2⟩ => ⟨_, h1, h2, by subst hn; rfl⟩)
set_option maxRecDepth 100000 in
theorem st_Sign {n : Int} (p : (Sp.num y).ok w (a.tmps.getD s undef)) (hn : sgn y = n) :
    Oper.wp Tryd.prog ⟨dst, .call ⟨.value (.func 31), #[.tmp s], tys⟩, ty, pos, af, gd⟩ a w (fun a' w' => ∃ v, a' = a.put dst v ∧ Below w.heap.size w w' ∧ (Sp.int n).ok w' v) Q :=
  st_call1 enter_Sign (Calls.mono (sign_any _ y w p) fun _ _ ⟨h1, h2⟩ => ⟨_, h1, h2, by subst hn; rfl⟩)

/-- An operation that is wanted. -/
theorem st_want {P : Program} {ops : Array Oper} {o : Oper} {X : Act → World → Prop} {Y : Prop} (hw : Region.wanted o (yielded ops a.tmps) = true) (h : o.wp P a w X Q) : if Region.wanted o (yielded ops a.tmps) then o.wp P a w X Q else Y := by
  rw [if_pos hw]; exact h
theorem st_unwant {P : Program} {ops : Array Oper} {o : Oper} {X : Act → World → Prop} {Y : Prop} (hw : Region.wanted o (yielded ops a.tmps) = false) (h : Y) : if Region.wanted o (yielded ops a.tmps) then o.wp P a w X Q else Y := by
  rw [if_neg (by simp [hw])]; exact h
end

theorem unwanted_undef {ops : Array Oper} {a : Act} {o : Oper} {g : Nat} {b : Bool} (h : o.guard = some (g, b)) (hs : slotOf ops a g = undef) (hd : ((ops[g]?).bind (·.dst)).isSome = true) : Region.wanted o (yielded ops a.tmps) = false := by
  obtain ⟨d, hd⟩ := Option.isSome_iff_exists.1 hd
  unfold slotOf at hs
  rw [hd] at hs
  have : yielded ops a.tmps g = none := by
    unfold yielded
    rw [hd]
    simp only [Option.getD_some, Option.bind_some] at *
    cases h : a.tmps[d]? with
    | none => rfl
    | some v => simp [h] at hs; rw [hs]; rfl
  simp [Region.wanted, h, this]

/-- What is asked of one operation of a region. -/
def StepOk (P : Program) (Q : Exit → Act → World → Prop) (l : List Oper) (sp : List Sp) (a0 : Act) (w0 : World) (kept : List Nat) (i : Nat) : Prop :=
  ∀ (a : Act) (w : World), Below w0.heap.size w0 w → (∀ k, k ∈ kept → a.tmps[k]? = a0.tmps[k]?) → (∀ j, (preds (l.getD i default)).contains j = true → (sp.getD j Sp.any).ok w (slotOf l.toArray a j)) →
    if Region.wanted (l.getD i default) (yielded l.toArray a.tmps) then (l.getD i default).wp P a w (fun a' w' => ∃ v, a' = a.put (l.getD i default).dst v ∧ Below w.heap.size w w' ∧ (sp.getD i Sp.any).ok w' v) Q
    else (sp.getD i Sp.any).ok w undef

theorem region_sp {P : Program} {Q : Exit → Act → World → Prop} {id : Nat} {l : List Oper} {a0 : Act} {w0 : World} (N : Nat) (kept : List Nat) (sp : List Sp)
    (hm : P.follows .mixedOrders = true) (hg : goodFrom N 0 kept l = true) (hN : a0.tmps.size = N) (n : Nat) (hn : l.length = n)
    (hstep : ∀ i, i < n → StepOk P Q l sp a0 w0 kept i)
    (hend : ∀ (a : Act) (w : World), Below w0.heap.size w0 w → a.defers = a0.defers → a.tmps.size = N → (∀ k, k ∈ kept → a.tmps[k]? = a0.tmps[k]?) → (∀ i, i < n → (sp.getD i Sp.any).ok w (slotOf l.toArray a i)) → Q .normal a w) :
    (Code.region id l.toArray true).wp P Q a0 w0 := by
  subst hn
  refine region_specs N kept (fun i w v => (sp.getD i Sp.any).ok w v) hm hg hN (fun i w w' v h hb => (sp.getD i Sp.any).mono w w' v h hb) ?_ hend
  intro i o ho a w hb _ _ hk hp
  have hi : i < l.length := (List.getElem?_eq_some_iff.1 ho).1
  have hd : l.getD i default = o := by simp [List.getD_eq_getElem?_getD, ho]
  have := hstep i hi a w hb hk
  rw [hd] at this
  exact this hp

theorem add_lt2 {y z : Int} {a b : Nat} (h : (y.natAbs : Int) < pw a) (k : (z.natAbs : Int) < pw b) : ((y + z).natAbs : Int) < pw (max a b + 1) := by
  have h1 : pw (max a b + 1) = 1000000000 * pw (max a b) := rfl
  have h2 := Int.lt_of_lt_of_le h (pw_mono (Nat.le_max_left a b))
  have h3 := Int.lt_of_lt_of_le k (pw_mono (Nat.le_max_right a b))
  omega
theorem sub_lt2 {y z : Int} {a b : Nat} (h : (y.natAbs : Int) < pw a) (k : (z.natAbs : Int) < pw b) : ((y - z).natAbs : Int) < pw (max a b + 1) := by
  have h1 : pw (max a b + 1) = 1000000000 * pw (max a b) := rfl
  have h2 := Int.lt_of_lt_of_le h (pw_mono (Nat.le_max_left a b))
  have h3 := Int.lt_of_lt_of_le k (pw_mono (Nat.le_max_right a b))
  omega
theorem gcd_lt2 {y z : Int} {a b : Nat} (h : (y.natAbs : Int) < pw a) (k : (z.natAbs : Int) < pw b) : (((Int.gcd y z : Int)).natAbs : Int) < pw (max a b) :=
  gcd_pw (Int.lt_of_lt_of_le h (pw_mono (Nat.le_max_left a b))) (Int.lt_of_lt_of_le k (pw_mono (Nat.le_max_right a b)))

end Go.Proofs.YtpkpkpjhpkndnaaDoor
