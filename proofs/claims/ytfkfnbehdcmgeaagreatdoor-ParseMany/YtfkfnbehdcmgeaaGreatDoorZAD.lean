/- Package parse: a node of expressions that lie. -/
import Derived.Test.YtfkfnbehdcmgeaaGreatDoorZAC
import Derived.Orders
import Derived.Below
import Derived.Tactics
import Derived.OrdersIn
import Derived.RangeFuncCalls
import Derived.Lib.Walk
import Derived.Lib.ItoaMem
import Derived.Lib.AppendIntMem
import Derived.BigCall
import Derived.BigGuard
import Derived.CellFam
import Derived.Lib.ItoaNum
import Derived.RangeFuncBox
import Derived.Lib.AppendStr
import Derived.Deep.QuietTactic
import Derived.BigQuiet
import Derived.Test.YtfkfnbehdcmgeaaGreatDoorProg
set_option linter.unusedVariables false
set_option linter.unusedSimpArgs false
namespace Go.Proofs.YtfkfnbehdcmgeaaGreatDoor
open Go Go.RowKit
theorem eqb (s l:ByteArray) (ll:List UInt8) (h:l.data.toList=ll):(s=l)=((s.toList == ll)=true):=by
 rw [←h,←Lib.toList_data]
 exact propext ⟨fun h=>by rw [h];simp,fun h=>toList_inj (by simpa using h)⟩
theorem strs_at {W:World} {l:List ByteArray} {cs:Array Value} {ty:TypeId} (h:cs=(l.map Value.string).toArray) (j:Nat) (s:ByteArray) (hs:l[j]?=some s):(W.alloc (.cells cs ty)).cell? ⟨W.heap.size,j,none⟩=some (.string s):=
 (blk (MapKept.heap_alloc W (.cells cs ty)).1).2.1 j _ (by rw [h];simp [hs])
set_option maxRecDepth 100000 in
set_option maxHeartbeats 16000000 in
theorem opOf_eq (s:ByteArray) (w:World):Calls Tryz.prog 123 #[.string s] w (fun e w'=>e = .returned (.int .i64 (opOf s))∧w'=w):=by
 obtain ⟨o,ho⟩:∃ o,opOf s=o:=⟨_,rfl⟩
 rw [ho]
 unfold opOf at ho
 simp only [eqb s ⟨#[42]⟩ [42] rfl,eqb s ⟨#[43]⟩ [43] rfl,eqb s ⟨#[45]⟩ [45] rfl,eqb s ⟨#[61]⟩ [61] rfl,eqb s ⟨#[60,62]⟩ [60,62] rfl,eqb s ⟨#[60]⟩ [60] rfl,eqb s ⟨#[60,61]⟩ [60,61] rfl,eqb s ⟨#[62]⟩ [62] rfl,eqb s ⟨#[62,61]⟩ [62,61] rfl,eqb s ⟨#[38,38]⟩ [38,38] rfl] at ho
 replace ho:=gh ho
 go_enter Tryz.func123,Tryz.ntmps123
 go_wp2_with fail
 all_goals
  go_ret
  refine ⟨?_,rfl⟩
  have ho2:=gf ho
  simp only [*,if_true,if_false,Bool.false_eq_true] at ho2
  rw [←ho2]
  rfl
set_option maxRecDepth 100000 in
set_option maxHeartbeats 16000000 in
theorem begU_any {w:World} {r p d:Nat} {ts:List (Int×ByteArray×Int)} (hR:RD w r ts p d) (hT:TsOk ts):Calls Tryz.prog 94 #[.pointer (some ⟨r,0,none⟩)] w (VP (.bool (begU ts p)) w):=by
 have HS:=gh (next_any hR hT)
 have HA:=gh (And.intro hR hT)
 obtain ⟨b,hb⟩:∃ b,begU ts p=b:=⟨_,rfl⟩
 rw [hb]
 unfold VP
 unfold tkV at HS
 unfold begU at hb
 obtain ⟨⟨kk,T,i⟩,hN⟩:∃ Y,nx ts p=Y:=⟨_,rfl⟩
 rw [hN] at HS hb
 replace hb:=gh hb
 have h0:=fld0 (.int .i64 kk) (.string T) (.int .i64 i)
 clear hR hT hN
 by_cases k1:kk=1
 ·subst k1
  go_enter Tryz.func94,Tryz.ntmps94
  go_wp2_with fail
  refine (gf HS).mono ?_
  rintro e w2 ⟨rfl,hb2⟩
  have HB:=gh hb2
  clear hb2 HS
  go_wp2
  go_ret
  refine ⟨?_,gf HB⟩
  rw [←gf hb]
  rfl
 ·by_cases k3:kk=3
  ·subst k3
   go_enter Tryz.func94,Tryz.ntmps94
   go_wp2_with fail
   refine (gf HS).mono ?_
   rintro e w2 ⟨rfl,hb2⟩
   have HB:=gh hb2
   clear hb2 HS
   go_wp2
   go_ret
   refine ⟨?_,gf HB⟩
   rw [←gf hb]
   rfl
  ·have d1:decide (kk=1)=false:=by simpa using k1
   have d3:decide (kk=3)=false:=by simpa using k3
   go_enter Tryz.func94,Tryz.ntmps94
   go_wp2_with fail
   refine (gf HS).mono ?_
   rintro e w2 ⟨rfl,hb2⟩
   have HB:=gh hb2
   clear hb2 HS
   obtain ⟨hRD,hT⟩:=gf HA
   obtain ⟨B,eB,hbB,hsB,hhB⟩:=box_new w2 #[.string ⟨#[45]⟩,.string ⟨#[110,111,116]⟩,.string ⟨#[33]⟩,.string ⟨#[111,108,100]⟩,.string ⟨#[116,114,117,101]⟩,.string ⟨#[102,97,108,115,101]⟩,.string ⟨#[40]⟩] 9
   have hb0:=(gf HB).trans (hbB.mono (gf HB).size)
   have HO:=gh (one_any (c:=7) (l:=[⟨#[45]⟩,⟨#[110,111,116]⟩,⟨#[33]⟩,⟨#[111,108,100]⟩,⟨#[116,114,117,101]⟩,⟨#[102,97,108,115,101]⟩,⟨#[40]⟩]) (hRD.keep hb0) hT (blk hhB).1 (by decide) (fun j s hs=>by rw [←eB];exact strs_at rfl j s hs))
   have hb1:=gf hb
   rw [d1,d3,Bool.false_or,Bool.false_or] at hb1
   rw [hb1] at HO
   have HB0:=gh hb0
   have HEB:=gh eB
   have e1:(kk == 1)=false:=by simpa using k1
   have e3:(kk == 3)=false:=by simpa using k3
   clear hRD hT eB hbB hsB hhB hb0 hb1
   go_wp2_with fail
   rw [gf HEB]
   refine (gf HO).mono ?_
   rintro e w3 ⟨rfl,hb3⟩
   have HB3:=gh ((gf HB0).trans (hb3.mono (gf HB0).size))
   clear hb3 HO
   go_wp2
   go_ret
   refine ⟨?_,gf HB3⟩
   simp [e1,e3]
set_option maxRecDepth 100000 in
set_option maxHeartbeats 16000000 in
theorem begE_any {w:World} {r p d:Nat} {ts:List (Int×ByteArray×Int)} (hR:RD w r ts p d) (hT:TsOk ts):Calls Tryz.prog 74 #[.pointer (some ⟨r,0,none⟩)] w (VP (.bool (begE ts p)) w):=by
 have HS:=gh (begU_any hR hT)
 have HA:=gh (And.intro hR hT)
 obtain ⟨b,hb⟩:∃ b,begE ts p=b:=⟨_,rfl⟩
 rw [hb]
 unfold VP
 unfold begE at hb
 obtain ⟨u,hu⟩:∃ u,begU ts p=u:=⟨_,rfl⟩
 rw [hu] at HS hb
 replace hb:=gh hb
 clear hR hT hu
 cases u with
 |true =>
  go_enter Tryz.func74,Tryz.ntmps74
  go_wp2_with fail
  refine (gf HS).mono ?_
  rintro e w2 ⟨rfl,hb2⟩
  have HB:=gh hb2
  clear hb2 HS
  go_wp2
  go_ret
  refine ⟨?_,gf HB⟩
  rw [←gf hb]
  rfl
 |false =>
  go_enter Tryz.func74,Tryz.ntmps74
  go_wp2_with fail
  refine (gf HS).mono ?_
  rintro e w2 ⟨rfl,hb2⟩
  have HB:=gh hb2
  clear hb2 HS
  obtain ⟨hRD,hT⟩:=gf HA
  obtain ⟨B,eB,hbB,hsB,hhB⟩:=box_new w2 #[.string ⟨#[105,102]⟩,.string ⟨#[108,101,116]⟩,.string ⟨#[116,114,121]⟩,.string ⟨#[114,97,105,115,101]⟩,.string ⟨#[97,115,115,101,114,116]⟩] 9
  have hb0:=(gf HB).trans (hbB.mono (gf HB).size)
  have HO:=gh (one_any (c:=5) (l:=[⟨#[105,102]⟩,⟨#[108,101,116]⟩,⟨#[116,114,121]⟩,⟨#[114,97,105,115,101]⟩,⟨#[97,115,115,101,114,116]⟩]) (hRD.keep hb0) hT (blk hhB).1 (by decide) (fun j s hs=>by rw [←eB];exact strs_at rfl j s hs))
  have hb1:=gf hb
  rw [Bool.false_or] at hb1
  rw [hb1] at HO
  have HB0:=gh hb0
  have HEB:=gh eB
  clear hRD hT eB hbB hsB hhB hb0 hb1
  go_wp2_with fail
  rw [gf HEB]
  refine (gf HO).mono ?_
  rintro e w3 ⟨rfl,hb3⟩
  have HB3:=gh ((gf HB0).trans (hb3.mono (gf HB0).size))
  clear hb3 HO
  go_wp2
  go_ret
  exact ⟨rfl,gf HB3⟩
end Go.Proofs.YtfkfnbehdcmgeaaGreatDoor
namespace Go.Proofs.YtfkfnbehdcmgeaaGreatDoor
open Go Go.RowKit
section
variable {P:Program} {ops:Array Oper} {Q:Exit→Act→World→Prop} {md:Region.Mode}
theorem filter_lt (p q:Nat→Bool) (hqp:∀ j,q j=true→p j=true) (i:Nat) (hp:p i=true) (hq:q i=false) :
  ∀ l:List Nat,i∈l→(l.filter q).length<(l.filter p).length:=by
 have hle:∀ l:List Nat,(l.filter q).length≤(l.filter p).length:=by
  intro l
  induction l with
  |nil=>simp
  |cons x l ih =>
   simp only [List.filter_cons]
   cases hx:q x with
   |true=>simp [hqp x hx,ih]
   |false =>
    cases p x with
    |true=>simp;omega
    |false=>simpa using ih
 intro l
 induction l with
 |nil=>intro h;cases h
 |cons x l ih =>
  intro h
  rcases List.mem_cons.1 h with rfl | h
  ·simp only [List.filter_cons,hp,hq]
   have:=hle l
   simp
   omega
  ·have:=ih h
   simp only [List.filter_cons]
   cases hx:q x with
   |true=>simp [hqp x hx,this]
   |false =>
    cases p x with
    |true=>simp;omega
    |false=>simpa using this
def toCome (ops:Array Oper) (listed:Array Bool):Nat:=((List.range ops.size).filter fun i => !listed.getD i true).length
theorem toCome_lt {listed:Array Bool} {i:Nat} (h:i∈Region.ready md ops listed):toCome ops (listed.setIfInBounds i true)<toCome ops listed:=by
 obtain ⟨h0,o,ho,_⟩:=mem_ready.1 h
 have hi:i<ops.size:=(Array.getElem?_eq_some_iff.1 ho).1
 refine filter_lt _ _ ?_ i ?_ ?_ _ (List.mem_range.2 hi)
 ·intro j hj
  by_cases e:i=j
  ·subst e;simp [h0]
  ·rw [getD_set_ne true e] at hj;exact hj
 ·simp [h0]
 ·by_cases hs:i<listed.size
  ·simp [hs]
  ·simp [Array.getElem?_eq_none (Nat.le_of_not_lt hs)] at h0
theorem ready_nil_of_toCome {listed:Array Bool} (h:toCome ops listed=0):Region.ready md ops listed=[]:=by
 apply List.eq_nil_iff_forall_not_mem.2
 intro i hi
 have:=toCome_lt hi
 omega
theorem wpAny_inv (I:Array Bool→Act→World→Prop)
  (hstep:∀ listed a w i,I listed a w→i∈Region.ready md ops listed→wpOp P ops Q i (fun a' w'=>I (listed.setIfInBounds i true) a' w') a w)
  (hend:∀ listed a w,I listed a w→Region.ready md ops listed=[]→Q .normal a w) :
  ∀ fuel listed a w,toCome ops listed≤fuel→I listed a w→wpAny P md ops Q fuel listed a w:=by
 intro fuel
 induction fuel with
 |zero=>intro listed a w h hI;exact ⟨ready_nil_of_toCome (by omega),hend _ _ _ hI (ready_nil_of_toCome (by omega))⟩
 |succ fuel ih =>
  intro listed a w h hI
  refine ⟨fun hr=>hend _ _ _ hI hr,fun i hi=>wpOp_mono (fun a' w' h'=>ih _ a' w' ?_ h') (hstep _ _ _ _ hI hi)⟩
  have:=toCome_lt hi
  omega
def slotOf (ops:Array Oper) (a:Act) (i:Nat):Value:=a.tmps.getD (((ops[i]?).bind (·.dst)).getD 0) undef
theorem slot_put_same {a:Act} {i:Nat} {o:Oper} {d:Nat} {v:Value} (ho:ops[i]?=some o) (hd:o.dst=some d) (hlt:d<a.tmps.size) :
  slotOf ops (a.put o.dst v) i=v:=by
 simp [slotOf,ho,hd,Act.put,hlt]
theorem slot_put_other {a:Act} {i:Nat} {o':Oper} {d d':Nat} {v:Value} (ho':ops[i]?=some o') (hd':o'.dst=some d') (hne:d≠d') :
  slotOf ops (a.put (some d) v) i=slotOf ops a i:=by
 simp [slotOf,ho',hd',Act.put,Array.getElem?_setIfInBounds_ne hne]
def preds (o:Oper):List Nat:=(o.after.toList.filter (Region.binds .any)).map (·.on)
theorem preds_spec {o:Oper} {j:Nat} (h:(preds o).contains j=true):∃ e,(e∈o.after∧Region.binds .any e=true)∧e.on=j:=by
 have h1:j∈preds o:=by simpa using h
 obtain ⟨e,he,rfl⟩:=List.mem_map.1 h1
 obtain ⟨h2,h3⟩:=List.mem_filter.1 he
 exact ⟨e,⟨by simpa using h2,h3⟩,rfl⟩
section
variable {o:Oper} {a:Act} {w:World} {K:Act→World→Prop} {dst:Option Tmp} {ty:TypeId} {pos:String} {af:Array Edge} {gd:Option (Nat×Bool)}
theorem yielded_slot {g:Nat} {b:Bool} (hs:slotOf ops a g = .bool b) (hd:((ops[g]?).bind (·.dst)).isSome=true):yielded ops a.tmps g=some b:=by
 obtain ⟨d,hd⟩:=Option.isSome_iff_exists.1 hd
 unfold slotOf at hs
 rw [hd] at hs
 unfold yielded
 rw [hd]
 simp only [Option.getD_some,Option.bind_some] at *
 cases h:a.tmps[d]? with
 |none=>simp [h,undef] at hs
 |some v=>simp [h] at hs;rw [hs]
theorem wanted_slot {g:Nat} {b:Bool} (h:o.guard=some (g,b)) (hs:slotOf ops a g = .bool b) (hd:((ops[g]?).bind (·.dst)).isSome=true):Region.wanted o (yielded ops a.tmps)=true:=by
 simp [Region.wanted,h,yielded_slot hs hd]
theorem op_move {x:Operand} (h:K (a.put dst (a.eval x)) w):Oper.wp P ⟨dst,.move x,ty,pos,af,gd⟩ a w K Q:=h
theorem op_pick {c x y:Operand} {b:Bool} (hc:a.eval c = .bool b) (h:K (a.put dst (if b then a.eval x else a.eval y)) w):Oper.wp P ⟨dst,.pick c x y,ty,pos,af,gd⟩ a w K Q:=by
 unfold Oper.wp
 simp only [execOp,hc]
 exact h
theorem op_load {t:TypeId} {x:Operand} {p v:Value} (hx:a.eval x=p) (hr:(Instr.loadAt t p).run P w = .ok v w) (h:K (a.put dst v) w):Oper.wp P ⟨dst,.load t x,ty,pos,af,gd⟩ a w K Q:=by
 unfold Oper.wp
 simp [execOp,hx,hr,Oper.upon,h]
end
end
end Go.Proofs.YtfkfnbehdcmgeaaGreatDoor
namespace Go.Proofs.YtfkfnbehdcmgeaaGreatDoor
open Go Go.RowKit
section
variable {Q:Exit→Act→World→Prop} {a a0:Act} {w w0:World} {dst:Option Tmp} {ty:TypeId} {pos:String} {af:Array Edge} {gd:Option (Nat×Bool)}
structure Enters (P:Program) (f:FuncId):Prop where
 run:∀ (xs:Array Value) (w:World),(callFunc f xs).run P w = .ok (.enter f xs) w
theorem op_call {P:Program} {K:Act→World→Prop} {f:FuncId} {args:Array Operand} {tys:Array TypeId}
  (hf:Enters P f)
  (hc:Calls P f (args.map a.eval) w fun e w'=>∃ v,e = .returned v∧K (a.put dst v) w') :
  Oper.wp P ⟨dst,.call ⟨.value (.func f),args,tys⟩,ty,pos,af,gd⟩ a w K Q:=by
 unfold Oper.wp
 simp [go_sem]
 rw [hf.run]
 refine Calls.mono hc ?_
 rintro e w' ⟨v,rfl,h⟩
 exact h
variable {tys:Array TypeId} {s t:Nat} {y z:Int} {j k:Nat}
theorem st_want {P:Program} {ops:Array Oper} {o:Oper} {X:Act→World→Prop} {Y:Prop} (hw:Region.wanted o (yielded ops a.tmps)=true) (h:o.wp P a w X Q):if Region.wanted o (yielded ops a.tmps) then o.wp P a w X Q else Y:=by
 rw [if_pos hw];exact h
end
end Go.Proofs.YtfkfnbehdcmgeaaGreatDoor
namespace Go.Proofs.YtfkfnbehdcmgeaaGreatDoor
open Go Go.RowKit
section
variable {P:Program} {Q:Exit→Act→World→Prop}
end
end Go.Proofs.YtfkfnbehdcmgeaaGreatDoor
namespace Go.Proofs.YtfkfnbehdcmgeaaGreatDoor
open Go Go.RowKit
end Go.Proofs.YtfkfnbehdcmgeaaGreatDoor
namespace Go.Proofs.YtfkfnbehdcmgeaaGreatDoor
open Go Go.RowKit
theorem op_fieldAddr {P:Program} {Q:Exit→Act→World→Prop} {K:Act→World→Prop} {a:Act} {w:World} {dst:Option Tmp} {ty:TypeId} {pos:String} {af:Array Edge} {gd:Option (Nat×Bool)} {x:Operand} {vx v:Value} {t:TypeId} {f:Nat}
  (hx:a.eval x=vx) (hr:(Instr.fieldAt t vx f).run P w = .ok v w) (h:K (a.put dst v) w):Oper.wp P ⟨dst,.fieldAddr t x f,ty,pos,af,gd⟩ a w K Q:=by
 unfold Oper.wp
 simp [execOp,hx,hr,Oper.upon,h]
end Go.Proofs.YtfkfnbehdcmgeaaGreatDoor
namespace Go.Proofs.YtfkfnbehdcmgeaaGreatDoor.T4
end Go.Proofs.YtfkfnbehdcmgeaaGreatDoor.T4
namespace Go.Proofs.YtfkfnbehdcmgeaaGreatDoor.T4
open Go.RowKit
end Go.Proofs.YtfkfnbehdcmgeaaGreatDoor.T4
namespace Go.Proofs.YtfkfnbehdcmgeaaGreatDoor
open Go Go.RowKit
section
variable {P:Program} {Q:Exit→Act→World→Prop}
def fitF (N:Nat):Nat→List Nat→List Oper→Bool
 |_,_,[]=>true
 |i,ds,o::l=>(o.after.toList.all fun e => !Region.binds .any e || decide (e.on<i)) && (match o.dst with | some d => !ds.contains d && decide (d<N) && fitF N (i+1) (d::ds) l | none=>fitF N (i+1) ds l)
theorem fitF_spec {N:Nat}:∀ (l:List Oper) (i:Nat) (ds:List Nat),fitF N i ds l=true →
  ∀ j o,l[j]?=some o→(∀ e∈o.after,Region.binds .any e=true→e.on<i+j)∧∀ d:Nat,o.dst=some d→d ∉ ds∧d<N∧∀ k o',k<j→l[k]?=some o'→o'.dst≠some d
 |[],_,_,_,j,o,h=>by simp at h
 |x::l,i,ds,hg,j,o,h=>by
  simp only [fitF,Bool.and_eq_true] at hg
  obtain ⟨hon,hd⟩:=hg
  cases hx:x.dst with
  |none =>
   simp only [hx] at hd
   cases j with
   |zero =>
    simp at h
    subst h
    refine ⟨fun e he hb => ?_,fun d hd'=>by rw [hx] at hd';cases hd'⟩
    have:=List.all_eq_true.1 hon e (by simpa using he)
    simpa [hb] using this
   |succ j =>
    have h':l[j]?=some o:=by simpa using h
    obtain ⟨h1,h2⟩:=fitF_spec l (i+1) ds hd j o h'
    refine ⟨fun e he hb=>by have:=h1 e he hb;omega,fun d hd' => ?_⟩
    obtain ⟨h3,h4,h5⟩:=h2 d hd'
    refine ⟨h3,h4,fun k o' hk ho' => ?_⟩
    cases k with
    |zero=>simp at ho';subst ho';rw [hx];simp
    |succ k=>exact h5 k o' (by omega) (by simpa using ho')
  |some d0 =>
   simp only [hx,Bool.and_eq_true,decide_eq_true_eq] at hd
   obtain ⟨⟨hB,hN⟩,hr⟩:=hd
   have hB':d0 ∉ ds:=by simpa using hB
   cases j with
   |zero =>
    simp at h
    subst h
    refine ⟨fun e he hb => ?_,fun d hd' => ?_⟩
    ·have:=List.all_eq_true.1 hon e (by simpa using he)
     simpa [hb] using this
    ·rw [hx] at hd'
     have e0:d0=d:=Option.some.inj hd'
     subst e0
     exact ⟨hB',hN,fun k _ hk=>absurd hk (by omega)⟩
   |succ j =>
    have h':l[j]?=some o:=by simpa using h
    obtain ⟨h1,h2⟩:=fitF_spec l (i+1) (d0::ds) hr j o h'
    refine ⟨fun e he hb=>by have:=h1 e he hb;omega,fun d hd' => ?_⟩
    obtain ⟨h3,h4,h5⟩:=h2 d hd'
    refine ⟨fun hm=>h3 (List.mem_cons_of_mem _ hm),h4,fun k o' hk ho' => ?_⟩
    cases k with
    |zero =>
     simp at ho';subst ho';rw [hx]
     intro e
     have e0:d0=d:=Option.some.inj e
     exact h3 (e0▸List.mem_cons_self)
    |succ k=>exact h5 k o' (by omega) (by simpa using ho')
theorem stepsF {l:List Oper} {a0:Act} {w0:World} (N:Nat) (kept:List Nat) (Φ:Nat→Value→Prop) (J:Array Bool→Act→World→Prop)
  (hg:fitF N 0 kept l=true) (hN:a0.tmps.size=N) (h0:J (Array.replicate l.length false) a0 w0)
  (hstep:∀ i o,l[i]?=some o→∀ (listed:Array Bool) (a:Act) (w:World),listed.size=l.length→listed.getD i true=false →
   (∀ j o',l[j]?=some o'→listed.getD j false=true→∀ k,(preds o').contains k=true→listed.getD k false=true) →
   a.defers=a0.defers→a.tmps.size=N→(∀ k,k∈kept→a.tmps[k]?=a0.tmps[k]?) →
   (∀ j,(preds o).contains j=true→listed.getD j false=true∧Φ j (slotOf l.toArray a j))→J listed a w →
   if Region.wanted o (yielded l.toArray a.tmps) then o.wp P a w (fun a' w'=>∃ v,a'=a.put o.dst v∧(o.dst.isSome=true→Φ i v)∧J (listed.setIfInBounds i true) a' w') Q
   else (o.dst.isSome=true→Φ i undef)∧J (listed.setIfInBounds i true) (a.put o.dst undef) w)
  (hsome:∀ i o,l[i]?=some o→o.dst=none→∀ v,Φ i v)
  (hend:∀ (listed:Array Bool) (a:Act) (w:World),listed.size=l.length→(∀ i,i<l.length→listed.getD i false=true)→a.defers=a0.defers→a.tmps.size=N→(∀ k,k∈kept→a.tmps[k]?=a0.tmps[k]?)→(∀ i,i<l.length→Φ i (slotOf l.toArray a i))→J listed a w→Q .normal a w) :
  wpAny P .any l.toArray Q l.toArray.size (Array.replicate l.toArray.size false) a0 w0:=by
 let I:Array Bool→Act→World→Prop:=fun listed a w=>listed.size=l.length∧(∀ j o',l[j]?=some o'→listed.getD j false=true→∀ k,(preds o').contains k=true→listed.getD k false=true) ∧
  a.defers=a0.defers∧a.tmps.size=N∧(∀ k,k∈kept→a.tmps[k]?=a0.tmps[k]?)∧(∀ i,listed.getD i false=true→Φ i (slotOf l.toArray a i))∧J listed a w
 have hspec:=fitF_spec l 0 kept hg
 refine wpAny_inv (md:=.any) I ?_ ?_ _ _ _ _ ?_ ?_
 ·rintro listed a w i ⟨hsz,hdown,hdf,hn,hbase,hΦ,hJ⟩ hr
  obtain ⟨hun,o,ho,hpre⟩:=mem_ready.1 hr
  have hol:l[i]?=some o:=by simpa using ho
  have hilt:i<l.length:=(List.getElem?_eq_some_iff.1 hol).1
  have hpre':∀ j,(preds o).contains j=true→listed.getD j false=true:=fun j hj=>by
   obtain ⟨e,he,rfl⟩:=preds_spec hj
   exact hpre e he.1 he.2
  have hs:=hstep i o hol listed a w hsz hun hdown hdf hn hbase (fun j hj=>⟨hpre' j hj,hΦ j (hpre' j hj)⟩) hJ
  have hdown':∀ j o',l[j]?=some o'→(listed.setIfInBounds i true).getD j false=true→∀ k,(preds o').contains k=true→(listed.setIfInBounds i true).getD k false=true:=by
   intro j o' ho' hj k hk
   by_cases e:i=j
   ·subst e
    rw [hol] at ho'
    cases ho'
    exact getD_set_true (hpre' k hk)
   ·rw [getD_set_ne false e] at hj
    exact getD_set_true (hdown j o' ho' hj k hk)
  have keep:∀ w' v,(o.dst.isSome=true→Φ i v)→J (listed.setIfInBounds i true) (a.put o.dst v) w'→I (listed.setIfInBounds i true) (a.put o.dst v) w':=by
   intro w' v hv hJ'
   refine ⟨by simpa using hsz,hdown',?_,?_,?_,?_,hJ'⟩
   ·cases hd:o.dst <;> simpa [Act.put] using hdf
   ·cases hd:o.dst <;> simpa [Act.put] using hn
   ·intro k hk
    cases hd:o.dst with
    |none=>exact hbase k hk
    |some d =>
     simp only [Act.put]
     rw [Array.getElem?_setIfInBounds_ne (fun (e:d=k)=>((hspec i o hol).2 d hd).1 (e.symm▸hk))]
     exact hbase k hk
   ·intro j hj
    by_cases e:i=j
    ·subst e
     cases hd:o.dst with
     |none=>exact hsome i o hol hd _
     |some d =>
      rw [←hd,slot_put_same ho hd (by have:=((hspec i o hol).2 d hd).2.1;omega)]
      exact hv (by simp [hd])
    ·rw [getD_set_ne false e] at hj
     have hj':=hΦ j hj
     have hjlt:j<l.length:=by
      rcases Nat.lt_or_ge j listed.size with h | h
      ·omega
      ·simp [Array.getElem?_eq_none h] at hj
     have hoj:l[j]?=some l[j]:=List.getElem?_eq_getElem hjlt
     have hoj':l.toArray[j]?=some l[j]:=by simp [hjlt]
     cases hd:o.dst with
     |none=>exact hj'
     |some d =>
      cases hd':(l[j]).dst with
      |none=>exact hsome j _ hoj hd' _
      |some d' =>
       have hne:d≠d':=by
        intro ee
        subst ee
        rcases Nat.lt_or_gt_of_ne e with h | h
        ·exact ((hspec j _ hoj).2 d hd').2.2 i o h hol hd
        ·exact ((hspec i _ hol).2 d hd).2.2 j _ h hoj hd'
       rw [slot_put_other hoj' hd' hne]
       exact hj'
  unfold wpOp
  simp only [ho]
  split
  ·rename_i hw
   simp only [hw,if_true] at hs
   refine .inl (Oper.wp_mono ?_ hs)
   rintro a' w' ⟨v,rfl,hv,hJ'⟩
   exact keep w' v hv hJ'
  ·rename_i hw
   simp only [hw] at hs
   exact keep w undef hs.1 hs.2
 ·rintro listed a w ⟨hsz,hdown,hdf,hn,hbase,hΦ,hJ⟩ hr
  have hall:∀ i,i<l.length→listed.getD i false=true:=by
   intro i
   induction i using Nat.strongRecOn with
   |ind i ih =>
    intro hi
    cases hl:listed.getD i true with
    |true =>
     have:i<listed.size:=by omega
     simpa [this] using hl
    |false =>
     exfalso
     have hoi:l[i]?=some l[i]:=List.getElem?_eq_getElem hi
     have:i∈Region.ready .any l.toArray listed:=by
      refine mem_ready.2 ⟨hl,l[i],by simp [hi],fun e he hb => ?_⟩
      have:=(hspec i _ hoi).1 e he hb
      exact ih e.on (by omega) (by omega)
     rw [hr] at this
     cases this
  exact hend listed a w hsz hall hdf hn hbase (fun i hi=>hΦ i (hall i hi)) hJ
 ·unfold toCome
  exact Nat.le_trans (List.length_filter_le _ _) (by simp)
 ·have hf:∀ i,(Array.replicate l.toArray.size false).getD i false=true→False:=by
   intro i hi
   rcases Nat.lt_or_ge i l.length with h | h
   ·simp [h] at hi
   ·simp [h] at hi
  exact ⟨by simp,fun j _ _ hj=>(hf j hj).elim,rfl,hN,fun _ _=>rfl,fun i hi=>(hf i hi).elim,by simpa using h0⟩
end
end Go.Proofs.YtfkfnbehdcmgeaaGreatDoor
namespace Go.Proofs.YtfkfnbehdcmgeaaGreatDoor
open Go Go.RowKit
structure PutAt (r:Nat) (w w':World):Prop where
 os:w'.os=w.os
 tape:w'.tape=w.tape
 output:w'.output=w.output
 size:w'.heap.size=w.heap.size
 block:∀ k,k≠r→w'.heap[k]?=w.heap[k]?
theorem PutAt.below {r B:Nat} {w0 w w':World} (h:PutAt r w w') (hb:Below B w0 w) (hr:B≤r):Below B w0 w':=
 ⟨h.os.trans hb.os,h.tape.trans hb.tape,h.output.trans hb.output,by rw [h.size];exact hb.size,fun k hk=>(h.block k (by omega)).trans (hb.block k hk)⟩
structure Kinds where
 K:TypeId→World→Nat→Prop
 loc:∀ t w w' r,w'.heap[r]?=w.heap[r]?→K t w r→K t w' r
 lt:∀ t w r,K t w r→r<w.heap.size
 inj:∀ t t' w r,K t w r→K t' w r→t=t'
 Z:World→Nat→Prop
structure Sx (κ:Kinds) where
 ok:World→Value→Prop
 mono:∀ w w' v,ok w v→Below w.heap.size w w'→ok w' v
 put:∀ t w w' v r,ok w v→κ.K t w r→κ.Z w r→PutAt r w w'→κ.K t w' r→ok w' v
def Sx.any (κ:Kinds):Sx κ:=⟨fun _ _=>True,fun _ _ _ h _=>h,fun _ _ _ _ _ h _ _ _ _=>h⟩
structure St (κ:Kinds) where
 op:Nat
 pt:Nat
 H:World→Nat→Value→Prop
 S:Sx κ
 loc:∀ w w' r v,w'.heap[r]?=w.heap[r]?→H w r v→H w' r v
 lt:∀ w r v,H w r v→r<w.heap.size
 ob:Nat:=0
 O:World→Prop:=fun _=>True
 om:∀ w w',O w→Below w.heap.size w w'→O w':=by exact fun _ _ h _=>h
 oput:∀ t w w' r,O w→κ.K t w r→κ.Z w r→PutAt r w w'→κ.K t w' r→r≠ob→O w':=by exact fun _ _ _ _ h _ _ _ _ _=>h
 F:World→Nat→Prop:=fun _ _=>True
 floc:∀ w w' r,w'.heap[r]?=w.heap[r]?→F w r→F w' r:=by exact fun _ _ _ _ _=>trivial
end Go.Proofs.YtfkfnbehdcmgeaaGreatDoor
namespace Go.Proofs.YtfkfnbehdcmgeaaGreatDoor
open Go Go.RowKit
end Go.Proofs.YtfkfnbehdcmgeaaGreatDoor
namespace Go.Proofs.YtfkfnbehdcmgeaaGreatDoor
open Go Go.RowKit
theorem getD_of {a:Act} {k:Nat} {v:Value} (h:a.tmps[k]?=some v):a.tmps.getD k undef=v:=by simp [Array.getD_eq_getD_getElem?,h]
section
variable {Q:Exit→Act→World→Prop} {a:Act} {w:World} {ty:TypeId} {pos:String} {af:Array Edge} {gd:Option (Nat×Bool)} {dst:Option Tmp} {K:Act→World→Prop}
end
theorem res_t {W:World} {fn:Func} {a:Act} {s:Nat} {u:Value} (hf:fn.results = #[.tmp s]) (hs:a.tmps[s]?=some u):(results fn a.tmps).run Tryz.prog W = .ok u W:=by
 simp [results,hf,hs,go_sem]
end Go.Proofs.YtfkfnbehdcmgeaaGreatDoor
namespace Go.Proofs.YtfkfnbehdcmgeaaGreatDoor
open Go Go.RowKit
section
variable {κ:Kinds} {Q:Exit→Act→World→Prop} {a:Act} {w:World} {ty:TypeId} {pos:String} {af:Array Edge} {gd:Option (Nat×Bool)} {dst:Option Tmp} {Y:Prop} {ops:Array Oper} {S:Sx κ} {G:World→Value→Prop}
end
end Go.Proofs.YtfkfnbehdcmgeaaGreatDoor
namespace Go.Proofs.YtfkfnbehdcmgeaaGreatDoor
open Go Go.RowKit
theorem IsEP.form {w:World} {P:Nat→Prop} {v:Value} {t:Ex} (h:IsEP w P v t):∃ (i0 i6:Int) (s1 s2:ByteArray) (b3:Bool) (a4:Option Addr) (n4 c4:Nat),v = .agg #[.int .i64 i0,.string s1,.string s2,.bool b3,.slice a4 n4 c4,.int .i64 0,.int .i64 i6]:=by
 obtain ⟨op,nm,nu,bl,l,i⟩:=t
 obtain ⟨k,a,c,e,-⟩:=h
 exact ⟨_,_,_,_,_,_,_,_,e⟩
theorem IsE.form {w:World} {lo:Nat} {v:Value} {t:Ex} (h:IsE w lo v t):∃ (i0 i6:Int) (s1 s2:ByteArray) (b3:Bool) (a4:Option Addr) (n4 c4:Nat),v = .agg #[.int .i64 i0,.string s1,.string s2,.bool b3,.slice a4 n4 c4,.int .i64 0,.int .i64 i6]:=IsEP.form h
def PE (x:(Except (Int×Int) (Ex×Nat))) (r:Nat) (ts:List (Int×ByteArray×Int)) (p d:Nat) (w:World) (e:Ending) (w':World):Prop:=RP (fun w' v t=>IsE w' w.heap.size v t) x r ts p d w e w'
def RuC (f:Nat) (r:Nat) (ts:List (Int×ByteArray×Int)) (d lo:Nat) (X:Nat→(Except (Int×Int) (Ex×Nat))):Prop:=∀ (w:World) (p:Nat),lo≤p→RD w r ts p d→Calls Tryz.prog f #[.pointer (some ⟨r,0,none⟩)] w (PE (X p) r ts p d w)
set_option maxRecDepth 100000 in
set_option maxHeartbeats 4000000 in
theorem nested_any {w:World} {r p d k lo:Nat} {ts:List (Int×ByteArray×Int)} {X:Nat→(Except (Int×Int) (Ex×Nat))} (hR:RD w r ts p d) (hT:TsOk ts) (b:Bool) (hd:d≤1000000) (hE:Enters Tryz.prog k) (hX:RuC k r ts (d+1) lo X) (hlo:lo≤p):Calls Tryz.prog 73 #[.pointer (some ⟨r,0,none⟩),.bool b,.func (.func k) #[.pointer (some ⟨r,0,none⟩)] #[]] w (PE (if b∧d=200 then bad ts p 151 else X p) r ts p d w):=by
 obtain ⟨A,eA,hbA,hsA,hhA⟩:=box_new w #[.int .i64 0,.string ⟨#[]⟩,.string ⟨#[]⟩,.bool false,.slice none 0 0,.int .i64 0,.int .i64 0] 36
 have hRA:=hR.keep hbA
 obtain ⟨g,c,x0,x1,x2,hc,hrl,f1,f2,ht⟩:=hRA.facts (Below.refl _ _)
 obtain ⟨Y,hY⟩:∃ Y,(if b∧d=200 then bad ts p 151 else X p)=Y:=⟨_,rfl⟩
 rw [hY]
 have HA:=gh (And.intro hR (And.intro hRA (And.intro hT (And.intro hbA (And.intro hhA (And.intro hY (And.intro hX (And.intro hlo hE))))))))
 have HE:=gh eA
 have g3:(0:Int)≤(d:Int):=by omega
 have g4:(d:Int)≤1000000:=by omega
 rw [←eA] at x0 x1 x2 f1 f2 hrl
 clear hR hT hd hE hX hlo hRA hY eA hbA hsA hhA ht hc
 by_cases hb:b=true∧d=200
 ·obtain ⟨rfl,rfl⟩:=hb
  go_enter Tryz.func73,Tryz.ntmps73
  have HRf:=gh (refused_any (gf HA).2.1 (gf HA).2.2.1 151)
  go_wp2_with fail
  rw [gf HE]
  refine (gf HRf).mono ?_
  rintro e w3 ⟨rfl,hb3⟩
  have HB3:=gh hb3
  clear hb3 HRf
  go_wp2
  obtain ⟨hR,hRA,hT,hbA,hhA,hY,-⟩:=gf HA
  rw [if_pos (by simp)] at hY
  obtain rfl:=hY
  exact ⟨rfl,(But.of hbA).trans (But.of (gf HB3)),rfl⟩
 ·have HNB:=gh hb
  have hrw:r<w.heap.size:=by
   obtain ⟨⟨g,c,h1,-⟩,-⟩:=(gf HA).1
   exact (blk h1).1
  obtain ⟨W1,hW1⟩:∃ W1,(w.alloc (.cells #[.int .i64 0,.string ⟨#[]⟩,.string ⟨#[]⟩,.bool false,.slice none 0 0,.int .i64 0,.int .i64 0] 36)).setCell ⟨r,2,none⟩ (.int .i64 ((d:Int)+1))=W1:=⟨_,rfl⟩
  have hbu1:But r w W1:=by
   rw [←hW1,gf HE]
   exact (But.of (gf HA).2.2.2.1).set 2 _
  have hR1:RD W1 r ts p (d+1):=(gf HA).1.set hbu1 (gf HA).1.lt fun g c h=>by
   rw [←hW1,gf HE]
   exact set_block (((gf HA).2.2.2.1.block r hrw).trans h) _
  have hz1:W1.heap[w.heap.size]?=some (.cells #[.int .i64 0,.string ⟨#[]⟩,.string ⟨#[]⟩,.bool false,.slice none 0 0,.int .i64 0,.int .i64 0] 36):=by
   rw [←hW1,gf HE,heap_set _ _ (by omega)]
   exact (gf HA).2.2.2.2.1
  have HC:=gh ((gf HA).2.2.2.2.2.2.1 W1 p (gf HA).2.2.2.2.2.2.2.1 hR1)
  have HW:=gh (And.intro hbu1 (And.intro hz1 hrw))
  have HW1:=gh hW1
  have hY:=(gf HA).2.2.2.2.2.1
  rw [if_neg hb] at hY
  have hEn:=gh (gf HA).2.2.2.2.2.2.2.2
  clear hbu1 hR1 hz1 hW1 hrw
  have hcond:b=true→¬ (d:Int)=200:=fun h1 h2=>hb ⟨h1,by omega⟩
  clear hb
  rw [hY] at HC
  clear hY
  cases b with
  |false =>
   clear hcond
   go_enter Tryz.func73,Tryz.ntmps73
   go_wp2_with fail
   rw [(gf hEn).run,gf HW1]
   refine Calls.mono (gf HC) ?_
   rintro e w3 ⟨hb3,h3⟩
   cases hYY:Y with
   |error er =>
    obtain ⟨i,n⟩:=er
    rw [hYY] at h3
    obtain rfl:e=_:=h3
    go_wp2
    exact ⟨rfl,(gf HW).1.trans hb3,rfl⟩
   |ok tq =>
    obtain ⟨t,q⟩:=tq
    rw [hYY] at h3
    obtain ⟨hpq,hR3,v,rfl,hv⟩:=h3
    obtain ⟨i0,i6,s1,s2,b3,a4,n4,c4,rfl⟩:=hv.form
    have hrw:=(gf HW).2.2
    have hsz:w.heap.size<W1.heap.size:=(blk (gf HW).2.1).1
    have hs3:=hb3.size
    have hz3:=(hb3.block w.heap.size hsz (by omega)).trans (gf HW).2.1
    obtain ⟨B,eB,hbB,hsB,hhB⟩:=box_new w3 #[.int .i64 i0,.string s1,.string s2,.bool b3,.slice a4 n4 c4,.int .i64 0,.int .i64 i6] 36
    have hzB:=(hbB.block w.heap.size (blk hz3).1).trans hz3
    have hRB:=hR3.keep hbB
    obtain ⟨g',c',p0,p1,p2,-,hrB,pf1,pf2,-⟩:=hRB.facts (Below.refl _ _)
    obtain ⟨y0,y1,y2,y3,y4,y5,y6⟩:=blk7 hzB
    obtain ⟨z0,z1,z2,z3,z4,z5,z6⟩:=frz7 hzB
    obtain ⟨q0,q1,q2,q3,q4,q5,q6⟩:=blk7 hhB
    have n1:r≠w.heap.size:=by omega
    have n2:r≠w3.heap.size:=by omega
    have n3:w.heap.size≠w3.heap.size:=by omega
    have HF:=gh (And.intro hb3 (And.intro hpq (And.intro hR3 (And.intro hv (And.intro hbB (And.intro hzB hYY))))))
    have HEB:=gh eB
    rw [←eB] at p0 p1 p2 pf1 pf2 hrB y0 y1 y2 y3 y4 y5 y6 z0 z1 z2 z3 z4 z5 z6 q0 q1 q2 q3 q4 q5 q6
    clear x0 x1 x2 f1 f2 hrl hb3 hpq hR3 hv hrw hsz hs3 hz3 eB hbB hsB hhB hzB hRB HC hEn
    go_wp2
    rw [gf HEB]
    obtain ⟨hb3,hpq,hR3,hv,hbB,hzB,hYY⟩:=gf HF
    refine bodyPost_ret (res_row (cs:=[.int .i64 i0,.string s1,.string s2,.bool b3,.slice a4 n4 c4,.int .i64 0,.int .i64 i6]) rfl rfl (range_block (fill7 ((heap_set _ _ (Ne.symm n1)).trans hzB))) rfl rfl rfl) rfl ?_
    have hbu:=but7 (((gf HW).1.trans (hb3.trans (But.of hbB))).set 2 (.int .i64 (d:Int))) (Nat.le_refl _) (.int .i64 i0) (.string s1) (.string s2) (.bool b3) (.slice a4 n4 c4) (.int .i64 0) (.int .i64 i6)
    have hrw:=(gf HW).2.2
    rw [hYY]
    refine ⟨hbu,hpq,?_,_,rfl,?_⟩
    ·obtain ⟨⟨g,c,h1,h2,h3,h4⟩,h5⟩:=hR3
     have hg:g<w3.heap.size:=Nat.lt_trans h2 (blk h1).1
     refine ⟨⟨g,c,?_,h2,h3,fun j x hx=>range_same (h4 j x hx) ?_⟩,h5⟩
     ·rw [same7 n1]
      exact set_block ((hbB.block r (blk h1).1).trans h1) _
     ·rw [same7 (by omega),heap_set _ _ (by omega)]
      exact hbB.block g hg
    ·have hlo:w.heap.size<W1.heap.size:=(blk (gf HW).2.1).1
     exact hv.keep (stays7 ((Stays.of hbB).set (by omega) _ _) hlo _ _ _ _ _ _ _) (by omega)
  |true =>
   have k1:¬ (d:Int)=200:=hcond rfl
   have k2:decide ((d:Int)=200)=false:=by simpa using k1
   have k3:((d:Int) == 200)=false:=by simpa using k1
   clear hcond
   go_enter Tryz.func73,Tryz.ntmps73
   go_wp2_with fail
   rw [(gf hEn).run,gf HW1]
   refine Calls.mono (gf HC) ?_
   rintro e w3 ⟨hb3,h3⟩
   cases hYY:Y with
   |error er =>
    obtain ⟨i,n⟩:=er
    rw [hYY] at h3
    obtain rfl:e=_:=h3
    go_wp2
    exact ⟨rfl,(gf HW).1.trans hb3,rfl⟩
   |ok tq =>
    obtain ⟨t,q⟩:=tq
    rw [hYY] at h3
    obtain ⟨hpq,hR3,v,rfl,hv⟩:=h3
    obtain ⟨i0,i6,s1,s2,b3,a4,n4,c4,rfl⟩:=hv.form
    have hrw:=(gf HW).2.2
    have hsz:w.heap.size<W1.heap.size:=(blk (gf HW).2.1).1
    have hs3:=hb3.size
    have hz3:=(hb3.block w.heap.size hsz (by omega)).trans (gf HW).2.1
    obtain ⟨B,eB,hbB,hsB,hhB⟩:=box_new w3 #[.int .i64 i0,.string s1,.string s2,.bool b3,.slice a4 n4 c4,.int .i64 0,.int .i64 i6] 36
    have hzB:=(hbB.block w.heap.size (blk hz3).1).trans hz3
    have hRB:=hR3.keep hbB
    obtain ⟨g',c',p0,p1,p2,-,hrB,pf1,pf2,-⟩:=hRB.facts (Below.refl _ _)
    obtain ⟨y0,y1,y2,y3,y4,y5,y6⟩:=blk7 hzB
    obtain ⟨z0,z1,z2,z3,z4,z5,z6⟩:=frz7 hzB
    obtain ⟨q0,q1,q2,q3,q4,q5,q6⟩:=blk7 hhB
    have n1:r≠w.heap.size:=by omega
    have n2:r≠w3.heap.size:=by omega
    have n3:w.heap.size≠w3.heap.size:=by omega
    have HF:=gh (And.intro hb3 (And.intro hpq (And.intro hR3 (And.intro hv (And.intro hbB (And.intro hzB hYY))))))
    have HEB:=gh eB
    rw [←eB] at p0 p1 p2 pf1 pf2 hrB y0 y1 y2 y3 y4 y5 y6 z0 z1 z2 z3 z4 z5 z6 q0 q1 q2 q3 q4 q5 q6
    clear x0 x1 x2 f1 f2 hrl hb3 hpq hR3 hv hrw hsz hs3 hz3 eB hbB hsB hhB hzB hRB HC hEn
    go_wp2
    rw [gf HEB]
    obtain ⟨hb3,hpq,hR3,hv,hbB,hzB,hYY⟩:=gf HF
    refine bodyPost_ret (res_row (cs:=[.int .i64 i0,.string s1,.string s2,.bool b3,.slice a4 n4 c4,.int .i64 0,.int .i64 i6]) rfl rfl (range_block (fill7 ((heap_set _ _ (Ne.symm n1)).trans hzB))) rfl rfl rfl) rfl ?_
    have hbu:=but7 (((gf HW).1.trans (hb3.trans (But.of hbB))).set 2 (.int .i64 (d:Int))) (Nat.le_refl _) (.int .i64 i0) (.string s1) (.string s2) (.bool b3) (.slice a4 n4 c4) (.int .i64 0) (.int .i64 i6)
    have hrw:=(gf HW).2.2
    rw [hYY]
    refine ⟨hbu,hpq,?_,_,rfl,?_⟩
    ·obtain ⟨⟨g,c,h1,h2,h3,h4⟩,h5⟩:=hR3
     have hg:g<w3.heap.size:=Nat.lt_trans h2 (blk h1).1
     refine ⟨⟨g,c,?_,h2,h3,fun j x hx=>range_same (h4 j x hx) ?_⟩,h5⟩
     ·rw [same7 n1]
      exact set_block ((hbB.block r (blk h1).1).trans h1) _
     ·rw [same7 (by omega),heap_set _ _ (by omega)]
      exact hbB.block g hg
    ·have hlo:w.heap.size<W1.heap.size:=(blk (gf HW).2.1).1
     exact hv.keep (stays7 ((Stays.of hbB).set (by omega) _ _) hlo _ _ _ _ _ _ _) (by omega)
end Go.Proofs.YtfkfnbehdcmgeaaGreatDoor
namespace Go.Proofs.YtfkfnbehdcmgeaaGreatDoor
open Go Go.RowKit
def set7 (W:World) (q:Nat) (x0 x1 x2 x3 x4 x5 x6:Value):World:=(((((((W.setCell ⟨q,0,none⟩ x0).setCell ⟨q,1,none⟩ x1).setCell ⟨q,2,none⟩ x2).setCell ⟨q,3,none⟩ x3).setCell ⟨q,4,none⟩ x4).setCell ⟨q,5,none⟩ x5).setCell ⟨q,6,none⟩ x6)
def ZB (w:World) (q:Nat):Prop:=w.heap[q]?=some (.cells #[.int .i64 0,.string ⟨#[]⟩,.string ⟨#[]⟩,.bool false,.slice none 0 0,.int .i64 0,.int .i64 0] 36)
theorem ZB.but {w w':World} {q r:Nat} (h:ZB w q) (hb:But r w w') (hr:r≠q):ZB w' q:=(hb.block q (blk h).1 (Ne.symm hr)).trans h
theorem RD.put {w:World} {r p d q:Nat} {ts:List (Int×ByteArray×Int)} (h:RD w r ts p d) (hq:r<q) (x0 x1 x2 x3 x4 x5 x6:Value):RD (set7 w q x0 x1 x2 x3 x4 x5 x6) r ts p d:=by
 obtain ⟨⟨g,c,h1,h2,h3,h4⟩,h5⟩:=h
 refine ⟨⟨g,c,?_,h2,h3,fun j x hx=>range_same (h4 j x hx) ?_⟩,h5⟩
 ·unfold set7
  rw [same7 (by omega)]
  exact h1
 ·unfold set7
  rw [same7 (by omega)]
theorem ret_put {fn:Func} {a:Act} {tt:Nat} {w w3:World} {r p q d lo:Nat} {ts:List (Int×ByteArray×Int)} {t:Ex} {Y:(Except (Int×Int) (Ex×Nat))} {x0 x1 x2 x3 x4 x5 x6:Value} (hf:fn.results = #[.cell tt 36]) (ht:a.tmps[tt]?=some (.pointer (some ⟨w.heap.size,0,none⟩))) (hdf:a.defers=[]) (hbu:But r w w3) (hr:r<w.heap.size) (hz:ZB w3 w.heap.size) (hY:Y = .ok (t,q)) (hpq:p≤q) (hR:RD w3 r ts q d) (hlo:w.heap.size<lo) (hv:IsE w3 lo (.agg #[x0,x1,x2,x3,x4,x5,x6]) t) :
  bodyPost Tryz.prog fn (PE Y r ts p d w) .ret a (set7 w3 w.heap.size x0 x1 x2 x3 x4 x5 x6):=by
 subst hY
 refine bodyPost_ret (res_row (cs:=[x0,x1,x2,x3,x4,x5,x6]) hf ht (range_block (fill7 hz)) Tryz.underlying36 rfl (by kernel_rfl)) hdf ?_
 exact ⟨but7 hbu (Nat.le_refl _) _ _ _ _ _ _ _,hpq,hR.put hr _ _ _ _ _ _ _,_,rfl,hv.keep (stays7 (Stays.of (Below.refl _ _)) hlo _ _ _ _ _ _ _) (by omega)⟩
theorem pe_err {r p d p2 d2:Nat} {ts:List (Int×ByteArray×Int)} {Y Z:(Except (Int×Int) (Ex×Nat))} {er:Int×Int} {w w1 w3:World} {e:Ending} (hY:Y = .error er) (hZ:Z = .error er) (hb:But r w w1) (h:PE Y r ts p2 d2 w1 e w3):PE Z r ts p d w e w3:=by
 subst hY hZ
 obtain ⟨i,n⟩:=er
 exact ⟨hb.trans h.1,h.2⟩
theorem pe_ref {r p2 d2:Nat} {ts:List (Int×ByteArray×Int)} {Y:(Except (Int×Int) (Ex×Nat))} {er:Int×Int} {w1 w3:World} {e:Ending} (hY:Y = .error er) (h:PE Y r ts p2 d2 w1 e w3):e = .panicked [{ v:=.iface 89 (.agg #[.int .i64 er.1,.int .i64 er.2]),recovered:=false }]:=by
 subst hY
 obtain ⟨i,n⟩:=er
 exact h.2
theorem zb_new (w:World):∃ A,w.alloc (.cells #[.int .i64 0,.string ⟨#[]⟩,.string ⟨#[]⟩,.bool false,.slice none 0 0,.int .i64 0,.int .i64 0] 36)=A∧Below w.heap.size w A∧ZB A w.heap.size∧A.heap.size=w.heap.size+1:=by
 obtain ⟨A,eA,hbA,hsA,hhA⟩:=box_new w #[.int .i64 0,.string ⟨#[]⟩,.string ⟨#[]⟩,.bool false,.slice none 0 0,.int .i64 0,.int .i64 0] 36
 exact ⟨A,eA,hbA,hhA,hsA⟩
theorem RD.rlt {w:World} {r p d:Nat} {ts:List (Int×ByteArray×Int)} (h:RD w r ts p d):r<w.heap.size:=by
 obtain ⟨⟨g,c,h1,-⟩,-⟩:=h
 exact (blk h1).1
set_option maxRecDepth 100000 in
set_option maxHeartbeats 4000000 in
theorem expr_of {r d lo:Nat} {ts:List (Int×ByteArray×Int)} {X:Nat→(Except (Int×Int) (Ex×Nat))} (hT:TsOk ts) (hd:d≤1000000) (hE:Enters Tryz.prog 75) (hX:RuC 75 r ts (d+1) lo X):RuC 59 r ts d lo fun p=>if begE ts p∧d=200 then bad ts p 151 else X p:=by
 intro w p hlo hR
 obtain ⟨Y,hY⟩:∃ Y,(if begE ts p∧d=200 then bad ts p 151 else X p)=Y:=⟨_,rfl⟩
 show Calls _ _ _ _ (PE (if begE ts p∧d=200 then bad ts p 151 else X p) r ts p d w)
 rw [hY]
 obtain ⟨A,eA,hbA,hzA,hsA⟩:=zb_new w
 have hRA:=hR.keep hbA
 have HB:=gh (begE_any hRA hT)
 obtain ⟨b,hb⟩:∃ b,begE ts p=b:=⟨_,rfl⟩
 rw [hb] at HB hY
 have HA:=gh (And.intro hR (And.intro hRA (And.intro hbA (And.intro hzA (And.intro hT (And.intro hd (And.intro hE (And.intro hX (And.intro hlo (And.intro hY hsA))))))))))
 have HE:=gh eA
 clear hT hd hE hX hlo hR hY eA hbA hzA hRA hb hsA
 go_enter Tryz.func59,Tryz.ntmps59
 go_wp2_with fail
 rw [gf HE]
 refine (gf HB).mono ?_
 rintro e w2 ⟨rfl,hb2⟩
 obtain ⟨hR,hRA,hbA,hzA,hT,hd,hE,hX,hlo,hY,hsA⟩:=gf HA
 have HN:=gh (nested_any (hRA.keep hb2) hT b hd hE hX hlo)
 rw [hY] at HN
 have H2:=gh hb2
 have hmf:∀ (fn:Fn) (first cap:Array Value) (w:World),(Instr.makeFunc fn first cap).run Tryz.prog w = .ok (.func fn first cap) w:=fun _ _ _ _=>rfl
 clear hR hRA hbA hzA hT hd hE hX hlo hY hsA hb2 HB
 go_wp2_with fail
 refine (gf HN).mono ?_
 intro e w3 h3
 obtain ⟨hR,hRA,hbA,hzA,hT,hd,hE,hX,hlo,hY,hsA⟩:=gf HA
 have hb02:But r w w2:=(But.of hbA).trans (But.of (gf H2))
 cases hYY:Y with
 |error er =>
  obtain rfl:=pe_ref hYY h3
  have HP:=gh (pe_err (p:=p) (d:=d) hYY rfl hb02 h3)
  clear hR hRA hbA hzA hT hd hE hX hlo hY hsA hb02 h3 HN
  go_wp2
  exact ⟨rfl,gf HP⟩
 |ok tq =>
  obtain ⟨t,q⟩:=tq
  rw [hYY] at h3
  obtain ⟨hb3,hpq,hR3,v,rfl,hv⟩:=h3
  obtain ⟨i0,i6,s1,s2,b3,a4,n4,c4,rfl⟩:=hv.form
  have hr:=hR.rlt
  have hs2:=(gf H2).size
  have hz3:ZB w3 w.heap.size:=(ZB.but (r:=r) hzA (But.of (gf H2)) (by omega)).but hb3 (by omega)
  obtain ⟨y0,y1,y2,y3,y4,y5,y6⟩:=blk7 hz3
  obtain ⟨z0,z1,z2,z3,z4,z5,z6⟩:=frz7 hz3
  have HF:=gh (And.intro hYY (And.intro (hb02.trans hb3) (And.intro hr (And.intro hz3 (And.intro hpq (And.intro hR3 (And.intro (show w.heap.size<w2.heap.size by omega) hv)))))))
  clear hR hRA hbA hzA hT hd hE hX hlo hY hsA hb02 hb3 hpq hR3 hv hr hs2 hz3 HN
  go_wp2
  obtain ⟨h0,h1,h2,h3,h4,h5,h6,h7⟩:=gf HF
  exact ret_put rfl rfl rfl h1 h2 h3 h0 h4 h5 h6 h7
set_option maxRecDepth 100000 in
set_option maxHeartbeats 4000000 in
theorem unb_of {r d lo:Nat} {ts:List (Int×ByteArray×Int)} {X:Nat→(Except (Int×Int) (Ex×Nat))} (hT:TsOk ts) (hd:d≤1000000) (hE:Enters Tryz.prog 126) (hX:RuC 126 r ts (d+1) lo X):RuC 127 r ts d lo fun p=>if begU ts p∧d=200 then bad ts p 151 else X p:=by
 intro w p hlo hR
 obtain ⟨Y,hY⟩:∃ Y,(if begU ts p∧d=200 then bad ts p 151 else X p)=Y:=⟨_,rfl⟩
 show Calls _ _ _ _ (PE (if begU ts p∧d=200 then bad ts p 151 else X p) r ts p d w)
 rw [hY]
 obtain ⟨A,eA,hbA,hzA,hsA⟩:=zb_new w
 have hRA:=hR.keep hbA
 have HB:=gh (begU_any hRA hT)
 obtain ⟨b,hb⟩:∃ b,begU ts p=b:=⟨_,rfl⟩
 rw [hb] at HB hY
 have HA:=gh (And.intro hR (And.intro hRA (And.intro hbA (And.intro hzA (And.intro hT (And.intro hd (And.intro hE (And.intro hX (And.intro hlo (And.intro hY hsA))))))))))
 have HE:=gh eA
 clear hT hd hE hX hlo hR hY eA hbA hzA hRA hb hsA
 go_enter Tryz.func127,Tryz.ntmps127
 go_wp2_with fail
 rw [gf HE]
 refine (gf HB).mono ?_
 rintro e w2 ⟨rfl,hb2⟩
 obtain ⟨hR,hRA,hbA,hzA,hT,hd,hE,hX,hlo,hY,hsA⟩:=gf HA
 have HN:=gh (nested_any (hRA.keep hb2) hT b hd hE hX hlo)
 rw [hY] at HN
 have H2:=gh hb2
 have hmf:∀ (fn:Fn) (first cap:Array Value) (w:World),(Instr.makeFunc fn first cap).run Tryz.prog w = .ok (.func fn first cap) w:=fun _ _ _ _=>rfl
 clear hR hRA hbA hzA hT hd hE hX hlo hY hsA hb2 HB
 go_wp2_with fail
 refine (gf HN).mono ?_
 intro e w3 h3
 obtain ⟨hR,hRA,hbA,hzA,hT,hd,hE,hX,hlo,hY,hsA⟩:=gf HA
 have hb02:But r w w2:=(But.of hbA).trans (But.of (gf H2))
 cases hYY:Y with
 |error er =>
  obtain rfl:=pe_ref hYY h3
  have HP:=gh (pe_err (p:=p) (d:=d) hYY rfl hb02 h3)
  clear hR hRA hbA hzA hT hd hE hX hlo hY hsA hb02 h3 HN
  go_wp2
  exact ⟨rfl,gf HP⟩
 |ok tq =>
  obtain ⟨t,q⟩:=tq
  rw [hYY] at h3
  obtain ⟨hb3,hpq,hR3,v,rfl,hv⟩:=h3
  obtain ⟨i0,i6,s1,s2,b3,a4,n4,c4,rfl⟩:=hv.form
  have hr:=hR.rlt
  have hs2:=(gf H2).size
  have hz3:ZB w3 w.heap.size:=(ZB.but (r:=r) hzA (But.of (gf H2)) (by omega)).but hb3 (by omega)
  obtain ⟨y0,y1,y2,y3,y4,y5,y6⟩:=blk7 hz3
  obtain ⟨z0,z1,z2,z3,z4,z5,z6⟩:=frz7 hz3
  have HF:=gh (And.intro hYY (And.intro (hb02.trans hb3) (And.intro hr (And.intro hz3 (And.intro hpq (And.intro hR3 (And.intro (show w.heap.size<w2.heap.size by omega) hv)))))))
  clear hR hRA hbA hzA hT hd hE hX hlo hY hsA hb02 hb3 hpq hR3 hv hr hs2 hz3 HN
  go_wp2
  obtain ⟨h0,h1,h2,h3,h4,h5,h6,h7⟩:=gf HF
  exact ret_put rfl rfl rfl h1 h2 h3 h0 h4 h5 h6 h7
end Go.Proofs.YtfkfnbehdcmgeaaGreatDoor
namespace Go.Proofs.YtfkfnbehdcmgeaaGreatDoor
open Go Go.RowKit
theorem IsEP.at {w W':World} {P:Nat→Prop} {b o:Nat} {cs:List Value} {t:Ex} (h:IsEP w P (.agg cs.toArray) t) (hs:StaysP P w W') (hr:W'.rangeAt b o cs):∃ k,ExAt W' P k b o t:=by
 obtain ⟨op,nm,nu,bl,l,i⟩:=t
 obtain ⟨k,a,c,e,h2⟩:=h
 have e2:cs=[.int .i64 op,.string nm,.string nu,.bool bl,.slice a l.length c,.int .i64 0,.int .i64 i]:=by simpa using e
 subst e2
 exact ⟨k+1,a,c,hr,h2.mono hs.1 (fun _ h=>h) fun b o j hr hbl hj t ht=>ExAt.keep hs (fun _ h=>h) k b o t hr hbl (hj t ht)⟩
theorem all_high {W:World} {P:Nat→Prop} {b:Nat}:∀ (l:List Ex) (o:Nat),(∀ (j:Nat) t,l[j]?=some t→∃ k,ExAt W P k b (o+j * 7) t)→∃ k,∀ (j:Nat) t,l[j]?=some t→ExAt W P k b (o+j * 7) t
 |[],_,_=>⟨0,fun j t h=>by simp at h⟩
 |x::l,o,h=>by
  obtain ⟨k1,h1⟩:=h 0 x rfl
  obtain ⟨k2,h2⟩:=all_high l (o+7) fun j t ht=>by
   obtain ⟨k,hk⟩:=h (j+1) t (by simpa using ht)
   exact ⟨k,by rw [show o+7+j * 7=o+(j+1) * 7 by omega];exact hk⟩
  refine ⟨max k1 k2,fun j t ht => ?_⟩
  cases j with
  |zero =>
   obtain rfl:x=t:=by simpa using ht
   exact ExAt.up _ _ _ _ _ h1 (Nat.le_max_left _ _)
  |succ j =>
   have:=h2 j t (by simpa using ht)
   rw [show o+7+j * 7=o+(j+1) * 7 by omega] at this
   exact ExAt.up _ _ _ _ _ this (Nat.le_max_right _ _)
theorem flat_at:∀ (vs:List (List Value)) (j:Nat) (v:List Value),(∀ v∈vs,v.length=7)→vs[j]?=some v→∀ (k:Nat) u,v[k]?=some u→vs.flatten[j * 7+k]?=some u
 |[],j,v,_,h=>by simp at h
 |x::vs,0,v,hl,h=>fun k u hu=>by
  obtain rfl:x=v:=by simpa using h
  rw [List.flatten_cons,Nat.zero_mul,Nat.zero_add,List.getElem?_append_left (List.getElem?_eq_some_iff.1 hu).1]
  exact hu
 |x::vs,j+1,v,hl,h=>fun k u hu=>by
  have h7:x.length=7:=hl x (by simp)
  have:=flat_at vs j v (fun v hv=>hl v (by simp [hv])) (by simpa using h) k u hu
  rw [List.flatten_cons,List.getElem?_append_right (by omega),h7,show (j+1) * 7+k - 7=j * 7+k by omega]
  exact this
theorem nodeP {w W:World} {P:Nat→Prop} {vs:List (List Value)} {l:List Ex} {cs:Array Value} {ty:TypeId} (op i:Int) (nm nu:ByteArray) (bl:Bool) (hW:w.alloc (.cells cs ty)=W) (hcs:cs=vs.flatten.toArray) (h7:∀ v∈vs,v.length=7) (hlen:vs.length=l.length) (hn:l.length≤1000000) (hlo:P w.heap.size) (h:∀ (j:Nat) v t,vs[j]?=some v→l[j]?=some t→IsEP w P (.agg v.toArray) t):IsEP W P (.agg #[.int .i64 op,.string nm,.string nu,.bool bl,.slice (some ⟨w.heap.size,0,none⟩) l.length l.length,.int .i64 0,.int .i64 i]) (.mk op nm nu bl l i):=by
 have hh:W.heap[w.heap.size]?=some (.cells cs ty):=by rw [←hW];exact (MapKept.heap_alloc w (.cells cs ty)).1
 have hB:Below w.heap.size w W:=by rw [←hW];exact (Below.refl _ w).alloc (Nat.le_refl _) _
 obtain ⟨k,hk⟩:=all_high (W:=W) (P:=P) (b:=w.heap.size) l 0 fun j t ht=>by
  obtain ⟨v,hv⟩:∃ v,vs[j]?=some v:=⟨_,List.getElem?_eq_getElem (by rw [hlen];exact (List.getElem?_eq_some_iff.1 ht).1)⟩
  refine (h j v t hv ht).at (⟨hB.size,fun k _ hk=>hB.block k hk⟩:StaysP P w W) fun m u hu => ?_
  rw [Nat.zero_add]
  exact (blk hh).2.1 _ _ (by rw [hcs];simpa using flat_at vs j v h7 hv m u hu)
 exact ⟨k,_,_,rfl,Nat.le_refl _,by omega,fun _=>⟨w.heap.size,0,rfl,hlo,(blk hh).1,fun j _ t ht=>hk j t ht⟩⟩
theorem node {w W:World} {lo:Nat} {vs:List (List Value)} {l:List Ex} {cs:Array Value} {ty:TypeId} (op i:Int) (nm nu:ByteArray) (bl:Bool) (hW:w.alloc (.cells cs ty)=W) (hcs:cs=vs.flatten.toArray) (h7:∀ v∈vs,v.length=7) (hlen:vs.length=l.length) (hn:l.length≤1000000) (hlo:lo≤w.heap.size) (h:∀ (j:Nat) v t,vs[j]?=some v→l[j]?=some t→IsE w lo (.agg v.toArray) t):IsE W lo (.agg #[.int .i64 op,.string nm,.string nu,.bool bl,.slice (some ⟨w.heap.size,0,none⟩) l.length l.length,.int .i64 0,.int .i64 i]) (.mk op nm nu bl l i):=nodeP op i nm nu bl hW hcs h7 hlen hn hlo h
theorem leaf {W:World} {lo:Nat} (op i:Int) (nm nu:ByteArray) (bl:Bool):IsE W lo (.agg #[.int .i64 op,.string nm,.string nu,.bool bl,.slice none 0 0,.int .i64 0,.int .i64 i]) (.mk op nm nu bl [] i):=⟨0,none,0,rfl,Nat.le_refl _,by simp,fun h=>absurd rfl h⟩
end Go.Proofs.YtfkfnbehdcmgeaaGreatDoor
