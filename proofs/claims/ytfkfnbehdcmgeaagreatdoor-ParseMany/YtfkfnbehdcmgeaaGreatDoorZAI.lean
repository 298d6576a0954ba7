/- Package parse: signs. -/
import Derived.Test.YtfkfnbehdcmgeaaGreatDoorZAE
import Derived.Test.YtfkfnbehdcmgeaaGreatDoorZAH
set_option linter.unusedVariables false
set_option linter.unusedSimpArgs false
namespace Go.Proofs.YtfkfnbehdcmgeaaGreatDoor
open Go Go.RowKit
theorem op_fieldV {P:Program} {X:Exit→Act→World→Prop} {K:Act→World→Prop} {a:Act} {w:World} {dst:Option Tmp} {ty:TypeId} {pos:String} {af:Array Edge} {gd:Option (Nat×Bool)} {x:Operand} {vx v:Value} {t:TypeId} {f:Nat} (hx:a.eval x=vx) (hr:(Instr.field t vx f).run P w = .ok v w) (h:K (a.put dst v) w):Oper.wp P ⟨dst,.field t x f,ty,pos,af,gd⟩ a w K X:=by
 unfold Oper.wp
 simp [execOp,hx,hr,Oper.upon,h]
def stunary_r7 (W:World) (r:Nat) (ts:List (Int×ByteArray×Int)) (p d q6:Nat) (X:(Except (Int×Int) ((Int×ByteArray×Int)×Nat))) (ai:Int) (n:Nat) (s:Nat→Value) (w:World):Prop:=match n with
 |0=>w=W.drew
 |1=>∃ t q,X = .ok (t,q)∧s 2=tkV t∧But r W w∧RD w r ts q d∧p≤q
 |2=>∃ t q,X = .ok (t,q)∧s 4 = .agg #[.int .i64 5,.string t.2.1,.string ⟨#[]⟩,.bool false,.slice none 0 0,.int .i64 0,.int .i64 ai]∧But r W w∧RD w r ts q d∧p≤q
 |_=>∃ t q W2,X = .ok (t,q)∧But r W W2∧RD W2 r ts q d∧p≤q∧w=set7 W2 q6 (.int .i64 5) (.string t.2.1) (.string ⟨#[]⟩) (.bool false) (.slice none 0 0) (.int .i64 0) (.int .i64 ai)
theorem stunary_r7_at {W:World} {r p d q6:Nat} {ts:List (Int×ByteArray×Int)} {X:(Except (Int×Int) ((Int×ByteArray×Int)×Nat))} {ai:Int} {n:Nat} {s:Nat→Value} {w:World} (h:stunary_r7 W r ts p d q6 X ai n s w):∀ q,q<W.heap.size→q≠q6→r≠q→w.heap[q]?=W.heap[q]?:=by
 intro q3 hq hne hr
 rcases n with _ | _ | _ | n
 ·obtain rfl:w=W.drew:=h
  rfl
 ·obtain ⟨t,q,-,-,hb,-⟩:=h
  exact hb.block q3 hq (Ne.symm hr)
 ·obtain ⟨t,q,-,-,hb,-⟩:=h
  exact hb.block q3 hq (Ne.symm hr)
 ·obtain ⟨t,q,W2,-,hb,-,-,rfl⟩:=h
  unfold set7
  rw [same7 hne]
  exact hb.block q3 hq (Ne.symm hr)
set_option maxRecDepth 100000 in
set_option maxHeartbeats 4000000 in
theorem unary_r7 {Q:Exit→Act→World→Prop} {a0:Act} {W:World} {r p d q3 q6:Nat} {ts:List (Int×ByteArray×Int)} {X:(Except (Int×Int) ((Int×ByteArray×Int)×Nat))} {kk ai:Int} {T:ByteArray} (hN:a0.tmps.size=40) (h0:a0.tmps[0]?=some (.pointer (some ⟨r,0,none⟩))) (h2:a0.tmps[2]?=some (.pointer (some ⟨q6,0,none⟩))) (h3:a0.tmps[3]?=some (.pointer (some ⟨q3,0,none⟩)))
  (b3:W.heap[q3]?=some (.cells #[.int .i64 kk,.string T,.int .i64 ai] 74)) (z6:ZB W q6) (n1:r≠q3) (n2:r≠q6) (n3:q3≠q6) (hC:Calls Tryz.prog 88 #[.pointer (some ⟨r,0,none⟩),.int .i64 1] W.drew (RP TkOk X r ts p d W.drew))
  (herr:∀ (a:Act) (w:World) (ei en:Int),X = .error (ei,en)→a.defers=a0.defers→But r W w→Q (.panic [{ v:=.iface 89 (.agg #[.int .i64 ei,.int .i64 en]),recovered:=false }]) a w)
  (hend:∀ (a:Act) (W2:World) (t:(Int×ByteArray×Int)) (q:Nat),X = .ok (t,q)→a.defers=a0.defers→(∀ k,k∈((List.range 40).filter fun i => !([25,26,27,28,29].contains i))→a.tmps[k]?=a0.tmps[k]?)→But r W W2→RD W2 r ts q d→p≤q→Q .normal a (set7 W2 q6 (.int .i64 5) (.string t.2.1) (.string ⟨#[]⟩) (.bool false) (.slice none 0 0) (.int .i64 0) (.int .i64 ai))) :
  (Code.region 7 (regionOf Tryz.f126 7).toArray true).wp Tryz.prog Q a0 W:=by
 have hl:(regionOf Tryz.f126 7).length=6:=by kernel_rfl
 have hds:((List.range 5).all fun i=>((regionOf Tryz.f126 7).getD i default).dst.isSome)=true:=by kernel_rfl
 have bx:∀ {n:Nat} {s:Nat→Value} {w:World},stunary_r7 W r ts p d q6 X ai n s w→w.heap[q3]?=some (.cells #[.int .i64 kk,.string T,.int .i64 ai] 74):=fun h=>(stunary_r7_at h q3 (blk b3).1 n3 n1).trans b3
 have hk3:3∈((List.range 40).filter fun i => !([25,26,27,28,29].contains i)):=by decide
 have hk2:2∈((List.range 40).filter fun i => !([25,26,27,28,29].contains i)):=by decide
 have hk0:0∈((List.range 40).filter fun i => !([25,26,27,28,29].contains i)):=by decide
 refine wp_region_any (by kernel_rfl) ?_
 refine seqN (l:=(regionOf Tryz.f126 7)) 40 ((List.range 40).filter fun i => !([25,26,27,28,29].contains i)) [2,4,5] (fun j v=>(j=0→v = .agg #[.int .i64 kk,.string T,.int .i64 ai])∧(j=1→v = .pointer (some ⟨r,0,none⟩))∧(j=2→∃ t q,X = .ok (t,q)∧v=tkV t)∧(j=3→∃ t q,X = .ok (t,q)∧v = .string t.2.1)) (stunary_r7 W r ts p d q6 X ai) (by kernel_rfl) hN (by decide) (by rw [hl];decide) ?_ ?_ ?_ rfl ?_ ?_ ?_
 ·intro k hk
  have hk3:k=0∨k=1:=by simp at hk;omega
  rcases hk3 with rfl | rfl
  ·show (preds ((regionOf Tryz.f126 7).getD 4 default)).contains 2=true
   kernel_rfl
  ·show (preds ((regionOf Tryz.f126 7).getD 5 default)).contains 4=true
   kernel_rfl
 ·intro i o ho hd
  have hi:i<6:=by rw [←hl];exact (List.getElem?_eq_some_iff.1 ho).1
  have he:(regionOf Tryz.f126 7).getD i default=o:=by simp [List.getD,ho]
  rcases Nat.lt_or_ge i 5 with h | h
  ·have:=List.all_eq_true.1 hds i (List.mem_range.2 h)
   rw [he,hd] at this
   cases this
  ·obtain rfl:i=5:=by omega
   exact ⟨by decide,fun v=>⟨(fun h=>absurd h (by decide)),(fun h=>absurd h (by decide)),(fun h=>absurd h (by decide)),(fun h=>absurd h (by decide))⟩⟩
 ·intro n s s' w h hs
  have e1:s 2=s' 2:=h 0 (by decide) (by kernel_rfl)
  have e2:s 4=s' 4:=h 1 (by decide) (by kernel_rfl)
  rcases n with _ | _ | _ | n
  ·exact hs
  ·obtain ⟨t,q,g1,g2,g3⟩:=hs
   exact ⟨t,q,g1,e1▸g2,g3⟩
  ·obtain ⟨t,q,g1,g2,g3⟩:=hs
   exact ⟨t,q,g1,e2▸g2,g3⟩
  ·exact hs
 ·intro i hi hni a w n s hd hsz hk hp hn hs
  rw [hl] at hi
  have hii:i=0∨i=1∨i=3:=by simp at hni;omega
  have ke3:a.eval (.tmp 3) = .pointer (some ⟨q3,0,none⟩):=getD_of ((hk 3 hk3).trans h3)
  have ke0:a.eval (.tmp 0) = .pointer (some ⟨r,0,none⟩):=getD_of ((hk 0 hk0).trans h0)
  have cc:=bx hs
  rcases hii with rfl | rfl | rfl
  ·exact st_want (wnone rfl) (op_load ke3 (ld_Tok cc) ⟨_,rfl,rfl,⟨fun _=>rfl,(fun h=>absurd h (by decide)),(fun h=>absurd h (by decide)),(fun h=>absurd h (by decide))⟩⟩)
  ·exact st_want (wnone rfl) (op_move ⟨_,rfl,rfl,⟨(fun h=>absurd h (by decide)),fun _=>ke0,(fun h=>absurd h (by decide)),(fun h=>absurd h (by decide))⟩⟩)
  ·obtain ⟨t,q,hX,e1⟩:=(hp 2 (by kernel_rfl)).2.2.1 rfl
   have e2:a.eval (.tmp 27)=tkV t:=e1
   unfold tkV at e2
   exact st_want (wnone rfl) (op_fieldV e2 (fld1 _ _ _ w) ⟨_,rfl,rfl,⟨(fun h=>absurd h (by decide)),(fun h=>absurd h (by decide)),(fun h=>absurd h (by decide)),fun _=>⟨t,q,hX,rfl⟩⟩⟩)
 ·intro k hk a w hd hsz hkp hp hs
  have hk4:k=0∨k=1∨k=2:=by simp at hk;omega
  have ke2:a.tmps.getD 2 undef = .pointer (some ⟨q6,0,none⟩):=getD_of ((hkp 2 hk2).trans h2)
  rcases hk4 with rfl | rfl | rfl
  ·obtain rfl:w=W.drew:=hs
   have e1:a.tmps.getD 26 undef = .pointer (some ⟨r,0,none⟩):=(hp 1 (by kernel_rfl)).2.1 rfl
   refine st_want (wnone rfl) (op_callP enter_mustBe ?_)
   have hargs:(#[Operand.tmp 26,.const (.int .i64 1)]).map a.eval = #[.pointer (some ⟨r,0,none⟩),.int .i64 1]:=by
    simp only [List.map_toArray,List.map_cons,List.map_nil,Act.eval]
    rw [e1]
   rw [hargs]
   refine hC.mono ?_
   intro e w' h'
   rcases hX:X with er | ⟨t,q⟩
   ·rw [hX] at h'
    obtain ⟨ei,en⟩:=er
    obtain ⟨hb,h'⟩:=h'
    obtain rfl:e=_:=h'
    exact .inr ⟨_,rfl,herr a w' ei en hX hd ((But.of ((Below.refl _ W).drew)).trans hb)⟩
   ·rw [hX] at h'
    obtain ⟨hb,hle,hR,v,rfl,hv⟩:=h'
    obtain rfl:v=_:=hv
    exact .inl ⟨_,rfl,_,rfl,(fun _=>⟨(fun h=>absurd h (by decide)),(fun h=>absurd h (by decide)),(fun _=>⟨t,q,(by first | rfl | exact hX),rfl⟩),(fun h=>absurd h (by decide))⟩),t,q,(by first | rfl | exact hX),rfl,((But.of ((Below.refl _ W).drew)).trans hb),hR,hle⟩
  ·obtain ⟨t,q,hX,hsl,hb,hR,hle⟩:=hs
   have e1:a.tmps.getD 25 undef = .agg #[.int .i64 kk,.string T,.int .i64 ai]:=(hp 0 (by kernel_rfl)).1 rfl
   obtain ⟨t',q',hX',e2'⟩:=(hp 3 (by kernel_rfl)).2.2.2 rfl
   rw [hX] at hX'
   obtain ⟨rfl,rfl⟩:t=t'∧q=q':=by simpa using hX'
   have e2:a.tmps.getD 28 undef = .string t.2.1:=e2'
   refine st_want (wnone rfl) (op_call enter_named ?_)
   have hargs:(#[Operand.const (.int .i64 5),.tmp 25,.tmp 28,.const (.slice none 0 0)]).map a.eval = #[.int .i64 5,.agg #[.int .i64 kk,.string T,.int .i64 ai],.string t.2.1,.slice none 0 0]:=by
    simp only [List.map_toArray,List.map_cons,List.map_nil,Act.eval]
    rw [e1,e2]
   rw [hargs]
   refine (named_any _ _ _ _ _ _ _ _ _).mono ?_
   rintro ex w' ⟨rfl,hbw⟩
   exact ⟨_,rfl,_,rfl,(fun _=>⟨(fun h=>absurd h (by decide)),(fun h=>absurd h (by decide)),(fun h=>absurd h (by decide)),(fun h=>absurd h (by decide))⟩),t,q,hX,rfl,hb.trans (But.of hbw),hR.keep hbw,hle⟩
  ·obtain ⟨t,q,hX,hnd,hb,hR,hle⟩:=hs
   have e2:a.tmps.getD 29 undef = .agg #[.int .i64 5,.string t.2.1,.string ⟨#[]⟩,.bool false,.slice none 0 0,.int .i64 0,.int .i64 ai]:=hnd
   have hz:ZB w q6:=(hb.block q6 (blk z6).1 (Ne.symm n2)).trans z6
   exact st_want (wnone rfl) (op_stE ke2 e2 hz ⟨undef,rfl,(fun h=>absurd (show false=true from h) (by decide)),t,q,w,hX,hb,hR,hle,rfl⟩)
 ·intro a w hd hsz hk hp hs
  obtain ⟨t,q,W2,hX,hb,hR,hle,rfl⟩:=hs
  exact hend a W2 t q hX hd hk hb hR hle
def stunary_r9 (W:World) (r:Nat) (ts:List (Int×ByteArray×Int)) (p d q6:Nat) (X:(Except (Int×Int) ((Int×ByteArray×Int)×Nat))) (ai:Int) (n:Nat) (s:Nat→Value) (w:World):Prop:=match n with
 |0=>w=W.drew
 |1=>∃ t q,X = .ok (t,q)∧s 2=tkV t∧But r W w∧RD w r ts q d∧p≤q
 |2=>∃ t q,X = .ok (t,q)∧s 4 = .agg #[.int .i64 6,.string t.2.1,.string ⟨#[]⟩,.bool false,.slice none 0 0,.int .i64 0,.int .i64 ai]∧But r W w∧RD w r ts q d∧p≤q
 |_=>∃ t q W2,X = .ok (t,q)∧But r W W2∧RD W2 r ts q d∧p≤q∧w=set7 W2 q6 (.int .i64 6) (.string t.2.1) (.string ⟨#[]⟩) (.bool false) (.slice none 0 0) (.int .i64 0) (.int .i64 ai)
theorem stunary_r9_at {W:World} {r p d q6:Nat} {ts:List (Int×ByteArray×Int)} {X:(Except (Int×Int) ((Int×ByteArray×Int)×Nat))} {ai:Int} {n:Nat} {s:Nat→Value} {w:World} (h:stunary_r9 W r ts p d q6 X ai n s w):∀ q,q<W.heap.size→q≠q6→r≠q→w.heap[q]?=W.heap[q]?:=by
 intro q3 hq hne hr
 rcases n with _ | _ | _ | n
 ·obtain rfl:w=W.drew:=h
  rfl
 ·obtain ⟨t,q,-,-,hb,-⟩:=h
  exact hb.block q3 hq (Ne.symm hr)
 ·obtain ⟨t,q,-,-,hb,-⟩:=h
  exact hb.block q3 hq (Ne.symm hr)
 ·obtain ⟨t,q,W2,-,hb,-,-,rfl⟩:=h
  unfold set7
  rw [same7 hne]
  exact hb.block q3 hq (Ne.symm hr)
set_option maxRecDepth 100000 in
set_option maxHeartbeats 4000000 in
theorem unary_r9 {Q:Exit→Act→World→Prop} {a0:Act} {W:World} {r p d q3 q6:Nat} {ts:List (Int×ByteArray×Int)} {X:(Except (Int×Int) ((Int×ByteArray×Int)×Nat))} {kk ai:Int} {T:ByteArray} (hN:a0.tmps.size=40) (h0:a0.tmps[0]?=some (.pointer (some ⟨r,0,none⟩))) (h2:a0.tmps[2]?=some (.pointer (some ⟨q6,0,none⟩))) (h3:a0.tmps[3]?=some (.pointer (some ⟨q3,0,none⟩)))
  (b3:W.heap[q3]?=some (.cells #[.int .i64 kk,.string T,.int .i64 ai] 74)) (z6:ZB W q6) (n1:r≠q3) (n2:r≠q6) (n3:q3≠q6) (hC:Calls Tryz.prog 88 #[.pointer (some ⟨r,0,none⟩),.int .i64 1] W.drew (RP TkOk X r ts p d W.drew))
  (herr:∀ (a:Act) (w:World) (ei en:Int),X = .error (ei,en)→a.defers=a0.defers→But r W w→Q (.panic [{ v:=.iface 89 (.agg #[.int .i64 ei,.int .i64 en]),recovered:=false }]) a w)
  (hend:∀ (a:Act) (W2:World) (t:(Int×ByteArray×Int)) (q:Nat),X = .ok (t,q)→a.defers=a0.defers→(∀ k,k∈((List.range 40).filter fun i => !([33,34,35,36,37].contains i))→a.tmps[k]?=a0.tmps[k]?)→But r W W2→RD W2 r ts q d→p≤q→Q .normal a (set7 W2 q6 (.int .i64 6) (.string t.2.1) (.string ⟨#[]⟩) (.bool false) (.slice none 0 0) (.int .i64 0) (.int .i64 ai))) :
  (Code.region 9 (regionOf Tryz.f126 9).toArray true).wp Tryz.prog Q a0 W:=by
 have hl:(regionOf Tryz.f126 9).length=6:=by kernel_rfl
 have hds:((List.range 5).all fun i=>((regionOf Tryz.f126 9).getD i default).dst.isSome)=true:=by kernel_rfl
 have bx:∀ {n:Nat} {s:Nat→Value} {w:World},stunary_r9 W r ts p d q6 X ai n s w→w.heap[q3]?=some (.cells #[.int .i64 kk,.string T,.int .i64 ai] 74):=fun h=>(stunary_r9_at h q3 (blk b3).1 n3 n1).trans b3
 have hk3:3∈((List.range 40).filter fun i => !([33,34,35,36,37].contains i)):=by decide
 have hk2:2∈((List.range 40).filter fun i => !([33,34,35,36,37].contains i)):=by decide
 have hk0:0∈((List.range 40).filter fun i => !([33,34,35,36,37].contains i)):=by decide
 refine wp_region_any (by kernel_rfl) ?_
 refine seqN (l:=(regionOf Tryz.f126 9)) 40 ((List.range 40).filter fun i => !([33,34,35,36,37].contains i)) [2,4,5] (fun j v=>(j=0→v = .agg #[.int .i64 kk,.string T,.int .i64 ai])∧(j=1→v = .pointer (some ⟨r,0,none⟩))∧(j=2→∃ t q,X = .ok (t,q)∧v=tkV t)∧(j=3→∃ t q,X = .ok (t,q)∧v = .string t.2.1)) (stunary_r9 W r ts p d q6 X ai) (by kernel_rfl) hN (by decide) (by rw [hl];decide) ?_ ?_ ?_ rfl ?_ ?_ ?_
 ·intro k hk
  have hk3:k=0∨k=1:=by simp at hk;omega
  rcases hk3 with rfl | rfl
  ·show (preds ((regionOf Tryz.f126 9).getD 4 default)).contains 2=true
   kernel_rfl
  ·show (preds ((regionOf Tryz.f126 9).getD 5 default)).contains 4=true
   kernel_rfl
 ·intro i o ho hd
  have hi:i<6:=by rw [←hl];exact (List.getElem?_eq_some_iff.1 ho).1
  have he:(regionOf Tryz.f126 9).getD i default=o:=by simp [List.getD,ho]
  rcases Nat.lt_or_ge i 5 with h | h
  ·have:=List.all_eq_true.1 hds i (List.mem_range.2 h)
   rw [he,hd] at this
   cases this
  ·obtain rfl:i=5:=by omega
   exact ⟨by decide,fun v=>⟨(fun h=>absurd h (by decide)),(fun h=>absurd h (by decide)),(fun h=>absurd h (by decide)),(fun h=>absurd h (by decide))⟩⟩
 ·intro n s s' w h hs
  have e1:s 2=s' 2:=h 0 (by decide) (by kernel_rfl)
  have e2:s 4=s' 4:=h 1 (by decide) (by kernel_rfl)
  rcases n with _ | _ | _ | n
  ·exact hs
  ·obtain ⟨t,q,g1,g2,g3⟩:=hs
   exact ⟨t,q,g1,e1▸g2,g3⟩
  ·obtain ⟨t,q,g1,g2,g3⟩:=hs
   exact ⟨t,q,g1,e2▸g2,g3⟩
  ·exact hs
 ·intro i hi hni a w n s hd hsz hk hp hn hs
  rw [hl] at hi
  have hii:i=0∨i=1∨i=3:=by simp at hni;omega
  have ke3:a.eval (.tmp 3) = .pointer (some ⟨q3,0,none⟩):=getD_of ((hk 3 hk3).trans h3)
  have ke0:a.eval (.tmp 0) = .pointer (some ⟨r,0,none⟩):=getD_of ((hk 0 hk0).trans h0)
  have cc:=bx hs
  rcases hii with rfl | rfl | rfl
  ·exact st_want (wnone rfl) (op_load ke3 (ld_Tok cc) ⟨_,rfl,rfl,⟨fun _=>rfl,(fun h=>absurd h (by decide)),(fun h=>absurd h (by decide)),(fun h=>absurd h (by decide))⟩⟩)
  ·exact st_want (wnone rfl) (op_move ⟨_,rfl,rfl,⟨(fun h=>absurd h (by decide)),fun _=>ke0,(fun h=>absurd h (by decide)),(fun h=>absurd h (by decide))⟩⟩)
  ·obtain ⟨t,q,hX,e1⟩:=(hp 2 (by kernel_rfl)).2.2.1 rfl
   have e2:a.eval (.tmp 35)=tkV t:=e1
   unfold tkV at e2
   exact st_want (wnone rfl) (op_fieldV e2 (fld1 _ _ _ w) ⟨_,rfl,rfl,⟨(fun h=>absurd h (by decide)),(fun h=>absurd h (by decide)),(fun h=>absurd h (by decide)),fun _=>⟨t,q,hX,rfl⟩⟩⟩)
 ·intro k hk a w hd hsz hkp hp hs
  have hk4:k=0∨k=1∨k=2:=by simp at hk;omega
  have ke2:a.tmps.getD 2 undef = .pointer (some ⟨q6,0,none⟩):=getD_of ((hkp 2 hk2).trans h2)
  rcases hk4 with rfl | rfl | rfl
  ·obtain rfl:w=W.drew:=hs
   have e1:a.tmps.getD 34 undef = .pointer (some ⟨r,0,none⟩):=(hp 1 (by kernel_rfl)).2.1 rfl
   refine st_want (wnone rfl) (op_callP enter_mustBe ?_)
   have hargs:(#[Operand.tmp 34,.const (.int .i64 1)]).map a.eval = #[.pointer (some ⟨r,0,none⟩),.int .i64 1]:=by
    simp only [List.map_toArray,List.map_cons,List.map_nil,Act.eval]
    rw [e1]
   rw [hargs]
   refine hC.mono ?_
   intro e w' h'
   rcases hX:X with er | ⟨t,q⟩
   ·rw [hX] at h'
    obtain ⟨ei,en⟩:=er
    obtain ⟨hb,h'⟩:=h'
    obtain rfl:e=_:=h'
    exact .inr ⟨_,rfl,herr a w' ei en hX hd ((But.of ((Below.refl _ W).drew)).trans hb)⟩
   ·rw [hX] at h'
    obtain ⟨hb,hle,hR,v,rfl,hv⟩:=h'
    obtain rfl:v=_:=hv
    exact .inl ⟨_,rfl,_,rfl,(fun _=>⟨(fun h=>absurd h (by decide)),(fun h=>absurd h (by decide)),(fun _=>⟨t,q,(by first | rfl | exact hX),rfl⟩),(fun h=>absurd h (by decide))⟩),t,q,(by first | rfl | exact hX),rfl,((But.of ((Below.refl _ W).drew)).trans hb),hR,hle⟩
  ·obtain ⟨t,q,hX,hsl,hb,hR,hle⟩:=hs
   have e1:a.tmps.getD 33 undef = .agg #[.int .i64 kk,.string T,.int .i64 ai]:=(hp 0 (by kernel_rfl)).1 rfl
   obtain ⟨t',q',hX',e2'⟩:=(hp 3 (by kernel_rfl)).2.2.2 rfl
   rw [hX] at hX'
   obtain ⟨rfl,rfl⟩:t=t'∧q=q':=by simpa using hX'
   have e2:a.tmps.getD 36 undef = .string t.2.1:=e2'
   refine st_want (wnone rfl) (op_call enter_named ?_)
   have hargs:(#[Operand.const (.int .i64 6),.tmp 33,.tmp 36,.const (.slice none 0 0)]).map a.eval = #[.int .i64 6,.agg #[.int .i64 kk,.string T,.int .i64 ai],.string t.2.1,.slice none 0 0]:=by
    simp only [List.map_toArray,List.map_cons,List.map_nil,Act.eval]
    rw [e1,e2]
   rw [hargs]
   refine (named_any _ _ _ _ _ _ _ _ _).mono ?_
   rintro ex w' ⟨rfl,hbw⟩
   exact ⟨_,rfl,_,rfl,(fun _=>⟨(fun h=>absurd h (by decide)),(fun h=>absurd h (by decide)),(fun h=>absurd h (by decide)),(fun h=>absurd h (by decide))⟩),t,q,hX,rfl,hb.trans (But.of hbw),hR.keep hbw,hle⟩
  ·obtain ⟨t,q,hX,hnd,hb,hR,hle⟩:=hs
   have e2:a.tmps.getD 37 undef = .agg #[.int .i64 6,.string t.2.1,.string ⟨#[]⟩,.bool false,.slice none 0 0,.int .i64 0,.int .i64 ai]:=hnd
   have hz:ZB w q6:=(hb.block q6 (blk z6).1 (Ne.symm n2)).trans z6
   exact st_want (wnone rfl) (op_stE ke2 e2 hz ⟨undef,rfl,(fun h=>absurd (show false=true from h) (by decide)),t,q,w,hX,hb,hR,hle,rfl⟩)
 ·intro a w hd hsz hk hp hs
  obtain ⟨t,q,W2,hX,hb,hR,hle,rfl⟩:=hs
  exact hend a W2 t q hX hd hk hb hR hle
def stprim_r12 (W:World) (r:Nat) (ts:List (Int×ByteArray×Int)) (p d q6:Nat) (X:(Except (Int×Int) ((Int×ByteArray×Int)×Nat))) (ai:Int) (n:Nat) (s:Nat→Value) (w:World):Prop:=match n with
 |0=>w=W.drew
 |1=>∃ t q,X = .ok (t,q)∧s 2=tkV t∧But r W w∧RD w r ts q d∧p≤q
 |2=>∃ t q,X = .ok (t,q)∧s 4 = .agg #[.int .i64 4,.string t.2.1,.string ⟨#[]⟩,.bool false,.slice none 0 0,.int .i64 0,.int .i64 ai]∧But r W w∧RD w r ts q d∧p≤q
 |_=>∃ t q W2,X = .ok (t,q)∧But r W W2∧RD W2 r ts q d∧p≤q∧w=set7 W2 q6 (.int .i64 4) (.string t.2.1) (.string ⟨#[]⟩) (.bool false) (.slice none 0 0) (.int .i64 0) (.int .i64 ai)
theorem stprim_r12_at {W:World} {r p d q6:Nat} {ts:List (Int×ByteArray×Int)} {X:(Except (Int×Int) ((Int×ByteArray×Int)×Nat))} {ai:Int} {n:Nat} {s:Nat→Value} {w:World} (h:stprim_r12 W r ts p d q6 X ai n s w):∀ q,q<W.heap.size→q≠q6→r≠q→w.heap[q]?=W.heap[q]?:=by
 intro q3 hq hne hr
 rcases n with _ | _ | _ | n
 ·obtain rfl:w=W.drew:=h
  rfl
 ·obtain ⟨t,q,-,-,hb,-⟩:=h
  exact hb.block q3 hq (Ne.symm hr)
 ·obtain ⟨t,q,-,-,hb,-⟩:=h
  exact hb.block q3 hq (Ne.symm hr)
 ·obtain ⟨t,q,W2,-,hb,-,-,rfl⟩:=h
  unfold set7
  rw [same7 hne]
  exact hb.block q3 hq (Ne.symm hr)
set_option maxRecDepth 100000 in
set_option maxHeartbeats 4000000 in
theorem prim_r12 {Q:Exit→Act→World→Prop} {a0:Act} {W:World} {r p d q3 q6:Nat} {ts:List (Int×ByteArray×Int)} {X:(Except (Int×Int) ((Int×ByteArray×Int)×Nat))} {kk ai:Int} {T:ByteArray} (hN:a0.tmps.size=50) (h0:a0.tmps[0]?=some (.pointer (some ⟨r,0,none⟩))) (h2:a0.tmps[2]?=some (.pointer (some ⟨q6,0,none⟩))) (h3:a0.tmps[3]?=some (.pointer (some ⟨q3,0,none⟩)))
  (b3:W.heap[q3]?=some (.cells #[.int .i64 kk,.string T,.int .i64 ai] 74)) (z6:ZB W q6) (n1:r≠q3) (n2:r≠q6) (n3:q3≠q6) (hC:Calls Tryz.prog 88 #[.pointer (some ⟨r,0,none⟩),.int .i64 1] W.drew (RP TkOk X r ts p d W.drew))
  (herr:∀ (a:Act) (w:World) (ei en:Int),X = .error (ei,en)→a.defers=a0.defers→But r W w→Q (.panic [{ v:=.iface 89 (.agg #[.int .i64 ei,.int .i64 en]),recovered:=false }]) a w)
  (hend:∀ (a:Act) (W2:World) (t:(Int×ByteArray×Int)) (q:Nat),X = .ok (t,q)→a.defers=a0.defers→(∀ k,k∈((List.range 50).filter fun i => !([45,46,47,48,49].contains i))→a.tmps[k]?=a0.tmps[k]?)→But r W W2→RD W2 r ts q d→p≤q→Q .normal a (set7 W2 q6 (.int .i64 4) (.string t.2.1) (.string ⟨#[]⟩) (.bool false) (.slice none 0 0) (.int .i64 0) (.int .i64 ai))) :
  (Code.region 12 (regionOf Tryz.f128 12).toArray true).wp Tryz.prog Q a0 W:=by
 have hl:(regionOf Tryz.f128 12).length=6:=by kernel_rfl
 have hds:((List.range 5).all fun i=>((regionOf Tryz.f128 12).getD i default).dst.isSome)=true:=by kernel_rfl
 have bx:∀ {n:Nat} {s:Nat→Value} {w:World},stprim_r12 W r ts p d q6 X ai n s w→w.heap[q3]?=some (.cells #[.int .i64 kk,.string T,.int .i64 ai] 74):=fun h=>(stprim_r12_at h q3 (blk b3).1 n3 n1).trans b3
 have hk3:3∈((List.range 50).filter fun i => !([45,46,47,48,49].contains i)):=by decide
 have hk2:2∈((List.range 50).filter fun i => !([45,46,47,48,49].contains i)):=by decide
 have hk0:0∈((List.range 50).filter fun i => !([45,46,47,48,49].contains i)):=by decide
 refine wp_region_any (by kernel_rfl) ?_
 refine seqN (l:=(regionOf Tryz.f128 12)) 50 ((List.range 50).filter fun i => !([45,46,47,48,49].contains i)) [2,4,5] (fun j v=>(j=0→v = .agg #[.int .i64 kk,.string T,.int .i64 ai])∧(j=1→v = .pointer (some ⟨r,0,none⟩))∧(j=2→∃ t q,X = .ok (t,q)∧v=tkV t)∧(j=3→∃ t q,X = .ok (t,q)∧v = .string t.2.1)) (stprim_r12 W r ts p d q6 X ai) (by kernel_rfl) hN (by decide) (by rw [hl];decide) ?_ ?_ ?_ rfl ?_ ?_ ?_
 ·intro k hk
  have hk3:k=0∨k=1:=by simp at hk;omega
  rcases hk3 with rfl | rfl
  ·show (preds ((regionOf Tryz.f128 12).getD 4 default)).contains 2=true
   kernel_rfl
  ·show (preds ((regionOf Tryz.f128 12).getD 5 default)).contains 4=true
   kernel_rfl
 ·intro i o ho hd
  have hi:i<6:=by rw [←hl];exact (List.getElem?_eq_some_iff.1 ho).1
  have he:(regionOf Tryz.f128 12).getD i default=o:=by simp [List.getD,ho]
  rcases Nat.lt_or_ge i 5 with h | h
  ·have:=List.all_eq_true.1 hds i (List.mem_range.2 h)
   rw [he,hd] at this
   cases this
  ·obtain rfl:i=5:=by omega
   exact ⟨by decide,fun v=>⟨(fun h=>absurd h (by decide)),(fun h=>absurd h (by decide)),(fun h=>absurd h (by decide)),(fun h=>absurd h (by decide))⟩⟩
 ·intro n s s' w h hs
  have e1:s 2=s' 2:=h 0 (by decide) (by kernel_rfl)
  have e2:s 4=s' 4:=h 1 (by decide) (by kernel_rfl)
  rcases n with _ | _ | _ | n
  ·exact hs
  ·obtain ⟨t,q,g1,g2,g3⟩:=hs
   exact ⟨t,q,g1,e1▸g2,g3⟩
  ·obtain ⟨t,q,g1,g2,g3⟩:=hs
   exact ⟨t,q,g1,e2▸g2,g3⟩
  ·exact hs
 ·intro i hi hni a w n s hd hsz hk hp hn hs
  rw [hl] at hi
  have hii:i=0∨i=1∨i=3:=by simp at hni;omega
  have ke3:a.eval (.tmp 3) = .pointer (some ⟨q3,0,none⟩):=getD_of ((hk 3 hk3).trans h3)
  have ke0:a.eval (.tmp 0) = .pointer (some ⟨r,0,none⟩):=getD_of ((hk 0 hk0).trans h0)
  have cc:=bx hs
  rcases hii with rfl | rfl | rfl
  ·exact st_want (wnone rfl) (op_load ke3 (ld_Tok cc) ⟨_,rfl,rfl,⟨fun _=>rfl,(fun h=>absurd h (by decide)),(fun h=>absurd h (by decide)),(fun h=>absurd h (by decide))⟩⟩)
  ·exact st_want (wnone rfl) (op_move ⟨_,rfl,rfl,⟨(fun h=>absurd h (by decide)),fun _=>ke0,(fun h=>absurd h (by decide)),(fun h=>absurd h (by decide))⟩⟩)
  ·obtain ⟨t,q,hX,e1⟩:=(hp 2 (by kernel_rfl)).2.2.1 rfl
   have e2:a.eval (.tmp 47)=tkV t:=e1
   unfold tkV at e2
   exact st_want (wnone rfl) (op_fieldV e2 (fld1 _ _ _ w) ⟨_,rfl,rfl,⟨(fun h=>absurd h (by decide)),(fun h=>absurd h (by decide)),(fun h=>absurd h (by decide)),fun _=>⟨t,q,hX,rfl⟩⟩⟩)
 ·intro k hk a w hd hsz hkp hp hs
  have hk4:k=0∨k=1∨k=2:=by simp at hk;omega
  have ke2:a.tmps.getD 2 undef = .pointer (some ⟨q6,0,none⟩):=getD_of ((hkp 2 hk2).trans h2)
  rcases hk4 with rfl | rfl | rfl
  ·obtain rfl:w=W.drew:=hs
   have e1:a.tmps.getD 46 undef = .pointer (some ⟨r,0,none⟩):=(hp 1 (by kernel_rfl)).2.1 rfl
   refine st_want (wnone rfl) (op_callP enter_mustBe ?_)
   have hargs:(#[Operand.tmp 46,.const (.int .i64 1)]).map a.eval = #[.pointer (some ⟨r,0,none⟩),.int .i64 1]:=by
    simp only [List.map_toArray,List.map_cons,List.map_nil,Act.eval]
    rw [e1]
   rw [hargs]
   refine hC.mono ?_
   intro e w' h'
   rcases hX:X with er | ⟨t,q⟩
   ·rw [hX] at h'
    obtain ⟨ei,en⟩:=er
    obtain ⟨hb,h'⟩:=h'
    obtain rfl:e=_:=h'
    exact .inr ⟨_,rfl,herr a w' ei en hX hd ((But.of ((Below.refl _ W).drew)).trans hb)⟩
   ·rw [hX] at h'
    obtain ⟨hb,hle,hR,v,rfl,hv⟩:=h'
    obtain rfl:v=_:=hv
    exact .inl ⟨_,rfl,_,rfl,(fun _=>⟨(fun h=>absurd h (by decide)),(fun h=>absurd h (by decide)),(fun _=>⟨t,q,(by first | rfl | exact hX),rfl⟩),(fun h=>absurd h (by decide))⟩),t,q,(by first | rfl | exact hX),rfl,((But.of ((Below.refl _ W).drew)).trans hb),hR,hle⟩
  ·obtain ⟨t,q,hX,hsl,hb,hR,hle⟩:=hs
   have e1:a.tmps.getD 45 undef = .agg #[.int .i64 kk,.string T,.int .i64 ai]:=(hp 0 (by kernel_rfl)).1 rfl
   obtain ⟨t',q',hX',e2'⟩:=(hp 3 (by kernel_rfl)).2.2.2 rfl
   rw [hX] at hX'
   obtain ⟨rfl,rfl⟩:t=t'∧q=q':=by simpa using hX'
   have e2:a.tmps.getD 48 undef = .string t.2.1:=e2'
   refine st_want (wnone rfl) (op_call enter_named ?_)
   have hargs:(#[Operand.const (.int .i64 4),.tmp 45,.tmp 48,.const (.slice none 0 0)]).map a.eval = #[.int .i64 4,.agg #[.int .i64 kk,.string T,.int .i64 ai],.string t.2.1,.slice none 0 0]:=by
    simp only [List.map_toArray,List.map_cons,List.map_nil,Act.eval]
    rw [e1,e2]
   rw [hargs]
   refine (named_any _ _ _ _ _ _ _ _ _).mono ?_
   rintro ex w' ⟨rfl,hbw⟩
   exact ⟨_,rfl,_,rfl,(fun _=>⟨(fun h=>absurd h (by decide)),(fun h=>absurd h (by decide)),(fun h=>absurd h (by decide)),(fun h=>absurd h (by decide))⟩),t,q,hX,rfl,hb.trans (But.of hbw),hR.keep hbw,hle⟩
  ·obtain ⟨t,q,hX,hnd,hb,hR,hle⟩:=hs
   have e2:a.tmps.getD 49 undef = .agg #[.int .i64 4,.string t.2.1,.string ⟨#[]⟩,.bool false,.slice none 0 0,.int .i64 0,.int .i64 ai]:=hnd
   have hz:ZB w q6:=(hb.block q6 (blk z6).1 (Ne.symm n2)).trans z6
   exact st_want (wnone rfl) (op_stE ke2 e2 hz ⟨undef,rfl,(fun h=>absurd (show false=true from h) (by decide)),t,q,w,hX,hb,hR,hle,rfl⟩)
 ·intro a w hd hsz hk hp hs
  obtain ⟨t,q,W2,hX,hb,hR,hle,rfl⟩:=hs
  exact hend a W2 t q hX hd hk hb hR hle
set_option maxRecDepth 100000 in
set_option maxHeartbeats 8000000 in
theorem unary_of {r d lo:Nat} {ts:List (Int×ByteArray×Int)} {g:Ru→Nat→Nat→(Except (Int×Int) (Ex×Nat))} (hT:TsOk ts) (hU:RuC 127 r ts d (lo+1) (g .rU d)) (hPr:RuC 128 r ts d lo (primR ts g d)) {w:World} {p:Nat} (hlo:lo≤p) (hR:RD w r ts p d):Calls Tryz.prog 126 #[.pointer (some ⟨r,0,none⟩)] w (PE (unaryR ts g d p) r ts p d w):=by
 obtain ⟨Y,hY⟩:∃ Y,unaryR ts g d p=Y:=⟨_,rfl⟩
 rw [hY]
 unfold unaryR at hY
 have hr:=hR.rlt
 obtain ⟨A,eA,hbA,hzA,hsA⟩:=zb_new w
 have HB:=gh (But.of (r:=r) hbA)
 have HR:=gh (hR.keep hbA)
 have HZ:=gh hzA
 have HS:Hid (w.heap.size<A.heap.size):=by show _<_;omega
 have HL:Hid (p≤p∧lo≤p):=⟨Nat.le_refl _,hlo⟩
 have HE:=gh eA
 have HT:=gh hT
 have HY:=gh hY
 have hrne:r≠w.heap.size:=by omega
 have hmf:∀ (fn:Fn) (first cap:Array Value) (w:World),(Instr.makeFunc fn first cap).run Tryz.prog w = .ok (.func fn first cap) w:=fun _ _ _ _=>rfl
 replace hU:=gh hU
 replace hPr:=gh hPr
 clear hlo hR hbA hzA hsA eA hT hY
 go_enter Tryz.func126,Tryz.ntmps126
 have HC0:=gh (next_any (gf HR) (gf HT))
 unfold tkV at HC0
 obtain ⟨⟨kk0,T0,at0⟩,hN0⟩:∃ X,nx ts p=X:=⟨_,rfl⟩
 rw [hN0] at HC0
 have HN0:=gh hN0
 clear hN0
 go_wp2_with fail
 rw [gf HE]
 refine (gf HC0).mono ?_
 rintro e w0 ⟨rfl,hb0⟩
 have hbu1:=But.of (r:=r) hb0
 replace HR:=gh ((gf HR).keep hb0)
 replace HB:=gh ((gf HB).trans hbu1)
 replace HZ:=gh ((gf HZ).but hbu1 hrne)
 replace HS:=gh (Nat.lt_of_lt_of_le (gf HS) hbu1.size)
 clear hb0 HC0
 obtain ⟨B2,eB2,hbB2,hsB2,hhB2⟩:=box_new w0 #[.int .i64 kk0,.string T0,.int .i64 at0] 74
 have ne2:r≠w0.heap.size:=by have:=gf HS;omega
 have HQHX2:=HS
 have hbu3:=But.of (r:=r) hbB2
 replace HR:=gh ((gf HR).keep hbB2)
 replace HB:=gh ((gf HB).trans hbu3)
 replace HZ:=gh ((gf HZ).but hbu3 hrne)
 replace HS:=gh (Nat.lt_of_lt_of_le (gf HS) hbu3.size)
 have HX2:=gh hhB2
 have HEB2:=gh eB2
 have HSB2:=gh hsB2
 clear eB2 hbB2 hhB2 hsB2
 have HC4:=gh (takeIf_any (gf HR) (gf HT) (s:=⟨#[45]⟩) (by decide))
 obtain ⟨bo4,hbo4⟩:∃ b,sees ts (p) ⟨#[45]⟩=b:=⟨_,rfl⟩
 rw [hbo4] at HC4
 have hY4:=gf HY
 rw [hbo4] at hY4
 replace HY:=gh hY4
 have HO4:=gh hbo4
 clear hY4 hbo4
 go_wp2_with fail
 rw [gf HEB2]
 refine (gf HC4).mono ?_
 rintro e w4 ⟨rfl,hb4,hR4⟩
 replace HB:=gh ((gf HB).trans hb4)
 replace HZ:=gh ((gf HZ).but hb4 hrne)
 replace HX2:=gh ((hb4.block _ (blk (gf HX2)).1 (Ne.symm ne2)).trans (gf HX2))
 replace HS:=gh (Nat.lt_of_lt_of_le (gf HS) hb4.size)
 replace HR:=gh hR4
 clear hb4 hR4 HC4
 rcases bo4 with _ | _
 rotate_left
 ·have hY4:=gf HY
  simp only [if_true] at hY4
  replace HY:=gh hY4
  have hRR:=gf HR
  rw [if_pos rfl] at hRR
  replace HR:=gh hRR
  clear hY4 hRR
  replace HL:Hid (p≤p+1∧lo+1≤p+1):=And.intro (Nat.le_succ_of_le (gf HL).1) (Nat.succ_le_succ (gf HL).2)
  have HC5:=gh (gf hU w4.drew (p+1) (gf HL).2 ((gf HR).keep ((Below.refl _ w4).drew)))
  go_wp2_with fail
  have n35:w0.heap.size≠w.heap.size:=by have:=gf HQHX2;omega
  refine unary_r3 (X:=g .rU d (p+1)) rfl rfl rfl rfl (gf HX2) (gf HZ) ne2 hrne n35 (gf HC5) ?_ ?_
  ·intro a w9 ei en hX hd hb
   have hYe:Y = .error (ei,en):=by have h:=gf HY;rw [hX] at h;exact h.symm
   subst hYe
   exact ⟨hd,(gf HB).trans hb,rfl⟩
  ·intro a W2 t q b hX hd hk hb hR hle hv
   have hY9:=gf HY
   rw [hX] at hY9
   simp only [thenR,txt] at hY9
   rw [gf HN0] at hY9
   have HF:=gh (And.intro hd (And.intro ((hk 2 (by decide)).trans rfl) (And.intro ((gf HB).trans hb) (And.intro ((gf HZ).but hb hrne) (And.intro hR (And.intro (Nat.le_trans (gf HL).1 hle) (And.intro hY9 hv)))))))
   clear hd hk hb hR hle hY9 hX hv
   go_wp2
   obtain ⟨hd,h2,hb,hz,hR,hle,hY9,hv⟩:=gf HF
   exact ret_put rfl h2 hd hb hr hz hY9.symm hle hR (gf HS) hv
 have hY4:=gf HY
 simp only [Bool.false_eq_true,if_false] at hY4
 replace HY:=gh hY4
 have hRR:=gf HR
 rw [if_neg Bool.false_ne_true] at hRR
 replace HR:=gh hRR
 clear hY4 hRR
 have HC6:=gh (takeIf_any (gf HR) (gf HT) (s:=⟨#[110,111,116]⟩) (by decide))
 obtain ⟨bo6,hbo6⟩:∃ b,sees ts (p) ⟨#[110,111,116]⟩=b:=⟨_,rfl⟩
 rw [hbo6] at HC6
 have hY6:=gf HY
 rw [hbo6] at hY6
 replace HY:=gh hY6
 have HO6:=gh hbo6
 clear hY6 hbo6
 go_wp2_with fail
 refine (gf HC6).mono ?_
 rintro e w6 ⟨rfl,hb6,hR6⟩
 replace HB:=gh ((gf HB).trans hb6)
 replace HZ:=gh ((gf HZ).but hb6 hrne)
 replace HX2:=gh ((hb6.block _ (blk (gf HX2)).1 (Ne.symm ne2)).trans (gf HX2))
 replace HS:=gh (Nat.lt_of_lt_of_le (gf HS) hb6.size)
 replace HR:=gh hR6
 clear hb6 hR6 HC6
 rcases bo6 with _ | _
 rotate_left
 ·have hY6:=gf HY
  simp only [if_true] at hY6
  replace HY:=gh hY6
  have hRR:=gf HR
  rw [if_pos rfl] at hRR
  replace HR:=gh hRR
  clear hY6 hRR
  replace HL:Hid (p≤p+1∧lo+1≤p+1):=And.intro (Nat.le_succ_of_le (gf HL).1) (Nat.succ_le_succ (gf HL).2)
  have HC7:=gh (gf hU w6.drew (p+1) (gf HL).2 ((gf HR).keep ((Below.refl _ w6).drew)))
  go_wp2_with fail
  have n37:w0.heap.size≠w.heap.size:=by have:=gf HQHX2;omega
  refine unary_r5 (X:=g .rU d (p+1)) rfl rfl rfl rfl (gf HX2) (gf HZ) ne2 hrne n37 (gf HC7) ?_ ?_
  ·intro a w9 ei en hX hd hb
   have hYe:Y = .error (ei,en):=by have h:=gf HY;rw [hX] at h;exact h.symm
   subst hYe
   exact ⟨hd,(gf HB).trans hb,rfl⟩
  ·intro a W2 t q b hX hd hk hb hR hle hv
   have hY9:=gf HY
   rw [hX] at hY9
   simp only [thenR,txt] at hY9
   rw [gf HN0] at hY9
   have HF:=gh (And.intro hd (And.intro ((hk 2 (by decide)).trans rfl) (And.intro ((gf HB).trans hb) (And.intro ((gf HZ).but hb hrne) (And.intro hR (And.intro (Nat.le_trans (gf HL).1 hle) (And.intro hY9 hv)))))))
   clear hd hk hb hR hle hY9 hX hv
   go_wp2
   obtain ⟨hd,h2,hb,hz,hR,hle,hY9,hv⟩:=gf HF
   exact ret_put rfl h2 hd hb hr hz hY9.symm hle hR (gf HS) hv
 have hY6:=gf HY
 simp only [Bool.false_eq_true,if_false] at hY6
 replace HY:=gh hY6
 have hRR:=gf HR
 rw [if_neg Bool.false_ne_true] at hRR
 replace HR:=gh hRR
 clear hY6 hRR
 have HC8:=gh (takeIf_any (gf HR) (gf HT) (s:=⟨#[33]⟩) (by decide))
 obtain ⟨bo8,hbo8⟩:∃ b,sees ts (p) ⟨#[33]⟩=b:=⟨_,rfl⟩
 rw [hbo8] at HC8
 have hY8:=gf HY
 rw [hbo8] at hY8
 replace HY:=gh hY8
 have HO8:=gh hbo8
 clear hY8 hbo8
 go_wp2_with fail
 refine (gf HC8).mono ?_
 rintro e w8 ⟨rfl,hb8,hR8⟩
 replace HB:=gh ((gf HB).trans hb8)
 replace HZ:=gh ((gf HZ).but hb8 hrne)
 replace HX2:=gh ((hb8.block _ (blk (gf HX2)).1 (Ne.symm ne2)).trans (gf HX2))
 replace HS:=gh (Nat.lt_of_lt_of_le (gf HS) hb8.size)
 replace HR:=gh hR8
 clear hb8 hR8 HC8
 rcases bo8 with _ | _
 rotate_left
 ·have hY8:=gf HY
  simp only [if_true] at hY8
  replace HY:=gh hY8
  have hRR:=gf HR
  rw [if_pos rfl] at hRR
  replace HR:=gh hRR
  clear hY8 hRR
  replace HL:Hid (p≤p+1∧lo+1≤p+1):=And.intro (Nat.le_succ_of_le (gf HL).1) (Nat.succ_le_succ (gf HL).2)
  have HC9:=gh (mustBe_any ((gf HR).keep ((Below.refl _ w8).drew)) (gf HT) (k:=1) (by decide))
  go_wp2_with fail
  have n39:w0.heap.size≠w.heap.size:=by have:=gf HQHX2;omega
  refine unary_r7 (X:=mustBeR ts 1 (p+1)) rfl rfl rfl rfl (gf HX2) (gf HZ) ne2 hrne n39 (gf HC9) ?_ ?_
  ·intro a w9 ei en hX hd hb
   have hYe:Y = .error (ei,en):=by have h:=gf HY;rw [hX] at h;exact h.symm
   subst hYe
   exact ⟨hd,(gf HB).trans hb,rfl⟩
  ·intro a W2 t q hX hd hk hb hR hle
   have hY9:=gf HY
   rw [hX] at hY9
   simp only [thenR,txt] at hY9
   rw [gf HN0] at hY9
   have HF:=gh (And.intro hd (And.intro ((hk 2 (by decide)).trans rfl) (And.intro ((gf HB).trans hb) (And.intro ((gf HZ).but hb hrne) (And.intro hR (And.intro (Nat.le_trans (gf HL).1 hle) (And.intro hY9 trivial)))))))
   clear hd hk hb hR hle hY9 hX
   go_wp2
   obtain ⟨hd,h2,hb,hz,hR,hle,hY9,hv⟩:=gf HF
   exact ret_put rfl h2 hd hb hr hz hY9.symm hle hR (Nat.lt_succ_self _) (leaf _ _ _ _ _)
 have hY8:=gf HY
 simp only [Bool.false_eq_true,if_false] at hY8
 replace HY:=gh hY8
 have hRR:=gf HR
 rw [if_neg Bool.false_ne_true] at hRR
 replace HR:=gh hRR
 clear hY8 hRR
 have HC10:=gh (takeIf_any (gf HR) (gf HT) (s:=⟨#[111,108,100]⟩) (by decide))
 obtain ⟨bo10,hbo10⟩:∃ b,sees ts (p) ⟨#[111,108,100]⟩=b:=⟨_,rfl⟩
 rw [hbo10] at HC10
 have hY10:=gf HY
 rw [hbo10] at hY10
 replace HY:=gh hY10
 have HO10:=gh hbo10
 clear hY10 hbo10
 go_wp2_with fail
 refine (gf HC10).mono ?_
 rintro e w10 ⟨rfl,hb10,hR10⟩
 replace HB:=gh ((gf HB).trans hb10)
 replace HZ:=gh ((gf HZ).but hb10 hrne)
 replace HX2:=gh ((hb10.block _ (blk (gf HX2)).1 (Ne.symm ne2)).trans (gf HX2))
 replace HS:=gh (Nat.lt_of_lt_of_le (gf HS) hb10.size)
 replace HR:=gh hR10
 clear hb10 hR10 HC10
 rcases bo10 with _ | _
 rotate_left
 ·have hY10:=gf HY
  simp only [if_true] at hY10
  replace HY:=gh hY10
  have hRR:=gf HR
  rw [if_pos rfl] at hRR
  replace HR:=gh hRR
  clear hY10 hRR
  replace HL:Hid (p≤p+1∧lo+1≤p+1):=And.intro (Nat.le_succ_of_le (gf HL).1) (Nat.succ_le_succ (gf HL).2)
  have HC11:=gh (mustBe_any ((gf HR).keep ((Below.refl _ w10).drew)) (gf HT) (k:=1) (by decide))
  go_wp2_with fail
  have n311:w0.heap.size≠w.heap.size:=by have:=gf HQHX2;omega
  refine unary_r9 (X:=mustBeR ts 1 (p+1)) rfl rfl rfl rfl (gf HX2) (gf HZ) ne2 hrne n311 (gf HC11) ?_ ?_
  ·intro a w9 ei en hX hd hb
   have hYe:Y = .error (ei,en):=by have h:=gf HY;rw [hX] at h;exact h.symm
   subst hYe
   exact ⟨hd,(gf HB).trans hb,rfl⟩
  ·intro a W2 t q hX hd hk hb hR hle
   have hY9:=gf HY
   rw [hX] at hY9
   simp only [thenR,txt] at hY9
   rw [gf HN0] at hY9
   have HF:=gh (And.intro hd (And.intro ((hk 2 (by decide)).trans rfl) (And.intro ((gf HB).trans hb) (And.intro ((gf HZ).but hb hrne) (And.intro hR (And.intro (Nat.le_trans (gf HL).1 hle) (And.intro hY9 trivial)))))))
   clear hd hk hb hR hle hY9 hX
   go_wp2
   obtain ⟨hd,h2,hb,hz,hR,hle,hY9,hv⟩:=gf HF
   exact ret_put rfl h2 hd hb hr hz hY9.symm hle hR (Nat.lt_succ_self _) (leaf _ _ _ _ _)
 have hY10:=gf HY
 simp only [Bool.false_eq_true,if_false] at hY10
 replace HY:=gh hY10
 have hRR:=gf HR
 rw [if_neg Bool.false_ne_true] at hRR
 replace HR:=gh hRR
 clear hY10 hRR
 have HC12:=gh (gf hPr w10 (p) (gf HL).2 (gf HR))
 go_wp2_with fail
 refine (gf HC12).mono ?_
 intro e w12 h12
 rcases hX12:primR ts g d (p) with er | ⟨t12,q12⟩
 ·rw [hX12] at h12
  obtain ⟨ei,en⟩:=er
  have hYe:Y = .error (ei,en):=by have h:=gf HY;rw [hX12] at h;exact h.symm
  subst hYe
  obtain ⟨hb12,h12⟩:=h12
  obtain rfl:e=_:=h12
  have HP:=gh ((gf HB).trans hb12)
  clear hb12 HC12 hX12
  go_wp2
  exact ⟨rfl,gf HP,rfl⟩
 rw [hX12] at h12
 obtain ⟨hb12,hle12,hR12,v12,rfl,hv12⟩:=h12
 have hY12:=gf HY
 rw [hX12] at hY12
 replace HY:=gh hY12
 clear hY12
 obtain ⟨i12,j12,s12,m12,b12,a12,n12,c12,rfl⟩:=hv12.form
 have HT12:=gh (hv12.keep (lo':=w.heap.size+1) (Stays.of (Below.refl _ _)) (gf HS))
 replace HB:=gh ((gf HB).trans hb12)
 replace HZ:=gh ((gf HZ).but hb12 hrne)
 replace HX2:=gh ((hb12.block _ (blk (gf HX2)).1 (Ne.symm ne2)).trans (gf HX2))
 replace HS:=gh (Nat.lt_of_lt_of_le (gf HS) hb12.size)
 replace HR:=gh hR12
 replace HL:=gh (And.intro (Nat.le_trans (gf HL).1 hle12) (Nat.le_trans (gf HL).2 hle12))
 clear hb12 hle12 hR12 hv12 HC12 hX12
 obtain ⟨y0,y1,y2,y3,y4,y5,y6⟩:=blk7 (gf HZ)
 obtain ⟨z0,z1,z2,z3,z4,z5,z6⟩:=frz7 (gf HZ)
 have HNode:=gh (gf HT12)
 go_wp2
 exact ret_put rfl rfl rfl (gf HB) hr (gf HZ) (by have h:=gf HY;exact h.symm) (gf HL).1 (gf HR) (Nat.lt_succ_self _) (gf HNode)
end Go.Proofs.YtfkfnbehdcmgeaaGreatDoor
