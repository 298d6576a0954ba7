/- Package parse: parts. -/
import Derived.Test.YtfkfnbehdcmgeaaGreatDoorZAE
set_option linter.unusedVariables false
set_option linter.unusedSimpArgs false
namespace Go.Proofs.YtfkfnbehdcmgeaaGreatDoor
open Go Go.RowKit
def stpart_r5 (W:World) (r:Nat) (ts:List (Int×ByteArray×Int)) (p d q6:Nat) (X:(Except (Int×Int) (Ex×Nat))) (ai:Int) (T:ByteArray) (n:Nat) (s:Nat→Value) (w:World):Prop:=match n with
 |0=>w=W.drew
 |1=>∃ t q,X = .ok (t,q)∧But r W w∧RD w r ts q d∧p≤q∧IsE w W.heap.size (s 4) t
 |2=>∃ t q b,X = .ok (t,q)∧s 5 = .slice (some ⟨b,0,none⟩) 1 1∧But r W w∧RD w r ts q d∧p≤q∧IsE w W.heap.size (.agg #[.int .i64 25,.string T,.string ⟨#[]⟩,.bool false,.slice (some ⟨b,0,none⟩) 1 1,.int .i64 0,.int .i64 ai]) (.mk 25 T ⟨#[]⟩ false [t] ai)
 |3=>∃ t q b,X = .ok (t,q)∧s 6 = .agg #[.int .i64 25,.string T,.string ⟨#[]⟩,.bool false,.slice (some ⟨b,0,none⟩) 1 1,.int .i64 0,.int .i64 ai]∧But r W w∧RD w r ts q d∧p≤q∧IsE w W.heap.size (.agg #[.int .i64 25,.string T,.string ⟨#[]⟩,.bool false,.slice (some ⟨b,0,none⟩) 1 1,.int .i64 0,.int .i64 ai]) (.mk 25 T ⟨#[]⟩ false [t] ai)
 |_=>∃ t q b W2,X = .ok (t,q)∧But r W W2∧RD W2 r ts q d∧p≤q∧IsE W2 W.heap.size (.agg #[.int .i64 25,.string T,.string ⟨#[]⟩,.bool false,.slice (some ⟨b,0,none⟩) 1 1,.int .i64 0,.int .i64 ai]) (.mk 25 T ⟨#[]⟩ false [t] ai)∧w=set7 W2 q6 (.int .i64 25) (.string T) (.string ⟨#[]⟩) (.bool false) (.slice (some ⟨b,0,none⟩) 1 1) (.int .i64 0) (.int .i64 ai)
theorem stpart_r5_at {W:World} {r p d q6:Nat} {ts:List (Int×ByteArray×Int)} {X:(Except (Int×Int) (Ex×Nat))} {ai:Int} {T:ByteArray} {n:Nat} {s:Nat→Value} {w:World} (h:stpart_r5 W r ts p d q6 X ai T n s w):∀ q,q<W.heap.size→q≠q6→r≠q→w.heap[q]?=W.heap[q]?:=by
 intro q3 hq hne hr
 rcases n with _ | _ | _ | _ | n
 ·obtain rfl:w=W.drew:=h
  rfl
 ·obtain ⟨t,q,-,hb,-⟩:=h
  exact hb.block q3 hq (Ne.symm hr)
 ·obtain ⟨t,q,b,-,-,hb,-⟩:=h
  exact hb.block q3 hq (Ne.symm hr)
 ·obtain ⟨t,q,b,-,-,hb,-⟩:=h
  exact hb.block q3 hq (Ne.symm hr)
 ·obtain ⟨t,q,b,W2,-,hb,-,-,-,rfl⟩:=h
  unfold set7
  rw [same7 hne]
  exact hb.block q3 hq (Ne.symm hr)
set_option maxRecDepth 100000 in
set_option maxHeartbeats 4000000 in
theorem part_r5 {Q:Exit→Act→World→Prop} {a0:Act} {W:World} {r p d q3 q6:Nat} {ts:List (Int×ByteArray×Int)} {X:(Except (Int×Int) (Ex×Nat))} {kk ai:Int} {T:ByteArray} (hN:a0.tmps.size=45) (h0:a0.tmps[0]?=some (.pointer (some ⟨r,0,none⟩))) (h2:a0.tmps[2]?=some (.pointer (some ⟨q6,0,none⟩))) (h3:a0.tmps[3]?=some (.pointer (some ⟨q3,0,none⟩)))
  (b3:W.heap[q3]?=some (.cells #[.int .i64 kk,.string T,.int .i64 ai] 74)) (z6:ZB W q6) (n1:r≠q3) (n2:r≠q6) (n3:q3≠q6) (hC:Calls Tryz.prog 115 #[.pointer (some ⟨r,0,none⟩)] W.drew (PE X r ts p d W.drew))
  (herr:∀ (a:Act) (w:World) (ei en:Int),X = .error (ei,en)→a.defers=a0.defers→But r W w→Q (.panic [{ v:=.iface 89 (.agg #[.int .i64 ei,.int .i64 en]),recovered:=false }]) a w)
  (hend:∀ (a:Act) (W2:World) (t:Ex) (q b:Nat),X = .ok (t,q)→a.defers=a0.defers→(∀ k,k∈((List.range 45).filter fun i => !([20,21,22,23,24,25,26].contains i))→a.tmps[k]?=a0.tmps[k]?)→But r W W2→RD W2 r ts q d→p≤q→IsE W2 W.heap.size (.agg #[.int .i64 25,.string T,.string ⟨#[]⟩,.bool false,.slice (some ⟨b,0,none⟩) 1 1,.int .i64 0,.int .i64 ai]) (.mk 25 T ⟨#[]⟩ false [t] ai)→Q .normal a (set7 W2 q6 (.int .i64 25) (.string T) (.string ⟨#[]⟩) (.bool false) (.slice (some ⟨b,0,none⟩) 1 1) (.int .i64 0) (.int .i64 ai))) :
  (Code.region 5 (regionOf Tryz.f112 5).toArray true).wp Tryz.prog Q a0 W:=by
 have hl:(regionOf Tryz.f112 5).length=8:=by kernel_rfl
 have hds:((List.range 7).all fun i=>((regionOf Tryz.f112 5).getD i default).dst.isSome)=true:=by kernel_rfl
 have bx:∀ {n:Nat} {s:Nat→Value} {w:World},stpart_r5 W r ts p d q6 X ai T n s w→w.heap[q3]?=some (.cells #[.int .i64 kk,.string T,.int .i64 ai] 74):=fun h=>(stpart_r5_at h q3 (blk b3).1 n3 n1).trans b3
 have hk3:3∈((List.range 45).filter fun i => !([20,21,22,23,24,25,26].contains i)):=by decide
 have hk2:2∈((List.range 45).filter fun i => !([20,21,22,23,24,25,26].contains i)):=by decide
 have hk0:0∈((List.range 45).filter fun i => !([20,21,22,23,24,25,26].contains i)):=by decide
 refine wp_region_any (by kernel_rfl) ?_
 refine seqN (l:=(regionOf Tryz.f112 5)) 45 ((List.range 45).filter fun i => !([20,21,22,23,24,25,26].contains i)) [4,5,6,7] (fun j v=>(j=0→v = .agg #[.int .i64 kk,.string T,.int .i64 ai])∧(j=3→v = .pointer (some ⟨r,0,none⟩))∧(j=1→v = .pointer (some ⟨q3,1,none⟩))∧(j=2→v = .string T)) (stpart_r5 W r ts p d q6 X ai T) (by kernel_rfl) hN (by decide) (by rw [hl];decide) ?_ ?_ ?_ rfl ?_ ?_ ?_
 ·intro k hk
  have hk3:k=0∨k=1∨k=2:=by simp at hk;omega
  rcases hk3 with rfl | rfl | rfl
  ·show (preds ((regionOf Tryz.f112 5).getD 5 default)).contains 4=true
   kernel_rfl
  ·show (preds ((regionOf Tryz.f112 5).getD 6 default)).contains 5=true
   kernel_rfl
  ·show (preds ((regionOf Tryz.f112 5).getD 7 default)).contains 6=true
   kernel_rfl
 ·intro i o ho hd
  have hi:i<8:=by rw [←hl];exact (List.getElem?_eq_some_iff.1 ho).1
  have he:(regionOf Tryz.f112 5).getD i default=o:=by simp [List.getD,ho]
  rcases Nat.lt_or_ge i 7 with h | h
  ·have:=List.all_eq_true.1 hds i (List.mem_range.2 h)
   rw [he,hd] at this
   cases this
  ·obtain rfl:i=7:=by omega
   exact ⟨by decide,fun v=>⟨(fun h=>absurd h (by decide)),(fun h=>absurd h (by decide)),(fun h=>absurd h (by decide)),(fun h=>absurd h (by decide))⟩⟩
 ·intro n s s' w h hs
  have e1:s 4=s' 4:=h 0 (by decide) (by kernel_rfl)
  have e2:s 5=s' 5:=h 1 (by decide) (by kernel_rfl)
  have e3:s 6=s' 6:=h 2 (by decide) (by kernel_rfl)
  rcases n with _ | _ | _ | _ | n
  ·exact hs
  ·obtain ⟨t,q,g1,g2,g3,g4,g5⟩:=hs
   exact ⟨t,q,g1,g2,g3,g4,e1▸g5⟩
  ·obtain ⟨t,q,b,g1,g2,g3⟩:=hs
   exact ⟨t,q,b,g1,e2▸g2,g3⟩
  ·obtain ⟨t,q,b,g1,g2,g3⟩:=hs
   exact ⟨t,q,b,g1,e3▸g2,g3⟩
  ·exact hs
 ·intro i hi hni a w n s hd hsz hk hp hn hs
  rw [hl] at hi
  have hii:i=0∨i=1∨i=2∨i=3:=by simp at hni;omega
  have ke3:a.eval (.tmp 3) = .pointer (some ⟨q3,0,none⟩):=getD_of ((hk 3 hk3).trans h3)
  have ke0:a.eval (.tmp 0) = .pointer (some ⟨r,0,none⟩):=getD_of ((hk 0 hk0).trans h0)
  have cc:=bx hs
  rcases hii with rfl | rfl | rfl | rfl
  ·exact st_want (wnone rfl) (op_load ke3 (ld_Tok cc) ⟨_,rfl,rfl,⟨fun _=>rfl,(fun h=>absurd h (by decide)),(fun h=>absurd h (by decide)),(fun h=>absurd h (by decide))⟩⟩)
  ·exact st_want (wnone rfl) (op_fieldAddr ke3 (fa_tok q3 1 w (by omega)) ⟨_,rfl,rfl,⟨(fun h=>absurd h (by decide)),(fun h=>absurd h (by decide)),fun _=>rfl,(fun h=>absurd h (by decide))⟩⟩)
  ·have e1:a.eval (.tmp 21) = .pointer (some ⟨q3,1,none⟩):=(hp 1 (by kernel_rfl)).2.2.1 rfl
   exact st_want (wnone rfl) (op_load e1 (ld_str ((blk cc).2.1 1 _ rfl)) ⟨_,rfl,rfl,⟨(fun h=>absurd h (by decide)),(fun h=>absurd h (by decide)),(fun h=>absurd h (by decide)),fun _=>rfl⟩⟩)
  ·exact st_want (wnone rfl) (op_move ⟨_,rfl,rfl,⟨(fun h=>absurd h (by decide)),fun _=>ke0,(fun h=>absurd h (by decide)),(fun h=>absurd h (by decide))⟩⟩)
 ·intro k hk a w hd hsz hkp hp hs
  have hk4:k=0∨k=1∨k=2∨k=3:=by simp at hk;omega
  have ke2:a.tmps.getD 2 undef = .pointer (some ⟨q6,0,none⟩):=getD_of ((hkp 2 hk2).trans h2)
  rcases hk4 with rfl | rfl | rfl | rfl
  ·obtain rfl:w=W.drew:=hs
   have e1:a.tmps.getD 23 undef = .pointer (some ⟨r,0,none⟩):=(hp 3 (by kernel_rfl)).2.1 rfl
   refine st_want (wnone rfl) (op_callP enter_imp ?_)
   have hargs:(#[Operand.tmp 23]).map a.eval = #[.pointer (some ⟨r,0,none⟩)]:=by
    simp only [List.map_toArray,List.map_cons,List.map_nil,Act.eval]
    rw [e1]
   rw [hargs]
   refine hC.mono ?_
   intro e w' h'
   rcases hX:X with er | ⟨t,q⟩
   ·rw [hX] at h'
    obtain ⟨ei,en⟩:=er
    obtain ⟨hb,h'⟩:=h'
    obtain rfl:e=_:=h'
    exact .inr ⟨_,rfl,herr a w' ei en hX hd ((But.of ((Below.refl _ W).drew)).trans hb)⟩
   ·rw [hX] at h'
    obtain ⟨hb,hle,hR,v,rfl,hv⟩:=h'
    exact .inl ⟨v,rfl,v,rfl,(fun _=>⟨(fun h=>absurd h (by decide)),(fun h=>absurd h (by decide)),(fun h=>absurd h (by decide)),(fun h=>absurd h (by decide))⟩),t,q,(by first | rfl | exact hX),((But.of ((Below.refl _ W).drew)).trans hb),hR,hle,hv⟩
  ·obtain ⟨t,q,hX,hb,hR,hle,hv⟩:=hs
   have hv':IsE w W.heap.size (a.tmps.getD 24 undef) t:=hv
   obtain ⟨i0,i6,s1,s2,b3,a4,n4,c4,e1⟩:=hv'.form
   rw [e1] at hv'
   have hnode:=node (w:=w) (lo:=W.heap.size) (l:=[t]) (vs:=[[.int .i64 i0,.string s1,.string s2,.bool b3,.slice a4 n4 c4,.int .i64 0,.int .i64 i6]]) (cs:=#[.int .i64 i0,.string s1,.string s2,.bool b3,.slice a4 n4 c4,.int .i64 0,.int .i64 i6]) (ty:=36) 25 ai T ⟨#[]⟩ false rfl rfl (by simp) rfl (by simp) hb.size (fun j v t' hv ht=>by
    rcases j with _ | j
    ·obtain rfl:=Option.some.inj hv
     obtain rfl:=Option.some.inj ht
     exact hv'
    ·simp at hv)
   have hB:Below w.heap.size w (w.alloc (.cells #[.int .i64 i0,.string s1,.string s2,.bool b3,.slice a4 n4 c4,.int .i64 0,.int .i64 i6] 36)):=(Below.refl _ w).alloc (Nat.le_refl _) _
   exact st_want (wnone rfl) (op_bs1E e1 ⟨_,rfl,(fun _=>⟨(fun h=>absurd h (by decide)),(fun h=>absurd h (by decide)),(fun h=>absurd h (by decide)),(fun h=>absurd h (by decide))⟩),t,q,w.heap.size,hX,rfl,hb.trans (But.of hB),hR.keep hB,hle,hnode⟩)
  ·obtain ⟨t,q,b,hX,hsl,hb,hR,hle,hv⟩:=hs
   have e1:a.tmps.getD 20 undef = .agg #[.int .i64 kk,.string T,.int .i64 ai]:=(hp 0 (by kernel_rfl)).1 rfl
   have e2:a.tmps.getD 25 undef = .slice (some ⟨b,0,none⟩) 1 1:=hsl
   have e3:a.tmps.getD 22 undef = .string T:=(hp 2 (by kernel_rfl)).2.2.2 rfl
   refine st_want (wnone rfl) (op_call enter_named ?_)
   have hargs:(#[Operand.const (.int .i64 25),.tmp 20,.tmp 22,.tmp 25]).map a.eval = #[.int .i64 25,.agg #[.int .i64 kk,.string T,.int .i64 ai],.string T,.slice (some ⟨b,0,none⟩) 1 1]:=by
    simp only [List.map_toArray,List.map_cons,List.map_nil,Act.eval]
    rw [e1,e2,e3]
   rw [hargs]
   refine (named_any _ _ _ _ _ _ _ _ _).mono ?_
   rintro ex w' ⟨rfl,hbw⟩
   exact ⟨_,rfl,_,rfl,(fun _=>⟨(fun h=>absurd h (by decide)),(fun h=>absurd h (by decide)),(fun h=>absurd h (by decide)),(fun h=>absurd h (by decide))⟩),t,q,b,hX,rfl,hb.trans (But.of hbw),hR.keep hbw,hle,hv.keep (Stays.of hbw) (Nat.le_refl _)⟩
  ·obtain ⟨t,q,b,hX,hnd,hb,hR,hle,hv⟩:=hs
   have e2:a.tmps.getD 26 undef = .agg #[.int .i64 25,.string T,.string ⟨#[]⟩,.bool false,.slice (some ⟨b,0,none⟩) 1 1,.int .i64 0,.int .i64 ai]:=hnd
   have hz:ZB w q6:=(hb.block q6 (blk z6).1 (Ne.symm n2)).trans z6
   exact st_want (wnone rfl) (op_stE ke2 e2 hz ⟨undef,rfl,(fun h=>absurd (show false=true from h) (by decide)),t,q,b,w,hX,hb,hR,hle,hv,rfl⟩)
 ·intro a w hd hsz hk hp hs
  obtain ⟨t,q,b,W2,hX,hb,hR,hle,hv,rfl⟩:=hs
  exact hend a W2 t q b hX hd hk hb hR hle hv
def stpart_r7 (W:World) (r:Nat) (ts:List (Int×ByteArray×Int)) (p d q6:Nat) (X:(Except (Int×Int) (Ex×Nat))) (ai:Int) (T:ByteArray) (n:Nat) (s:Nat→Value) (w:World):Prop:=match n with
 |0=>w=W.drew
 |1=>∃ t q,X = .ok (t,q)∧But r W w∧RD w r ts q d∧p≤q∧IsE w W.heap.size (s 2) t
 |2=>∃ t q b,X = .ok (t,q)∧s 3 = .slice (some ⟨b,0,none⟩) 1 1∧But r W w∧RD w r ts q d∧p≤q∧IsE w W.heap.size (.agg #[.int .i64 26,.string ⟨#[]⟩,.string ⟨#[]⟩,.bool false,.slice (some ⟨b,0,none⟩) 1 1,.int .i64 0,.int .i64 ai]) (.mk 26 ⟨#[]⟩ ⟨#[]⟩ false [t] ai)
 |3=>∃ t q b,X = .ok (t,q)∧s 4 = .agg #[.int .i64 26,.string ⟨#[]⟩,.string ⟨#[]⟩,.bool false,.slice (some ⟨b,0,none⟩) 1 1,.int .i64 0,.int .i64 ai]∧But r W w∧RD w r ts q d∧p≤q∧IsE w W.heap.size (.agg #[.int .i64 26,.string ⟨#[]⟩,.string ⟨#[]⟩,.bool false,.slice (some ⟨b,0,none⟩) 1 1,.int .i64 0,.int .i64 ai]) (.mk 26 ⟨#[]⟩ ⟨#[]⟩ false [t] ai)
 |_=>∃ t q b W2,X = .ok (t,q)∧But r W W2∧RD W2 r ts q d∧p≤q∧IsE W2 W.heap.size (.agg #[.int .i64 26,.string ⟨#[]⟩,.string ⟨#[]⟩,.bool false,.slice (some ⟨b,0,none⟩) 1 1,.int .i64 0,.int .i64 ai]) (.mk 26 ⟨#[]⟩ ⟨#[]⟩ false [t] ai)∧w=set7 W2 q6 (.int .i64 26) (.string ⟨#[]⟩) (.string ⟨#[]⟩) (.bool false) (.slice (some ⟨b,0,none⟩) 1 1) (.int .i64 0) (.int .i64 ai)
theorem stpart_r7_at {W:World} {r p d q6:Nat} {ts:List (Int×ByteArray×Int)} {X:(Except (Int×Int) (Ex×Nat))} {ai:Int} {T:ByteArray} {n:Nat} {s:Nat→Value} {w:World} (h:stpart_r7 W r ts p d q6 X ai T n s w):∀ q,q<W.heap.size→q≠q6→r≠q→w.heap[q]?=W.heap[q]?:=by
 intro q3 hq hne hr
 rcases n with _ | _ | _ | _ | n
 ·obtain rfl:w=W.drew:=h
  rfl
 ·obtain ⟨t,q,-,hb,-⟩:=h
  exact hb.block q3 hq (Ne.symm hr)
 ·obtain ⟨t,q,b,-,-,hb,-⟩:=h
  exact hb.block q3 hq (Ne.symm hr)
 ·obtain ⟨t,q,b,-,-,hb,-⟩:=h
  exact hb.block q3 hq (Ne.symm hr)
 ·obtain ⟨t,q,b,W2,-,hb,-,-,-,rfl⟩:=h
  unfold set7
  rw [same7 hne]
  exact hb.block q3 hq (Ne.symm hr)
set_option maxRecDepth 100000 in
set_option maxHeartbeats 4000000 in
theorem part_r7 {Q:Exit→Act→World→Prop} {a0:Act} {W:World} {r p d q3 q6:Nat} {ts:List (Int×ByteArray×Int)} {X:(Except (Int×Int) (Ex×Nat))} {kk ai:Int} {T:ByteArray} (hN:a0.tmps.size=45) (h0:a0.tmps[0]?=some (.pointer (some ⟨r,0,none⟩))) (h2:a0.tmps[2]?=some (.pointer (some ⟨q6,0,none⟩))) (h3:a0.tmps[3]?=some (.pointer (some ⟨q3,0,none⟩)))
  (b3:W.heap[q3]?=some (.cells #[.int .i64 kk,.string T,.int .i64 ai] 74)) (z6:ZB W q6) (n1:r≠q3) (n2:r≠q6) (n3:q3≠q6) (hC:Calls Tryz.prog 115 #[.pointer (some ⟨r,0,none⟩)] W.drew (PE X r ts p d W.drew))
  (herr:∀ (a:Act) (w:World) (ei en:Int),X = .error (ei,en)→a.defers=a0.defers→But r W w→Q (.panic [{ v:=.iface 89 (.agg #[.int .i64 ei,.int .i64 en]),recovered:=false }]) a w)
  (hend:∀ (a:Act) (W2:World) (t:Ex) (q b:Nat),X = .ok (t,q)→a.defers=a0.defers→(∀ k,k∈((List.range 45).filter fun i => !([30,31,32,33,34].contains i))→a.tmps[k]?=a0.tmps[k]?)→But r W W2→RD W2 r ts q d→p≤q→IsE W2 W.heap.size (.agg #[.int .i64 26,.string ⟨#[]⟩,.string ⟨#[]⟩,.bool false,.slice (some ⟨b,0,none⟩) 1 1,.int .i64 0,.int .i64 ai]) (.mk 26 ⟨#[]⟩ ⟨#[]⟩ false [t] ai)→Q .normal a (set7 W2 q6 (.int .i64 26) (.string ⟨#[]⟩) (.string ⟨#[]⟩) (.bool false) (.slice (some ⟨b,0,none⟩) 1 1) (.int .i64 0) (.int .i64 ai))) :
  (Code.region 7 (regionOf Tryz.f112 7).toArray true).wp Tryz.prog Q a0 W:=by
 have hl:(regionOf Tryz.f112 7).length=6:=by kernel_rfl
 have hds:((List.range 5).all fun i=>((regionOf Tryz.f112 7).getD i default).dst.isSome)=true:=by kernel_rfl
 have bx:∀ {n:Nat} {s:Nat→Value} {w:World},stpart_r7 W r ts p d q6 X ai T n s w→w.heap[q3]?=some (.cells #[.int .i64 kk,.string T,.int .i64 ai] 74):=fun h=>(stpart_r7_at h q3 (blk b3).1 n3 n1).trans b3
 have hk3:3∈((List.range 45).filter fun i => !([30,31,32,33,34].contains i)):=by decide
 have hk2:2∈((List.range 45).filter fun i => !([30,31,32,33,34].contains i)):=by decide
 have hk0:0∈((List.range 45).filter fun i => !([30,31,32,33,34].contains i)):=by decide
 refine wp_region_any (by kernel_rfl) ?_
 refine seqN (l:=(regionOf Tryz.f112 7)) 45 ((List.range 45).filter fun i => !([30,31,32,33,34].contains i)) [2,3,4,5] (fun j v=>(j=0→v = .agg #[.int .i64 kk,.string T,.int .i64 ai])∧(j=1→v = .pointer (some ⟨r,0,none⟩))) (stpart_r7 W r ts p d q6 X ai T) (by kernel_rfl) hN (by decide) (by rw [hl];decide) ?_ ?_ ?_ rfl ?_ ?_ ?_
 ·intro k hk
  have hk3:k=0∨k=1∨k=2:=by simp at hk;omega
  rcases hk3 with rfl | rfl | rfl
  ·show (preds ((regionOf Tryz.f112 7).getD 3 default)).contains 2=true
   kernel_rfl
  ·show (preds ((regionOf Tryz.f112 7).getD 4 default)).contains 3=true
   kernel_rfl
  ·show (preds ((regionOf Tryz.f112 7).getD 5 default)).contains 4=true
   kernel_rfl
 ·intro i o ho hd
  have hi:i<6:=by rw [←hl];exact (List.getElem?_eq_some_iff.1 ho).1
  have he:(regionOf Tryz.f112 7).getD i default=o:=by simp [List.getD,ho]
  rcases Nat.lt_or_ge i 5 with h | h
  ·have:=List.all_eq_true.1 hds i (List.mem_range.2 h)
   rw [he,hd] at this
   cases this
  ·obtain rfl:i=5:=by omega
   exact ⟨by decide,fun v=>⟨(fun h=>absurd h (by decide)),(fun h=>absurd h (by decide))⟩⟩
 ·intro n s s' w h hs
  have e1:s 2=s' 2:=h 0 (by decide) (by kernel_rfl)
  have e2:s 3=s' 3:=h 1 (by decide) (by kernel_rfl)
  have e3:s 4=s' 4:=h 2 (by decide) (by kernel_rfl)
  rcases n with _ | _ | _ | _ | n
  ·exact hs
  ·obtain ⟨t,q,g1,g2,g3,g4,g5⟩:=hs
   exact ⟨t,q,g1,g2,g3,g4,e1▸g5⟩
  ·obtain ⟨t,q,b,g1,g2,g3⟩:=hs
   exact ⟨t,q,b,g1,e2▸g2,g3⟩
  ·obtain ⟨t,q,b,g1,g2,g3⟩:=hs
   exact ⟨t,q,b,g1,e3▸g2,g3⟩
  ·exact hs
 ·intro i hi hni a w n s hd hsz hk hp hn hs
  rw [hl] at hi
  have hii:i=0∨i=1:=by simp at hni;omega
  have ke3:a.eval (.tmp 3) = .pointer (some ⟨q3,0,none⟩):=getD_of ((hk 3 hk3).trans h3)
  have ke0:a.eval (.tmp 0) = .pointer (some ⟨r,0,none⟩):=getD_of ((hk 0 hk0).trans h0)
  have cc:=bx hs
  rcases hii with rfl | rfl
  ·exact st_want (wnone rfl) (op_load ke3 (ld_Tok cc) ⟨_,rfl,rfl,⟨fun _=>rfl,(fun h=>absurd h (by decide))⟩⟩)
  ·exact st_want (wnone rfl) (op_move ⟨_,rfl,rfl,⟨(fun h=>absurd h (by decide)),fun _=>ke0⟩⟩)
 ·intro k hk a w hd hsz hkp hp hs
  have hk4:k=0∨k=1∨k=2∨k=3:=by simp at hk;omega
  have ke2:a.tmps.getD 2 undef = .pointer (some ⟨q6,0,none⟩):=getD_of ((hkp 2 hk2).trans h2)
  rcases hk4 with rfl | rfl | rfl | rfl
  ·obtain rfl:w=W.drew:=hs
   have e1:a.tmps.getD 31 undef = .pointer (some ⟨r,0,none⟩):=(hp 1 (by kernel_rfl)).2 rfl
   refine st_want (wnone rfl) (op_callP enter_imp ?_)
   have hargs:(#[Operand.tmp 31]).map a.eval = #[.pointer (some ⟨r,0,none⟩)]:=by
    simp only [List.map_toArray,List.map_cons,List.map_nil,Act.eval]
    rw [e1]
   rw [hargs]
   refine hC.mono ?_
   intro e w' h'
   rcases hX:X with er | ⟨t,q⟩
   ·rw [hX] at h'
    obtain ⟨ei,en⟩:=er
    obtain ⟨hb,h'⟩:=h'
    obtain rfl:e=_:=h'
    exact .inr ⟨_,rfl,herr a w' ei en hX hd ((But.of ((Below.refl _ W).drew)).trans hb)⟩
   ·rw [hX] at h'
    obtain ⟨hb,hle,hR,v,rfl,hv⟩:=h'
    exact .inl ⟨v,rfl,v,rfl,(fun _=>⟨(fun h=>absurd h (by decide)),(fun h=>absurd h (by decide))⟩),t,q,(by first | rfl | exact hX),((But.of ((Below.refl _ W).drew)).trans hb),hR,hle,hv⟩
  ·obtain ⟨t,q,hX,hb,hR,hle,hv⟩:=hs
   have hv':IsE w W.heap.size (a.tmps.getD 32 undef) t:=hv
   obtain ⟨i0,i6,s1,s2,b3,a4,n4,c4,e1⟩:=hv'.form
   rw [e1] at hv'
   have hnode:=node (w:=w) (lo:=W.heap.size) (l:=[t]) (vs:=[[.int .i64 i0,.string s1,.string s2,.bool b3,.slice a4 n4 c4,.int .i64 0,.int .i64 i6]]) (cs:=#[.int .i64 i0,.string s1,.string s2,.bool b3,.slice a4 n4 c4,.int .i64 0,.int .i64 i6]) (ty:=36) 26 ai ⟨#[]⟩ ⟨#[]⟩ false rfl rfl (by simp) rfl (by simp) hb.size (fun j v t' hv ht=>by
    rcases j with _ | j
    ·obtain rfl:=Option.some.inj hv
     obtain rfl:=Option.some.inj ht
     exact hv'
    ·simp at hv)
   have hB:Below w.heap.size w (w.alloc (.cells #[.int .i64 i0,.string s1,.string s2,.bool b3,.slice a4 n4 c4,.int .i64 0,.int .i64 i6] 36)):=(Below.refl _ w).alloc (Nat.le_refl _) _
   exact st_want (wnone rfl) (op_bs1E e1 ⟨_,rfl,(fun _=>⟨(fun h=>absurd h (by decide)),(fun h=>absurd h (by decide))⟩),t,q,w.heap.size,hX,rfl,hb.trans (But.of hB),hR.keep hB,hle,hnode⟩)
  ·obtain ⟨t,q,b,hX,hsl,hb,hR,hle,hv⟩:=hs
   have e1:a.tmps.getD 30 undef = .agg #[.int .i64 kk,.string T,.int .i64 ai]:=(hp 0 (by kernel_rfl)).1 rfl
   have e2:a.tmps.getD 33 undef = .slice (some ⟨b,0,none⟩) 1 1:=hsl
   refine st_want (wnone rfl) (op_call enter_made ?_)
   have hargs:(#[Operand.const (.int .i64 26),.tmp 30,.tmp 33]).map a.eval = #[.int .i64 26,.agg #[.int .i64 kk,.string T,.int .i64 ai],.slice (some ⟨b,0,none⟩) 1 1]:=by
    simp only [List.map_toArray,List.map_cons,List.map_nil,Act.eval]
    rw [e1,e2]
   rw [hargs]
   refine (made_any _ _ _ _ _ _ _ _).mono ?_
   rintro ex w' ⟨rfl,hbw⟩
   exact ⟨_,rfl,_,rfl,(fun _=>⟨(fun h=>absurd h (by decide)),(fun h=>absurd h (by decide))⟩),t,q,b,hX,rfl,hb.trans (But.of hbw),hR.keep hbw,hle,hv.keep (Stays.of hbw) (Nat.le_refl _)⟩
  ·obtain ⟨t,q,b,hX,hnd,hb,hR,hle,hv⟩:=hs
   have e2:a.tmps.getD 34 undef = .agg #[.int .i64 26,.string ⟨#[]⟩,.string ⟨#[]⟩,.bool false,.slice (some ⟨b,0,none⟩) 1 1,.int .i64 0,.int .i64 ai]:=hnd
   have hz:ZB w q6:=(hb.block q6 (blk z6).1 (Ne.symm n2)).trans z6
   exact st_want (wnone rfl) (op_stE ke2 e2 hz ⟨undef,rfl,(fun h=>absurd (show false=true from h) (by decide)),t,q,b,w,hX,hb,hR,hle,hv,rfl⟩)
 ·intro a w hd hsz hk hp hs
  obtain ⟨t,q,b,W2,hX,hb,hR,hle,hv,rfl⟩:=hs
  exact hend a W2 t q b hX hd hk hb hR hle hv
def stpart_r9 (W:World) (r:Nat) (ts:List (Int×ByteArray×Int)) (p d q6:Nat) (X:(Except (Int×Int) (Ex×Nat))) (ai:Int) (T:ByteArray) (n:Nat) (s:Nat→Value) (w:World):Prop:=match n with
 |0=>w=W.drew
 |1=>∃ t q,X = .ok (t,q)∧But r W w∧RD w r ts q d∧p≤q∧IsE w W.heap.size (s 2) t
 |2=>∃ t q b,X = .ok (t,q)∧s 3 = .slice (some ⟨b,0,none⟩) 1 1∧But r W w∧RD w r ts q d∧p≤q∧IsE w W.heap.size (.agg #[.int .i64 28,.string ⟨#[]⟩,.string ⟨#[]⟩,.bool false,.slice (some ⟨b,0,none⟩) 1 1,.int .i64 0,.int .i64 ai]) (.mk 28 ⟨#[]⟩ ⟨#[]⟩ false [t] ai)
 |3=>∃ t q b,X = .ok (t,q)∧s 4 = .agg #[.int .i64 28,.string ⟨#[]⟩,.string ⟨#[]⟩,.bool false,.slice (some ⟨b,0,none⟩) 1 1,.int .i64 0,.int .i64 ai]∧But r W w∧RD w r ts q d∧p≤q∧IsE w W.heap.size (.agg #[.int .i64 28,.string ⟨#[]⟩,.string ⟨#[]⟩,.bool false,.slice (some ⟨b,0,none⟩) 1 1,.int .i64 0,.int .i64 ai]) (.mk 28 ⟨#[]⟩ ⟨#[]⟩ false [t] ai)
 |_=>∃ t q b W2,X = .ok (t,q)∧But r W W2∧RD W2 r ts q d∧p≤q∧IsE W2 W.heap.size (.agg #[.int .i64 28,.string ⟨#[]⟩,.string ⟨#[]⟩,.bool false,.slice (some ⟨b,0,none⟩) 1 1,.int .i64 0,.int .i64 ai]) (.mk 28 ⟨#[]⟩ ⟨#[]⟩ false [t] ai)∧w=set7 W2 q6 (.int .i64 28) (.string ⟨#[]⟩) (.string ⟨#[]⟩) (.bool false) (.slice (some ⟨b,0,none⟩) 1 1) (.int .i64 0) (.int .i64 ai)
theorem stpart_r9_at {W:World} {r p d q6:Nat} {ts:List (Int×ByteArray×Int)} {X:(Except (Int×Int) (Ex×Nat))} {ai:Int} {T:ByteArray} {n:Nat} {s:Nat→Value} {w:World} (h:stpart_r9 W r ts p d q6 X ai T n s w):∀ q,q<W.heap.size→q≠q6→r≠q→w.heap[q]?=W.heap[q]?:=by
 intro q3 hq hne hr
 rcases n with _ | _ | _ | _ | n
 ·obtain rfl:w=W.drew:=h
  rfl
 ·obtain ⟨t,q,-,hb,-⟩:=h
  exact hb.block q3 hq (Ne.symm hr)
 ·obtain ⟨t,q,b,-,-,hb,-⟩:=h
  exact hb.block q3 hq (Ne.symm hr)
 ·obtain ⟨t,q,b,-,-,hb,-⟩:=h
  exact hb.block q3 hq (Ne.symm hr)
 ·obtain ⟨t,q,b,W2,-,hb,-,-,-,rfl⟩:=h
  unfold set7
  rw [same7 hne]
  exact hb.block q3 hq (Ne.symm hr)
set_option maxRecDepth 100000 in
set_option maxHeartbeats 4000000 in
theorem part_r9 {Q:Exit→Act→World→Prop} {a0:Act} {W:World} {r p d q3 q6:Nat} {ts:List (Int×ByteArray×Int)} {X:(Except (Int×Int) (Ex×Nat))} {kk ai:Int} {T:ByteArray} (hN:a0.tmps.size=45) (h0:a0.tmps[0]?=some (.pointer (some ⟨r,0,none⟩))) (h2:a0.tmps[2]?=some (.pointer (some ⟨q6,0,none⟩))) (h3:a0.tmps[3]?=some (.pointer (some ⟨q3,0,none⟩)))
  (b3:W.heap[q3]?=some (.cells #[.int .i64 kk,.string T,.int .i64 ai] 74)) (z6:ZB W q6) (n1:r≠q3) (n2:r≠q6) (n3:q3≠q6) (hC:Calls Tryz.prog 115 #[.pointer (some ⟨r,0,none⟩)] W.drew (PE X r ts p d W.drew))
  (herr:∀ (a:Act) (w:World) (ei en:Int),X = .error (ei,en)→a.defers=a0.defers→But r W w→Q (.panic [{ v:=.iface 89 (.agg #[.int .i64 ei,.int .i64 en]),recovered:=false }]) a w)
  (hend:∀ (a:Act) (W2:World) (t:Ex) (q b:Nat),X = .ok (t,q)→a.defers=a0.defers→(∀ k,k∈((List.range 45).filter fun i => !([38,39,40,41,42].contains i))→a.tmps[k]?=a0.tmps[k]?)→But r W W2→RD W2 r ts q d→p≤q→IsE W2 W.heap.size (.agg #[.int .i64 28,.string ⟨#[]⟩,.string ⟨#[]⟩,.bool false,.slice (some ⟨b,0,none⟩) 1 1,.int .i64 0,.int .i64 ai]) (.mk 28 ⟨#[]⟩ ⟨#[]⟩ false [t] ai)→Q .normal a (set7 W2 q6 (.int .i64 28) (.string ⟨#[]⟩) (.string ⟨#[]⟩) (.bool false) (.slice (some ⟨b,0,none⟩) 1 1) (.int .i64 0) (.int .i64 ai))) :
  (Code.region 9 (regionOf Tryz.f112 9).toArray true).wp Tryz.prog Q a0 W:=by
 have hl:(regionOf Tryz.f112 9).length=6:=by kernel_rfl
 have hds:((List.range 5).all fun i=>((regionOf Tryz.f112 9).getD i default).dst.isSome)=true:=by kernel_rfl
 have bx:∀ {n:Nat} {s:Nat→Value} {w:World},stpart_r9 W r ts p d q6 X ai T n s w→w.heap[q3]?=some (.cells #[.int .i64 kk,.string T,.int .i64 ai] 74):=fun h=>(stpart_r9_at h q3 (blk b3).1 n3 n1).trans b3
 have hk3:3∈((List.range 45).filter fun i => !([38,39,40,41,42].contains i)):=by decide
 have hk2:2∈((List.range 45).filter fun i => !([38,39,40,41,42].contains i)):=by decide
 have hk0:0∈((List.range 45).filter fun i => !([38,39,40,41,42].contains i)):=by decide
 refine wp_region_any (by kernel_rfl) ?_
 refine seqN (l:=(regionOf Tryz.f112 9)) 45 ((List.range 45).filter fun i => !([38,39,40,41,42].contains i)) [2,3,4,5] (fun j v=>(j=0→v = .agg #[.int .i64 kk,.string T,.int .i64 ai])∧(j=1→v = .pointer (some ⟨r,0,none⟩))) (stpart_r9 W r ts p d q6 X ai T) (by kernel_rfl) hN (by decide) (by rw [hl];decide) ?_ ?_ ?_ rfl ?_ ?_ ?_
 ·intro k hk
  have hk3:k=0∨k=1∨k=2:=by simp at hk;omega
  rcases hk3 with rfl | rfl | rfl
  ·show (preds ((regionOf Tryz.f112 9).getD 3 default)).contains 2=true
   kernel_rfl
  ·show (preds ((regionOf Tryz.f112 9).getD 4 default)).contains 3=true
   kernel_rfl
  ·show (preds ((regionOf Tryz.f112 9).getD 5 default)).contains 4=true
   kernel_rfl
 ·intro i o ho hd
  have hi:i<6:=by rw [←hl];exact (List.getElem?_eq_some_iff.1 ho).1
  have he:(regionOf Tryz.f112 9).getD i default=o:=by simp [List.getD,ho]
  rcases Nat.lt_or_ge i 5 with h | h
  ·have:=List.all_eq_true.1 hds i (List.mem_range.2 h)
   rw [he,hd] at this
   cases this
  ·obtain rfl:i=5:=by omega
   exact ⟨by decide,fun v=>⟨(fun h=>absurd h (by decide)),(fun h=>absurd h (by decide))⟩⟩
 ·intro n s s' w h hs
  have e1:s 2=s' 2:=h 0 (by decide) (by kernel_rfl)
  have e2:s 3=s' 3:=h 1 (by decide) (by kernel_rfl)
  have e3:s 4=s' 4:=h 2 (by decide) (by kernel_rfl)
  rcases n with _ | _ | _ | _ | n
  ·exact hs
  ·obtain ⟨t,q,g1,g2,g3,g4,g5⟩:=hs
   exact ⟨t,q,g1,g2,g3,g4,e1▸g5⟩
  ·obtain ⟨t,q,b,g1,g2,g3⟩:=hs
   exact ⟨t,q,b,g1,e2▸g2,g3⟩
  ·obtain ⟨t,q,b,g1,g2,g3⟩:=hs
   exact ⟨t,q,b,g1,e3▸g2,g3⟩
  ·exact hs
 ·intro i hi hni a w n s hd hsz hk hp hn hs
  rw [hl] at hi
  have hii:i=0∨i=1:=by simp at hni;omega
  have ke3:a.eval (.tmp 3) = .pointer (some ⟨q3,0,none⟩):=getD_of ((hk 3 hk3).trans h3)
  have ke0:a.eval (.tmp 0) = .pointer (some ⟨r,0,none⟩):=getD_of ((hk 0 hk0).trans h0)
  have cc:=bx hs
  rcases hii with rfl | rfl
  ·exact st_want (wnone rfl) (op_load ke3 (ld_Tok cc) ⟨_,rfl,rfl,⟨fun _=>rfl,(fun h=>absurd h (by decide))⟩⟩)
  ·exact st_want (wnone rfl) (op_move ⟨_,rfl,rfl,⟨(fun h=>absurd h (by decide)),fun _=>ke0⟩⟩)
 ·intro k hk a w hd hsz hkp hp hs
  have hk4:k=0∨k=1∨k=2∨k=3:=by simp at hk;omega
  have ke2:a.tmps.getD 2 undef = .pointer (some ⟨q6,0,none⟩):=getD_of ((hkp 2 hk2).trans h2)
  rcases hk4 with rfl | rfl | rfl | rfl
  ·obtain rfl:w=W.drew:=hs
   have e1:a.tmps.getD 39 undef = .pointer (some ⟨r,0,none⟩):=(hp 1 (by kernel_rfl)).2 rfl
   refine st_want (wnone rfl) (op_callP enter_imp ?_)
   have hargs:(#[Operand.tmp 39]).map a.eval = #[.pointer (some ⟨r,0,none⟩)]:=by
    simp only [List.map_toArray,List.map_cons,List.map_nil,Act.eval]
    rw [e1]
   rw [hargs]
   refine hC.mono ?_
   intro e w' h'
   rcases hX:X with er | ⟨t,q⟩
   ·rw [hX] at h'
    obtain ⟨ei,en⟩:=er
    obtain ⟨hb,h'⟩:=h'
    obtain rfl:e=_:=h'
    exact .inr ⟨_,rfl,herr a w' ei en hX hd ((But.of ((Below.refl _ W).drew)).trans hb)⟩
   ·rw [hX] at h'
    obtain ⟨hb,hle,hR,v,rfl,hv⟩:=h'
    exact .inl ⟨v,rfl,v,rfl,(fun _=>⟨(fun h=>absurd h (by decide)),(fun h=>absurd h (by decide))⟩),t,q,(by first | rfl | exact hX),((But.of ((Below.refl _ W).drew)).trans hb),hR,hle,hv⟩
  ·obtain ⟨t,q,hX,hb,hR,hle,hv⟩:=hs
   have hv':IsE w W.heap.size (a.tmps.getD 40 undef) t:=hv
   obtain ⟨i0,i6,s1,s2,b3,a4,n4,c4,e1⟩:=hv'.form
   rw [e1] at hv'
   have hnode:=node (w:=w) (lo:=W.heap.size) (l:=[t]) (vs:=[[.int .i64 i0,.string s1,.string s2,.bool b3,.slice a4 n4 c4,.int .i64 0,.int .i64 i6]]) (cs:=#[.int .i64 i0,.string s1,.string s2,.bool b3,.slice a4 n4 c4,.int .i64 0,.int .i64 i6]) (ty:=36) 28 ai ⟨#[]⟩ ⟨#[]⟩ false rfl rfl (by simp) rfl (by simp) hb.size (fun j v t' hv ht=>by
    rcases j with _ | j
    ·obtain rfl:=Option.some.inj hv
     obtain rfl:=Option.some.inj ht
     exact hv'
    ·simp at hv)
   have hB:Below w.heap.size w (w.alloc (.cells #[.int .i64 i0,.string s1,.string s2,.bool b3,.slice a4 n4 c4,.int .i64 0,.int .i64 i6] 36)):=(Below.refl _ w).alloc (Nat.le_refl _) _
   exact st_want (wnone rfl) (op_bs1E e1 ⟨_,rfl,(fun _=>⟨(fun h=>absurd h (by decide)),(fun h=>absurd h (by decide))⟩),t,q,w.heap.size,hX,rfl,hb.trans (But.of hB),hR.keep hB,hle,hnode⟩)
  ·obtain ⟨t,q,b,hX,hsl,hb,hR,hle,hv⟩:=hs
   have e1:a.tmps.getD 38 undef = .agg #[.int .i64 kk,.string T,.int .i64 ai]:=(hp 0 (by kernel_rfl)).1 rfl
   have e2:a.tmps.getD 41 undef = .slice (some ⟨b,0,none⟩) 1 1:=hsl
   refine st_want (wnone rfl) (op_call enter_made ?_)
   have hargs:(#[Operand.const (.int .i64 28),.tmp 38,.tmp 41]).map a.eval = #[.int .i64 28,.agg #[.int .i64 kk,.string T,.int .i64 ai],.slice (some ⟨b,0,none⟩) 1 1]:=by
    simp only [List.map_toArray,List.map_cons,List.map_nil,Act.eval]
    rw [e1,e2]
   rw [hargs]
   refine (made_any _ _ _ _ _ _ _ _).mono ?_
   rintro ex w' ⟨rfl,hbw⟩
   exact ⟨_,rfl,_,rfl,(fun _=>⟨(fun h=>absurd h (by decide)),(fun h=>absurd h (by decide))⟩),t,q,b,hX,rfl,hb.trans (But.of hbw),hR.keep hbw,hle,hv.keep (Stays.of hbw) (Nat.le_refl _)⟩
  ·obtain ⟨t,q,b,hX,hnd,hb,hR,hle,hv⟩:=hs
   have e2:a.tmps.getD 42 undef = .agg #[.int .i64 28,.string ⟨#[]⟩,.string ⟨#[]⟩,.bool false,.slice (some ⟨b,0,none⟩) 1 1,.int .i64 0,.int .i64 ai]:=hnd
   have hz:ZB w q6:=(hb.block q6 (blk z6).1 (Ne.symm n2)).trans z6
   exact st_want (wnone rfl) (op_stE ke2 e2 hz ⟨undef,rfl,(fun h=>absurd (show false=true from h) (by decide)),t,q,b,w,hX,hb,hR,hle,hv,rfl⟩)
 ·intro a w hd hsz hk hp hs
  obtain ⟨t,q,b,W2,hX,hb,hR,hle,hv,rfl⟩:=hs
  exact hend a W2 t q b hX hd hk hb hR hle hv
set_option maxRecDepth 100000 in
set_option maxHeartbeats 8000000 in
theorem part_of {r d lo:Nat} {ts:List (Int×ByteArray×Int)} {g:Ru→Nat→Nat→(Except (Int×Int) (Ex×Nat))} (hT:TsOk ts) (hI:RuC 115 r ts d lo (impR ts g d)) {w:World} {p:Nat} (hlo:lo≤p) (hR:RD w r ts p d):Calls Tryz.prog 112 #[.pointer (some ⟨r,0,none⟩)] w (PE (partR ts g d p) r ts p d w):=by
 obtain ⟨Y,hY⟩:∃ Y,partR ts g d p=Y:=⟨_,rfl⟩
 rw [hY]
 unfold partR at hY
 have hr:=hR.rlt
 obtain ⟨A,eA,hbA,hzA,hsA⟩:=zb_new w
 have HB:=gh (But.of (r:=r) hbA)
 have HR:=gh (hR.keep hbA)
 have HZ:=gh hzA
 have HS:Hid (w.heap.size<A.heap.size):=by show _<_;omega
 have HL:Hid (p≤p∧lo≤p):=⟨Nat.le_refl _,hlo⟩
 have HE:=gh eA
 have HT:=gh hT
 have HY:=gh hY
 have hrne:r≠w.heap.size:=by omega
 have hmf:∀ (fn:Fn) (first cap:Array Value) (w:World),(Instr.makeFunc fn first cap).run Tryz.prog w = .ok (.func fn first cap) w:=fun _ _ _ _=>rfl
 replace hI:=gh hI
 clear hlo hR hbA hzA hsA eA hT hY
 go_enter Tryz.func112,Tryz.ntmps112
 have HC0:=gh (next_any (gf HR) (gf HT))
 unfold tkV at HC0
 obtain ⟨⟨kk0,T0,at0⟩,hN0⟩:∃ X,nx ts p=X:=⟨_,rfl⟩
 rw [hN0] at HC0
 have HN0:=gh hN0
 clear hN0
 go_wp2_with fail
 rw [gf HE]
 refine (gf HC0).mono ?_
 rintro e w0 ⟨rfl,hb0⟩
 have hbu1:=But.of (r:=r) hb0
 replace HR:=gh ((gf HR).keep hb0)
 replace HB:=gh ((gf HB).trans hbu1)
 replace HZ:=gh ((gf HZ).but hbu1 hrne)
 replace HS:=gh (Nat.lt_of_lt_of_le (gf HS) hbu1.size)
 clear hb0 HC0
 obtain ⟨B2,eB2,hbB2,hsB2,hhB2⟩:=box_new w0 #[.int .i64 kk0,.string T0,.int .i64 at0] 74
 have ne2:r≠w0.heap.size:=by have:=gf HS;omega
 have HQHX2:=HS
 have hbu3:=But.of (r:=r) hbB2
 replace HR:=gh ((gf HR).keep hbB2)
 replace HB:=gh ((gf HB).trans hbu3)
 replace HZ:=gh ((gf HZ).but hbu3 hrne)
 replace HS:=gh (Nat.lt_of_lt_of_le (gf HS) hbu3.size)
 have HX2:=gh hhB2
 have HEB2:=gh eB2
 have HSB2:=gh hsB2
 clear eB2 hbB2 hhB2 hsB2
 have u02:=(blk (gf HX2)).2.1 0 _ rfl
 have u12:=(blk (gf HX2)).2.1 1 _ rfl
 have u22:=(blk (gf HX2)).2.1 2 _ rfl
 rw [←gf HEB2] at u02 u12 u22
 by_cases hk1:kk0=1
 ·subst hk1
  have hp1:p+1<ts.length:=nx_kind (gf HT) (gf HR).lt (by rw [gf HN0];exact (by decide:(1:Int)≠0))
  have HC4:=gh (behind_any (gf HR) (gf HT) hp1)
  replace hp1:=gh hp1
  unfold tkV at HC4
  obtain ⟨⟨ku4,U4,au4⟩,hN4⟩:∃ X,nx ts (p+1)=X:=⟨_,rfl⟩
  rw [hN4] at HC4
  have hu4:txt ts (p+1)=U4:=by unfold txt;rw [hN4]
  replace hu4:=gh hu4
  have HNb4:=gh hN4
  have hfb4:=fld1 (.int .i64 ku4) (.string U4) (.int .i64 au4)
  clear hN4
  go_wp2_with fail
  rw [gf HEB2]
  refine (gf HC4).mono ?_
  rintro e w4 ⟨rfl,hb4⟩
  have hbu5:=But.of (r:=r) hb4
  replace HR:=gh ((gf HR).keep hb4)
  replace HB:=gh ((gf HB).trans hbu5)
  replace HZ:=gh ((gf HZ).but hbu5 hrne)
  replace HX2:=gh ((hbu5.block _ (blk (gf HX2)).1 (Ne.symm ne2)).trans (gf HX2))
  replace HS:=gh (Nat.lt_of_lt_of_le (gf HS) hbu5.size)
  clear hb4 HC4
  by_cases hT4:U4=⟨#[58,61]⟩
  ·have e4:(U4.toList == [58,61])=true:=(eqb U4 ⟨#[58,61]⟩ [58,61] rfl).mp hT4
   have hub:txt ts (p+1)=⟨#[58,61]⟩:=(gf hu4).trans hT4
   replace hub:=gh hub
   clear hT4
   have hY6:=gf HY
   rw [if_pos ⟨by rw [gf HN0],gf hub⟩] at hY6
   replace HY:=gh hY6
   clear hY6
   have HC7:=gh (take_any (gf HR) (gf HT) (gf hp1))
   unfold tkV at HC7
   obtain ⟨⟨kk7,T7,at7⟩,hN7⟩:∃ X,nx ts p=X:=⟨_,rfl⟩
   rw [hN7] at HC7
   have HN7:=gh hN7
   clear hN7
   go_wp2_with fail
   refine (gf HC7).mono ?_
   rintro e w7 ⟨rfl,hb7,hR7⟩
   replace HB:=gh ((gf HB).trans hb7)
   replace HZ:=gh ((gf HZ).but hb7 hrne)
   replace HX2:=gh ((hb7.block _ (blk (gf HX2)).1 (Ne.symm ne2)).trans (gf HX2))
   replace HS:=gh (Nat.lt_of_lt_of_le (gf HS) hb7.size)
   replace HR:=gh hR7
   replace HL:Hid (p≤p+1∧lo+1≤p+1):=And.intro (Nat.le_succ_of_le (gf HL).1) (Nat.succ_le_succ (gf HL).2)
   clear hb7 hR7 HC7
   have HC8:=gh (must_any (gf HR) (gf HT) (s:=⟨#[58,61]⟩) (by decide))
   have hm8:mustR ts ⟨#[58,61]⟩ (p+1) = .ok ((),p+1+1):=by unfold mustR sees;rw [gf hub];rfl
   rw [hm8] at HC8
   clear hm8
   go_wp2_with fail
   refine (gf HC8).mono ?_
   rintro e w8 ⟨hb8,hle8,hR8,v8,rfl,hv8⟩
   obtain rfl:v8=_:=hv8
   replace HB:=gh ((gf HB).trans hb8)
   replace HZ:=gh ((gf HZ).but hb8 hrne)
   replace HX2:=gh ((hb8.block _ (blk (gf HX2)).1 (Ne.symm ne2)).trans (gf HX2))
   replace HS:=gh (Nat.lt_of_lt_of_le (gf HS) hb8.size)
   replace HR:=gh hR8
   replace HL:=gh (And.intro (Nat.le_trans (gf HL).1 hle8) (Nat.le_trans (gf HL).2 hle8))
   clear hb8 hle8 hR8 HC8
   have HC9:=gh (gf hI w8.drew (p+1+1) (Nat.le_of_succ_le (gf HL).2) ((gf HR).keep ((Below.refl _ w8).drew)))
   go_wp2_with fail
   have n39:w0.heap.size≠w.heap.size:=by have:=gf HQHX2;omega
   refine part_r5 (X:=impR ts g d (p+1+1)) rfl rfl rfl rfl (gf HX2) (gf HZ) ne2 hrne n39 (gf HC9) ?_ ?_
   ·intro a w9 ei en hX hd hb
    have hYe:Y = .error (ei,en):=by have h:=gf HY;rw [hX] at h;exact h.symm
    subst hYe
    exact ⟨hd,(gf HB).trans hb,rfl⟩
   ·intro a W2 t q b hX hd hk hb hR hle hv
    have hY9:=gf HY
    rw [hX] at hY9
    simp only [thenR,txt] at hY9
    rw [gf HN0] at hY9
    have HF:=gh (And.intro hd (And.intro ((hk 2 (by decide)).trans rfl) (And.intro ((gf HB).trans hb) (And.intro ((gf HZ).but hb hrne) (And.intro hR (And.intro (Nat.le_trans (gf HL).1 hle) (And.intro hY9 hv)))))))
    clear hd hk hb hR hle hY9 hX hv
    go_wp2
    obtain ⟨hd,h2,hb,hz,hR,hle,hY9,hv⟩:=gf HF
    exact ret_put rfl h2 hd hb hr hz hY9.symm hle hR (gf HS) hv
  ·have e4:(U4.toList == [58,61])=false:=by have h:=hT4;rw [eqb U4 ⟨#[58,61]⟩ [58,61] rfl] at h;simpa using h
   have hub:¬ txt ts (p+1)=⟨#[58,61]⟩:=fun h=>hT4 ((gf hu4).symm.trans h)
   replace hub:=gh hub
   clear hT4
   have hY10:=gf HY
   rw [if_neg (fun h=>gf hub h.2)] at hY10
   replace HY:=gh hY10
   clear hY10
   have HC11:=gh (takeIf_any (gf HR) (gf HT) (s:=⟨#[114,97,105,115,101]⟩) (by decide))
   obtain ⟨bo11,hbo11⟩:∃ b,sees ts (p) ⟨#[114,97,105,115,101]⟩=b:=⟨_,rfl⟩
   rw [hbo11] at HC11
   have hY11:=gf HY
   rw [hbo11] at hY11
   replace HY:=gh hY11
   have HO11:=gh hbo11
   clear hY11 hbo11
   go_wp2_with fail
   refine (gf HC11).mono ?_
   rintro e w11 ⟨rfl,hb11,hR11⟩
   replace HB:=gh ((gf HB).trans hb11)
   replace HZ:=gh ((gf HZ).but hb11 hrne)
   replace HX2:=gh ((hb11.block _ (blk (gf HX2)).1 (Ne.symm ne2)).trans (gf HX2))
   replace HS:=gh (Nat.lt_of_lt_of_le (gf HS) hb11.size)
   replace HR:=gh hR11
   clear hb11 hR11 HC11
   rcases bo11 with _ | _
   rotate_left
   ·have hY11:=gf HY
    simp only [if_true] at hY11
    replace HY:=gh hY11
    have hRR:=gf HR
    rw [if_pos rfl] at hRR
    replace HR:=gh hRR
    clear hY11 hRR
    replace HL:Hid (p≤p+1∧lo+1≤p+1):=And.intro (Nat.le_succ_of_le (gf HL).1) (Nat.succ_le_succ (gf HL).2)
    have HC12:=gh (gf hI w11.drew (p+1) (Nat.le_of_succ_le (gf HL).2) ((gf HR).keep ((Below.refl _ w11).drew)))
    go_wp2_with fail
    have n312:w0.heap.size≠w.heap.size:=by have:=gf HQHX2;omega
    refine part_r7 (X:=impR ts g d (p+1)) rfl rfl rfl rfl (gf HX2) (gf HZ) ne2 hrne n312 (gf HC12) ?_ ?_
    ·intro a w9 ei en hX hd hb
     have hYe:Y = .error (ei,en):=by have h:=gf HY;rw [hX] at h;exact h.symm
     subst hYe
     exact ⟨hd,(gf HB).trans hb,rfl⟩
    ·intro a W2 t q b hX hd hk hb hR hle hv
     have hY9:=gf HY
     rw [hX] at hY9
     simp only [thenR,txt] at hY9
     rw [gf HN0] at hY9
     have HF:=gh (And.intro hd (And.intro ((hk 2 (by decide)).trans rfl) (And.intro ((gf HB).trans hb) (And.intro ((gf HZ).but hb hrne) (And.intro hR (And.intro (Nat.le_trans (gf HL).1 hle) (And.intro hY9 hv)))))))
     clear hd hk hb hR hle hY9 hX hv
     go_wp2
     obtain ⟨hd,h2,hb,hz,hR,hle,hY9,hv⟩:=gf HF
     exact ret_put rfl h2 hd hb hr hz hY9.symm hle hR (gf HS) hv
   have hY11:=gf HY
   simp only [Bool.false_eq_true,if_false] at hY11
   replace HY:=gh hY11
   have hRR:=gf HR
   rw [if_neg Bool.false_ne_true] at hRR
   replace HR:=gh hRR
   clear hY11 hRR
   have HC13:=gh (takeIf_any (gf HR) (gf HT) (s:=⟨#[97,115,115,101,114,116]⟩) (by decide))
   obtain ⟨bo13,hbo13⟩:∃ b,sees ts (p) ⟨#[97,115,115,101,114,116]⟩=b:=⟨_,rfl⟩
   rw [hbo13] at HC13
   have hY13:=gf HY
   rw [hbo13] at hY13
   replace HY:=gh hY13
   have HO13:=gh hbo13
   clear hY13 hbo13
   go_wp2_with fail
   refine (gf HC13).mono ?_
   rintro e w13 ⟨rfl,hb13,hR13⟩
   replace HB:=gh ((gf HB).trans hb13)
   replace HZ:=gh ((gf HZ).but hb13 hrne)
   replace HX2:=gh ((hb13.block _ (blk (gf HX2)).1 (Ne.symm ne2)).trans (gf HX2))
   replace HS:=gh (Nat.lt_of_lt_of_le (gf HS) hb13.size)
   replace HR:=gh hR13
   clear hb13 hR13 HC13
   rcases bo13 with _ | _
   rotate_left
   ·have hY13:=gf HY
    simp only [if_true] at hY13
    replace HY:=gh hY13
    have hRR:=gf HR
    rw [if_pos rfl] at hRR
    replace HR:=gh hRR
    clear hY13 hRR
    replace HL:Hid (p≤p+1∧lo+1≤p+1):=And.intro (Nat.le_succ_of_le (gf HL).1) (Nat.succ_le_succ (gf HL).2)
    have HC14:=gh (gf hI w13.drew (p+1) (Nat.le_of_succ_le (gf HL).2) ((gf HR).keep ((Below.refl _ w13).drew)))
    go_wp2_with fail
    have n314:w0.heap.size≠w.heap.size:=by have:=gf HQHX2;omega
    refine part_r9 (X:=impR ts g d (p+1)) rfl rfl rfl rfl (gf HX2) (gf HZ) ne2 hrne n314 (gf HC14) ?_ ?_
    ·intro a w9 ei en hX hd hb
     have hYe:Y = .error (ei,en):=by have h:=gf HY;rw [hX] at h;exact h.symm
     subst hYe
     exact ⟨hd,(gf HB).trans hb,rfl⟩
    ·intro a W2 t q b hX hd hk hb hR hle hv
     have hY9:=gf HY
     rw [hX] at hY9
     simp only [thenR,txt] at hY9
     rw [gf HN0] at hY9
     have HF:=gh (And.intro hd (And.intro ((hk 2 (by decide)).trans rfl) (And.intro ((gf HB).trans hb) (And.intro ((gf HZ).but hb hrne) (And.intro hR (And.intro (Nat.le_trans (gf HL).1 hle) (And.intro hY9 hv)))))))
     clear hd hk hb hR hle hY9 hX hv
     go_wp2
     obtain ⟨hd,h2,hb,hz,hR,hle,hY9,hv⟩:=gf HF
     exact ret_put rfl h2 hd hb hr hz hY9.symm hle hR (gf HS) hv
   have hY13:=gf HY
   simp only [Bool.false_eq_true,if_false] at hY13
   replace HY:=gh hY13
   have hRR:=gf HR
   rw [if_neg Bool.false_ne_true] at hRR
   replace HR:=gh hRR
   clear hY13 hRR
   have HC15:=gh (gf hI w13 (p) (gf HL).2 (gf HR))
   go_wp2_with fail
   refine (gf HC15).mono ?_
   intro e w15 h15
   rcases hX15:impR ts g d (p) with er | ⟨t15,q15⟩
   ·rw [hX15] at h15
    obtain ⟨ei,en⟩:=er
    have hYe:Y = .error (ei,en):=by have h:=gf HY;rw [hX15] at h;exact h.symm
    subst hYe
    obtain ⟨hb15,h15⟩:=h15
    obtain rfl:e=_:=h15
    have HP:=gh ((gf HB).trans hb15)
    clear hb15 HC15 hX15
    go_wp2
    exact ⟨rfl,gf HP,rfl⟩
   rw [hX15] at h15
   obtain ⟨hb15,hle15,hR15,v15,rfl,hv15⟩:=h15
   have hY15:=gf HY
   rw [hX15] at hY15
   replace HY:=gh hY15
   clear hY15
   obtain ⟨i15,j15,s15,m15,b15,a15,n15,c15,rfl⟩:=hv15.form
   have HT15:=gh (hv15.keep (lo':=w.heap.size+1) (Stays.of (Below.refl _ _)) (gf HS))
   replace HB:=gh ((gf HB).trans hb15)
   replace HZ:=gh ((gf HZ).but hb15 hrne)
   replace HX2:=gh ((hb15.block _ (blk (gf HX2)).1 (Ne.symm ne2)).trans (gf HX2))
   replace HS:=gh (Nat.lt_of_lt_of_le (gf HS) hb15.size)
   replace HR:=gh hR15
   replace HL:=gh (And.intro (Nat.le_trans (gf HL).1 hle15) (Nat.le_trans (gf HL).2 hle15))
   clear hb15 hle15 hR15 hv15 HC15 hX15
   obtain ⟨y0,y1,y2,y3,y4,y5,y6⟩:=blk7 (gf HZ)
   obtain ⟨z0,z1,z2,z3,z4,z5,z6⟩:=frz7 (gf HZ)
   have HNode:=gh (gf HT15)
   go_wp2
   exact ret_put rfl rfl rfl (gf HB) hr (gf HZ) (by have h:=gf HY;exact h.symm) (gf HL).1 (gf HR) (Nat.lt_succ_self _) (gf HNode)
 ·have ek1:(kk0 == 1)=false:=by simpa using hk1
  have ek2:decide (kk0=1)=false:=by simpa using hk1
  have hY16:=gf HY
  rw [if_neg (fun h=>hk1 (by have h1:=h.1;rw [gf HN0] at h1;exact h1))] at hY16
  replace HY:=gh hY16
  clear hY16
  have HC17:=gh (takeIf_any (gf HR) (gf HT) (s:=⟨#[114,97,105,115,101]⟩) (by decide))
  obtain ⟨bo17,hbo17⟩:∃ b,sees ts (p) ⟨#[114,97,105,115,101]⟩=b:=⟨_,rfl⟩
  rw [hbo17] at HC17
  have hY17:=gf HY
  rw [hbo17] at hY17
  replace HY:=gh hY17
  have HO17:=gh hbo17
  clear hY17 hbo17
  go_wp2_with fail
  rw [gf HEB2]
  refine (gf HC17).mono ?_
  rintro e w17 ⟨rfl,hb17,hR17⟩
  replace HB:=gh ((gf HB).trans hb17)
  replace HZ:=gh ((gf HZ).but hb17 hrne)
  replace HX2:=gh ((hb17.block _ (blk (gf HX2)).1 (Ne.symm ne2)).trans (gf HX2))
  replace HS:=gh (Nat.lt_of_lt_of_le (gf HS) hb17.size)
  replace HR:=gh hR17
  clear hb17 hR17 HC17
  rcases bo17 with _ | _
  rotate_left
  ·have hY17:=gf HY
   simp only [if_true] at hY17
   replace HY:=gh hY17
   have hRR:=gf HR
   rw [if_pos rfl] at hRR
   replace HR:=gh hRR
   clear hY17 hRR
   replace HL:Hid (p≤p+1∧lo+1≤p+1):=And.intro (Nat.le_succ_of_le (gf HL).1) (Nat.succ_le_succ (gf HL).2)
   have HC18:=gh (gf hI w17.drew (p+1) (Nat.le_of_succ_le (gf HL).2) ((gf HR).keep ((Below.refl _ w17).drew)))
   go_wp2_with fail
   have n318:w0.heap.size≠w.heap.size:=by have:=gf HQHX2;omega
   refine part_r7 (X:=impR ts g d (p+1)) rfl rfl rfl rfl (gf HX2) (gf HZ) ne2 hrne n318 (gf HC18) ?_ ?_
   ·intro a w9 ei en hX hd hb
    have hYe:Y = .error (ei,en):=by have h:=gf HY;rw [hX] at h;exact h.symm
    subst hYe
    exact ⟨hd,(gf HB).trans hb,rfl⟩
   ·intro a W2 t q b hX hd hk hb hR hle hv
    have hY9:=gf HY
    rw [hX] at hY9
    simp only [thenR,txt] at hY9
    rw [gf HN0] at hY9
    have HF:=gh (And.intro hd (And.intro ((hk 2 (by decide)).trans rfl) (And.intro ((gf HB).trans hb) (And.intro ((gf HZ).but hb hrne) (And.intro hR (And.intro (Nat.le_trans (gf HL).1 hle) (And.intro hY9 hv)))))))
    clear hd hk hb hR hle hY9 hX hv
    go_wp2
    obtain ⟨hd,h2,hb,hz,hR,hle,hY9,hv⟩:=gf HF
    exact ret_put rfl h2 hd hb hr hz hY9.symm hle hR (gf HS) hv
  have hY17:=gf HY
  simp only [Bool.false_eq_true,if_false] at hY17
  replace HY:=gh hY17
  have hRR:=gf HR
  rw [if_neg Bool.false_ne_true] at hRR
  replace HR:=gh hRR
  clear hY17 hRR
  have HC19:=gh (takeIf_any (gf HR) (gf HT) (s:=⟨#[97,115,115,101,114,116]⟩) (by decide))
  obtain ⟨bo19,hbo19⟩:∃ b,sees ts (p) ⟨#[97,115,115,101,114,116]⟩=b:=⟨_,rfl⟩
  rw [hbo19] at HC19
  have hY19:=gf HY
  rw [hbo19] at hY19
  replace HY:=gh hY19
  have HO19:=gh hbo19
  clear hY19 hbo19
  go_wp2_with fail
  refine (gf HC19).mono ?_
  rintro e w19 ⟨rfl,hb19,hR19⟩
  replace HB:=gh ((gf HB).trans hb19)
  replace HZ:=gh ((gf HZ).but hb19 hrne)
  replace HX2:=gh ((hb19.block _ (blk (gf HX2)).1 (Ne.symm ne2)).trans (gf HX2))
  replace HS:=gh (Nat.lt_of_lt_of_le (gf HS) hb19.size)
  replace HR:=gh hR19
  clear hb19 hR19 HC19
  rcases bo19 with _ | _
  rotate_left
  ·have hY19:=gf HY
   simp only [if_true] at hY19
   replace HY:=gh hY19
   have hRR:=gf HR
   rw [if_pos rfl] at hRR
   replace HR:=gh hRR
   clear hY19 hRR
   replace HL:Hid (p≤p+1∧lo+1≤p+1):=And.intro (Nat.le_succ_of_le (gf HL).1) (Nat.succ_le_succ (gf HL).2)
   have HC20:=gh (gf hI w19.drew (p+1) (Nat.le_of_succ_le (gf HL).2) ((gf HR).keep ((Below.refl _ w19).drew)))
   go_wp2_with fail
   have n320:w0.heap.size≠w.heap.size:=by have:=gf HQHX2;omega
   refine part_r9 (X:=impR ts g d (p+1)) rfl rfl rfl rfl (gf HX2) (gf HZ) ne2 hrne n320 (gf HC20) ?_ ?_
   ·intro a w9 ei en hX hd hb
    have hYe:Y = .error (ei,en):=by have h:=gf HY;rw [hX] at h;exact h.symm
    subst hYe
    exact ⟨hd,(gf HB).trans hb,rfl⟩
   ·intro a W2 t q b hX hd hk hb hR hle hv
    have hY9:=gf HY
    rw [hX] at hY9
    simp only [thenR,txt] at hY9
    rw [gf HN0] at hY9
    have HF:=gh (And.intro hd (And.intro ((hk 2 (by decide)).trans rfl) (And.intro ((gf HB).trans hb) (And.intro ((gf HZ).but hb hrne) (And.intro hR (And.intro (Nat.le_trans (gf HL).1 hle) (And.intro hY9 hv)))))))
    clear hd hk hb hR hle hY9 hX hv
    go_wp2
    obtain ⟨hd,h2,hb,hz,hR,hle,hY9,hv⟩:=gf HF
    exact ret_put rfl h2 hd hb hr hz hY9.symm hle hR (gf HS) hv
  have hY19:=gf HY
  simp only [Bool.false_eq_true,if_false] at hY19
  replace HY:=gh hY19
  have hRR:=gf HR
  rw [if_neg Bool.false_ne_true] at hRR
  replace HR:=gh hRR
  clear hY19 hRR
  have HC21:=gh (gf hI w19 (p) (gf HL).2 (gf HR))
  go_wp2_with fail
  refine (gf HC21).mono ?_
  intro e w21 h21
  rcases hX21:impR ts g d (p) with er | ⟨t21,q21⟩
  ·rw [hX21] at h21
   obtain ⟨ei,en⟩:=er
   have hYe:Y = .error (ei,en):=by have h:=gf HY;rw [hX21] at h;exact h.symm
   subst hYe
   obtain ⟨hb21,h21⟩:=h21
   obtain rfl:e=_:=h21
   have HP:=gh ((gf HB).trans hb21)
   clear hb21 HC21 hX21
   go_wp2
   exact ⟨rfl,gf HP,rfl⟩
  rw [hX21] at h21
  obtain ⟨hb21,hle21,hR21,v21,rfl,hv21⟩:=h21
  have hY21:=gf HY
  rw [hX21] at hY21
  replace HY:=gh hY21
  clear hY21
  obtain ⟨i21,j21,s21,m21,b21,a21,n21,c21,rfl⟩:=hv21.form
  have HT21:=gh (hv21.keep (lo':=w.heap.size+1) (Stays.of (Below.refl _ _)) (gf HS))
  replace HB:=gh ((gf HB).trans hb21)
  replace HZ:=gh ((gf HZ).but hb21 hrne)
  replace HX2:=gh ((hb21.block _ (blk (gf HX2)).1 (Ne.symm ne2)).trans (gf HX2))
  replace HS:=gh (Nat.lt_of_lt_of_le (gf HS) hb21.size)
  replace HR:=gh hR21
  replace HL:=gh (And.intro (Nat.le_trans (gf HL).1 hle21) (Nat.le_trans (gf HL).2 hle21))
  clear hb21 hle21 hR21 hv21 HC21 hX21
  obtain ⟨y0,y1,y2,y3,y4,y5,y6⟩:=blk7 (gf HZ)
  obtain ⟨z0,z1,z2,z3,z4,z5,z6⟩:=frz7 (gf HZ)
  have HNode:=gh (gf HT21)
  go_wp2
  exact ret_put rfl rfl rfl (gf HB) hr (gf HZ) (by have h:=gf HY;exact h.symm) (gf HL).1 (gf HR) (Nat.lt_succ_self _) (gf HNode)
end Go.Proofs.YtfkfnbehdcmgeaaGreatDoor
