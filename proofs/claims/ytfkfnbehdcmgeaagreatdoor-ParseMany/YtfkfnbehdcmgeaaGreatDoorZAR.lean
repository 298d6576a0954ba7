/- The document's parser: inner. -/
import Derived.Test.YtfkfnbehdcmgeaaGreatDoorZAQ
import Derived.Test.YtfkfnbehdcmgeaaGreatDoorZAM
set_option linter.unusedVariables false
set_option linter.unusedSimpArgs false
namespace Go.Proofs.YtfkfnbehdcmgeaaGreatDoor
open Go Go.RowKit
set_option maxRecDepth 100000 in
set_option maxHeartbeats 4000000 in
theorem down_yes {w:World} {r d:Nat} {st:PS} {ts:List (Int×ByteArray×Int)} (hR:PD w r ts st d) (hd:d<200):Calls Tryz.prog 60 #[.pointer (some ⟨r,0,none⟩)] w (StP r ts st (d+1) (.bool (decide (st.e=0))) w):=by
 obtain ⟨g,c,x0,x1,x2,x3,x4,hc,hr,hf,ht⟩:=hR.facts (Below.refl _ _)
 have HR:=gh hR
 have f4:=hf 4
 have g1:(0:Int)≤(d:Int):=by omega
 have g2:(d:Int)<200:=by omega
 have g3:decide ((d:Int)+1 > 200)=false:=by simp;omega
 have g4:¬ (d:Int)+1 > 200:=by omega
 have g5:decide (200<(d:Int)+1)=false:=by simp;omega
 unfold StP
 clear hR hc hf ht x0 x1 x3 hd
 go_enter Tryz.func60,Tryz.ntmps60
 go_wp2
 go_ret
 have hb:But r w (w.setCell ⟨r,4,none⟩ (.int .i64 ((d:Int)+1))):=(But.refl r w).set _ _
 refine ⟨?_,hb,(gf HR).set hb (gf HR).lt fun g c h => ?_⟩
 ·rfl
 ·exact set_block h _
set_option maxRecDepth 100000 in
set_option maxHeartbeats 4000000 in
theorem down_no {w:World} {r d:Nat} {st:PS} {ts:List (Int×ByteArray×Int)} (hR:PD w r ts st d) (hT:TsOk ts) (hd:200≤d) (hd2:d≤100000):Calls Tryz.prog 60 #[.pointer (some ⟨r,0,none⟩)] w (StP r ts (st.fail (tD ts st).2.2 151) (d+1) (.bool false) w):=by
 obtain ⟨g,c,x0,x1,x2,x3,x4,hc,hr,hf,ht⟩:=hR.facts (Below.refl _ _)
 have f4:=hf 4
 have g1:(0:Int)≤(d:Int):=by omega
 have g2:(d:Int)≤100000:=by omega
 have g4:(200:Int)<(d:Int)+1:=by omega
 have hb:But r w (w.setCell ⟨r,4,none⟩ (.int .i64 ((d:Int)+1))):=(But.refl r w).set _ _
 have hR2:PD (w.setCell ⟨r,4,none⟩ (.int .i64 ((d:Int)+1))) r ts st (d+1):=hR.set hb hR.lt fun g c h=>set_block h _
 have HN:=gh (dt_any hR2 hT)
 unfold tkV at HN
 obtain ⟨⟨k,T,i⟩,hX⟩:∃ X,tD ts st=X:=⟨_,rfl⟩
 rw [hX] at HN ⊢
 have h2:=fld2 (.int .i64 k) (.string T) (.int .i64 i)
 have HR:=gh (And.intro hR2 hb)
 unfold StP
 clear hR hc hf ht x0 x1 x3 x2 hd hd2 hX hb hR2 hT
 go_enter Tryz.func60,Tryz.ntmps60
 go_wp2_with fail
 refine (gf HN).mono ?_
 rintro e w4 ⟨rfl,hb4⟩
 have HF:=gh (fail_any ((gf HR).1.keep hb4) i 151)
 have H4:=gh ((gf HR).2.trans (But.of (r:=r) hb4))
 clear hb4 HN
 go_wp2_with fail
 refine (gf HF).mono ?_
 rintro e w5 ⟨rfl,hb5,hR5⟩
 have H5:=gh (And.intro ((gf H4).trans hb5) hR5)
 clear hb5 hR5 HF
 go_wp2
 go_ret
 exact ⟨rfl,(gf H5).1,(gf H5).2⟩
set_option maxRecDepth 100000 in
set_option maxHeartbeats 4000000 in
theorem dnext_any {w:World} {r d:Nat} {st:PS} {ts:List (Int×ByteArray×Int)} (hR:PD w r ts st d) (hT:TsOk ts):Calls Tryz.prog 99 #[.pointer (some ⟨r,0,none⟩)] w (VP (tkV (nx ts (st.i+1))) w):=by
 obtain ⟨A,eA,hbA,hsA,hhA⟩:=box_new w #[.int .i64 0,.string ⟨#[]⟩,.int .i64 0] 74
 obtain ⟨g,c,x0,x1,x2,x3,x4,hc,hr,hf,ht⟩:=hR.facts hbA
 have hp:=hR.lt
 have hl:=hT.len
 obtain ⟨i,er,ea⟩:=st
 have g1:(i:Int)<(ts.length:Int):=by have:i<ts.length:=hp;omega
 have g2:(ts.length:Int)≤100000:=by omega
 have g3:(0:Int)≤(i:Int):=by omega
 have y0:A.cell? ⟨w.heap.size,0,none⟩=some (.int .i64 0):=(blk hhA).2.1 0 _ rfl
 have y1:A.cell? ⟨w.heap.size,1,none⟩=some (.string ⟨#[]⟩):=(blk hhA).2.1 1 _ rfl
 have y2:A.cell? ⟨w.heap.size,2,none⟩=some (.int .i64 0):=(blk hhA).2.1 2 _ rfl
 have z0:=(blk hhA).2.2 0
 have z1:=(blk hhA).2.2 1
 have z2:=(blk hhA).2.2 2
 have HB:=gh (And.intro hbA hhA)
 have HE:=gh eA
 unfold VP
 obtain ⟨L,hL⟩:∃ L,ts.length=L:=⟨_,rfl⟩
 by_cases hi:i+1<ts.length
 ·obtain ⟨t0,t1,t2⟩:=ht (i+1) _ (nx_of hi)
  have g4:(i:Int)+1<(ts.length:Int):=by omega
  unfold tkV
  obtain ⟨X,hX⟩:∃ X,nx ts (i+1)=X:=⟨_,rfl⟩
  simp only at t0 t1 t2 x1 ⊢
  rw [hX] at t0 t1 t2 ⊢
  rw [hL] at x0 g1 g2 g4
  clear hR hT eA hbA hsA hhA hX hL ht hc hp hl hf hi
  go_enter Tryz.func99,Tryz.ntmps99
  go_wp2_with fail
  rw [gf HE]
  go_region
  go_wp2_with fail
  have q0:A.drew.cell? ⟨r,0,none⟩=some (.slice (some ⟨g,0,none⟩) L c):=x0
  have q1:A.drew.cell? ⟨r,1,none⟩=some (.int .i64 i):=x1
  have p0:A.drew.cell? ⟨g,(i+1) * 3,none⟩=some (.int .i64 X.1):=t0
  have p1:A.drew.cell? ⟨g,(i+1) * 3+1,none⟩=some (.string X.2.1):=t1
  have p2:A.drew.cell? ⟨g,(i+1) * 3+2,none⟩=some (.int .i64 X.2.2):=t2
  have u0:A.drew.cell? ⟨w.heap.size,0,none⟩=some (.int .i64 0):=y0
  have u1:A.drew.cell? ⟨w.heap.size,1,none⟩=some (.string ⟨#[]⟩):=y1
  have u2:A.drew.cell? ⟨w.heap.size,2,none⟩=some (.int .i64 0):=y2
  have v0:A.drew.frozen? ⟨w.heap.size,0,none⟩=false:=z0
  have v1:A.drew.frozen? ⟨w.heap.size,1,none⟩=false:=z1
  have v2:A.drew.frozen? ⟨w.heap.size,2,none⟩=false:=z2
  have hr2:r<A.drew.heap.size:=hr
  go_region
  go_wp2
  obtain ⟨hbA,hhA⟩:=gf HB
  refine bodyPost_ret (res_row (cs:=[.int .i64 X.1,.string X.2.1,.int .i64 X.2.2]) rfl rfl (range_block (by rw [heap_drew,heap_drew];exact fill3 hhA)) rfl rfl rfl) rfl ?_
  exact ⟨rfl,(below_set (below_set (below_set hbA (Nat.le_refl _) _ _) (Nat.le_refl _) _ _) (Nat.le_refl _) _ _).drew.drew⟩
 ·have g4:decide ((i:Int)+1<(ts.length:Int))=false:=by simp;omega
  have g5:¬ (i:Int)+1<(ts.length:Int):=by omega
  have hz:nx ts (i+1)=(0,⟨#[]⟩,0):=by
   unfold nx
   rw [List.getD_eq_getElem?_getD,List.getElem?_eq_none (by omega)]
   rfl
  simp only at x1 ⊢
  rw [hz]
  unfold tkV
  rw [hL] at x0 g1 g2 g4 g5
  clear hR hT eA hbA hsA hhA hL ht hc hp hl hf hi hz
  go_enter Tryz.func99,Tryz.ntmps99
  go_wp2_with fail
  rw [gf HE]
  go_region
  have u0:A.drew.cell? ⟨w.heap.size,0,none⟩=some (.int .i64 0):=y0
  have u1:A.drew.cell? ⟨w.heap.size,1,none⟩=some (.string ⟨#[]⟩):=y1
  have u2:A.drew.cell? ⟨w.heap.size,2,none⟩=some (.int .i64 0):=y2
  have v0:A.drew.frozen? ⟨w.heap.size,0,none⟩=false:=z0
  have v1:A.drew.frozen? ⟨w.heap.size,1,none⟩=false:=z1
  have v2:A.drew.frozen? ⟨w.heap.size,2,none⟩=false:=z2
  go_wp2
  obtain ⟨hbA,hhA⟩:=gf HB
  refine bodyPost_ret (res_row (cs:=[.int .i64 0,.string ⟨#[]⟩,.int .i64 0]) rfl rfl (range_block (fill3 hhA)) rfl rfl rfl) rfl ?_
  exact ⟨rfl,below_set (below_set (below_set hbA.drew (Nat.le_refl _) _ _) (Nat.le_refl _) _ _) (Nat.le_refl _) _ _⟩
def DE (x:Ex×PS) (r:Nat) (ts:List (Int×ByteArray×Int)) (d:Nat) (w:World) (e:Ending) (w':World):Prop:=DP (fun w' v t=>IsE w' w.heap.size v t) x r ts d w e w'
theorem PD.put {w:World} {r d q:Nat} {st:PS} {ts:List (Int×ByteArray×Int)} (h:PD w r ts st d) (hq:r<q) (x0 x1 x2 x3 x4 x5 x6:Value):PD (set7 w q x0 x1 x2 x3 x4 x5 x6) r ts st d:=h.out hq fun k hk=>by
 unfold set7
 exact same7 (by omega) _ _ _ _ _ _ _
theorem PD.deep {w:World} {r d e:Nat} {st:PS} {ts:List (Int×ByteArray×Int)} (h:PD w r ts st d):PD (w.setCell ⟨r,4,none⟩ (.int .i64 (e:Int))) r ts st e:=h.set ((But.refl r w).set _ _) h.lt fun g c h=>set_block h _
theorem dret_put {fn:Func} {a:Act} {tt:Nat} {w w3:World} {r d lo:Nat} {ts:List (Int×ByteArray×Int)} {t:Ex} {st:PS} {Y:Ex×PS} {x0 x1 x2 x3 x4 x5 x6:Value} (hf:fn.results = #[.cell tt 36]) (ht:a.tmps[tt]?=some (.pointer (some ⟨w.heap.size,0,none⟩))) (hdf:a.defers=[]) (hbu:But r w w3) (hr:r<w.heap.size) (hz:ZB w3 w.heap.size) (hY:Y=(t,st)) (hR:PD w3 r ts st d) (hlo:w.heap.size<lo) (hv:IsE w3 lo (.agg #[x0,x1,x2,x3,x4,x5,x6]) t) :
  bodyPost Tryz.prog fn (DE Y r ts d w) .ret a (set7 w3 w.heap.size x0 x1 x2 x3 x4 x5 x6):=by
 subst hY
 refine bodyPost_ret (res_row (cs:=[x0,x1,x2,x3,x4,x5,x6]) hf ht (range_block (fill7 hz)) Tryz.underlying36 rfl (by kernel_rfl)) hdf ?_
 exact ⟨but7 hbu (Nat.le_refl _) _ _ _ _ _ _ _,hR.put hr _ _ _ _ _ _ _,_,rfl,hv.keep (stays7 (Stays.of (Below.refl _ _)) hlo _ _ _ _ _ _ _) (by omega)⟩
def DcC (f:Nat) (r:Nat) (ts:List (Int×ByteArray×Int)) (d:Nat) (X:PS→Ex×PS):Prop:=∀ (w:World) (st:PS),PD w r ts st d→Calls Tryz.prog f #[.pointer (some ⟨r,0,none⟩)] w (DE (X st) r ts d w)
set_option maxRecDepth 100000 in
set_option maxHeartbeats 4000000 in
theorem dexpr_top {r d:Nat} {ts:List (Int×ByteArray×Int)} (hT:TsOk ts) (hd:200≤d) (hd2:d≤100000):DcC 37 r ts d (fun st=>(zEx,st.fail (tD ts st).2.2 151)):=by
 intro w st hR
 obtain ⟨A,eA,hbA,hzA,hsA⟩:=zb_new w
 have hr:=hR.rlt
 have HC:=gh (down_no (hR.keep hbA) hT hd hd2)
 have HA:=gh (And.intro hbA hzA)
 have HE:=gh eA
 obtain ⟨s2,hs⟩:∃ s2,st.fail (tD ts st).2.2 151=s2:=⟨_,rfl⟩
 rw [hs] at HC
 have HSS:=gh hs
 have g1:(0:Int)≤(d:Int):=by omega
 have g2:(d:Int)≤100000:=by omega
 have hne:r≠w.heap.size:=by omega
 clear hR hT hd hd2 eA hbA hzA hsA hs
 go_enter Tryz.func37,Tryz.ntmps37
 go_wp2_with fail
 rw [gf HE]
 refine (gf HC).mono ?_
 rintro e w2 ⟨rfl,hb2,hR2⟩
 have hz2:=(gf HA).2.but hb2 hne
 obtain ⟨g,c,x0,x1,x2,x3,x4,hc,hrl,hf,ht⟩:=hR2.facts (Below.refl _ _)
 have f4:=hf 4
 obtain ⟨y0,y1,y2,y3,y4,y5,y6⟩:=blk7 hz2
 obtain ⟨z0,z1,z2,z3,z4,z5,z6⟩:=frz7 hz2
 have H2:=gh (And.intro ((But.of (r:=r) (gf HA).1).trans hb2) (And.intro hR2 hz2))
 clear hb2 hR2 hz2 HC hc hf ht x0 x1 x2 x3
 go_wp2
 obtain ⟨hb,hR2,hz2⟩:=gf H2
 have hz3:ZB (w2.setCell ⟨r,4,none⟩ (.int .i64 (d:Int))) w.heap.size:=hz2.but ((But.refl r w2).set _ _) hne
 refine bodyPost_ret (res_row (cs:=[.int .i64 0,.string ⟨#[]⟩,.string ⟨#[]⟩,.bool false,.slice none 0 0,.int .i64 0,.int .i64 0]) rfl rfl (range_block (fill7 hz3)) Tryz.underlying36 rfl (by kernel_rfl)) rfl ?_
 refine ⟨but7 (hb.set 4 _) (Nat.le_refl _) _ _ _ _ _ _ _,?_,_,rfl,leaf 0 0 ⟨#[]⟩ ⟨#[]⟩ false⟩
 rw [gf HSS]
 exact hR2.deep.put hr _ _ _ _ _ _ _
def DcO (f:Nat) (r:Nat) (ts:List (Int×ByteArray×Int)) (d:Nat) (X:PS→Ex×PS):Prop:=∀ (w:World) (st:PS),st.e=0→PD w r ts st d→Calls Tryz.prog f #[.pointer (some ⟨r,0,none⟩)] w (DE (X st) r ts d w)
set_option maxRecDepth 100000 in
set_option maxHeartbeats 4000000 in
theorem dexpr_of {r d:Nat} {ts:List (Int×ByteArray×Int)} {X:PS→Ex×PS} (hd:d<200) (hX:DcO 61 r ts (d+1) X):DcC 37 r ts d (fun st=>if st.e=0 then X st else (zEx,st)):=by
 intro w st hR
 obtain ⟨A,eA,hbA,hzA,hsA⟩:=zb_new w
 have hr:=hR.rlt
 have HC:=gh (down_yes (hR.keep hbA) hd)
 have HA:=gh (And.intro hbA hzA)
 have HE:=gh eA
 obtain ⟨Y,hY⟩:∃ Y,(if st.e=0 then X st else (zEx,st))=Y:=⟨_,rfl⟩
 show Calls _ _ _ _ (DE (if st.e=0 then X st else (zEx,st)) r ts d w)
 rw [hY]
 have g1:(0:Int)≤(d:Int):=by omega
 have g2:(d:Int)<200:=by omega
 have hne:r≠w.heap.size:=by omega
 clear hR hd eA hbA hzA hsA
 by_cases he:st.e=0
 ·have d1:decide (st.e=0)=true:=decide_eq_true he
  rw [d1] at HC
  rw [if_pos he] at hY
  have HEr:=gh he
  have HX:=gh hX
  clear d1 he hX
  have HY:=gh hY
  clear hY
  go_enter Tryz.func37,Tryz.ntmps37
  go_wp2_with fail
  rw [gf HE]
  refine (gf HC).mono ?_
  rintro e w2 ⟨rfl,hb2,hR2⟩
  have HC2:=gh (gf HX w2 st (gf HEr) hR2)
  rw [gf HY] at HC2
  have H2:=gh (And.intro ((But.of (r:=r) (gf HA).1).trans hb2) ((gf HA).2.but hb2 hne))
  clear HX hb2 hR2 HC
  go_wp2_with fail
  refine (gf HC2).mono ?_
  rintro e w3 ⟨hb3,hR3,v,rfl,hv⟩
  obtain ⟨i0,i6,s1,s2,b3,a4,n4,c4,rfl⟩:=hv.form
  have hz3:=(gf H2).2.but hb3 hne
  obtain ⟨B,eB,hbB,hsB,hhB⟩:=box_new w3 #[.int .i64 i0,.string s1,.string s2,.bool b3,.slice a4 n4 c4,.int .i64 0,.int .i64 i6] 36
  have hzB:=hz3.but (But.of (r:=r) hbB) hne
  have hRB:=hR3.keep hbB
  have n2:r≠w3.heap.size:=by have:=hR3.rlt;omega
  have n3:w.heap.size≠w3.heap.size:=by have:=(blk hz3).1;omega
  obtain ⟨g,c,x0,x1,x2,x3,x4,hc,hrl,hf,ht⟩:=hRB.facts (Below.refl _ _)
  have f4:=hf 4
  obtain ⟨y0,y1,y2,y3,y4,y5,y6⟩:=blk7 hzB
  obtain ⟨z0,z1,z2,z3,z4,z5,z6⟩:=frz7 hzB
  obtain ⟨q0,q1,q2,q3,q4,q5,q6⟩:=blk7 hhB
  have hs2:=(blk (gf H2).2).1
  have H3:=gh (And.intro ((gf H2).1.trans (hb3.trans (But.of (r:=r) hbB))) (And.intro hRB (And.intro hzB (And.intro hv (And.intro hbB hs2)))))
  have HEB:=gh eB
  rw [←eB] at x4 hrl f4 y0 y1 y2 y3 y4 y5 y6 z0 z1 z2 z3 z4 z5 z6 q0 q1 q2 q3 q4 q5 q6
  clear hb3 hR3 hv hz3 eB hbB hsB hhB hzB hRB hc hf ht x0 x1 x2 x3 HC2 hs2
  go_wp2
  rw [gf HEB]
  obtain ⟨hbu,hRB,hzB,hv,hbB,hs2⟩:=gf H3
  have hz4:ZB (B.setCell ⟨r,4,none⟩ (.int .i64 (d:Int))) w.heap.size:=hzB.but ((But.refl r B).set _ _) hne
  refine bodyPost_ret (res_row (cs:=[.int .i64 i0,.string s1,.string s2,.bool b3,.slice a4 n4 c4,.int .i64 0,.int .i64 i6]) rfl rfl (range_block (fill7 hz4)) Tryz.underlying36 rfl (by kernel_rfl)) rfl ?_
  refine ⟨but7 (hbu.set 4 _) (Nat.le_refl _) _ _ _ _ _ _ _,hRB.deep.put hr _ _ _ _ _ _ _,_,rfl,?_⟩
  exact hv.keep (stays7 ((Stays.of hbB).set (by omega) _ _) hs2 _ _ _ _ _ _ _) (by omega)
 ·have d1:decide (st.e=0)=false:=decide_eq_false he
  rw [d1] at HC
  rw [if_neg he] at hY
  subst hY
  clear d1 he hX
  go_enter Tryz.func37,Tryz.ntmps37
  go_wp2_with fail
  rw [gf HE]
  refine (gf HC).mono ?_
  rintro e w2 ⟨rfl,hb2,hR2⟩
  have hz2:=(gf HA).2.but hb2 hne
  obtain ⟨g,c,x0,x1,x2,x3,x4,hc,hrl,hf,ht⟩:=hR2.facts (Below.refl _ _)
  have f4:=hf 4
  obtain ⟨y0,y1,y2,y3,y4,y5,y6⟩:=blk7 hz2
  obtain ⟨z0,z1,z2,z3,z4,z5,z6⟩:=frz7 hz2
  have H2:=gh (And.intro ((But.of (r:=r) (gf HA).1).trans hb2) (And.intro hR2 hz2))
  clear hb2 hR2 hz2 HC hc hf ht x0 x1 x2 x3
  go_wp2
  obtain ⟨hb,hR2,hz2⟩:=gf H2
  have hz3:ZB (w2.setCell ⟨r,4,none⟩ (.int .i64 (d:Int))) w.heap.size:=hz2.but ((But.refl r w2).set _ _) hne
  refine bodyPost_ret (res_row (cs:=[.int .i64 0,.string ⟨#[]⟩,.string ⟨#[]⟩,.bool false,.slice none 0 0,.int .i64 0,.int .i64 0]) rfl rfl (range_block (fill7 hz3)) Tryz.underlying36 rfl (by kernel_rfl)) rfl ?_
  exact ⟨but7 (hb.set 4 _) (Nat.le_refl _) _ _ _ _ _ _ _,hR2.deep.put hr _ _ _ _ _ _ _,_,rfl,leaf 0 0 ⟨#[]⟩ ⟨#[]⟩ false⟩
set_option maxRecDepth 100000 in
set_option maxHeartbeats 8000000 in
theorem dinner_of {r d:Nat} {ts:List (Int×ByteArray×Int)} {g:Ru→PS→Ex×PS} (hT:TsOk ts) (hE:DcC 37 r ts d (g .rE)) (hP:DcC 76 r ts d (partD ts g)):DcO 61 r ts d (innerD ts g):=by
 intro w st he hR
 obtain ⟨Y,hY⟩:∃ Y,innerD ts g st=Y:=⟨_,rfl⟩
 show Calls _ _ _ _ (DE (innerD ts g st) r ts d w)
 rw [hY]
 unfold innerD at hY
 have hr:=hR.rlt
 obtain ⟨A,eA,hbA,hzA,hsA⟩:=zb_new w
 have HB:=gh (But.of (r:=r) hbA)
 have HR:=gh (hR.keep hbA)
 have HZ:=gh hzA
 have HS:Hid (w.heap.size<A.heap.size):=by show _<_;omega
 have HE:=gh eA
 have HT:=gh hT
 have HY:=gh hY
 replace he:=gh he
 have hrne:r≠w.heap.size:=by omega
 replace hE:=gh hE
 replace hP:=gh hP
 clear hR hbA hzA hsA eA hT hY
 go_enter Tryz.func61,Tryz.ntmps61
 generalize hQQ:bodyPost Tryz.prog Tryz.f61 (DE Y r ts d w)=QQ
 have HQQ:=gh hQQ
 clear hQQ
 have HC0:=gh (dt_any (gf HR) (gf HT))
 unfold tkV at HC0
 obtain ⟨⟨kk0,T0,at0⟩,hN0⟩:∃ X,tD ts (st)=X:=⟨_,rfl⟩
 rw [hN0] at HC0
 have HN0:=gh hN0
 have hf20:=fld2 (.int .i64 kk0) (.string T0) (.int .i64 at0)
 clear hN0
 go_wp2_with fail
 rw [gf HE]
 refine (gf HC0).mono ?_
 rintro e w0 ⟨rfl,hb0⟩
 have hY1:=gf HY
 simp only [gf HN0] at hY1
 replace HY:=gh hY1
 clear hY1
 have hbu2:=But.of (r:=r) hb0
 replace HR:=gh ((gf HR).keep hb0)
 replace HB:=gh ((gf HB).trans hbu2)
 replace HZ:=gh ((gf HZ).but hbu2 hrne)
 replace HS:=gh (Nat.lt_of_lt_of_le (gf HS) hbu2.size)
 clear hb0 HC0
 have HC3:=gh (eat_any (gf HR) (gf HT) ⟨#[105,102]⟩)
 obtain ⟨bo3,hbo3⟩:∃ b,isD ts ⟨#[105,102]⟩ (st)=b:=⟨_,rfl⟩
 unfold eatD at HC3
 rw [hbo3] at HC3
 have HO3:=gh hbo3
 clear hbo3
 go_wp2_with fail
 refine (gf HC3).mono ?_
 rintro e w3 ⟨rfl,hb3,hR3⟩
 replace HB:=gh ((gf HB).trans hb3)
 replace HZ:=gh ((gf HZ).but hb3 hrne)
 replace HS:=gh (Nat.lt_of_lt_of_le (gf HS) hb3.size)
 replace HR:=gh hR3
 have hY4:=gf HY
 simp only [gf HO3] at hY4
 replace HY:=gh hY4
 clear hY4
 clear hb3 HC3 hR3
 rcases bo3 with _ | _
 rotate_left
 ·have hY5:=gf HY
  simp only [if_true] at hY5
  replace HY:=gh hY5
  clear hY5
  have hRR:=gf HR
  rw [if_pos rfl] at hRR
  obtain ⟨S6,hS6⟩:∃ S,stepD ts (st)=S:=⟨_,rfl⟩
  rw [hS6] at hRR
  replace HR:=gh hRR
  have HSt6:=gh hS6
  have hY7:=gf HY
  simp only [gf HSt6] at hY7
  replace HY:=gh hY7
  clear hY7
  clear hRR hS6
  have hY8:=gf HY
  simp only [ifD] at hY8
  replace HY:=gh hY8
  clear hY8
  have HC9:=gh (gf hE w3 (S6) (gf HR))
  obtain ⟨⟨t9,S9⟩,hX9⟩:∃ X,g .rE (S6)=X:=⟨_,rfl⟩
  rw [hX9] at HC9
  have HX9:=gh hX9
  clear hX9
  go_wp2_with fail
  refine (gf HC9).mono ?_
  rintro e w9 ⟨hb9,hR9,v9,rfl,hv9⟩
  have hY10:=gf HY
  simp only [gf HX9] at hY10
  replace HY:=gh hY10
  clear hY10
  obtain ⟨i9,j9,s9,m9,b9,a9,n9,c9,rfl⟩:=hv9.form
  have HT9:=gh (hv9.keep (lo':=w.heap.size+1) (Stays.of (Below.refl _ _)) (gf HS))
  replace HB:=gh ((gf HB).trans hb9)
  replace HZ:=gh ((gf HZ).but hb9 hrne)
  replace HS:=gh (Nat.lt_of_lt_of_le (gf HS) hb9.size)
  replace HR:=gh hR9
  clear hb9 hR9 hv9 HC9 HX9
  obtain ⟨B11,eB11,hbB11,hsB11,hhB11⟩:=box_new w9 #[.int .i64 i9,.string s9,.string m9,.bool b9,.slice a9 n9 c9,.int .i64 0,.int .i64 j9] 36
  have ne11:r≠w9.heap.size:=by have:=gf HS;omega
  have hbu12:=But.of (r:=r) hbB11
  replace HR:=gh ((gf HR).keep hbB11)
  replace HB:=gh ((gf HB).trans hbu12)
  replace HZ:=gh ((gf HZ).but hbu12 hrne)
  replace HT9:=gh ((gf HT9).keep (Stays.but hbu12 (Nat.lt_succ_of_lt hr)) (Nat.le_refl _))
  replace HS:=gh (Nat.lt_of_lt_of_le (gf HS) hbu12.size)
  have HX11:=gh hhB11
  have HEB11:=gh eB11
  have HSB11:=gh hsB11
  clear eB11 hbB11 hhB11 hsB11
  obtain ⟨S13,hS13⟩:∃ S,mustD ts ⟨#[116,104,101,110]⟩ (S9)=S:=⟨_,rfl⟩
  have HC13:=gh (dmust_any (gf HR) (gf HT) ⟨#[116,104,101,110]⟩)
  rw [hS13] at HC13
  have HS13:=gh hS13
  clear hS13
  go_wp2_with fail
  rw [gf HEB11]
  refine (gf HC13).mono ?_
  rintro e w13 ⟨rfl,hb13,hR13⟩
  have hY14:=gf HY
  simp only [gf HS13] at hY14
  replace HY:=gh hY14
  clear hY14
  replace HB:=gh ((gf HB).trans hb13)
  replace HZ:=gh ((gf HZ).but hb13 hrne)
  replace HX11:=gh ((hb13.block _ (blk (gf HX11)).1 (Ne.symm ne11)).trans (gf HX11))
  replace HT9:=gh ((gf HT9).keep (Stays.but hb13 (Nat.lt_succ_of_lt hr)) (Nat.le_refl _))
  replace HS:=gh (Nat.lt_of_lt_of_le (gf HS) hb13.size)
  replace HR:=gh hR13
  clear hb13 hR13 HC13 HS13
  have HC15:=gh (gf hE w13 (S13) (gf HR))
  obtain ⟨⟨t15,S15⟩,hX15⟩:∃ X,g .rE (S13)=X:=⟨_,rfl⟩
  rw [hX15] at HC15
  have HX15:=gh hX15
  clear hX15
  go_wp2_with fail
  refine (gf HC15).mono ?_
  rintro e w15 ⟨hb15,hR15,v15,rfl,hv15⟩
  have hY16:=gf HY
  simp only [gf HX15] at hY16
  replace HY:=gh hY16
  clear hY16
  obtain ⟨i15,j15,s15,m15,b15,a15,n15,c15,rfl⟩:=hv15.form
  have HT15:=gh (hv15.keep (lo':=w.heap.size+1) (Stays.of (Below.refl _ _)) (gf HS))
  replace HB:=gh ((gf HB).trans hb15)
  replace HZ:=gh ((gf HZ).but hb15 hrne)
  replace HX11:=gh ((hb15.block _ (blk (gf HX11)).1 (Ne.symm ne11)).trans (gf HX11))
  replace HT9:=gh ((gf HT9).keep (Stays.but hb15 (Nat.lt_succ_of_lt hr)) (Nat.le_refl _))
  replace HS:=gh (Nat.lt_of_lt_of_le (gf HS) hb15.size)
  replace HR:=gh hR15
  clear hb15 hR15 hv15 HC15 HX15
  obtain ⟨B17,eB17,hbB17,hsB17,hhB17⟩:=box_new w15 #[.int .i64 i15,.string s15,.string m15,.bool b15,.slice a15 n15 c15,.int .i64 0,.int .i64 j15] 36
  have ne17:r≠w15.heap.size:=by have:=gf HS;omega
  have hbu18:=But.of (r:=r) hbB17
  replace HR:=gh ((gf HR).keep hbB17)
  replace HB:=gh ((gf HB).trans hbu18)
  replace HZ:=gh ((gf HZ).but hbu18 hrne)
  replace HX11:=gh ((hbu18.block _ (blk (gf HX11)).1 (Ne.symm ne11)).trans (gf HX11))
  replace HT9:=gh ((gf HT9).keep (Stays.but hbu18 (Nat.lt_succ_of_lt hr)) (Nat.le_refl _))
  replace HT15:=gh ((gf HT15).keep (Stays.but hbu18 (Nat.lt_succ_of_lt hr)) (Nat.le_refl _))
  replace HS:=gh (Nat.lt_of_lt_of_le (gf HS) hbu18.size)
  have HX17:=gh hhB17
  have HEB17:=gh eB17
  have HSB17:=gh hsB17
  clear eB17 hbB17 hhB17 hsB17
  obtain ⟨S19,hS19⟩:∃ S,mustD ts ⟨#[101,108,115,101]⟩ (S15)=S:=⟨_,rfl⟩
  have HC19:=gh (dmust_any (gf HR) (gf HT) ⟨#[101,108,115,101]⟩)
  rw [hS19] at HC19
  have HS19:=gh hS19
  clear hS19
  go_wp2_with fail
  rw [gf HEB17]
  refine (gf HC19).mono ?_
  rintro e w19 ⟨rfl,hb19,hR19⟩
  have hY20:=gf HY
  simp only [gf HS19] at hY20
  replace HY:=gh hY20
  clear hY20
  replace HB:=gh ((gf HB).trans hb19)
  replace HZ:=gh ((gf HZ).but hb19 hrne)
  replace HX11:=gh ((hb19.block _ (blk (gf HX11)).1 (Ne.symm ne11)).trans (gf HX11))
  replace HX17:=gh ((hb19.block _ (blk (gf HX17)).1 (Ne.symm ne17)).trans (gf HX17))
  replace HT9:=gh ((gf HT9).keep (Stays.but hb19 (Nat.lt_succ_of_lt hr)) (Nat.le_refl _))
  replace HT15:=gh ((gf HT15).keep (Stays.but hb19 (Nat.lt_succ_of_lt hr)) (Nat.le_refl _))
  replace HS:=gh (Nat.lt_of_lt_of_le (gf HS) hb19.size)
  replace HR:=gh hR19
  clear hb19 hR19 HC19 HS19
  have HC21:=gh (gf hE w19 (S19) (gf HR))
  obtain ⟨⟨t21,S21⟩,hX21⟩:∃ X,g .rE (S19)=X:=⟨_,rfl⟩
  rw [hX21] at HC21
  have HX21:=gh hX21
  clear hX21
  go_wp2_with fail
  refine (gf HC21).mono ?_
  rintro e w21 ⟨hb21,hR21,v21,rfl,hv21⟩
  have hY22:=gf HY
  simp only [gf HX21] at hY22
  replace HY:=gh hY22
  clear hY22
  obtain ⟨i21,j21,s21,m21,b21,a21,n21,c21,rfl⟩:=hv21.form
  have HT21:=gh (hv21.keep (lo':=w.heap.size+1) (Stays.of (Below.refl _ _)) (gf HS))
  replace HB:=gh ((gf HB).trans hb21)
  replace HZ:=gh ((gf HZ).but hb21 hrne)
  replace HX11:=gh ((hb21.block _ (blk (gf HX11)).1 (Ne.symm ne11)).trans (gf HX11))
  replace HX17:=gh ((hb21.block _ (blk (gf HX17)).1 (Ne.symm ne17)).trans (gf HX17))
  replace HT9:=gh ((gf HT9).keep (Stays.but hb21 (Nat.lt_succ_of_lt hr)) (Nat.le_refl _))
  replace HT15:=gh ((gf HT15).keep (Stays.but hb21 (Nat.lt_succ_of_lt hr)) (Nat.le_refl _))
  replace HS:=gh (Nat.lt_of_lt_of_le (gf HS) hb21.size)
  replace HR:=gh hR21
  clear hb21 hR21 hv21 HC21 HX21
  obtain ⟨B23,eB23,hbB23,hsB23,hhB23⟩:=box_new w21 #[.int .i64 i21,.string s21,.string m21,.bool b21,.slice a21 n21 c21,.int .i64 0,.int .i64 j21] 36
  have ne23:r≠w21.heap.size:=by have:=gf HS;omega
  have hbu24:=But.of (r:=r) hbB23
  replace HR:=gh ((gf HR).keep hbB23)
  replace HB:=gh ((gf HB).trans hbu24)
  replace HZ:=gh ((gf HZ).but hbu24 hrne)
  replace HX11:=gh ((hbu24.block _ (blk (gf HX11)).1 (Ne.symm ne11)).trans (gf HX11))
  replace HX17:=gh ((hbu24.block _ (blk (gf HX17)).1 (Ne.symm ne17)).trans (gf HX17))
  replace HT9:=gh ((gf HT9).keep (Stays.but hbu24 (Nat.lt_succ_of_lt hr)) (Nat.le_refl _))
  replace HT15:=gh ((gf HT15).keep (Stays.but hbu24 (Nat.lt_succ_of_lt hr)) (Nat.le_refl _))
  replace HT21:=gh ((gf HT21).keep (Stays.but hbu24 (Nat.lt_succ_of_lt hr)) (Nat.le_refl _))
  replace HS:=gh (Nat.lt_of_lt_of_le (gf HS) hbu24.size)
  have HX23:=gh hhB23
  have HEB23:=gh eB23
  have HSB23:=gh hsB23
  clear eB23 hbB23 hhB23 hsB23
  obtain ⟨y011,y111,y211,y311,y411,y511,y611⟩:=blk7 (gf HX11)
  obtain ⟨y017,y117,y217,y317,y417,y517,y617⟩:=blk7 (gf HX17)
  obtain ⟨y023,y123,y223,y323,y423,y523,y623⟩:=blk7 (gf HX23)
  rw [←gf HEB23] at y011 y111 y211 y311 y411 y511 y611 y017 y117 y217 y317 y417 y517 y617 y023 y123 y223 y323 y423 y523 y623
  obtain ⟨C25,eC25,hbC25,hsC25,hhC25⟩:=box_new B23 #[.int .i64 i9,.string s9,.string m9,.bool b9,.slice a9 n9 c9,.int .i64 0,.int .i64 j9,.int .i64 i15,.string s15,.string m15,.bool b15,.slice a15 n15 c15,.int .i64 0,.int .i64 j15,.int .i64 i21,.string s21,.string m21,.bool b21,.slice a21 n21 c21,.int .i64 0,.int .i64 j21] 36
  have hnode:=node (l:=[t9,t15,t21]) (vs:=[[.int .i64 i9,.string s9,.string m9,.bool b9,.slice a9 n9 c9,.int .i64 0,.int .i64 j9],[.int .i64 i15,.string s15,.string m15,.bool b15,.slice a15 n15 c15,.int .i64 0,.int .i64 j15],[.int .i64 i21,.string s21,.string m21,.bool b21,.slice a21 n21 c21,.int .i64 0,.int .i64 j21]]) 22 at0 ⟨#[]⟩ ⟨#[]⟩ false eC25 rfl (by simp) rfl (by simp) (gf HS) (fun j v t hv ht=>by
   rcases j with _ | _ | _ | j
   ·obtain rfl:=Option.some.inj hv
    obtain rfl:=Option.some.inj ht
    exact gf HT9
   ·obtain rfl:=Option.some.inj hv
    obtain rfl:=Option.some.inj ht
    exact gf HT15
   ·obtain rfl:=Option.some.inj hv
    obtain rfl:=Option.some.inj ht
    exact gf HT21
   ·simp at hv)
  rw [gf HSB23] at hnode
  have hbu26:=But.of (r:=r) hbC25
  replace HR:=gh ((gf HR).keep hbC25)
  replace HB:=gh ((gf HB).trans hbu26)
  replace HZ:=gh ((gf HZ).but hbu26 hrne)
  replace HX11:=gh ((hbu26.block _ (blk (gf HX11)).1 (Ne.symm ne11)).trans (gf HX11))
  replace HX17:=gh ((hbu26.block _ (blk (gf HX17)).1 (Ne.symm ne17)).trans (gf HX17))
  replace HX23:=gh ((hbu26.block _ (blk (gf HX23)).1 (Ne.symm ne23)).trans (gf HX23))
  replace HS:=gh (Nat.lt_of_lt_of_le (gf HS) hbu26.size)
  obtain ⟨y0,y1,y2,y3,y4,y5,y6⟩:=blk7 (gf HZ)
  obtain ⟨z0,z1,z2,z3,z4,z5,z6⟩:=frz7 (gf HZ)
  rw [←eC25,←gf HEB23] at y0 y1 y2 y3 y4 y5 y6 z0 z1 z2 z3 z4 z5 z6
  have HNode:=gh hnode
  have HEC:=gh eC25
  clear hnode eC25 hbC25 hsC25 hhC25
  go_wp2
  rw [gf HEB23,gf HEC]
  rw [←gf HQQ]
  exact dret_put rfl rfl rfl (gf HB) hr (gf HZ) (gf HY).symm (gf HR) (Nat.lt_succ_self _) (gf HNode)
 have hY27:=gf HY
 simp only [Bool.false_eq_true,if_false] at hY27
 replace HY:=gh hY27
 clear hY27
 have hRR:=gf HR
 rw [if_neg Bool.false_ne_true] at hRR
 replace HR:=gh hRR
 clear hRR
 have HC28:=gh (eat_any (gf HR) (gf HT) ⟨#[108,101,116]⟩)
 obtain ⟨bo28,hbo28⟩:∃ b,isD ts ⟨#[108,101,116]⟩ (st)=b:=⟨_,rfl⟩
 unfold eatD at HC28
 rw [hbo28] at HC28
 have HO28:=gh hbo28
 clear hbo28
 go_wp2_with fail
 refine (gf HC28).mono ?_
 rintro e w28 ⟨rfl,hb28,hR28⟩
 replace HB:=gh ((gf HB).trans hb28)
 replace HZ:=gh ((gf HZ).but hb28 hrne)
 replace HS:=gh (Nat.lt_of_lt_of_le (gf HS) hb28.size)
 replace HR:=gh hR28
 have hY29:=gf HY
 simp only [gf HO28] at hY29
 replace HY:=gh hY29
 clear hY29
 clear hb28 HC28 hR28
 rcases bo28 with _ | _
 rotate_left
 ·have hY30:=gf HY
  simp only [if_true] at hY30
  replace HY:=gh hY30
  clear hY30
  have hRR:=gf HR
  rw [if_pos rfl] at hRR
  obtain ⟨S31,hS31⟩:∃ S,stepD ts (st)=S:=⟨_,rfl⟩
  rw [hS31] at hRR
  replace HR:=gh hRR
  have HSt31:=gh hS31
  have hY32:=gf HY
  simp only [gf HSt31] at hY32
  replace HY:=gh hY32
  clear hY32
  clear hRR hS31
  have hY33:=gf HY
  simp only [letD] at hY33
  replace HY:=gh hY33
  clear hY33
  have HC34:=gh (name_any (gf HR) (gf HT))
  unfold tkV at HC34
  obtain ⟨⟨⟨kk34,T34,at34⟩,S34⟩,hN34⟩:∃ X,nameD ts (S31)=X:=⟨_,rfl⟩
  rw [hN34] at HC34
  have HN34:=gh hN34
  clear hN34
  go_wp2_with fail
  refine (gf HC34).mono ?_
  rintro e w34 ⟨rfl,hb34,hR34⟩
  have hY35:=gf HY
  simp only [gf HN34] at hY35
  replace HY:=gh hY35
  clear hY35
  replace HB:=gh ((gf HB).trans hb34)
  replace HZ:=gh ((gf HZ).but hb34 hrne)
  replace HS:=gh (Nat.lt_of_lt_of_le (gf HS) hb34.size)
  replace HR:=gh hR34
  clear hb34 hR34 HC34
  obtain ⟨B36,eB36,hbB36,hsB36,hhB36⟩:=box_new w34 #[.int .i64 kk34,.string T34,.int .i64 at34] 74
  have ne36:r≠w34.heap.size:=by have:=gf HS;omega
  have hbu37:=But.of (r:=r) hbB36
  replace HR:=gh ((gf HR).keep hbB36)
  replace HB:=gh ((gf HB).trans hbu37)
  replace HZ:=gh ((gf HZ).but hbu37 hrne)
  replace HS:=gh (Nat.lt_of_lt_of_le (gf HS) hbu37.size)
  have HX36:=gh hhB36
  have HEB36:=gh eB36
  have HSB36:=gh hsB36
  clear eB36 hbB36 hhB36 hsB36
  obtain ⟨S38,hS38⟩:∃ S,mustD ts ⟨#[61]⟩ (S34)=S:=⟨_,rfl⟩
  have HC38:=gh (dmust_any (gf HR) (gf HT) ⟨#[61]⟩)
  rw [hS38] at HC38
  have HS38:=gh hS38
  clear hS38
  go_wp2_with fail
  rw [gf HEB36]
  refine (gf HC38).mono ?_
  rintro e w38 ⟨rfl,hb38,hR38⟩
  have hY39:=gf HY
  simp only [gf HS38] at hY39
  replace HY:=gh hY39
  clear hY39
  replace HB:=gh ((gf HB).trans hb38)
  replace HZ:=gh ((gf HZ).but hb38 hrne)
  replace HX36:=gh ((hb38.block _ (blk (gf HX36)).1 (Ne.symm ne36)).trans (gf HX36))
  replace HS:=gh (Nat.lt_of_lt_of_le (gf HS) hb38.size)
  replace HR:=gh hR38
  clear hb38 hR38 HC38 HS38
  have HC40:=gh (gf hE w38 (S38) (gf HR))
  obtain ⟨⟨t40,S40⟩,hX40⟩:∃ X,g .rE (S38)=X:=⟨_,rfl⟩
  rw [hX40] at HC40
  have HX40:=gh hX40
  clear hX40
  go_wp2_with fail
  refine (gf HC40).mono ?_
  rintro e w40 ⟨hb40,hR40,v40,rfl,hv40⟩
  have hY41:=gf HY
  simp only [gf HX40] at hY41
  replace HY:=gh hY41
  clear hY41
  obtain ⟨i40,j40,s40,m40,b40,a40,n40,c40,rfl⟩:=hv40.form
  have HT40:=gh (hv40.keep (lo':=w.heap.size+1) (Stays.of (Below.refl _ _)) (gf HS))
  replace HB:=gh ((gf HB).trans hb40)
  replace HZ:=gh ((gf HZ).but hb40 hrne)
  replace HX36:=gh ((hb40.block _ (blk (gf HX36)).1 (Ne.symm ne36)).trans (gf HX36))
  replace HS:=gh (Nat.lt_of_lt_of_le (gf HS) hb40.size)
  replace HR:=gh hR40
  clear hb40 hR40 hv40 HC40 HX40
  obtain ⟨B42,eB42,hbB42,hsB42,hhB42⟩:=box_new w40 #[.int .i64 i40,.string s40,.string m40,.bool b40,.slice a40 n40 c40,.int .i64 0,.int .i64 j40] 36
  have ne42:r≠w40.heap.size:=by have:=gf HS;omega
  have hbu43:=But.of (r:=r) hbB42
  replace HR:=gh ((gf HR).keep hbB42)
  replace HB:=gh ((gf HB).trans hbu43)
  replace HZ:=gh ((gf HZ).but hbu43 hrne)
  replace HX36:=gh ((hbu43.block _ (blk (gf HX36)).1 (Ne.symm ne36)).trans (gf HX36))
  replace HT40:=gh ((gf HT40).keep (Stays.but hbu43 (Nat.lt_succ_of_lt hr)) (Nat.le_refl _))
  replace HS:=gh (Nat.lt_of_lt_of_le (gf HS) hbu43.size)
  have HX42:=gh hhB42
  have HEB42:=gh eB42
  have HSB42:=gh hsB42
  clear eB42 hbB42 hhB42 hsB42
  obtain ⟨S44,hS44⟩:∃ S,mustD ts ⟨#[105,110]⟩ (S40)=S:=⟨_,rfl⟩
  have HC44:=gh (dmust_any (gf HR) (gf HT) ⟨#[105,110]⟩)
  rw [hS44] at HC44
  have HS44:=gh hS44
  clear hS44
  go_wp2_with fail
  rw [gf HEB42]
  refine (gf HC44).mono ?_
  rintro e w44 ⟨rfl,hb44,hR44⟩
  have hY45:=gf HY
  simp only [gf HS44] at hY45
  replace HY:=gh hY45
  clear hY45
  replace HB:=gh ((gf HB).trans hb44)
  replace HZ:=gh ((gf HZ).but hb44 hrne)
  replace HX36:=gh ((hb44.block _ (blk (gf HX36)).1 (Ne.symm ne36)).trans (gf HX36))
  replace HX42:=gh ((hb44.block _ (blk (gf HX42)).1 (Ne.symm ne42)).trans (gf HX42))
  replace HT40:=gh ((gf HT40).keep (Stays.but hb44 (Nat.lt_succ_of_lt hr)) (Nat.le_refl _))
  replace HS:=gh (Nat.lt_of_lt_of_le (gf HS) hb44.size)
  replace HR:=gh hR44
  clear hb44 hR44 HC44 HS44
  have HC46:=gh (gf hE w44 (S44) (gf HR))
  obtain ⟨⟨t46,S46⟩,hX46⟩:∃ X,g .rE (S44)=X:=⟨_,rfl⟩
  rw [hX46] at HC46
  have HX46:=gh hX46
  clear hX46
  go_wp2_with fail
  refine (gf HC46).mono ?_
  rintro e w46 ⟨hb46,hR46,v46,rfl,hv46⟩
  have hY47:=gf HY
  simp only [gf HX46] at hY47
  replace HY:=gh hY47
  clear hY47
  obtain ⟨i46,j46,s46,m46,b46,a46,n46,c46,rfl⟩:=hv46.form
  have HT46:=gh (hv46.keep (lo':=w.heap.size+1) (Stays.of (Below.refl _ _)) (gf HS))
  replace HB:=gh ((gf HB).trans hb46)
  replace HZ:=gh ((gf HZ).but hb46 hrne)
  replace HX36:=gh ((hb46.block _ (blk (gf HX36)).1 (Ne.symm ne36)).trans (gf HX36))
  replace HX42:=gh ((hb46.block _ (blk (gf HX42)).1 (Ne.symm ne42)).trans (gf HX42))
  replace HT40:=gh ((gf HT40).keep (Stays.but hb46 (Nat.lt_succ_of_lt hr)) (Nat.le_refl _))
  replace HS:=gh (Nat.lt_of_lt_of_le (gf HS) hb46.size)
  replace HR:=gh hR46
  clear hb46 hR46 hv46 HC46 HX46
  obtain ⟨B48,eB48,hbB48,hsB48,hhB48⟩:=box_new w46 #[.int .i64 i46,.string s46,.string m46,.bool b46,.slice a46 n46 c46,.int .i64 0,.int .i64 j46] 36
  have ne48:r≠w46.heap.size:=by have:=gf HS;omega
  have hbu49:=But.of (r:=r) hbB48
  replace HR:=gh ((gf HR).keep hbB48)
  replace HB:=gh ((gf HB).trans hbu49)
  replace HZ:=gh ((gf HZ).but hbu49 hrne)
  replace HX36:=gh ((hbu49.block _ (blk (gf HX36)).1 (Ne.symm ne36)).trans (gf HX36))
  replace HX42:=gh ((hbu49.block _ (blk (gf HX42)).1 (Ne.symm ne42)).trans (gf HX42))
  replace HT40:=gh ((gf HT40).keep (Stays.but hbu49 (Nat.lt_succ_of_lt hr)) (Nat.le_refl _))
  replace HT46:=gh ((gf HT46).keep (Stays.but hbu49 (Nat.lt_succ_of_lt hr)) (Nat.le_refl _))
  replace HS:=gh (Nat.lt_of_lt_of_le (gf HS) hbu49.size)
  have HX48:=gh hhB48
  have HEB48:=gh eB48
  have HSB48:=gh hsB48
  clear eB48 hbB48 hhB48 hsB48
  have u036:=(blk (gf HX36)).2.1 0 _ rfl
  have u136:=(blk (gf HX36)).2.1 1 _ rfl
  have u236:=(blk (gf HX36)).2.1 2 _ rfl
  obtain ⟨y042,y142,y242,y342,y442,y542,y642⟩:=blk7 (gf HX42)
  obtain ⟨y048,y148,y248,y348,y448,y548,y648⟩:=blk7 (gf HX48)
  rw [←gf HEB48] at u036 u136 u236 y042 y142 y242 y342 y442 y542 y642 y048 y148 y248 y348 y448 y548 y648
  obtain ⟨C50,eC50,hbC50,hsC50,hhC50⟩:=box_new B48 #[.int .i64 i40,.string s40,.string m40,.bool b40,.slice a40 n40 c40,.int .i64 0,.int .i64 j40,.int .i64 i46,.string s46,.string m46,.bool b46,.slice a46 n46 c46,.int .i64 0,.int .i64 j46] 36
  have hnode:=node (l:=[t40,t46]) (vs:=[[.int .i64 i40,.string s40,.string m40,.bool b40,.slice a40 n40 c40,.int .i64 0,.int .i64 j40],[.int .i64 i46,.string s46,.string m46,.bool b46,.slice a46 n46 c46,.int .i64 0,.int .i64 j46]]) 23 at0 T34 ⟨#[]⟩ false eC50 rfl (by simp) rfl (by simp) (gf HS) (fun j v t hv ht=>by
   rcases j with _ | _ | j
   ·obtain rfl:=Option.some.inj hv
    obtain rfl:=Option.some.inj ht
    exact gf HT40
   ·obtain rfl:=Option.some.inj hv
    obtain rfl:=Option.some.inj ht
    exact gf HT46
   ·simp at hv)
  rw [gf HSB48] at hnode
  have hbu51:=But.of (r:=r) hbC50
  replace HR:=gh ((gf HR).keep hbC50)
  replace HB:=gh ((gf HB).trans hbu51)
  replace HZ:=gh ((gf HZ).but hbu51 hrne)
  replace HX36:=gh ((hbu51.block _ (blk (gf HX36)).1 (Ne.symm ne36)).trans (gf HX36))
  replace HX42:=gh ((hbu51.block _ (blk (gf HX42)).1 (Ne.symm ne42)).trans (gf HX42))
  replace HX48:=gh ((hbu51.block _ (blk (gf HX48)).1 (Ne.symm ne48)).trans (gf HX48))
  replace HS:=gh (Nat.lt_of_lt_of_le (gf HS) hbu51.size)
  obtain ⟨y0,y1,y2,y3,y4,y5,y6⟩:=blk7 (gf HZ)
  obtain ⟨z0,z1,z2,z3,z4,z5,z6⟩:=frz7 (gf HZ)
  rw [←eC50,←gf HEB48] at y0 y1 y2 y3 y4 y5 y6 z0 z1 z2 z3 z4 z5 z6
  have HNode:=gh hnode
  have HEC:=gh eC50
  clear hnode eC50 hbC50 hsC50 hhC50
  go_wp2
  rw [gf HEB48,gf HEC]
  rw [←gf HQQ]
  exact dret_put rfl rfl rfl (gf HB) hr (gf HZ) (gf HY).symm (gf HR) (Nat.lt_succ_self _) (gf HNode)
 have hY52:=gf HY
 simp only [Bool.false_eq_true,if_false] at hY52
 replace HY:=gh hY52
 clear hY52
 have hRR:=gf HR
 rw [if_neg Bool.false_ne_true] at hRR
 replace HR:=gh hRR
 clear hRR
 have HC53:=gh (eat_any (gf HR) (gf HT) ⟨#[116,114,121]⟩)
 obtain ⟨bo53,hbo53⟩:∃ b,isD ts ⟨#[116,114,121]⟩ (st)=b:=⟨_,rfl⟩
 unfold eatD at HC53
 rw [hbo53] at HC53
 have HO53:=gh hbo53
 clear hbo53
 go_wp2_with fail
 refine (gf HC53).mono ?_
 rintro e w53 ⟨rfl,hb53,hR53⟩
 replace HB:=gh ((gf HB).trans hb53)
 replace HZ:=gh ((gf HZ).but hb53 hrne)
 replace HS:=gh (Nat.lt_of_lt_of_le (gf HS) hb53.size)
 replace HR:=gh hR53
 have hY54:=gf HY
 simp only [gf HO53] at hY54
 replace HY:=gh hY54
 clear hY54
 clear hb53 HC53 hR53
 rcases bo53 with _ | _
 rotate_left
 ·have hY55:=gf HY
  simp only [if_true] at hY55
  replace HY:=gh hY55
  clear hY55
  have hRR:=gf HR
  rw [if_pos rfl] at hRR
  obtain ⟨S56,hS56⟩:∃ S,stepD ts (st)=S:=⟨_,rfl⟩
  rw [hS56] at hRR
  replace HR:=gh hRR
  have HSt56:=gh hS56
  have hY57:=gf HY
  simp only [gf HSt56] at hY57
  replace HY:=gh hY57
  clear hY57
  clear hRR hS56
  have hY58:=gf HY
  simp only [tryD] at hY58
  replace HY:=gh hY58
  clear hY58
  have HC59:=gh (gf hE w53 (S56) (gf HR))
  obtain ⟨⟨t59,S59⟩,hX59⟩:∃ X,g .rE (S56)=X:=⟨_,rfl⟩
  rw [hX59] at HC59
  have HX59:=gh hX59
  clear hX59
  go_wp2_with fail
  refine (gf HC59).mono ?_
  rintro e w59 ⟨hb59,hR59,v59,rfl,hv59⟩
  have hY60:=gf HY
  simp only [gf HX59] at hY60
  replace HY:=gh hY60
  clear hY60
  obtain ⟨i59,j59,s59,m59,b59,a59,n59,c59,rfl⟩:=hv59.form
  have HT59:=gh (hv59.keep (lo':=w.heap.size+1) (Stays.of (Below.refl _ _)) (gf HS))
  replace HB:=gh ((gf HB).trans hb59)
  replace HZ:=gh ((gf HZ).but hb59 hrne)
  replace HS:=gh (Nat.lt_of_lt_of_le (gf HS) hb59.size)
  replace HR:=gh hR59
  clear hb59 hR59 hv59 HC59 HX59
  obtain ⟨B61,eB61,hbB61,hsB61,hhB61⟩:=box_new w59 #[.int .i64 i59,.string s59,.string m59,.bool b59,.slice a59 n59 c59,.int .i64 0,.int .i64 j59] 36
  have ne61:r≠w59.heap.size:=by have:=gf HS;omega
  have hbu62:=But.of (r:=r) hbB61
  replace HR:=gh ((gf HR).keep hbB61)
  replace HB:=gh ((gf HB).trans hbu62)
  replace HZ:=gh ((gf HZ).but hbu62 hrne)
  replace HT59:=gh ((gf HT59).keep (Stays.but hbu62 (Nat.lt_succ_of_lt hr)) (Nat.le_refl _))
  replace HS:=gh (Nat.lt_of_lt_of_le (gf HS) hbu62.size)
  have HX61:=gh hhB61
  have HEB61:=gh eB61
  have HSB61:=gh hsB61
  clear eB61 hbB61 hhB61 hsB61
  obtain ⟨S63,hS63⟩:∃ S,mustD ts ⟨#[119,105,116,104]⟩ (S59)=S:=⟨_,rfl⟩
  have HC63:=gh (dmust_any (gf HR) (gf HT) ⟨#[119,105,116,104]⟩)
  rw [hS63] at HC63
  have HS63:=gh hS63
  clear hS63
  go_wp2_with fail
  rw [gf HEB61]
  refine (gf HC63).mono ?_
  rintro e w63 ⟨rfl,hb63,hR63⟩
  have hY64:=gf HY
  simp only [gf HS63] at hY64
  replace HY:=gh hY64
  clear hY64
  replace HB:=gh ((gf HB).trans hb63)
  replace HZ:=gh ((gf HZ).but hb63 hrne)
  replace HX61:=gh ((hb63.block _ (blk (gf HX61)).1 (Ne.symm ne61)).trans (gf HX61))
  replace HT59:=gh ((gf HT59).keep (Stays.but hb63 (Nat.lt_succ_of_lt hr)) (Nat.le_refl _))
  replace HS:=gh (Nat.lt_of_lt_of_le (gf HS) hb63.size)
  replace HR:=gh hR63
  clear hb63 hR63 HC63 HS63
  have HC65:=gh (name_any (gf HR) (gf HT))
  unfold tkV at HC65
  obtain ⟨⟨⟨kk65,T65,at65⟩,S65⟩,hN65⟩:∃ X,nameD ts (S63)=X:=⟨_,rfl⟩
  rw [hN65] at HC65
  have HN65:=gh hN65
  clear hN65
  go_wp2_with fail
  refine (gf HC65).mono ?_
  rintro e w65 ⟨rfl,hb65,hR65⟩
  have hY66:=gf HY
  simp only [gf HN65] at hY66
  replace HY:=gh hY66
  clear hY66
  replace HB:=gh ((gf HB).trans hb65)
  replace HZ:=gh ((gf HZ).but hb65 hrne)
  replace HX61:=gh ((hb65.block _ (blk (gf HX61)).1 (Ne.symm ne61)).trans (gf HX61))
  replace HT59:=gh ((gf HT59).keep (Stays.but hb65 (Nat.lt_succ_of_lt hr)) (Nat.le_refl _))
  replace HS:=gh (Nat.lt_of_lt_of_le (gf HS) hb65.size)
  replace HR:=gh hR65
  clear hb65 hR65 HC65
  obtain ⟨B67,eB67,hbB67,hsB67,hhB67⟩:=box_new w65 #[.int .i64 kk65,.string T65,.int .i64 at65] 74
  have ne67:r≠w65.heap.size:=by have:=gf HS;omega
  have hbu68:=But.of (r:=r) hbB67
  replace HR:=gh ((gf HR).keep hbB67)
  replace HB:=gh ((gf HB).trans hbu68)
  replace HZ:=gh ((gf HZ).but hbu68 hrne)
  replace HX61:=gh ((hbu68.block _ (blk (gf HX61)).1 (Ne.symm ne61)).trans (gf HX61))
  replace HT59:=gh ((gf HT59).keep (Stays.but hbu68 (Nat.lt_succ_of_lt hr)) (Nat.le_refl _))
  replace HS:=gh (Nat.lt_of_lt_of_le (gf HS) hbu68.size)
  have HX67:=gh hhB67
  have HEB67:=gh eB67
  have HSB67:=gh hsB67
  clear eB67 hbB67 hhB67 hsB67
  obtain ⟨S69,hS69⟩:∃ S,mustD ts ⟨#[45,62]⟩ (S65)=S:=⟨_,rfl⟩
  have HC69:=gh (dmust_any (gf HR) (gf HT) ⟨#[45,62]⟩)
  rw [hS69] at HC69
  have HS69:=gh hS69
  clear hS69
  go_wp2_with fail
  rw [gf HEB67]
  refine (gf HC69).mono ?_
  rintro e w69 ⟨rfl,hb69,hR69⟩
  have hY70:=gf HY
  simp only [gf HS69] at hY70
  replace HY:=gh hY70
  clear hY70
  replace HB:=gh ((gf HB).trans hb69)
  replace HZ:=gh ((gf HZ).but hb69 hrne)
  replace HX61:=gh ((hb69.block _ (blk (gf HX61)).1 (Ne.symm ne61)).trans (gf HX61))
  replace HX67:=gh ((hb69.block _ (blk (gf HX67)).1 (Ne.symm ne67)).trans (gf HX67))
  replace HT59:=gh ((gf HT59).keep (Stays.but hb69 (Nat.lt_succ_of_lt hr)) (Nat.le_refl _))
  replace HS:=gh (Nat.lt_of_lt_of_le (gf HS) hb69.size)
  replace HR:=gh hR69
  clear hb69 hR69 HC69 HS69
  have HC71:=gh (gf hE w69 (S69) (gf HR))
  obtain ⟨⟨t71,S71⟩,hX71⟩:∃ X,g .rE (S69)=X:=⟨_,rfl⟩
  rw [hX71] at HC71
  have HX71:=gh hX71
  clear hX71
  go_wp2_with fail
  refine (gf HC71).mono ?_
  rintro e w71 ⟨hb71,hR71,v71,rfl,hv71⟩
  have hY72:=gf HY
  simp only [gf HX71] at hY72
  replace HY:=gh hY72
  clear hY72
  obtain ⟨i71,j71,s71,m71,b71,a71,n71,c71,rfl⟩:=hv71.form
  have HT71:=gh (hv71.keep (lo':=w.heap.size+1) (Stays.of (Below.refl _ _)) (gf HS))
  replace HB:=gh ((gf HB).trans hb71)
  replace HZ:=gh ((gf HZ).but hb71 hrne)
  replace HX61:=gh ((hb71.block _ (blk (gf HX61)).1 (Ne.symm ne61)).trans (gf HX61))
  replace HX67:=gh ((hb71.block _ (blk (gf HX67)).1 (Ne.symm ne67)).trans (gf HX67))
  replace HT59:=gh ((gf HT59).keep (Stays.but hb71 (Nat.lt_succ_of_lt hr)) (Nat.le_refl _))
  replace HS:=gh (Nat.lt_of_lt_of_le (gf HS) hb71.size)
  replace HR:=gh hR71
  clear hb71 hR71 hv71 HC71 HX71
  obtain ⟨B73,eB73,hbB73,hsB73,hhB73⟩:=box_new w71 #[.int .i64 i71,.string s71,.string m71,.bool b71,.slice a71 n71 c71,.int .i64 0,.int .i64 j71] 36
  have ne73:r≠w71.heap.size:=by have:=gf HS;omega
  have hbu74:=But.of (r:=r) hbB73
  replace HR:=gh ((gf HR).keep hbB73)
  replace HB:=gh ((gf HB).trans hbu74)
  replace HZ:=gh ((gf HZ).but hbu74 hrne)
  replace HX61:=gh ((hbu74.block _ (blk (gf HX61)).1 (Ne.symm ne61)).trans (gf HX61))
  replace HX67:=gh ((hbu74.block _ (blk (gf HX67)).1 (Ne.symm ne67)).trans (gf HX67))
  replace HT59:=gh ((gf HT59).keep (Stays.but hbu74 (Nat.lt_succ_of_lt hr)) (Nat.le_refl _))
  replace HT71:=gh ((gf HT71).keep (Stays.but hbu74 (Nat.lt_succ_of_lt hr)) (Nat.le_refl _))
  replace HS:=gh (Nat.lt_of_lt_of_le (gf HS) hbu74.size)
  have HX73:=gh hhB73
  have HEB73:=gh eB73
  have HSB73:=gh hsB73
  clear eB73 hbB73 hhB73 hsB73
  have u067:=(blk (gf HX67)).2.1 0 _ rfl
  have u167:=(blk (gf HX67)).2.1 1 _ rfl
  have u267:=(blk (gf HX67)).2.1 2 _ rfl
  obtain ⟨y061,y161,y261,y361,y461,y561,y661⟩:=blk7 (gf HX61)
  obtain ⟨y073,y173,y273,y373,y473,y573,y673⟩:=blk7 (gf HX73)
  rw [←gf HEB73] at u067 u167 u267 y061 y161 y261 y361 y461 y561 y661 y073 y173 y273 y373 y473 y573 y673
  obtain ⟨C75,eC75,hbC75,hsC75,hhC75⟩:=box_new B73 #[.int .i64 i59,.string s59,.string m59,.bool b59,.slice a59 n59 c59,.int .i64 0,.int .i64 j59,.int .i64 i71,.string s71,.string m71,.bool b71,.slice a71 n71 c71,.int .i64 0,.int .i64 j71] 36
  have hnode:=node (l:=[t59,t71]) (vs:=[[.int .i64 i59,.string s59,.string m59,.bool b59,.slice a59 n59 c59,.int .i64 0,.int .i64 j59],[.int .i64 i71,.string s71,.string m71,.bool b71,.slice a71 n71 c71,.int .i64 0,.int .i64 j71]]) 27 at0 T65 ⟨#[]⟩ false eC75 rfl (by simp) rfl (by simp) (gf HS) (fun j v t hv ht=>by
   rcases j with _ | _ | j
   ·obtain rfl:=Option.some.inj hv
    obtain rfl:=Option.some.inj ht
    exact gf HT59
   ·obtain rfl:=Option.some.inj hv
    obtain rfl:=Option.some.inj ht
    exact gf HT71
   ·simp at hv)
  rw [gf HSB73] at hnode
  have hbu76:=But.of (r:=r) hbC75
  replace HR:=gh ((gf HR).keep hbC75)
  replace HB:=gh ((gf HB).trans hbu76)
  replace HZ:=gh ((gf HZ).but hbu76 hrne)
  replace HX61:=gh ((hbu76.block _ (blk (gf HX61)).1 (Ne.symm ne61)).trans (gf HX61))
  replace HX67:=gh ((hbu76.block _ (blk (gf HX67)).1 (Ne.symm ne67)).trans (gf HX67))
  replace HX73:=gh ((hbu76.block _ (blk (gf HX73)).1 (Ne.symm ne73)).trans (gf HX73))
  replace HS:=gh (Nat.lt_of_lt_of_le (gf HS) hbu76.size)
  obtain ⟨y0,y1,y2,y3,y4,y5,y6⟩:=blk7 (gf HZ)
  obtain ⟨z0,z1,z2,z3,z4,z5,z6⟩:=frz7 (gf HZ)
  rw [←eC75,←gf HEB73] at y0 y1 y2 y3 y4 y5 y6 z0 z1 z2 z3 z4 z5 z6
  have HNode:=gh hnode
  have HEC:=gh eC75
  clear hnode eC75 hbC75 hsC75 hhC75
  go_wp2
  rw [gf HEB73,gf HEC]
  rw [←gf HQQ]
  exact dret_put rfl rfl rfl (gf HB) hr (gf HZ) (gf HY).symm (gf HR) (Nat.lt_succ_self _) (gf HNode)
 have hY77:=gf HY
 simp only [Bool.false_eq_true,if_false] at hY77
 replace HY:=gh hY77
 clear hY77
 have hRR:=gf HR
 rw [if_neg Bool.false_ne_true] at hRR
 replace HR:=gh hRR
 clear hRR
 have HC78:=gh (gf hP w53 (st) (gf HR))
 obtain ⟨⟨t78,S78⟩,hX78⟩:∃ X,partD ts g (st)=X:=⟨_,rfl⟩
 rw [hX78] at HC78
 have HX78:=gh hX78
 clear hX78
 go_wp2_with fail
 refine (gf HC78).mono ?_
 rintro e w78 ⟨hb78,hR78,v78,rfl,hv78⟩
 have hY79:=gf HY
 simp only [gf HX78] at hY79
 replace HY:=gh hY79
 clear hY79
 obtain ⟨i78,j78,s78,m78,b78,a78,n78,c78,rfl⟩:=hv78.form
 have HT78:=gh (hv78.keep (lo':=w.heap.size+1) (Stays.of (Below.refl _ _)) (gf HS))
 replace HB:=gh ((gf HB).trans hb78)
 replace HZ:=gh ((gf HZ).but hb78 hrne)
 replace HS:=gh (Nat.lt_of_lt_of_le (gf HS) hb78.size)
 replace HR:=gh hR78
 clear hb78 hR78 hv78 HC78 HX78
 obtain ⟨B80,eB80,hbB80,hsB80,hhB80⟩:=box_new w78 #[.int .i64 i78,.string s78,.string m78,.bool b78,.slice a78 n78 c78,.int .i64 0,.int .i64 j78] 36
 have ne80:r≠w78.heap.size:=by have:=gf HS;omega
 have hbu81:=But.of (r:=r) hbB80
 replace HR:=gh ((gf HR).keep hbB80)
 replace HB:=gh ((gf HB).trans hbu81)
 replace HZ:=gh ((gf HZ).but hbu81 hrne)
 replace HT78:=gh ((gf HT78).keep (Stays.but hbu81 (Nat.lt_succ_of_lt hr)) (Nat.le_refl _))
 replace HS:=gh (Nat.lt_of_lt_of_le (gf HS) hbu81.size)
 have HX80:=gh hhB80
 have HEB80:=gh eB80
 have HSB80:=gh hsB80
 clear eB80 hbB80 hhB80 hsB80
 have HC82:=gh (dt_any (gf HR) (gf HT))
 unfold tkV at HC82
 obtain ⟨⟨kk82,T82,at82⟩,hN82⟩:∃ X,tD ts (S78)=X:=⟨_,rfl⟩
 rw [hN82] at HC82
 have HN82:=gh hN82
 have hf282:=fld2 (.int .i64 kk82) (.string T82) (.int .i64 at82)
 clear hN82
 go_wp2_with fail
 rw [gf HEB80]
 refine (gf HC82).mono ?_
 rintro e w82 ⟨rfl,hb82⟩
 have hY83:=gf HY
 simp only [gf HN82] at hY83
 replace HY:=gh hY83
 clear hY83
 have hbu84:=But.of (r:=r) hb82
 replace HR:=gh ((gf HR).keep hb82)
 replace HB:=gh ((gf HB).trans hbu84)
 replace HZ:=gh ((gf HZ).but hbu84 hrne)
 replace HX80:=gh ((hbu84.block _ (blk (gf HX80)).1 (Ne.symm ne80)).trans (gf HX80))
 replace HT78:=gh ((gf HT78).keep (Stays.but hbu84 (Nat.lt_succ_of_lt hr)) (Nat.le_refl _))
 replace HS:=gh (Nat.lt_of_lt_of_le (gf HS) hbu84.size)
 clear hb82 HC82
 have HC85:=gh (eat_any (gf HR) (gf HT) ⟨#[59]⟩)
 obtain ⟨bo85,hbo85⟩:∃ b,isD ts ⟨#[59]⟩ (S78)=b:=⟨_,rfl⟩
 unfold eatD at HC85
 rw [hbo85] at HC85
 have HO85:=gh hbo85
 clear hbo85
 go_wp2_with fail
 refine (gf HC85).mono ?_
 rintro e w85 ⟨rfl,hb85,hR85⟩
 replace HB:=gh ((gf HB).trans hb85)
 replace HZ:=gh ((gf HZ).but hb85 hrne)
 replace HX80:=gh ((hb85.block _ (blk (gf HX80)).1 (Ne.symm ne80)).trans (gf HX80))
 replace HT78:=gh ((gf HT78).keep (Stays.but hb85 (Nat.lt_succ_of_lt hr)) (Nat.le_refl _))
 replace HS:=gh (Nat.lt_of_lt_of_le (gf HS) hb85.size)
 replace HR:=gh hR85
 have hY86:=gf HY
 simp only [gf HO85] at hY86
 replace HY:=gh hY86
 clear hY86
 clear hb85 HC85 hR85
 rcases bo85 with _ | _
 rotate_left
 ·have hY87:=gf HY
  simp only [if_true] at hY87
  replace HY:=gh hY87
  clear hY87
  have hRR:=gf HR
  rw [if_pos rfl] at hRR
  obtain ⟨S88,hS88⟩:∃ S,stepD ts (S78)=S:=⟨_,rfl⟩
  rw [hS88] at hRR
  replace HR:=gh hRR
  have HSt88:=gh hS88
  have hY89:=gf HY
  simp only [gf HSt88] at hY89
  replace HY:=gh hY89
  clear hY89
  clear hRR hS88
  have HC90:=gh (gf hE w85 (S88) (gf HR))
  obtain ⟨⟨t90,S90⟩,hX90⟩:∃ X,g .rE (S88)=X:=⟨_,rfl⟩
  rw [hX90] at HC90
  have HX90:=gh hX90
  clear hX90
  go_wp2_with fail
  refine (gf HC90).mono ?_
  rintro e w90 ⟨hb90,hR90,v90,rfl,hv90⟩
  have hY91:=gf HY
  simp only [gf HX90] at hY91
  replace HY:=gh hY91
  clear hY91
  obtain ⟨i90,j90,s90,m90,b90,a90,n90,c90,rfl⟩:=hv90.form
  have HT90:=gh (hv90.keep (lo':=w.heap.size+1) (Stays.of (Below.refl _ _)) (gf HS))
  replace HB:=gh ((gf HB).trans hb90)
  replace HZ:=gh ((gf HZ).but hb90 hrne)
  replace HX80:=gh ((hb90.block _ (blk (gf HX80)).1 (Ne.symm ne80)).trans (gf HX80))
  replace HT78:=gh ((gf HT78).keep (Stays.but hb90 (Nat.lt_succ_of_lt hr)) (Nat.le_refl _))
  replace HS:=gh (Nat.lt_of_lt_of_le (gf HS) hb90.size)
  replace HR:=gh hR90
  clear hb90 hR90 hv90 HC90 HX90
  obtain ⟨B92,eB92,hbB92,hsB92,hhB92⟩:=box_new w90 #[.int .i64 i90,.string s90,.string m90,.bool b90,.slice a90 n90 c90,.int .i64 0,.int .i64 j90] 36
  have ne92:r≠w90.heap.size:=by have:=gf HS;omega
  have hbu93:=But.of (r:=r) hbB92
  replace HR:=gh ((gf HR).keep hbB92)
  replace HB:=gh ((gf HB).trans hbu93)
  replace HZ:=gh ((gf HZ).but hbu93 hrne)
  replace HX80:=gh ((hbu93.block _ (blk (gf HX80)).1 (Ne.symm ne80)).trans (gf HX80))
  replace HT78:=gh ((gf HT78).keep (Stays.but hbu93 (Nat.lt_succ_of_lt hr)) (Nat.le_refl _))
  replace HT90:=gh ((gf HT90).keep (Stays.but hbu93 (Nat.lt_succ_of_lt hr)) (Nat.le_refl _))
  replace HS:=gh (Nat.lt_of_lt_of_le (gf HS) hbu93.size)
  have HX92:=gh hhB92
  have HEB92:=gh eB92
  have HSB92:=gh hsB92
  clear eB92 hbB92 hhB92 hsB92
  obtain ⟨y080,y180,y280,y380,y480,y580,y680⟩:=blk7 (gf HX80)
  obtain ⟨y092,y192,y292,y392,y492,y592,y692⟩:=blk7 (gf HX92)
  rw [←gf HEB92] at y080 y180 y280 y380 y480 y580 y680 y092 y192 y292 y392 y492 y592 y692
  obtain ⟨C94,eC94,hbC94,hsC94,hhC94⟩:=box_new B92 #[.int .i64 i78,.string s78,.string m78,.bool b78,.slice a78 n78 c78,.int .i64 0,.int .i64 j78,.int .i64 i90,.string s90,.string m90,.bool b90,.slice a90 n90 c90,.int .i64 0,.int .i64 j90] 36
  have hnode:=node (l:=[t78,t90]) (vs:=[[.int .i64 i78,.string s78,.string m78,.bool b78,.slice a78 n78 c78,.int .i64 0,.int .i64 j78],[.int .i64 i90,.string s90,.string m90,.bool b90,.slice a90 n90 c90,.int .i64 0,.int .i64 j90]]) 24 at82 ⟨#[]⟩ ⟨#[]⟩ false eC94 rfl (by simp) rfl (by simp) (gf HS) (fun j v t hv ht=>by
   rcases j with _ | _ | j
   ·obtain rfl:=Option.some.inj hv
    obtain rfl:=Option.some.inj ht
    exact gf HT78
   ·obtain rfl:=Option.some.inj hv
    obtain rfl:=Option.some.inj ht
    exact gf HT90
   ·simp at hv)
  rw [gf HSB92] at hnode
  have hbu95:=But.of (r:=r) hbC94
  replace HR:=gh ((gf HR).keep hbC94)
  replace HB:=gh ((gf HB).trans hbu95)
  replace HZ:=gh ((gf HZ).but hbu95 hrne)
  replace HX80:=gh ((hbu95.block _ (blk (gf HX80)).1 (Ne.symm ne80)).trans (gf HX80))
  replace HX92:=gh ((hbu95.block _ (blk (gf HX92)).1 (Ne.symm ne92)).trans (gf HX92))
  replace HS:=gh (Nat.lt_of_lt_of_le (gf HS) hbu95.size)
  obtain ⟨y0,y1,y2,y3,y4,y5,y6⟩:=blk7 (gf HZ)
  obtain ⟨z0,z1,z2,z3,z4,z5,z6⟩:=frz7 (gf HZ)
  rw [←eC94,←gf HEB92] at y0 y1 y2 y3 y4 y5 y6 z0 z1 z2 z3 z4 z5 z6
  have HNode:=gh hnode
  have HEC:=gh eC94
  clear hnode eC94 hbC94 hsC94 hhC94
  go_wp2
  rw [gf HEB92,gf HEC]
  rw [←gf HQQ]
  exact dret_put rfl rfl rfl (gf HB) hr (gf HZ) (gf HY).symm (gf HR) (Nat.lt_succ_self _) (gf HNode)
 have hY96:=gf HY
 simp only [Bool.false_eq_true,if_false] at hY96
 replace HY:=gh hY96
 clear hY96
 have hRR:=gf HR
 rw [if_neg Bool.false_ne_true] at hRR
 replace HR:=gh hRR
 clear hRR
 obtain ⟨y080,y180,y280,y380,y480,y580,y680⟩:=blk7 (gf HX80)
 obtain ⟨y0,y1,y2,y3,y4,y5,y6⟩:=blk7 (gf HZ)
 obtain ⟨z0,z1,z2,z3,z4,z5,z6⟩:=frz7 (gf HZ)
 have HNode:=gh (gf HT78)
 go_wp2
 rw [←gf HQQ]
 exact dret_put rfl rfl rfl (gf HB) hr (gf HZ) (gf HY).symm (gf HR) (Nat.lt_succ_self _) (gf HNode)
end Go.Proofs.YtfkfnbehdcmgeaaGreatDoor
