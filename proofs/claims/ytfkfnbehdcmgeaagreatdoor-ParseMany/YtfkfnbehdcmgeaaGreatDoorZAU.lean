/- The document's parser: imp. -/
import Derived.Test.YtfkfnbehdcmgeaaGreatDoorZAT
set_option linter.unusedVariables false
set_option linter.unusedSimpArgs false
namespace Go.Proofs.YtfkfnbehdcmgeaaGreatDoor
open Go Go.RowKit
theorem isD_e {ts:List (Int×ByteArray×Int)} {s:ByteArray} {S:PS} (h:isD ts s S=true):S.e=0:=by
 unfold isD at h
 simp only [Bool.and_eq_true,decide_eq_true_eq] at h
 exact h.1.1
theorem stepD_e {ts:List (Int×ByteArray×Int)} {S:PS}:(stepD ts S).e=S.e:=by
 unfold stepD
 split <;> rfl
set_option maxRecDepth 100000 in
set_option maxHeartbeats 8000000 in
theorem dunary_of {r d:Nat} {ts:List (Int×ByteArray×Int)} {g:Ru→PS→Ex×PS} (hT:TsOk ts) (hU:(200≤d∧d≤100000∧∀ S,g .rU S=(zEx,S.fail (tD ts S).2.2 151))∨(d<200∧∃ X,(∀ S,S.e=0→g .rU S=X S)∧DcO 116 r ts (d+1) X)) (hP:DcC 118 r ts d (primD ts g)):DcC 116 r ts d (unaryD ts g):=by
 intro w st hR
 obtain ⟨Y,hY⟩:∃ Y,unaryD ts g st=Y:=⟨_,rfl⟩
 show Calls _ _ _ _ (DE (unaryD ts g st) r ts d w)
 rw [hY]
 unfold unaryD at hY
 have hr:=hR.rlt
 obtain ⟨A,eA,hbA,hzA,hsA⟩:=zb_new w
 have HB:=gh (But.of (r:=r) hbA)
 have HR:=gh (hR.keep hbA)
 have HZ:=gh hzA
 have HS:Hid (w.heap.size<A.heap.size):=by show _<_;omega
 have HE:=gh eA
 have HT:=gh hT
 have HY:=gh hY
 have hrne:r≠w.heap.size:=by omega
 replace hU:=gh hU
 replace hP:=gh hP
 clear hR hbA hzA hsA eA hT hY
 go_enter Tryz.func116,Tryz.ntmps116
 generalize hQQ:bodyPost Tryz.prog Tryz.f116 (DE Y r ts d w)=QQ
 have HQQ:=gh hQQ
 clear hQQ
 have HC0:=gh (dt_any (gf HR) (gf HT))
 unfold tkV at HC0
 obtain ⟨⟨kk0,T0,at0⟩,hN0⟩:∃ X,tD ts (st)=X:=⟨_,rfl⟩
 rw [hN0] at HC0
 have HN0:=gh hN0
 have hf20:=fld2 (.int .i64 kk0) (.string T0) (.int .i64 at0)
 clear hN0
 go_wp2_with fail
 rw [gf HE]
 refine (gf HC0).mono ?_
 rintro e w0 ⟨rfl,hb0⟩
 have hY1:=gf HY
 simp only [gf HN0] at hY1
 replace HY:=gh hY1
 clear hY1
 have hbu2:=But.of (r:=r) hb0
 replace HR:=gh ((gf HR).keep hb0)
 replace HB:=gh ((gf HB).trans hbu2)
 replace HZ:=gh ((gf HZ).but hbu2 hrne)
 replace HS:=gh (Nat.lt_of_lt_of_le (gf HS) hbu2.size)
 clear hb0 HC0
 obtain ⟨B3,eB3,hbB3,hsB3,hhB3⟩:=box_new w0 #[.int .i64 kk0,.string T0,.int .i64 at0] 74
 have ne3:r≠w0.heap.size:=by have:=gf HS;omega
 have hbu4:=But.of (r:=r) hbB3
 replace HR:=gh ((gf HR).keep hbB3)
 replace HB:=gh ((gf HB).trans hbu4)
 replace HZ:=gh ((gf HZ).but hbu4 hrne)
 replace HS:=gh (Nat.lt_of_lt_of_le (gf HS) hbu4.size)
 have HX3:=gh hhB3
 have HEB3:=gh eB3
 have HSB3:=gh hsB3
 clear eB3 hbB3 hhB3 hsB3
 have HC5:=gh (eat_any (gf HR) (gf HT) ⟨#[45]⟩)
 obtain ⟨bo5,hbo5⟩:∃ b,isD ts ⟨#[45]⟩ (st)=b:=⟨_,rfl⟩
 unfold eatD at HC5
 rw [hbo5] at HC5
 have HO5:=gh hbo5
 clear hbo5
 go_wp2_with fail
 rw [gf HEB3]
 refine (gf HC5).mono ?_
 rintro e w5 ⟨rfl,hb5,hR5⟩
 replace HB:=gh ((gf HB).trans hb5)
 replace HZ:=gh ((gf HZ).but hb5 hrne)
 replace HX3:=gh ((hb5.block _ (blk (gf HX3)).1 (Ne.symm ne3)).trans (gf HX3))
 replace HS:=gh (Nat.lt_of_lt_of_le (gf HS) hb5.size)
 replace HR:=gh hR5
 have hY6:=gf HY
 simp only [gf HO5] at hY6
 replace HY:=gh hY6
 clear hY6
 clear hb5 HC5 hR5
 rcases bo5 with _ | _
 rotate_left
 ·have hY7:=gf HY
  simp only [if_true] at hY7
  replace HY:=gh hY7
  clear hY7
  have hRR:=gf HR
  rw [if_pos rfl] at hRR
  obtain ⟨S8,hS8⟩:∃ S,stepD ts (st)=S:=⟨_,rfl⟩
  rw [hS8] at hRR
  replace HR:=gh hRR
  have HSt8:=gh hS8
  have hY9:=gf HY
  simp only [gf HSt8] at hY9
  replace HY:=gh hY9
  clear hY9
  clear hRR hS8
  have heS:Hid ((S8).e=0):=by show _=_;rw [←gf HSt8,stepD_e];exact isD_e (gf HO5)
  have HSa:=HS
  have hlt:Hid (w0.heap.size<w5.heap.size):=(blk (gf HX3)).1
  obtain ⟨B10,eB10,hbB10,hsB10,hhB10⟩:=box_new w5 #[.int .i64 0,.string ⟨#[]⟩,.string ⟨#[]⟩,.bool false,.slice none 0 0,.int .i64 0,.int .i64 0] 36
  have ne10:r≠w5.heap.size:=by have:=gf HS;omega
  have hbu11:=But.of (r:=r) hbB10
  replace HR:=gh ((gf HR).keep hbB10)
  replace HB:=gh ((gf HB).trans hbu11)
  replace HZ:=gh ((gf HZ).but hbu11 hrne)
  replace HX3:=gh ((hbu11.block _ (blk (gf HX3)).1 (Ne.symm ne3)).trans (gf HX3))
  replace HS:=gh (Nat.lt_of_lt_of_le (gf HS) hbu11.size)
  have HX10:=gh hhB10
  have HEB10:=gh eB10
  have HSB10:=gh hsB10
  clear eB10 hbB10 hhB10 hsB10
  have HAB12:=gh (blk (gf HX10)).1
  rcases gf hU with hU1 | hU1
  ·obtain ⟨hd1,hd2,hgU⟩:=hU1
   have HC12:=gh (down_no (gf HR) (gf HT) hd1 hd2)
   obtain ⟨SA12,hSA12⟩:∃ S,(S8).fail (tD ts (S8)).2.2 151=S:=⟨_,rfl⟩
   rw [hSA12] at HC12
   have HSA12:=gh (And.intro (hgU (S8)) hSA12)
   have hY13:=gf HY
   simp only [(gf HSA12).1,(gf HSA12).2] at hY13
   replace HY:=gh hY13
   clear hY13
   have gd0:(0:Int)≤(d:Int):=by omega
   have gd1:(d:Int)≤100000:=by omega
   clear hgU hSA12 hd1 hd2
   go_wp2_with fail
   rw [gf HEB10]
   refine (gf HC12).mono ?_
   rintro e w12 ⟨rfl,hb12,hR12⟩
   replace HB:=gh ((gf HB).trans hb12)
   replace HZ:=gh ((gf HZ).but hb12 hrne)
   replace HX3:=gh ((hb12.block _ (blk (gf HX3)).1 (Ne.symm ne3)).trans (gf HX3))
   replace HX10:=gh ((hb12.block _ (blk (gf HX10)).1 (Ne.symm ne10)).trans (gf HX10))
   replace HS:=gh (Nat.lt_of_lt_of_le (gf HS) hb12.size)
   replace HR:=gh hR12
   clear hb12 hR12 HC12 HSA12
   obtain ⟨gg14,gc14,x014,x114,x214,x314,x414,hc14,hl14,hf14,ht14⟩:=(gf HR).facts (Below.refl _ _)
   have f414:=hf14 4
   clear hc14 hf14 ht14 x014 x114 x214 x314
   obtain ⟨y010,y110,y210,y310,y410,y510,y610⟩:=blk7 (gf HX10)
   obtain ⟨V12,hV12⟩:∃ V,w12.setCell ⟨r,4,none⟩ (.int .i64 (d:Int))=V:=⟨_,rfl⟩
   have hbV12:But r w12 V12:=by rw [←hV12];exact (But.refl r w12).set _ _
   have hRV12:=(gf HR).deep (e:=d)
   rw [hV12] at hRV12
   have hsV12:V12.heap.size=w12.heap.size:=by rw [←hV12];simp
   replace HB:=gh ((gf HB).trans hbV12)
   replace HZ:=gh ((gf HZ).but hbV12 hrne)
   replace HX3:=gh ((hbV12.block _ (blk (gf HX3)).1 (Ne.symm ne3)).trans (gf HX3))
   replace HX10:=gh ((hbV12.block _ (blk (gf HX10)).1 (Ne.symm ne10)).trans (gf HX10))
   replace HS:=gh (Nat.lt_of_lt_of_le (gf HS) hbV12.size)
   replace HR:=gh hRV12
   have HEV12:=gh hV12
   have HSV12:=gh hsV12
   clear hbV12 hRV12 hV12 hsV12
   have HTz12:=gh (leaf (W:=V12) (lo:=w.heap.size+1) 0 0 ⟨#[]⟩ ⟨#[]⟩ false)
   obtain ⟨C15,eC15,hbC15,hsC15,hhC15⟩:=box_new V12 #[.int .i64 0,.string ⟨#[]⟩,.string ⟨#[]⟩,.bool false,.slice none 0 0,.int .i64 0,.int .i64 0] 36
   have hnode:=node (l:=[zEx]) (vs:=[[.int .i64 0,.string ⟨#[]⟩,.string ⟨#[]⟩,.bool false,.slice none 0 0,.int .i64 0,.int .i64 0]]) 7 at0 ⟨#[]⟩ ⟨#[]⟩ false eC15 rfl (by simp) rfl (by simp) (gf HS) (fun j v t hv ht=>by
    rcases j with _ | j
    ·obtain rfl:=Option.some.inj hv
     obtain rfl:=Option.some.inj ht
     exact gf HTz12
    ·simp at hv)
   rw [gf HSV12] at hnode
   have hbu16:=But.of (r:=r) hbC15
   replace HR:=gh ((gf HR).keep hbC15)
   replace HB:=gh ((gf HB).trans hbu16)
   replace HZ:=gh ((gf HZ).but hbu16 hrne)
   replace HX3:=gh ((hbu16.block _ (blk (gf HX3)).1 (Ne.symm ne3)).trans (gf HX3))
   replace HX10:=gh ((hbu16.block _ (blk (gf HX10)).1 (Ne.symm ne10)).trans (gf HX10))
   replace HS:=gh (Nat.lt_of_lt_of_le (gf HS) hbu16.size)
   obtain ⟨y0,y1,y2,y3,y4,y5,y6⟩:=blk7 (gf HZ)
   obtain ⟨z0,z1,z2,z3,z4,z5,z6⟩:=frz7 (gf HZ)
   have uc03:=(blk (gf HX3)).2.1 0 _ rfl
   have uc13:=(blk (gf HX3)).2.1 1 _ rfl
   have uc23:=(blk (gf HX3)).2.1 2 _ rfl
   rw [←eC15,←gf HEV12] at y0 y1 y2 y3 y4 y5 y6 z0 z1 z2 z3 z4 z5 z6 uc03 uc13 uc23
   have HNode:=gh hnode
   have HEC:=gh eC15
   clear hnode eC15 hbC15 hsC15 hhC15
   go_wp2
   rw [gf HEV12,gf HEC]
   rw [←gf HQQ]
   exact dret_put rfl rfl rfl (gf HB) hr (gf HZ) (gf HY).symm (gf HR) (Nat.lt_succ_self _) (gf HNode)
  ·obtain ⟨hd1,X,hgX,hX⟩:=hU1
   have HC12:=gh (down_yes (gf HR) hd1)
   rw [decide_eq_true (gf heS)] at HC12
   have HGX:=gh (And.intro (hgX (S8) (gf heS)) hX)
   have gd0:(0:Int)≤(d:Int):=by omega
   have gd1:(d:Int)<200:=by omega
   clear hgX hX hd1
   go_wp2_with fail
   rw [gf HEB10]
   refine (gf HC12).mono ?_
   rintro e w12 ⟨rfl,hb12,hR12⟩
   replace HB:=gh ((gf HB).trans hb12)
   replace HZ:=gh ((gf HZ).but hb12 hrne)
   replace HX3:=gh ((hb12.block _ (blk (gf HX3)).1 (Ne.symm ne3)).trans (gf HX3))
   replace HX10:=gh ((hb12.block _ (blk (gf HX10)).1 (Ne.symm ne10)).trans (gf HX10))
   replace HS:=gh (Nat.lt_of_lt_of_le (gf HS) hb12.size)
   replace HR:=gh hR12
   replace HAB12:=gh (Nat.lt_of_lt_of_le (gf HAB12) hb12.size)
   clear hb12 hR12 HC12
   have HC17:=gh ((gf HGX).2 w12 (S8) (gf heS) (gf HR))
   obtain ⟨⟨t17,S17⟩,hX17⟩:∃ Z,X (S8)=Z:=⟨_,rfl⟩
   rw [hX17] at HC17
   have HX17:=gh (And.intro (gf HGX).1 hX17)
   have hY18:=gf HY
   simp only [(gf HX17).1,(gf HX17).2] at hY18
   replace HY:=gh hY18
   clear hY18
   clear hX17 HX17 HGX
   go_wp2_with fail
   refine (gf HC17).mono ?_
   rintro e w17 ⟨hb17,hR17,v17,rfl,hv17⟩
   obtain ⟨i17,j17,s17,m17,b17,a17,n17,c17,rfl⟩:=hv17.form
   replace HB:=gh ((gf HB).trans hb17)
   replace HZ:=gh ((gf HZ).but hb17 hrne)
   replace HX3:=gh ((hb17.block _ (blk (gf HX3)).1 (Ne.symm ne3)).trans (gf HX3))
   replace HX10:=gh ((hb17.block _ (blk (gf HX10)).1 (Ne.symm ne10)).trans (gf HX10))
   replace HS:=gh (Nat.lt_of_lt_of_le (gf HS) hb17.size)
   replace HR:=gh hR17
   obtain ⟨gg19,gc19,x019,x119,x219,x319,x419,hc19,hl19,hf19,ht19⟩:=(gf HR).facts (Below.refl _ _)
   have f419:=hf19 4
   clear hc19 hf19 ht19 x019 x119 x219 x319
   obtain ⟨ya0,ya1,ya2,ya3,ya4,ya5,ya6⟩:=blk7 (gf HX10)
   obtain ⟨za0,za1,za2,za3,za4,za5,za6⟩:=frz7 (gf HX10)
   obtain ⟨U17,hU17⟩:∃ V,(((((((w17.setCell ⟨w5.heap.size,0,none⟩ (.int .i64 i17)).setCell ⟨w5.heap.size,1,none⟩ (.string s17)).setCell ⟨w5.heap.size,2,none⟩ (.string m17)).setCell ⟨w5.heap.size,3,none⟩ (.bool b17)).setCell ⟨w5.heap.size,4,none⟩ (.slice a17 n17 c17)).setCell ⟨w5.heap.size,5,none⟩ (.int .i64 0)).setCell ⟨w5.heap.size,6,none⟩ (.int .i64 j17))=V:=⟨_,rfl⟩
   obtain ⟨V12,hV12⟩:∃ V,U17.setCell ⟨r,4,none⟩ (.int .i64 (d:Int))=V:=⟨_,rfl⟩
   have hqU:w.heap.size<w5.heap.size:=gf HSa
   have hbU:But w5.heap.size w17 U17:=by rw [←hU17];exact ((((((((But.refl w5.heap.size w17).set 0 _).set 1 _).set 2 _).set 3 _).set 4 _).set 5 _).set 6 _)
   have hbV:But r U17 V12:=by rw [←hV12];exact (But.refl r U17).set _ _
   have hsU:U17.heap.size=w17.heap.size:=by rw [←hU17];simp
   have hsV:V12.heap.size=w17.heap.size:=by rw [←hV12,←hsU];simp
   have hRU:PD U17 r ts S17 (d+1):=(gf HR).out (q:=w.heap.size) hr fun k hk=>hbU.block k (by have:=gf HS;omega) (by omega)
   have hRV:=hRU.deep (e:=d)
   rw [hV12] at hRV
   have hall:∀ k,k<w17.heap.size→k≠w5.heap.size→k≠r→V12.heap[k]?=w17.heap[k]?:=fun k hk h1 h2=>(hbV.block k (by omega) h2).trans (hbU.block k hk h1)
   replace HB:Hid (But r w V12):=⟨hbV.os.trans (hbU.os.trans (gf HB).os),hbV.tape.trans (hbU.tape.trans (gf HB).tape),hbV.output.trans (hbU.output.trans (gf HB).output),by have:=(gf HB).size;omega,fun k hk h2=>(hall k (by have:=(gf HB).size;omega) (by omega) h2).trans ((gf HB).block k hk h2)⟩
   replace HZ:Hid (ZB V12 w.heap.size):=(hall _ (gf HS) (by omega) (by omega)).trans (gf HZ)
   replace HX3:=gh ((hall _ (blk (gf HX3)).1 (by have:=gf hlt;omega) (Ne.symm ne3)).trans (gf HX3))
   replace HX10:Hid (V12.heap[w5.heap.size]?=some (.cells #[.int .i64 i17,.string s17,.string m17,.bool b17,.slice a17 n17 c17,.int .i64 0,.int .i64 j17] 36)):=by show _=_;rw [hbV.block _ (by have:=(blk (gf HX10)).1;omega) (Ne.symm ne10),←hU17];exact fill7 (gf HX10)
   have HT17:=gh (hv17.keep (w':=V12) (lo':=w.heap.size+1) ⟨by omega,fun k h1 h2=>hall k h2 (by have:=gf HAB12;omega) (by have:=gf HAB12;omega)⟩ (by have:=gf HAB12;omega))
   replace HS:Hid (w.heap.size<V12.heap.size):=by have:=gf HS;show _<_;omega
   replace HR:=gh hRV
   have HEU:=gh hU17
   have HEV12:=gh hV12
   have HSV12:Hid (V12.heap.size=w17.heap.size):=hsV
   clear hb17 hR17 hv17 HC17 hqU hbU hbV hsU hsV hRU hRV hall hU17 hV12
   obtain ⟨C20,eC20,hbC20,hsC20,hhC20⟩:=box_new V12 #[.int .i64 i17,.string s17,.string m17,.bool b17,.slice a17 n17 c17,.int .i64 0,.int .i64 j17] 36
   have hnode:=node (l:=[t17]) (vs:=[[.int .i64 i17,.string s17,.string m17,.bool b17,.slice a17 n17 c17,.int .i64 0,.int .i64 j17]]) 7 at0 ⟨#[]⟩ ⟨#[]⟩ false eC20 rfl (by simp) rfl (by simp) (gf HS) (fun j v t hv ht=>by
    rcases j with _ | j
    ·obtain rfl:=Option.some.inj hv
     obtain rfl:=Option.some.inj ht
     exact gf HT17
    ·simp at hv)
   rw [gf HSV12] at hnode
   have hbu21:=But.of (r:=r) hbC20
   replace HR:=gh ((gf HR).keep hbC20)
   replace HB:=gh ((gf HB).trans hbu21)
   replace HZ:=gh ((gf HZ).but hbu21 hrne)
   replace HX3:=gh ((hbu21.block _ (blk (gf HX3)).1 (Ne.symm ne3)).trans (gf HX3))
   replace HX10:=gh ((hbu21.block _ (blk (gf HX10)).1 (Ne.symm ne10)).trans (gf HX10))
   replace HS:=gh (Nat.lt_of_lt_of_le (gf HS) hbu21.size)
   obtain ⟨y0,y1,y2,y3,y4,y5,y6⟩:=blk7 (gf HZ)
   obtain ⟨z0,z1,z2,z3,z4,z5,z6⟩:=frz7 (gf HZ)
   have uc03:=(blk (gf HX3)).2.1 0 _ rfl
   have uc13:=(blk (gf HX3)).2.1 1 _ rfl
   have uc23:=(blk (gf HX3)).2.1 2 _ rfl
   rw [←eC20,←gf HEV12,←gf HEU] at y0 y1 y2 y3 y4 y5 y6 z0 z1 z2 z3 z4 z5 z6 uc03 uc13 uc23
   have HNode:=gh hnode
   have HEC:=gh eC20
   clear hnode eC20 hbC20 hsC20 hhC20
   go_wp2
   rw [gf HEU,gf HEV12,gf HEC]
   rw [←gf HQQ]
   exact dret_put rfl rfl rfl (gf HB) hr (gf HZ) (gf HY).symm (gf HR) (Nat.lt_succ_self _) (gf HNode)
 have hY22:=gf HY
 simp only [Bool.false_eq_true,if_false] at hY22
 replace HY:=gh hY22
 clear hY22
 have hRR:=gf HR
 rw [if_neg Bool.false_ne_true] at hRR
 replace HR:=gh hRR
 clear hRR
 have HC23:=gh (eat_any (gf HR) (gf HT) ⟨#[110,111,116]⟩)
 obtain ⟨bo23,hbo23⟩:∃ b,isD ts ⟨#[110,111,116]⟩ (st)=b:=⟨_,rfl⟩
 unfold eatD at HC23
 rw [hbo23] at HC23
 have HO23:=gh hbo23
 clear hbo23
 go_wp2_with fail
 refine (gf HC23).mono ?_
 rintro e w23 ⟨rfl,hb23,hR23⟩
 replace HB:=gh ((gf HB).trans hb23)
 replace HZ:=gh ((gf HZ).but hb23 hrne)
 replace HX3:=gh ((hb23.block _ (blk (gf HX3)).1 (Ne.symm ne3)).trans (gf HX3))
 replace HS:=gh (Nat.lt_of_lt_of_le (gf HS) hb23.size)
 replace HR:=gh hR23
 have hY24:=gf HY
 simp only [gf HO23] at hY24
 replace HY:=gh hY24
 clear hY24
 clear hb23 HC23 hR23
 rcases bo23 with _ | _
 rotate_left
 ·have hY25:=gf HY
  simp only [if_true] at hY25
  replace HY:=gh hY25
  clear hY25
  have hRR:=gf HR
  rw [if_pos rfl] at hRR
  obtain ⟨S26,hS26⟩:∃ S,stepD ts (st)=S:=⟨_,rfl⟩
  rw [hS26] at hRR
  replace HR:=gh hRR
  have HSt26:=gh hS26
  have hY27:=gf HY
  simp only [gf HSt26] at hY27
  replace HY:=gh hY27
  clear hY27
  clear hRR hS26
  have heS:Hid ((S26).e=0):=by show _=_;rw [←gf HSt26,stepD_e];exact isD_e (gf HO23)
  have HSa:=HS
  have hlt:Hid (w0.heap.size<w23.heap.size):=(blk (gf HX3)).1
  obtain ⟨B28,eB28,hbB28,hsB28,hhB28⟩:=box_new w23 #[.int .i64 0,.string ⟨#[]⟩,.string ⟨#[]⟩,.bool false,.slice none 0 0,.int .i64 0,.int .i64 0] 36
  have ne28:r≠w23.heap.size:=by have:=gf HS;omega
  have hbu29:=But.of (r:=r) hbB28
  replace HR:=gh ((gf HR).keep hbB28)
  replace HB:=gh ((gf HB).trans hbu29)
  replace HZ:=gh ((gf HZ).but hbu29 hrne)
  replace HX3:=gh ((hbu29.block _ (blk (gf HX3)).1 (Ne.symm ne3)).trans (gf HX3))
  replace HS:=gh (Nat.lt_of_lt_of_le (gf HS) hbu29.size)
  have HX28:=gh hhB28
  have HEB28:=gh eB28
  have HSB28:=gh hsB28
  clear eB28 hbB28 hhB28 hsB28
  have HAB30:=gh (blk (gf HX28)).1
  rcases gf hU with hU1 | hU1
  ·obtain ⟨hd1,hd2,hgU⟩:=hU1
   have HC30:=gh (down_no (gf HR) (gf HT) hd1 hd2)
   obtain ⟨SA30,hSA30⟩:∃ S,(S26).fail (tD ts (S26)).2.2 151=S:=⟨_,rfl⟩
   rw [hSA30] at HC30
   have HSA30:=gh (And.intro (hgU (S26)) hSA30)
   have hY31:=gf HY
   simp only [(gf HSA30).1,(gf HSA30).2] at hY31
   replace HY:=gh hY31
   clear hY31
   have gd0:(0:Int)≤(d:Int):=by omega
   have gd1:(d:Int)≤100000:=by omega
   clear hgU hSA30 hd1 hd2
   go_wp2_with fail
   rw [gf HEB28]
   refine (gf HC30).mono ?_
   rintro e w30 ⟨rfl,hb30,hR30⟩
   replace HB:=gh ((gf HB).trans hb30)
   replace HZ:=gh ((gf HZ).but hb30 hrne)
   replace HX3:=gh ((hb30.block _ (blk (gf HX3)).1 (Ne.symm ne3)).trans (gf HX3))
   replace HX28:=gh ((hb30.block _ (blk (gf HX28)).1 (Ne.symm ne28)).trans (gf HX28))
   replace HS:=gh (Nat.lt_of_lt_of_le (gf HS) hb30.size)
   replace HR:=gh hR30
   clear hb30 hR30 HC30 HSA30
   obtain ⟨gg32,gc32,x032,x132,x232,x332,x432,hc32,hl32,hf32,ht32⟩:=(gf HR).facts (Below.refl _ _)
   have f432:=hf32 4
   clear hc32 hf32 ht32 x032 x132 x232 x332
   obtain ⟨y028,y128,y228,y328,y428,y528,y628⟩:=blk7 (gf HX28)
   obtain ⟨V30,hV30⟩:∃ V,w30.setCell ⟨r,4,none⟩ (.int .i64 (d:Int))=V:=⟨_,rfl⟩
   have hbV30:But r w30 V30:=by rw [←hV30];exact (But.refl r w30).set _ _
   have hRV30:=(gf HR).deep (e:=d)
   rw [hV30] at hRV30
   have hsV30:V30.heap.size=w30.heap.size:=by rw [←hV30];simp
   replace HB:=gh ((gf HB).trans hbV30)
   replace HZ:=gh ((gf HZ).but hbV30 hrne)
   replace HX3:=gh ((hbV30.block _ (blk (gf HX3)).1 (Ne.symm ne3)).trans (gf HX3))
   replace HX28:=gh ((hbV30.block _ (blk (gf HX28)).1 (Ne.symm ne28)).trans (gf HX28))
   replace HS:=gh (Nat.lt_of_lt_of_le (gf HS) hbV30.size)
   replace HR:=gh hRV30
   have HEV30:=gh hV30
   have HSV30:=gh hsV30
   clear hbV30 hRV30 hV30 hsV30
   have HTz30:=gh (leaf (W:=V30) (lo:=w.heap.size+1) 0 0 ⟨#[]⟩ ⟨#[]⟩ false)
   obtain ⟨C33,eC33,hbC33,hsC33,hhC33⟩:=box_new V30 #[.int .i64 0,.string ⟨#[]⟩,.string ⟨#[]⟩,.bool false,.slice none 0 0,.int .i64 0,.int .i64 0] 36
   have hnode:=node (l:=[zEx]) (vs:=[[.int .i64 0,.string ⟨#[]⟩,.string ⟨#[]⟩,.bool false,.slice none 0 0,.int .i64 0,.int .i64 0]]) 8 at0 ⟨#[]⟩ ⟨#[]⟩ false eC33 rfl (by simp) rfl (by simp) (gf HS) (fun j v t hv ht=>by
    rcases j with _ | j
    ·obtain rfl:=Option.some.inj hv
     obtain rfl:=Option.some.inj ht
     exact gf HTz30
    ·simp at hv)
   rw [gf HSV30] at hnode
   have hbu34:=But.of (r:=r) hbC33
   replace HR:=gh ((gf HR).keep hbC33)
   replace HB:=gh ((gf HB).trans hbu34)
   replace HZ:=gh ((gf HZ).but hbu34 hrne)
   replace HX3:=gh ((hbu34.block _ (blk (gf HX3)).1 (Ne.symm ne3)).trans (gf HX3))
   replace HX28:=gh ((hbu34.block _ (blk (gf HX28)).1 (Ne.symm ne28)).trans (gf HX28))
   replace HS:=gh (Nat.lt_of_lt_of_le (gf HS) hbu34.size)
   obtain ⟨y0,y1,y2,y3,y4,y5,y6⟩:=blk7 (gf HZ)
   obtain ⟨z0,z1,z2,z3,z4,z5,z6⟩:=frz7 (gf HZ)
   have uc03:=(blk (gf HX3)).2.1 0 _ rfl
   have uc13:=(blk (gf HX3)).2.1 1 _ rfl
   have uc23:=(blk (gf HX3)).2.1 2 _ rfl
   rw [←eC33,←gf HEV30] at y0 y1 y2 y3 y4 y5 y6 z0 z1 z2 z3 z4 z5 z6 uc03 uc13 uc23
   have HNode:=gh hnode
   have HEC:=gh eC33
   clear hnode eC33 hbC33 hsC33 hhC33
   go_wp2
   rw [gf HEV30,gf HEC]
   rw [←gf HQQ]
   exact dret_put rfl rfl rfl (gf HB) hr (gf HZ) (gf HY).symm (gf HR) (Nat.lt_succ_self _) (gf HNode)
  ·obtain ⟨hd1,X,hgX,hX⟩:=hU1
   have HC30:=gh (down_yes (gf HR) hd1)
   rw [decide_eq_true (gf heS)] at HC30
   have HGX:=gh (And.intro (hgX (S26) (gf heS)) hX)
   have gd0:(0:Int)≤(d:Int):=by omega
   have gd1:(d:Int)<200:=by omega
   clear hgX hX hd1
   go_wp2_with fail
   rw [gf HEB28]
   refine (gf HC30).mono ?_
   rintro e w30 ⟨rfl,hb30,hR30⟩
   replace HB:=gh ((gf HB).trans hb30)
   replace HZ:=gh ((gf HZ).but hb30 hrne)
   replace HX3:=gh ((hb30.block _ (blk (gf HX3)).1 (Ne.symm ne3)).trans (gf HX3))
   replace HX28:=gh ((hb30.block _ (blk (gf HX28)).1 (Ne.symm ne28)).trans (gf HX28))
   replace HS:=gh (Nat.lt_of_lt_of_le (gf HS) hb30.size)
   replace HR:=gh hR30
   replace HAB30:=gh (Nat.lt_of_lt_of_le (gf HAB30) hb30.size)
   clear hb30 hR30 HC30
   have HC35:=gh ((gf HGX).2 w30 (S26) (gf heS) (gf HR))
   obtain ⟨⟨t35,S35⟩,hX35⟩:∃ Z,X (S26)=Z:=⟨_,rfl⟩
   rw [hX35] at HC35
   have HX35:=gh (And.intro (gf HGX).1 hX35)
   have hY36:=gf HY
   simp only [(gf HX35).1,(gf HX35).2] at hY36
   replace HY:=gh hY36
   clear hY36
   clear hX35 HX35 HGX
   go_wp2_with fail
   refine (gf HC35).mono ?_
   rintro e w35 ⟨hb35,hR35,v35,rfl,hv35⟩
   obtain ⟨i35,j35,s35,m35,b35,a35,n35,c35,rfl⟩:=hv35.form
   replace HB:=gh ((gf HB).trans hb35)
   replace HZ:=gh ((gf HZ).but hb35 hrne)
   replace HX3:=gh ((hb35.block _ (blk (gf HX3)).1 (Ne.symm ne3)).trans (gf HX3))
   replace HX28:=gh ((hb35.block _ (blk (gf HX28)).1 (Ne.symm ne28)).trans (gf HX28))
   replace HS:=gh (Nat.lt_of_lt_of_le (gf HS) hb35.size)
   replace HR:=gh hR35
   obtain ⟨gg37,gc37,x037,x137,x237,x337,x437,hc37,hl37,hf37,ht37⟩:=(gf HR).facts (Below.refl _ _)
   have f437:=hf37 4
   clear hc37 hf37 ht37 x037 x137 x237 x337
   obtain ⟨ya0,ya1,ya2,ya3,ya4,ya5,ya6⟩:=blk7 (gf HX28)
   obtain ⟨za0,za1,za2,za3,za4,za5,za6⟩:=frz7 (gf HX28)
   obtain ⟨U35,hU35⟩:∃ V,(((((((w35.setCell ⟨w23.heap.size,0,none⟩ (.int .i64 i35)).setCell ⟨w23.heap.size,1,none⟩ (.string s35)).setCell ⟨w23.heap.size,2,none⟩ (.string m35)).setCell ⟨w23.heap.size,3,none⟩ (.bool b35)).setCell ⟨w23.heap.size,4,none⟩ (.slice a35 n35 c35)).setCell ⟨w23.heap.size,5,none⟩ (.int .i64 0)).setCell ⟨w23.heap.size,6,none⟩ (.int .i64 j35))=V:=⟨_,rfl⟩
   obtain ⟨V30,hV30⟩:∃ V,U35.setCell ⟨r,4,none⟩ (.int .i64 (d:Int))=V:=⟨_,rfl⟩
   have hqU:w.heap.size<w23.heap.size:=gf HSa
   have hbU:But w23.heap.size w35 U35:=by rw [←hU35];exact ((((((((But.refl w23.heap.size w35).set 0 _).set 1 _).set 2 _).set 3 _).set 4 _).set 5 _).set 6 _)
   have hbV:But r U35 V30:=by rw [←hV30];exact (But.refl r U35).set _ _
   have hsU:U35.heap.size=w35.heap.size:=by rw [←hU35];simp
   have hsV:V30.heap.size=w35.heap.size:=by rw [←hV30,←hsU];simp
   have hRU:PD U35 r ts S35 (d+1):=(gf HR).out (q:=w.heap.size) hr fun k hk=>hbU.block k (by have:=gf HS;omega) (by omega)
   have hRV:=hRU.deep (e:=d)
   rw [hV30] at hRV
   have hall:∀ k,k<w35.heap.size→k≠w23.heap.size→k≠r→V30.heap[k]?=w35.heap[k]?:=fun k hk h1 h2=>(hbV.block k (by omega) h2).trans (hbU.block k hk h1)
   replace HB:Hid (But r w V30):=⟨hbV.os.trans (hbU.os.trans (gf HB).os),hbV.tape.trans (hbU.tape.trans (gf HB).tape),hbV.output.trans (hbU.output.trans (gf HB).output),by have:=(gf HB).size;omega,fun k hk h2=>(hall k (by have:=(gf HB).size;omega) (by omega) h2).trans ((gf HB).block k hk h2)⟩
   replace HZ:Hid (ZB V30 w.heap.size):=(hall _ (gf HS) (by omega) (by omega)).trans (gf HZ)
   replace HX3:=gh ((hall _ (blk (gf HX3)).1 (by have:=gf hlt;omega) (Ne.symm ne3)).trans (gf HX3))
   replace HX28:Hid (V30.heap[w23.heap.size]?=some (.cells #[.int .i64 i35,.string s35,.string m35,.bool b35,.slice a35 n35 c35,.int .i64 0,.int .i64 j35] 36)):=by show _=_;rw [hbV.block _ (by have:=(blk (gf HX28)).1;omega) (Ne.symm ne28),←hU35];exact fill7 (gf HX28)
   have HT35:=gh (hv35.keep (w':=V30) (lo':=w.heap.size+1) ⟨by omega,fun k h1 h2=>hall k h2 (by have:=gf HAB30;omega) (by have:=gf HAB30;omega)⟩ (by have:=gf HAB30;omega))
   replace HS:Hid (w.heap.size<V30.heap.size):=by have:=gf HS;show _<_;omega
   replace HR:=gh hRV
   have HEU:=gh hU35
   have HEV30:=gh hV30
   have HSV30:Hid (V30.heap.size=w35.heap.size):=hsV
   clear hb35 hR35 hv35 HC35 hqU hbU hbV hsU hsV hRU hRV hall hU35 hV30
   obtain ⟨C38,eC38,hbC38,hsC38,hhC38⟩:=box_new V30 #[.int .i64 i35,.string s35,.string m35,.bool b35,.slice a35 n35 c35,.int .i64 0,.int .i64 j35] 36
   have hnode:=node (l:=[t35]) (vs:=[[.int .i64 i35,.string s35,.string m35,.bool b35,.slice a35 n35 c35,.int .i64 0,.int .i64 j35]]) 8 at0 ⟨#[]⟩ ⟨#[]⟩ false eC38 rfl (by simp) rfl (by simp) (gf HS) (fun j v t hv ht=>by
    rcases j with _ | j
    ·obtain rfl:=Option.some.inj hv
     obtain rfl:=Option.some.inj ht
     exact gf HT35
    ·simp at hv)
   rw [gf HSV30] at hnode
   have hbu39:=But.of (r:=r) hbC38
   replace HR:=gh ((gf HR).keep hbC38)
   replace HB:=gh ((gf HB).trans hbu39)
   replace HZ:=gh ((gf HZ).but hbu39 hrne)
   replace HX3:=gh ((hbu39.block _ (blk (gf HX3)).1 (Ne.symm ne3)).trans (gf HX3))
   replace HX28:=gh ((hbu39.block _ (blk (gf HX28)).1 (Ne.symm ne28)).trans (gf HX28))
   replace HS:=gh (Nat.lt_of_lt_of_le (gf HS) hbu39.size)
   obtain ⟨y0,y1,y2,y3,y4,y5,y6⟩:=blk7 (gf HZ)
   obtain ⟨z0,z1,z2,z3,z4,z5,z6⟩:=frz7 (gf HZ)
   have uc03:=(blk (gf HX3)).2.1 0 _ rfl
   have uc13:=(blk (gf HX3)).2.1 1 _ rfl
   have uc23:=(blk (gf HX3)).2.1 2 _ rfl
   rw [←eC38,←gf HEV30,←gf HEU] at y0 y1 y2 y3 y4 y5 y6 z0 z1 z2 z3 z4 z5 z6 uc03 uc13 uc23
   have HNode:=gh hnode
   have HEC:=gh eC38
   clear hnode eC38 hbC38 hsC38 hhC38
   go_wp2
   rw [gf HEU,gf HEV30,gf HEC]
   rw [←gf HQQ]
   exact dret_put rfl rfl rfl (gf HB) hr (gf HZ) (gf HY).symm (gf HR) (Nat.lt_succ_self _) (gf HNode)
 have hY40:=gf HY
 simp only [Bool.false_eq_true,if_false] at hY40
 replace HY:=gh hY40
 clear hY40
 have hRR:=gf HR
 rw [if_neg Bool.false_ne_true] at hRR
 replace HR:=gh hRR
 clear hRR
 have HC41:=gh (eat_any (gf HR) (gf HT) ⟨#[33]⟩)
 obtain ⟨bo41,hbo41⟩:∃ b,isD ts ⟨#[33]⟩ (st)=b:=⟨_,rfl⟩
 unfold eatD at HC41
 rw [hbo41] at HC41
 have HO41:=gh hbo41
 clear hbo41
 go_wp2_with fail
 refine (gf HC41).mono ?_
 rintro e w41 ⟨rfl,hb41,hR41⟩
 replace HB:=gh ((gf HB).trans hb41)
 replace HZ:=gh ((gf HZ).but hb41 hrne)
 replace HX3:=gh ((hb41.block _ (blk (gf HX3)).1 (Ne.symm ne3)).trans (gf HX3))
 replace HS:=gh (Nat.lt_of_lt_of_le (gf HS) hb41.size)
 replace HR:=gh hR41
 have hY42:=gf HY
 simp only [gf HO41] at hY42
 replace HY:=gh hY42
 clear hY42
 clear hb41 HC41 hR41
 rcases bo41 with _ | _
 rotate_left
 ·have hY43:=gf HY
  simp only [if_true] at hY43
  replace HY:=gh hY43
  clear hY43
  have hRR:=gf HR
  rw [if_pos rfl] at hRR
  obtain ⟨S44,hS44⟩:∃ S,stepD ts (st)=S:=⟨_,rfl⟩
  rw [hS44] at hRR
  replace HR:=gh hRR
  have HSt44:=gh hS44
  have hY45:=gf HY
  simp only [gf HSt44] at hY45
  replace HY:=gh hY45
  clear hY45
  clear hRR hS44
  have HC46:=gh (name_any (gf HR) (gf HT))
  unfold tkV at HC46
  obtain ⟨⟨⟨kk46,T46,at46⟩,S46⟩,hN46⟩:∃ X,nameD ts (S44)=X:=⟨_,rfl⟩
  rw [hN46] at HC46
  have HN46:=gh hN46
  clear hN46
  go_wp2_with fail
  refine (gf HC46).mono ?_
  rintro e w46 ⟨rfl,hb46,hR46⟩
  have hY47:=gf HY
  simp only [gf HN46] at hY47
  replace HY:=gh hY47
  clear hY47
  replace HB:=gh ((gf HB).trans hb46)
  replace HZ:=gh ((gf HZ).but hb46 hrne)
  replace HX3:=gh ((hb46.block _ (blk (gf HX3)).1 (Ne.symm ne3)).trans (gf HX3))
  replace HS:=gh (Nat.lt_of_lt_of_le (gf HS) hb46.size)
  replace HR:=gh hR46
  clear hb46 hR46 HC46
  obtain ⟨B48,eB48,hbB48,hsB48,hhB48⟩:=box_new w46 #[.int .i64 kk46,.string T46,.int .i64 at46] 74
  have ne48:r≠w46.heap.size:=by have:=gf HS;omega
  have hbu49:=But.of (r:=r) hbB48
  replace HR:=gh ((gf HR).keep hbB48)
  replace HB:=gh ((gf HB).trans hbu49)
  replace HZ:=gh ((gf HZ).but hbu49 hrne)
  replace HX3:=gh ((hbu49.block _ (blk (gf HX3)).1 (Ne.symm ne3)).trans (gf HX3))
  replace HS:=gh (Nat.lt_of_lt_of_le (gf HS) hbu49.size)
  have HX48:=gh hhB48
  have HEB48:=gh eB48
  have HSB48:=gh hsB48
  clear eB48 hbB48 hhB48 hsB48
  have u03:=(blk (gf HX3)).2.1 0 _ rfl
  have u13:=(blk (gf HX3)).2.1 1 _ rfl
  have u23:=(blk (gf HX3)).2.1 2 _ rfl
  have u048:=(blk (gf HX48)).2.1 0 _ rfl
  have u148:=(blk (gf HX48)).2.1 1 _ rfl
  have u248:=(blk (gf HX48)).2.1 2 _ rfl
  rw [←gf HEB48] at u03 u13 u23 u048 u148 u248
  obtain ⟨y0,y1,y2,y3,y4,y5,y6⟩:=blk7 (gf HZ)
  obtain ⟨z0,z1,z2,z3,z4,z5,z6⟩:=frz7 (gf HZ)
  have HNode:=gh (leaf (W:=B48) (lo:=w.heap.size+1) 5 at0 T46 ⟨#[]⟩ false)
  rw [←gf HEB48] at y0 y1 y2 y3 y4 y5 y6 z0 z1 z2 z3 z4 z5 z6
  go_wp2
  rw [gf HEB48]
  rw [←gf HQQ]
  exact dret_put rfl rfl rfl (gf HB) hr (gf HZ) (gf HY).symm (gf HR) (Nat.lt_succ_self _) (gf HNode)
 have hY50:=gf HY
 simp only [Bool.false_eq_true,if_false] at hY50
 replace HY:=gh hY50
 clear hY50
 have hRR:=gf HR
 rw [if_neg Bool.false_ne_true] at hRR
 replace HR:=gh hRR
 clear hRR
 have HC51:=gh (eat_any (gf HR) (gf HT) ⟨#[111,108,100]⟩)
 obtain ⟨bo51,hbo51⟩:∃ b,isD ts ⟨#[111,108,100]⟩ (st)=b:=⟨_,rfl⟩
 unfold eatD at HC51
 rw [hbo51] at HC51
 have HO51:=gh hbo51
 clear hbo51
 go_wp2_with fail
 refine (gf HC51).mono ?_
 rintro e w51 ⟨rfl,hb51,hR51⟩
 replace HB:=gh ((gf HB).trans hb51)
 replace HZ:=gh ((gf HZ).but hb51 hrne)
 replace HX3:=gh ((hb51.block _ (blk (gf HX3)).1 (Ne.symm ne3)).trans (gf HX3))
 replace HS:=gh (Nat.lt_of_lt_of_le (gf HS) hb51.size)
 replace HR:=gh hR51
 have hY52:=gf HY
 simp only [gf HO51] at hY52
 replace HY:=gh hY52
 clear hY52
 clear hb51 HC51 hR51
 rcases bo51 with _ | _
 rotate_left
 ·have hY53:=gf HY
  simp only [if_true] at hY53
  replace HY:=gh hY53
  clear hY53
  have hRR:=gf HR
  rw [if_pos rfl] at hRR
  obtain ⟨S54,hS54⟩:∃ S,stepD ts (st)=S:=⟨_,rfl⟩
  rw [hS54] at hRR
  replace HR:=gh hRR
  have HSt54:=gh hS54
  have hY55:=gf HY
  simp only [gf HSt54] at hY55
  replace HY:=gh hY55
  clear hY55
  clear hRR hS54
  have HC56:=gh (name_any (gf HR) (gf HT))
  unfold tkV at HC56
  obtain ⟨⟨⟨kk56,T56,at56⟩,S56⟩,hN56⟩:∃ X,nameD ts (S54)=X:=⟨_,rfl⟩
  rw [hN56] at HC56
  have HN56:=gh hN56
  clear hN56
  go_wp2_with fail
  refine (gf HC56).mono ?_
  rintro e w56 ⟨rfl,hb56,hR56⟩
  have hY57:=gf HY
  simp only [gf HN56] at hY57
  replace HY:=gh hY57
  clear hY57
  replace HB:=gh ((gf HB).trans hb56)
  replace HZ:=gh ((gf HZ).but hb56 hrne)
  replace HX3:=gh ((hb56.block _ (blk (gf HX3)).1 (Ne.symm ne3)).trans (gf HX3))
  replace HS:=gh (Nat.lt_of_lt_of_le (gf HS) hb56.size)
  replace HR:=gh hR56
  clear hb56 hR56 HC56
  obtain ⟨B58,eB58,hbB58,hsB58,hhB58⟩:=box_new w56 #[.int .i64 kk56,.string T56,.int .i64 at56] 74
  have ne58:r≠w56.heap.size:=by have:=gf HS;omega
  have hbu59:=But.of (r:=r) hbB58
  replace HR:=gh ((gf HR).keep hbB58)
  replace HB:=gh ((gf HB).trans hbu59)
  replace HZ:=gh ((gf HZ).but hbu59 hrne)
  replace HX3:=gh ((hbu59.block _ (blk (gf HX3)).1 (Ne.symm ne3)).trans (gf HX3))
  replace HS:=gh (Nat.lt_of_lt_of_le (gf HS) hbu59.size)
  have HX58:=gh hhB58
  have HEB58:=gh eB58
  have HSB58:=gh hsB58
  clear eB58 hbB58 hhB58 hsB58
  have u03:=(blk (gf HX3)).2.1 0 _ rfl
  have u13:=(blk (gf HX3)).2.1 1 _ rfl
  have u23:=(blk (gf HX3)).2.1 2 _ rfl
  have u058:=(blk (gf HX58)).2.1 0 _ rfl
  have u158:=(blk (gf HX58)).2.1 1 _ rfl
  have u258:=(blk (gf HX58)).2.1 2 _ rfl
  rw [←gf HEB58] at u03 u13 u23 u058 u158 u258
  obtain ⟨y0,y1,y2,y3,y4,y5,y6⟩:=blk7 (gf HZ)
  obtain ⟨z0,z1,z2,z3,z4,z5,z6⟩:=frz7 (gf HZ)
  have HNode:=gh (leaf (W:=B58) (lo:=w.heap.size+1) 6 at0 T56 ⟨#[]⟩ false)
  rw [←gf HEB58] at y0 y1 y2 y3 y4 y5 y6 z0 z1 z2 z3 z4 z5 z6
  go_wp2
  rw [gf HEB58]
  rw [←gf HQQ]
  exact dret_put rfl rfl rfl (gf HB) hr (gf HZ) (gf HY).symm (gf HR) (Nat.lt_succ_self _) (gf HNode)
 have hY60:=gf HY
 simp only [Bool.false_eq_true,if_false] at hY60
 replace HY:=gh hY60
 clear hY60
 have hRR:=gf HR
 rw [if_neg Bool.false_ne_true] at hRR
 replace HR:=gh hRR
 clear hRR
 have HC61:=gh (gf hP w51 (st) (gf HR))
 obtain ⟨⟨t61,S61⟩,hX61⟩:∃ X,primD ts g (st)=X:=⟨_,rfl⟩
 rw [hX61] at HC61
 have HX61:=gh hX61
 clear hX61
 go_wp2_with fail
 refine (gf HC61).mono ?_
 rintro e w61 ⟨hb61,hR61,v61,rfl,hv61⟩
 have hY62:=gf HY
 simp only [gf HX61] at hY62
 replace HY:=gh hY62
 clear hY62
 obtain ⟨i61,j61,s61,m61,b61,a61,n61,c61,rfl⟩:=hv61.form
 have HT61:=gh (hv61.keep (lo':=w.heap.size+1) (Stays.of (Below.refl _ _)) (gf HS))
 replace HB:=gh ((gf HB).trans hb61)
 replace HZ:=gh ((gf HZ).but hb61 hrne)
 replace HX3:=gh ((hb61.block _ (blk (gf HX3)).1 (Ne.symm ne3)).trans (gf HX3))
 replace HS:=gh (Nat.lt_of_lt_of_le (gf HS) hb61.size)
 replace HR:=gh hR61
 clear hb61 hR61 hv61 HC61 HX61
 obtain ⟨y0,y1,y2,y3,y4,y5,y6⟩:=blk7 (gf HZ)
 obtain ⟨z0,z1,z2,z3,z4,z5,z6⟩:=frz7 (gf HZ)
 have HNode:=gh (gf HT61)
 go_wp2
 rw [←gf HQQ]
 exact dret_put rfl rfl rfl (gf HB) hr (gf HZ) (gf HY).symm (gf HR) (Nat.lt_succ_self _) (gf HNode)
set_option maxRecDepth 100000 in
set_option maxHeartbeats 8000000 in
theorem dimp_of {r d:Nat} {ts:List (Int×ByteArray×Int)} {g:Ru→PS→Ex×PS} (hT:TsOk ts) (hU:(200≤d∧d≤100000∧∀ S,g .rI S=(zEx,S.fail (tD ts S).2.2 151))∨(d<200∧∃ X,(∀ S,S.e=0→g .rI S=X S)∧DcO 100 r ts (d+1) X)) (hL:∀ (w:World) (st:PS),PD w r ts st d→Calls Tryz.prog 113 #[.pointer (some ⟨r,0,none⟩),.int .i64 0] w (DE (leftD ts g 5 st) r ts d w)):DcC 100 r ts d (impD ts g):=by
 intro w st hR
 obtain ⟨Y,hY⟩:∃ Y,impD ts g st=Y:=⟨_,rfl⟩
 show Calls _ _ _ _ (DE (impD ts g st) r ts d w)
 rw [hY]
 unfold impD at hY
 have hr:=hR.rlt
 obtain ⟨A,eA,hbA,hzA,hsA⟩:=zb_new w
 have HB:=gh (But.of (r:=r) hbA)
 have HR:=gh (hR.keep hbA)
 have HZ:=gh hzA
 have HS:Hid (w.heap.size<A.heap.size):=by show _<_;omega
 have HE:=gh eA
 have HT:=gh hT
 have HY:=gh hY
 have hrne:r≠w.heap.size:=by omega
 replace hU:=gh hU
 replace hL:=gh hL
 clear hR hbA hzA hsA eA hT hY
 go_enter Tryz.func100,Tryz.ntmps100
 generalize hQQ:bodyPost Tryz.prog Tryz.f100 (DE Y r ts d w)=QQ
 have HQQ:=gh hQQ
 clear hQQ
 have HC0:=gh (gf hL A (st) (gf HR))
 obtain ⟨⟨t0,S0⟩,hX0⟩:∃ X,leftD ts g 5 (st)=X:=⟨_,rfl⟩
 rw [hX0] at HC0
 have HX0:=gh hX0
 clear hX0
 go_wp2_with fail
 rw [gf HE]
 refine (gf HC0).mono ?_
 rintro e w0 ⟨hb0,hR0,v0,rfl,hv0⟩
 have hY1:=gf HY
 simp only [gf HX0] at hY1
 replace HY:=gh hY1
 clear hY1
 obtain ⟨i0,j0,s0,m0,b0,a0,n0,c0,rfl⟩:=hv0.form
 have HT0:=gh (hv0.keep (lo':=w.heap.size+1) (Stays.of (Below.refl _ _)) (gf HS))
 replace HB:=gh ((gf HB).trans hb0)
 replace HZ:=gh ((gf HZ).but hb0 hrne)
 replace HS:=gh (Nat.lt_of_lt_of_le (gf HS) hb0.size)
 replace HR:=gh hR0
 clear hb0 hR0 hv0 HC0 HX0
 obtain ⟨B2,eB2,hbB2,hsB2,hhB2⟩:=box_new w0 #[.int .i64 i0,.string s0,.string m0,.bool b0,.slice a0 n0 c0,.int .i64 0,.int .i64 j0] 36
 have ne2:r≠w0.heap.size:=by have:=gf HS;omega
 have hbu3:=But.of (r:=r) hbB2
 replace HR:=gh ((gf HR).keep hbB2)
 replace HB:=gh ((gf HB).trans hbu3)
 replace HZ:=gh ((gf HZ).but hbu3 hrne)
 replace HT0:=gh ((gf HT0).keep (Stays.but hbu3 (Nat.lt_succ_of_lt hr)) (Nat.le_refl _))
 replace HS:=gh (Nat.lt_of_lt_of_le (gf HS) hbu3.size)
 have HX2:=gh hhB2
 have HEB2:=gh eB2
 have HSB2:=gh hsB2
 clear eB2 hbB2 hhB2 hsB2
 have HC4:=gh (dt_any (gf HR) (gf HT))
 unfold tkV at HC4
 obtain ⟨⟨kk4,T4,at4⟩,hN4⟩:∃ X,tD ts (S0)=X:=⟨_,rfl⟩
 rw [hN4] at HC4
 have HN4:=gh hN4
 have hf24:=fld2 (.int .i64 kk4) (.string T4) (.int .i64 at4)
 clear hN4
 go_wp2_with fail
 rw [gf HEB2]
 refine (gf HC4).mono ?_
 rintro e w4 ⟨rfl,hb4⟩
 have hY5:=gf HY
 simp only [gf HN4] at hY5
 replace HY:=gh hY5
 clear hY5
 have hbu6:=But.of (r:=r) hb4
 replace HR:=gh ((gf HR).keep hb4)
 replace HB:=gh ((gf HB).trans hbu6)
 replace HZ:=gh ((gf HZ).but hbu6 hrne)
 replace HX2:=gh ((hbu6.block _ (blk (gf HX2)).1 (Ne.symm ne2)).trans (gf HX2))
 replace HT0:=gh ((gf HT0).keep (Stays.but hbu6 (Nat.lt_succ_of_lt hr)) (Nat.le_refl _))
 replace HS:=gh (Nat.lt_of_lt_of_le (gf HS) hbu6.size)
 clear hb4 HC4
 have HC7:=gh (eat_any (gf HR) (gf HT) ⟨#[61,61,62]⟩)
 obtain ⟨bo7,hbo7⟩:∃ b,isD ts ⟨#[61,61,62]⟩ (S0)=b:=⟨_,rfl⟩
 unfold eatD at HC7
 rw [hbo7] at HC7
 have HO7:=gh hbo7
 clear hbo7
 go_wp2_with fail
 refine (gf HC7).mono ?_
 rintro e w7 ⟨rfl,hb7,hR7⟩
 replace HB:=gh ((gf HB).trans hb7)
 replace HZ:=gh ((gf HZ).but hb7 hrne)
 replace HX2:=gh ((hb7.block _ (blk (gf HX2)).1 (Ne.symm ne2)).trans (gf HX2))
 replace HT0:=gh ((gf HT0).keep (Stays.but hb7 (Nat.lt_succ_of_lt hr)) (Nat.le_refl _))
 replace HS:=gh (Nat.lt_of_lt_of_le (gf HS) hb7.size)
 replace HR:=gh hR7
 have hY8:=gf HY
 simp only [gf HO7] at hY8
 replace HY:=gh hY8
 clear hY8
 clear hb7 HC7 hR7
 rcases bo7 with _ | _
 rotate_left
 ·have hY9:=gf HY
  simp only [if_true] at hY9
  replace HY:=gh hY9
  clear hY9
  have hRR:=gf HR
  rw [if_pos rfl] at hRR
  obtain ⟨S10,hS10⟩:∃ S,stepD ts (S0)=S:=⟨_,rfl⟩
  rw [hS10] at hRR
  replace HR:=gh hRR
  have HSt10:=gh hS10
  have hY11:=gf HY
  simp only [gf HSt10] at hY11
  replace HY:=gh hY11
  clear hY11
  clear hRR hS10
  have heS:Hid ((S10).e=0):=by show _=_;rw [←gf HSt10,stepD_e];exact isD_e (gf HO7)
  have HSa:=HS
  have hlt:Hid (w0.heap.size<w7.heap.size):=(blk (gf HX2)).1
  have PHT0:=gh (IsEP.bnd (gf HT0))
  obtain ⟨B12,eB12,hbB12,hsB12,hhB12⟩:=box_new w7 #[.int .i64 0,.string ⟨#[]⟩,.string ⟨#[]⟩,.bool false,.slice none 0 0,.int .i64 0,.int .i64 0] 36
  have ne12:r≠w7.heap.size:=by have:=gf HS;omega
  have hbu13:=But.of (r:=r) hbB12
  replace HR:=gh ((gf HR).keep hbB12)
  replace HB:=gh ((gf HB).trans hbu13)
  replace HZ:=gh ((gf HZ).but hbu13 hrne)
  replace HX2:=gh ((hbu13.block _ (blk (gf HX2)).1 (Ne.symm ne2)).trans (gf HX2))
  replace HT0:=gh ((gf HT0).keep (Stays.but hbu13 (Nat.lt_succ_of_lt hr)) (Nat.le_refl _))
  replace PHT0:=gh (IsEP.keep (gf PHT0) ⟨hbu13.size,fun k hk hs=>hbu13.block k hs (by have h1:w.heap.size+1≤k:=hk.1;omega)⟩ fun _ h=>h)
  replace HS:=gh (Nat.lt_of_lt_of_le (gf HS) hbu13.size)
  have HX12:=gh hhB12
  have HEB12:=gh eB12
  have HSB12:=gh hsB12
  clear eB12 hbB12 hhB12 hsB12
  have HAB14:=gh (blk (gf HX12)).1
  rcases gf hU with hU1 | hU1
  ·obtain ⟨hd1,hd2,hgU⟩:=hU1
   have HC14:=gh (down_no (gf HR) (gf HT) hd1 hd2)
   obtain ⟨SA14,hSA14⟩:∃ S,(S10).fail (tD ts (S10)).2.2 151=S:=⟨_,rfl⟩
   rw [hSA14] at HC14
   have HSA14:=gh (And.intro (hgU (S10)) hSA14)
   have hY15:=gf HY
   simp only [(gf HSA14).1,(gf HSA14).2] at hY15
   replace HY:=gh hY15
   clear hY15
   have gd0:(0:Int)≤(d:Int):=by omega
   have gd1:(d:Int)≤100000:=by omega
   clear hgU hSA14 hd1 hd2
   go_wp2_with fail
   rw [gf HEB12]
   refine (gf HC14).mono ?_
   rintro e w14 ⟨rfl,hb14,hR14⟩
   replace HB:=gh ((gf HB).trans hb14)
   replace HZ:=gh ((gf HZ).but hb14 hrne)
   replace HX2:=gh ((hb14.block _ (blk (gf HX2)).1 (Ne.symm ne2)).trans (gf HX2))
   replace HX12:=gh ((hb14.block _ (blk (gf HX12)).1 (Ne.symm ne12)).trans (gf HX12))
   replace HT0:=gh ((gf HT0).keep (Stays.but hb14 (Nat.lt_succ_of_lt hr)) (Nat.le_refl _))
   replace PHT0:=gh (IsEP.keep (gf PHT0) ⟨hb14.size,fun k hk hs=>hb14.block k hs (by have h1:w.heap.size+1≤k:=hk.1;omega)⟩ fun _ h=>h)
   replace HS:=gh (Nat.lt_of_lt_of_le (gf HS) hb14.size)
   replace HR:=gh hR14
   clear hb14 hR14 HC14 HSA14
   obtain ⟨gg16,gc16,x016,x116,x216,x316,x416,hc16,hl16,hf16,ht16⟩:=(gf HR).facts (Below.refl _ _)
   have f416:=hf16 4
   clear hc16 hf16 ht16 x016 x116 x216 x316
   obtain ⟨y02,y12,y22,y32,y42,y52,y62⟩:=blk7 (gf HX2)
   obtain ⟨y012,y112,y212,y312,y412,y512,y612⟩:=blk7 (gf HX12)
   obtain ⟨V14,hV14⟩:∃ V,w14.setCell ⟨r,4,none⟩ (.int .i64 (d:Int))=V:=⟨_,rfl⟩
   have hbV14:But r w14 V14:=by rw [←hV14];exact (But.refl r w14).set _ _
   have hRV14:=(gf HR).deep (e:=d)
   rw [hV14] at hRV14
   have hsV14:V14.heap.size=w14.heap.size:=by rw [←hV14];simp
   replace HB:=gh ((gf HB).trans hbV14)
   replace HZ:=gh ((gf HZ).but hbV14 hrne)
   replace HX2:=gh ((hbV14.block _ (blk (gf HX2)).1 (Ne.symm ne2)).trans (gf HX2))
   replace HX12:=gh ((hbV14.block _ (blk (gf HX12)).1 (Ne.symm ne12)).trans (gf HX12))
   replace HT0:=gh ((gf HT0).keep (Stays.but hbV14 (Nat.lt_succ_of_lt hr)) (Nat.le_refl _))
   replace PHT0:=gh (IsEP.keep (gf PHT0) ⟨hbV14.size,fun k hk hs=>hbV14.block k hs (by have h1:w.heap.size+1≤k:=hk.1;omega)⟩ fun _ h=>h)
   replace HS:=gh (Nat.lt_of_lt_of_le (gf HS) hbV14.size)
   replace HR:=gh hRV14
   have HEV14:=gh hV14
   have HSV14:=gh hsV14
   clear hbV14 hRV14 hV14 hsV14
   have HTz14:=gh (leaf (W:=V14) (lo:=w.heap.size+1) 0 0 ⟨#[]⟩ ⟨#[]⟩ false)
   obtain ⟨C17,eC17,hbC17,hsC17,hhC17⟩:=box_new V14 #[.int .i64 i0,.string s0,.string m0,.bool b0,.slice a0 n0 c0,.int .i64 0,.int .i64 j0,.int .i64 0,.string ⟨#[]⟩,.string ⟨#[]⟩,.bool false,.slice none 0 0,.int .i64 0,.int .i64 0] 36
   have hnode:=node (l:=[t0,zEx]) (vs:=[[.int .i64 i0,.string s0,.string m0,.bool b0,.slice a0 n0 c0,.int .i64 0,.int .i64 j0],[.int .i64 0,.string ⟨#[]⟩,.string ⟨#[]⟩,.bool false,.slice none 0 0,.int .i64 0,.int .i64 0]]) 20 at4 ⟨#[]⟩ ⟨#[]⟩ false eC17 rfl (by simp) rfl (by simp) (gf HS) (fun j v t hv ht=>by
    rcases j with _ | _ | j
    ·obtain rfl:=Option.some.inj hv
     obtain rfl:=Option.some.inj ht
     exact gf HT0
    ·obtain rfl:=Option.some.inj hv
     obtain rfl:=Option.some.inj ht
     exact gf HTz14
    ·simp at hv)
   rw [gf HSV14] at hnode
   have hbu18:=But.of (r:=r) hbC17
   replace HR:=gh ((gf HR).keep hbC17)
   replace HB:=gh ((gf HB).trans hbu18)
   replace HZ:=gh ((gf HZ).but hbu18 hrne)
   replace HX2:=gh ((hbu18.block _ (blk (gf HX2)).1 (Ne.symm ne2)).trans (gf HX2))
   replace HX12:=gh ((hbu18.block _ (blk (gf HX12)).1 (Ne.symm ne12)).trans (gf HX12))
   replace HS:=gh (Nat.lt_of_lt_of_le (gf HS) hbu18.size)
   obtain ⟨y0,y1,y2,y3,y4,y5,y6⟩:=blk7 (gf HZ)
   obtain ⟨z0,z1,z2,z3,z4,z5,z6⟩:=frz7 (gf HZ)
   rw [←eC17,←gf HEV14] at y0 y1 y2 y3 y4 y5 y6 z0 z1 z2 z3 z4 z5 z6
   have HNode:=gh hnode
   have HEC:=gh eC17
   clear hnode eC17 hbC17 hsC17 hhC17
   go_wp2
   rw [gf HEV14,gf HEC]
   rw [←gf HQQ]
   exact dret_put rfl rfl rfl (gf HB) hr (gf HZ) (gf HY).symm (gf HR) (Nat.lt_succ_self _) (gf HNode)
  ·obtain ⟨hd1,X,hgX,hX⟩:=hU1
   have HC14:=gh (down_yes (gf HR) hd1)
   rw [decide_eq_true (gf heS)] at HC14
   have HGX:=gh (And.intro (hgX (S10) (gf heS)) hX)
   have gd0:(0:Int)≤(d:Int):=by omega
   have gd1:(d:Int)<200:=by omega
   clear hgX hX hd1
   go_wp2_with fail
   rw [gf HEB12]
   refine (gf HC14).mono ?_
   rintro e w14 ⟨rfl,hb14,hR14⟩
   replace HB:=gh ((gf HB).trans hb14)
   replace HZ:=gh ((gf HZ).but hb14 hrne)
   replace HX2:=gh ((hb14.block _ (blk (gf HX2)).1 (Ne.symm ne2)).trans (gf HX2))
   replace HX12:=gh ((hb14.block _ (blk (gf HX12)).1 (Ne.symm ne12)).trans (gf HX12))
   replace HT0:=gh ((gf HT0).keep (Stays.but hb14 (Nat.lt_succ_of_lt hr)) (Nat.le_refl _))
   replace PHT0:=gh (IsEP.keep (gf PHT0) ⟨hb14.size,fun k hk hs=>hb14.block k hs (by have h1:w.heap.size+1≤k:=hk.1;omega)⟩ fun _ h=>h)
   replace HS:=gh (Nat.lt_of_lt_of_le (gf HS) hb14.size)
   replace HR:=gh hR14
   replace HAB14:=gh (Nat.lt_of_lt_of_le (gf HAB14) hb14.size)
   clear hb14 hR14 HC14
   have HC19:=gh ((gf HGX).2 w14 (S10) (gf heS) (gf HR))
   obtain ⟨⟨t19,S19⟩,hX19⟩:∃ Z,X (S10)=Z:=⟨_,rfl⟩
   rw [hX19] at HC19
   have HX19:=gh (And.intro (gf HGX).1 hX19)
   have hY20:=gf HY
   simp only [(gf HX19).1,(gf HX19).2] at hY20
   replace HY:=gh hY20
   clear hY20
   clear hX19 HX19 HGX
   go_wp2_with fail
   refine (gf HC19).mono ?_
   rintro e w19 ⟨hb19,hR19,v19,rfl,hv19⟩
   obtain ⟨i19,j19,s19,m19,b19,a19,n19,c19,rfl⟩:=hv19.form
   replace HB:=gh ((gf HB).trans hb19)
   replace HZ:=gh ((gf HZ).but hb19 hrne)
   replace HX2:=gh ((hb19.block _ (blk (gf HX2)).1 (Ne.symm ne2)).trans (gf HX2))
   replace HX12:=gh ((hb19.block _ (blk (gf HX12)).1 (Ne.symm ne12)).trans (gf HX12))
   replace HT0:=gh ((gf HT0).keep (Stays.but hb19 (Nat.lt_succ_of_lt hr)) (Nat.le_refl _))
   replace PHT0:=gh (IsEP.keep (gf PHT0) ⟨hb19.size,fun k hk hs=>hb19.block k hs (by have h1:w.heap.size+1≤k:=hk.1;omega)⟩ fun _ h=>h)
   replace HS:=gh (Nat.lt_of_lt_of_le (gf HS) hb19.size)
   replace HR:=gh hR19
   obtain ⟨gg21,gc21,x021,x121,x221,x321,x421,hc21,hl21,hf21,ht21⟩:=(gf HR).facts (Below.refl _ _)
   have f421:=hf21 4
   clear hc21 hf21 ht21 x021 x121 x221 x321
   obtain ⟨ya0,ya1,ya2,ya3,ya4,ya5,ya6⟩:=blk7 (gf HX12)
   obtain ⟨za0,za1,za2,za3,za4,za5,za6⟩:=frz7 (gf HX12)
   obtain ⟨U19,hU19⟩:∃ V,(((((((w19.setCell ⟨w7.heap.size,0,none⟩ (.int .i64 i19)).setCell ⟨w7.heap.size,1,none⟩ (.string s19)).setCell ⟨w7.heap.size,2,none⟩ (.string m19)).setCell ⟨w7.heap.size,3,none⟩ (.bool b19)).setCell ⟨w7.heap.size,4,none⟩ (.slice a19 n19 c19)).setCell ⟨w7.heap.size,5,none⟩ (.int .i64 0)).setCell ⟨w7.heap.size,6,none⟩ (.int .i64 j19))=V:=⟨_,rfl⟩
   obtain ⟨V14,hV14⟩:∃ V,U19.setCell ⟨r,4,none⟩ (.int .i64 (d:Int))=V:=⟨_,rfl⟩
   have hqU:w.heap.size<w7.heap.size:=gf HSa
   have hbU:But w7.heap.size w19 U19:=by rw [←hU19];exact ((((((((But.refl w7.heap.size w19).set 0 _).set 1 _).set 2 _).set 3 _).set 4 _).set 5 _).set 6 _)
   have hbV:But r U19 V14:=by rw [←hV14];exact (But.refl r U19).set _ _
   have hsU:U19.heap.size=w19.heap.size:=by rw [←hU19];simp
   have hsV:V14.heap.size=w19.heap.size:=by rw [←hV14,←hsU];simp
   have hRU:PD U19 r ts S19 (d+1):=(gf HR).out (q:=w.heap.size) hr fun k hk=>hbU.block k (by have:=gf HS;omega) (by omega)
   have hRV:=hRU.deep (e:=d)
   rw [hV14] at hRV
   have hall:∀ k,k<w19.heap.size→k≠w7.heap.size→k≠r→V14.heap[k]?=w19.heap[k]?:=fun k hk h1 h2=>(hbV.block k (by omega) h2).trans (hbU.block k hk h1)
   replace HB:Hid (But r w V14):=⟨hbV.os.trans (hbU.os.trans (gf HB).os),hbV.tape.trans (hbU.tape.trans (gf HB).tape),hbV.output.trans (hbU.output.trans (gf HB).output),by have:=(gf HB).size;omega,fun k hk h2=>(hall k (by have:=(gf HB).size;omega) (by omega) h2).trans ((gf HB).block k hk h2)⟩
   replace HZ:Hid (ZB V14 w.heap.size):=(hall _ (gf HS) (by omega) (by omega)).trans (gf HZ)
   replace HX2:=gh ((hall _ (blk (gf HX2)).1 (by have:=gf hlt;omega) (Ne.symm ne2)).trans (gf HX2))
   replace HX12:Hid (V14.heap[w7.heap.size]?=some (.cells #[.int .i64 i19,.string s19,.string m19,.bool b19,.slice a19 n19 c19,.int .i64 0,.int .i64 j19] 36)):=by show _=_;rw [hbV.block _ (by have:=(blk (gf HX12)).1;omega) (Ne.symm ne12),←hU19];exact fill7 (gf HX12)
   replace HT0:Hid (IsE V14 (w.heap.size+1) (.agg #[.int .i64 i0,.string s0,.string m0,.bool b0,.slice a0 n0 c0,.int .i64 0,.int .i64 j0]) t0):=IsEP.keep (gf PHT0) ⟨by omega,fun k hk hs=>hall k hs (by have h1:k<w7.heap.size:=hk.2;omega) (by have h1:w.heap.size+1≤k:=hk.1;omega)⟩ (fun b hb=>hb.1)
   have HT19:=gh (hv19.keep (w':=V14) (lo':=w.heap.size+1) ⟨by omega,fun k h1 h2=>hall k h2 (by have:=gf HAB14;omega) (by have:=gf HAB14;omega)⟩ (by have:=gf HAB14;omega))
   replace HS:Hid (w.heap.size<V14.heap.size):=by have:=gf HS;show _<_;omega
   replace HR:=gh hRV
   have HEU:=gh hU19
   have HEV14:=gh hV14
   have HSV14:Hid (V14.heap.size=w19.heap.size):=hsV
   clear hb19 hR19 hv19 HC19 hqU hbU hbV hsU hsV hRU hRV hall hU19 hV14
   obtain ⟨y02,y12,y22,y32,y42,y52,y62⟩:=blk7 (gf HX2)
   rw [←gf HEV14,←gf HEU] at y02 y12 y22 y32 y42 y52 y62
   obtain ⟨C22,eC22,hbC22,hsC22,hhC22⟩:=box_new V14 #[.int .i64 i0,.string s0,.string m0,.bool b0,.slice a0 n0 c0,.int .i64 0,.int .i64 j0,.int .i64 i19,.string s19,.string m19,.bool b19,.slice a19 n19 c19,.int .i64 0,.int .i64 j19] 36
   have hnode:=node (l:=[t0,t19]) (vs:=[[.int .i64 i0,.string s0,.string m0,.bool b0,.slice a0 n0 c0,.int .i64 0,.int .i64 j0],[.int .i64 i19,.string s19,.string m19,.bool b19,.slice a19 n19 c19,.int .i64 0,.int .i64 j19]]) 20 at4 ⟨#[]⟩ ⟨#[]⟩ false eC22 rfl (by simp) rfl (by simp) (gf HS) (fun j v t hv ht=>by
    rcases j with _ | _ | j
    ·obtain rfl:=Option.some.inj hv
     obtain rfl:=Option.some.inj ht
     exact gf HT0
    ·obtain rfl:=Option.some.inj hv
     obtain rfl:=Option.some.inj ht
     exact gf HT19
    ·simp at hv)
   rw [gf HSV14] at hnode
   have hbu23:=But.of (r:=r) hbC22
   replace HR:=gh ((gf HR).keep hbC22)
   replace HB:=gh ((gf HB).trans hbu23)
   replace HZ:=gh ((gf HZ).but hbu23 hrne)
   replace HX2:=gh ((hbu23.block _ (blk (gf HX2)).1 (Ne.symm ne2)).trans (gf HX2))
   replace HX12:=gh ((hbu23.block _ (blk (gf HX12)).1 (Ne.symm ne12)).trans (gf HX12))
   replace HS:=gh (Nat.lt_of_lt_of_le (gf HS) hbu23.size)
   obtain ⟨y0,y1,y2,y3,y4,y5,y6⟩:=blk7 (gf HZ)
   obtain ⟨z0,z1,z2,z3,z4,z5,z6⟩:=frz7 (gf HZ)
   rw [←eC22,←gf HEV14,←gf HEU] at y0 y1 y2 y3 y4 y5 y6 z0 z1 z2 z3 z4 z5 z6
   have HNode:=gh hnode
   have HEC:=gh eC22
   clear hnode eC22 hbC22 hsC22 hhC22
   go_wp2
   rw [gf HEU,gf HEV14,gf HEC]
   rw [←gf HQQ]
   exact dret_put rfl rfl rfl (gf HB) hr (gf HZ) (gf HY).symm (gf HR) (Nat.lt_succ_self _) (gf HNode)
 have hY24:=gf HY
 simp only [Bool.false_eq_true,if_false] at hY24
 replace HY:=gh hY24
 clear hY24
 have hRR:=gf HR
 rw [if_neg Bool.false_ne_true] at hRR
 replace HR:=gh hRR
 clear hRR
 obtain ⟨y02,y12,y22,y32,y42,y52,y62⟩:=blk7 (gf HX2)
 obtain ⟨y0,y1,y2,y3,y4,y5,y6⟩:=blk7 (gf HZ)
 obtain ⟨z0,z1,z2,z3,z4,z5,z6⟩:=frz7 (gf HZ)
 have HNode:=gh (gf HT0)
 go_wp2
 rw [←gf HQQ]
 exact dret_put rfl rfl rfl (gf HB) hr (gf HZ) (gf HY).symm (gf HR) (Nat.lt_succ_self _) (gf HNode)
end Go.Proofs.YtfkfnbehdcmgeaaGreatDoor
