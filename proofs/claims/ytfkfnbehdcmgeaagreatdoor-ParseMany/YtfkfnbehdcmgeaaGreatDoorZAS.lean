/- The document's parser: part. -/
import Derived.Test.YtfkfnbehdcmgeaaGreatDoorZAR
set_option linter.unusedVariables false
set_option linter.unusedSimpArgs false
namespace Go.Proofs.YtfkfnbehdcmgeaaGreatDoor
open Go Go.RowKit
set_option maxRecDepth 100000 in
set_option maxHeartbeats 8000000 in
theorem dpart_of {r d:Nat} {ts:List (Int×ByteArray×Int)} {g:Ru→PS→Ex×PS} (hT:TsOk ts) (hI:DcC 100 r ts d (impD ts g)):DcC 76 r ts d (partD ts g):=by
 intro w st hR
 obtain ⟨Y,hY⟩:∃ Y,partD ts g st=Y:=⟨_,rfl⟩
 show Calls _ _ _ _ (DE (partD ts g st) r ts d w)
 rw [hY]
 unfold partD at hY
 have hr:=hR.rlt
 obtain ⟨A,eA,hbA,hzA,hsA⟩:=zb_new w
 have HB:=gh (But.of (r:=r) hbA)
 have HR:=gh (hR.keep hbA)
 have HZ:=gh hzA
 have HS:Hid (w.heap.size<A.heap.size):=by show _<_;omega
 have HE:=gh eA
 have HT:=gh hT
 have HY:=gh hY
 have hrne:r≠w.heap.size:=by omega
 replace hI:=gh hI
 clear hR hbA hzA hsA eA hT hY
 go_enter Tryz.func76,Tryz.ntmps76
 generalize hQQ:bodyPost Tryz.prog Tryz.f76 (DE Y r ts d w)=QQ
 have HQQ:=gh hQQ
 clear hQQ
 have HC0:=gh (dt_any (gf HR) (gf HT))
 unfold tkV at HC0
 obtain ⟨⟨kk0,T0,at0⟩,hN0⟩:∃ X,tD ts (st)=X:=⟨_,rfl⟩
 rw [hN0] at HC0
 have HN0:=gh hN0
 have hf20:=fld2 (.int .i64 kk0) (.string T0) (.int .i64 at0)
 clear hN0
 go_wp2_with fail
 rw [gf HE]
 refine (gf HC0).mono ?_
 rintro e w0 ⟨rfl,hb0⟩
 have hY1:=gf HY
 simp only [gf HN0] at hY1
 replace HY:=gh hY1
 clear hY1
 have hbu2:=But.of (r:=r) hb0
 replace HR:=gh ((gf HR).keep hb0)
 replace HB:=gh ((gf HB).trans hbu2)
 replace HZ:=gh ((gf HZ).but hbu2 hrne)
 replace HS:=gh (Nat.lt_of_lt_of_le (gf HS) hbu2.size)
 clear hb0 HC0
 obtain ⟨B3,eB3,hbB3,hsB3,hhB3⟩:=box_new w0 #[.int .i64 kk0,.string T0,.int .i64 at0] 74
 have ne3:r≠w0.heap.size:=by have:=gf HS;omega
 have hbu4:=But.of (r:=r) hbB3
 replace HR:=gh ((gf HR).keep hbB3)
 replace HB:=gh ((gf HB).trans hbu4)
 replace HZ:=gh ((gf HZ).but hbu4 hrne)
 replace HS:=gh (Nat.lt_of_lt_of_le (gf HS) hbu4.size)
 have HX3:=gh hhB3
 have HEB3:=gh eB3
 have HSB3:=gh hsB3
 clear eB3 hbB3 hhB3 hsB3
 have u03:=(blk (gf HX3)).2.1 0 _ rfl
 have u13:=(blk (gf HX3)).2.1 1 _ rfl
 have u23:=(blk (gf HX3)).2.1 2 _ rfl
 rw [←gf HEB3] at u03 u13 u23
 obtain ⟨gg5,gc5,x05,x15,x25,x35,x45,hc5,hl5,hf5,ht5⟩:=(gf HR).facts (Below.refl _ _)
 rw [←gf HEB3] at x25 hl5
 clear hc5 hf5 ht5 x05 x15 x35 x45
 obtain ⟨er,her⟩:∃ er,st.e=er:=⟨_,rfl⟩
 by_cases he:st.e=0
 ·rw [he] at x25
  by_cases hk1:kk0=1
  ·have kk1:=hk1
   subst hk1
   have HC8:=gh (dnext_any (gf HR) (gf HT))
   unfold tkV at HC8
   obtain ⟨⟨kk8,T8,at8⟩,hN8⟩:∃ X,nx ts ((st).i+1)=X:=⟨_,rfl⟩
   rw [hN8] at HC8
   have HN8:=gh hN8
   have hf08:=fld0 (.int .i64 kk8) (.string T8) (.int .i64 at8)
   have hf18:=fld1 (.int .i64 kk8) (.string T8) (.int .i64 at8)
   clear hN8
   go_wp2_with fail
   rw [gf HEB3]
   refine (gf HC8).mono ?_
   rintro e w8 ⟨rfl,hb8⟩
   have hbu9:=But.of (r:=r) hb8
   replace HR:=gh ((gf HR).keep hb8)
   replace HB:=gh ((gf HB).trans hbu9)
   replace HZ:=gh ((gf HZ).but hbu9 hrne)
   replace HX3:=gh ((hbu9.block _ (blk (gf HX3)).1 (Ne.symm ne3)).trans (gf HX3))
   replace HS:=gh (Nat.lt_of_lt_of_le (gf HS) hbu9.size)
   clear hb8 HC8
   by_cases hk4:kk8=4
   ·subst hk4
    have HC11:=gh (dnext_any (gf HR) (gf HT))
    unfold tkV at HC11
    obtain ⟨⟨kk11,T11,at11⟩,hN11⟩:∃ X,nx ts ((st).i+1)=X:=⟨_,rfl⟩
    rw [hN11] at HC11
    have HN11:=gh hN11
    have hf011:=fld0 (.int .i64 kk11) (.string T11) (.int .i64 at11)
    have hf111:=fld1 (.int .i64 kk11) (.string T11) (.int .i64 at11)
    clear hN11
    go_wp2_with fail
    refine (gf HC11).mono ?_
    rintro e w11 ⟨rfl,hb11⟩
    have hbu12:=But.of (r:=r) hb11
    replace HR:=gh ((gf HR).keep hb11)
    replace HB:=gh ((gf HB).trans hbu12)
    replace HZ:=gh ((gf HZ).but hbu12 hrne)
    replace HX3:=gh ((hbu12.block _ (blk (gf HX3)).1 (Ne.symm ne3)).trans (gf HX3))
    replace HS:=gh (Nat.lt_of_lt_of_le (gf HS) hbu12.size)
    clear hb11 HC11
    obtain ⟨rfl,rfl,rfl⟩:4=kk11∧T8=T11∧at8=at11:=by have h1:=gf HN8;have h2:=gf HN11;rw [h1] at h2;simp only [Prod.mk.injEq] at h2;exact ⟨h2.1,h2.2.1,h2.2.2⟩
    by_cases hT4:T8=⟨#[58,61]⟩
    ·have eT:(T8.toList == [58,61])=true:=(eqb T8 ⟨#[58,61]⟩ [58,61] rfl).mp hT4
     have hYn:=gf HY
     rw [if_pos (by rw [gf HN8];exact ⟨he,(by first | rfl | trivial),(by first | rfl | trivial),hT4⟩)] at hYn
     replace HY:=gh hYn
     clear hYn hT4
     obtain ⟨S14,hS14⟩:∃ S,stepD ts (st)=S:=⟨_,rfl⟩
     have HC14:=gh (step_any (gf HR) (gf HT))
     rw [hS14] at HC14
     have HS14:=gh hS14
     clear hS14
     go_wp2_with fail
     refine (gf HC14).mono ?_
     rintro e w14 ⟨rfl,hb14,hR14⟩
     have hY15:=gf HY
     simp only [gf HS14] at hY15
     replace HY:=gh hY15
     clear hY15
     replace HB:=gh ((gf HB).trans hb14)
     replace HZ:=gh ((gf HZ).but hb14 hrne)
     replace HX3:=gh ((hb14.block _ (blk (gf HX3)).1 (Ne.symm ne3)).trans (gf HX3))
     replace HS:=gh (Nat.lt_of_lt_of_le (gf HS) hb14.size)
     replace HR:=gh hR14
     clear hb14 hR14 HC14 HS14
     obtain ⟨S16,hS16⟩:∃ S,stepD ts (S14)=S:=⟨_,rfl⟩
     have HC16:=gh (step_any (gf HR) (gf HT))
     rw [hS16] at HC16
     have HS16:=gh hS16
     clear hS16
     go_wp2_with fail
     refine (gf HC16).mono ?_
     rintro e w16 ⟨rfl,hb16,hR16⟩
     have hY17:=gf HY
     simp only [gf HS16] at hY17
     replace HY:=gh hY17
     clear hY17
     replace HB:=gh ((gf HB).trans hb16)
     replace HZ:=gh ((gf HZ).but hb16 hrne)
     replace HX3:=gh ((hb16.block _ (blk (gf HX3)).1 (Ne.symm ne3)).trans (gf HX3))
     replace HS:=gh (Nat.lt_of_lt_of_le (gf HS) hb16.size)
     replace HR:=gh hR16
     clear hb16 hR16 HC16 HS16
     have HC18:=gh (gf hI w16 (S16) (gf HR))
     obtain ⟨⟨t18,S18⟩,hX18⟩:∃ X,impD ts g (S16)=X:=⟨_,rfl⟩
     rw [hX18] at HC18
     have HX18:=gh hX18
     clear hX18
     go_wp2_with fail
     refine (gf HC18).mono ?_
     rintro e w18 ⟨hb18,hR18,v18,rfl,hv18⟩
     have hY19:=gf HY
     simp only [gf HX18] at hY19
     replace HY:=gh hY19
     clear hY19
     obtain ⟨i18,j18,s18,m18,b18,a18,n18,c18,rfl⟩:=hv18.form
     have HT18:=gh (hv18.keep (lo':=w.heap.size+1) (Stays.of (Below.refl _ _)) (gf HS))
     replace HB:=gh ((gf HB).trans hb18)
     replace HZ:=gh ((gf HZ).but hb18 hrne)
     replace HX3:=gh ((hb18.block _ (blk (gf HX3)).1 (Ne.symm ne3)).trans (gf HX3))
     replace HS:=gh (Nat.lt_of_lt_of_le (gf HS) hb18.size)
     replace HR:=gh hR18
     clear hb18 hR18 hv18 HC18 HX18
     obtain ⟨B20,eB20,hbB20,hsB20,hhB20⟩:=box_new w18 #[.int .i64 i18,.string s18,.string m18,.bool b18,.slice a18 n18 c18,.int .i64 0,.int .i64 j18] 36
     have ne20:r≠w18.heap.size:=by have:=gf HS;omega
     have hbu21:=But.of (r:=r) hbB20
     replace HR:=gh ((gf HR).keep hbB20)
     replace HB:=gh ((gf HB).trans hbu21)
     replace HZ:=gh ((gf HZ).but hbu21 hrne)
     replace HX3:=gh ((hbu21.block _ (blk (gf HX3)).1 (Ne.symm ne3)).trans (gf HX3))
     replace HT18:=gh ((gf HT18).keep (Stays.but hbu21 (Nat.lt_succ_of_lt hr)) (Nat.le_refl _))
     replace HS:=gh (Nat.lt_of_lt_of_le (gf HS) hbu21.size)
     have HX20:=gh hhB20
     have HEB20:=gh eB20
     have HSB20:=gh hsB20
     clear eB20 hbB20 hhB20 hsB20
     obtain ⟨y020,y120,y220,y320,y420,y520,y620⟩:=blk7 (gf HX20)
     have u03:=(blk (gf HX3)).2.1 0 _ rfl
     have u13:=(blk (gf HX3)).2.1 1 _ rfl
     have u23:=(blk (gf HX3)).2.1 2 _ rfl
     rw [←gf HEB20] at y020 y120 y220 y320 y420 y520 y620 u03 u13 u23
     obtain ⟨C22,eC22,hbC22,hsC22,hhC22⟩:=box_new B20 #[.int .i64 i18,.string s18,.string m18,.bool b18,.slice a18 n18 c18,.int .i64 0,.int .i64 j18] 36
     have hnode:=node (l:=[t18]) (vs:=[[.int .i64 i18,.string s18,.string m18,.bool b18,.slice a18 n18 c18,.int .i64 0,.int .i64 j18]]) 25 at0 T0 ⟨#[]⟩ false eC22 rfl (by simp) rfl (by simp) (gf HS) (fun j v t hv ht=>by
      rcases j with _ | j
      ·obtain rfl:=Option.some.inj hv
       obtain rfl:=Option.some.inj ht
       exact gf HT18
      ·simp at hv)
     rw [gf HSB20] at hnode
     have hbu23:=But.of (r:=r) hbC22
     replace HR:=gh ((gf HR).keep hbC22)
     replace HB:=gh ((gf HB).trans hbu23)
     replace HZ:=gh ((gf HZ).but hbu23 hrne)
     replace HX3:=gh ((hbu23.block _ (blk (gf HX3)).1 (Ne.symm ne3)).trans (gf HX3))
     replace HX20:=gh ((hbu23.block _ (blk (gf HX20)).1 (Ne.symm ne20)).trans (gf HX20))
     replace HS:=gh (Nat.lt_of_lt_of_le (gf HS) hbu23.size)
     obtain ⟨y0,y1,y2,y3,y4,y5,y6⟩:=blk7 (gf HZ)
     obtain ⟨z0,z1,z2,z3,z4,z5,z6⟩:=frz7 (gf HZ)
     have uc03:=(blk (gf HX3)).2.1 0 _ rfl
     have uc13:=(blk (gf HX3)).2.1 1 _ rfl
     have uc23:=(blk (gf HX3)).2.1 2 _ rfl
     rw [←eC22,←gf HEB20] at y0 y1 y2 y3 y4 y5 y6 z0 z1 z2 z3 z4 z5 z6 uc03 uc13 uc23
     have HNode:=gh hnode
     have HEC:=gh eC22
     clear hnode eC22 hbC22 hsC22 hhC22
     go_wp2
     rw [gf HEB20,gf HEC]
     rw [←gf HQQ]
     exact dret_put rfl rfl rfl (gf HB) hr (gf HZ) (gf HY).symm (gf HR) (Nat.lt_succ_self _) (gf HNode)
    ·have eT:(T8.toList == [58,61])=false:=Bool.eq_false_iff.mpr (fun hq=>hT4 ((eqb T8 ⟨#[58,61]⟩ [58,61] rfl).mpr hq))
     have hYn:=gf HY
     rw [if_neg (fun h=>hT4 (by have h1:=h.2.2.2;rw [gf HN8] at h1;exact h1))] at hYn
     replace HY:=gh hYn
     clear hYn
     have HC24:=gh (eat_any (gf HR) (gf HT) ⟨#[114,97,105,115,101]⟩)
     obtain ⟨bo24,hbo24⟩:∃ b,isD ts ⟨#[114,97,105,115,101]⟩ (st)=b:=⟨_,rfl⟩
     unfold eatD at HC24
     rw [hbo24] at HC24
     have HO24:=gh hbo24
     clear hbo24
     go_wp2_with fail
     refine (gf HC24).mono ?_
     rintro e w24 ⟨rfl,hb24,hR24⟩
     replace HB:=gh ((gf HB).trans hb24)
     replace HZ:=gh ((gf HZ).but hb24 hrne)
     replace HX3:=gh ((hb24.block _ (blk (gf HX3)).1 (Ne.symm ne3)).trans (gf HX3))
     replace HS:=gh (Nat.lt_of_lt_of_le (gf HS) hb24.size)
     replace HR:=gh hR24
     have hY25:=gf HY
     simp only [gf HO24] at hY25
     replace HY:=gh hY25
     clear hY25
     clear hb24 HC24 hR24
     rcases bo24 with _ | _
     rotate_left
     ·have hY26:=gf HY
      simp only [if_true] at hY26
      replace HY:=gh hY26
      clear hY26
      have hRR:=gf HR
      rw [if_pos rfl] at hRR
      obtain ⟨S27,hS27⟩:∃ S,stepD ts (st)=S:=⟨_,rfl⟩
      rw [hS27] at hRR
      replace HR:=gh hRR
      have HSt27:=gh hS27
      have hY28:=gf HY
      simp only [gf HSt27] at hY28
      replace HY:=gh hY28
      clear hY28
      clear hRR hS27
      have HC29:=gh (gf hI w24 (S27) (gf HR))
      obtain ⟨⟨t29,S29⟩,hX29⟩:∃ X,impD ts g (S27)=X:=⟨_,rfl⟩
      rw [hX29] at HC29
      have HX29:=gh hX29
      clear hX29
      go_wp2_with fail
      refine (gf HC29).mono ?_
      rintro e w29 ⟨hb29,hR29,v29,rfl,hv29⟩
      have hY30:=gf HY
      simp only [gf HX29] at hY30
      replace HY:=gh hY30
      clear hY30
      obtain ⟨i29,j29,s29,m29,b29,a29,n29,c29,rfl⟩:=hv29.form
      have HT29:=gh (hv29.keep (lo':=w.heap.size+1) (Stays.of (Below.refl _ _)) (gf HS))
      replace HB:=gh ((gf HB).trans hb29)
      replace HZ:=gh ((gf HZ).but hb29 hrne)
      replace HX3:=gh ((hb29.block _ (blk (gf HX3)).1 (Ne.symm ne3)).trans (gf HX3))
      replace HS:=gh (Nat.lt_of_lt_of_le (gf HS) hb29.size)
      replace HR:=gh hR29
      clear hb29 hR29 hv29 HC29 HX29
      obtain ⟨B31,eB31,hbB31,hsB31,hhB31⟩:=box_new w29 #[.int .i64 i29,.string s29,.string m29,.bool b29,.slice a29 n29 c29,.int .i64 0,.int .i64 j29] 36
      have ne31:r≠w29.heap.size:=by have:=gf HS;omega
      have hbu32:=But.of (r:=r) hbB31
      replace HR:=gh ((gf HR).keep hbB31)
      replace HB:=gh ((gf HB).trans hbu32)
      replace HZ:=gh ((gf HZ).but hbu32 hrne)
      replace HX3:=gh ((hbu32.block _ (blk (gf HX3)).1 (Ne.symm ne3)).trans (gf HX3))
      replace HT29:=gh ((gf HT29).keep (Stays.but hbu32 (Nat.lt_succ_of_lt hr)) (Nat.le_refl _))
      replace HS:=gh (Nat.lt_of_lt_of_le (gf HS) hbu32.size)
      have HX31:=gh hhB31
      have HEB31:=gh eB31
      have HSB31:=gh hsB31
      clear eB31 hbB31 hhB31 hsB31
      obtain ⟨y031,y131,y231,y331,y431,y531,y631⟩:=blk7 (gf HX31)
      have u03:=(blk (gf HX3)).2.1 0 _ rfl
      have u13:=(blk (gf HX3)).2.1 1 _ rfl
      have u23:=(blk (gf HX3)).2.1 2 _ rfl
      rw [←gf HEB31] at y031 y131 y231 y331 y431 y531 y631 u03 u13 u23
      obtain ⟨C33,eC33,hbC33,hsC33,hhC33⟩:=box_new B31 #[.int .i64 i29,.string s29,.string m29,.bool b29,.slice a29 n29 c29,.int .i64 0,.int .i64 j29] 36
      have hnode:=node (l:=[t29]) (vs:=[[.int .i64 i29,.string s29,.string m29,.bool b29,.slice a29 n29 c29,.int .i64 0,.int .i64 j29]]) 26 at0 ⟨#[]⟩ ⟨#[]⟩ false eC33 rfl (by simp) rfl (by simp) (gf HS) (fun j v t hv ht=>by
       rcases j with _ | j
       ·obtain rfl:=Option.some.inj hv
        obtain rfl:=Option.some.inj ht
        exact gf HT29
       ·simp at hv)
      rw [gf HSB31] at hnode
      have hbu34:=But.of (r:=r) hbC33
      replace HR:=gh ((gf HR).keep hbC33)
      replace HB:=gh ((gf HB).trans hbu34)
      replace HZ:=gh ((gf HZ).but hbu34 hrne)
      replace HX3:=gh ((hbu34.block _ (blk (gf HX3)).1 (Ne.symm ne3)).trans (gf HX3))
      replace HX31:=gh ((hbu34.block _ (blk (gf HX31)).1 (Ne.symm ne31)).trans (gf HX31))
      replace HS:=gh (Nat.lt_of_lt_of_le (gf HS) hbu34.size)
      obtain ⟨y0,y1,y2,y3,y4,y5,y6⟩:=blk7 (gf HZ)
      obtain ⟨z0,z1,z2,z3,z4,z5,z6⟩:=frz7 (gf HZ)
      have uc03:=(blk (gf HX3)).2.1 0 _ rfl
      have uc13:=(blk (gf HX3)).2.1 1 _ rfl
      have uc23:=(blk (gf HX3)).2.1 2 _ rfl
      rw [←eC33,←gf HEB31] at y0 y1 y2 y3 y4 y5 y6 z0 z1 z2 z3 z4 z5 z6 uc03 uc13 uc23
      have HNode:=gh hnode
      have HEC:=gh eC33
      clear hnode eC33 hbC33 hsC33 hhC33
      go_wp2
      rw [gf HEB31,gf HEC]
      rw [←gf HQQ]
      exact dret_put rfl rfl rfl (gf HB) hr (gf HZ) (gf HY).symm (gf HR) (Nat.lt_succ_self _) (gf HNode)
     have hY35:=gf HY
     simp only [Bool.false_eq_true,if_false] at hY35
     replace HY:=gh hY35
     clear hY35
     have hRR:=gf HR
     rw [if_neg Bool.false_ne_true] at hRR
     replace HR:=gh hRR
     clear hRR
     have HC36:=gh (eat_any (gf HR) (gf HT) ⟨#[97,115,115,101,114,116]⟩)
     obtain ⟨bo36,hbo36⟩:∃ b,isD ts ⟨#[97,115,115,101,114,116]⟩ (st)=b:=⟨_,rfl⟩
     unfold eatD at HC36
     rw [hbo36] at HC36
     have HO36:=gh hbo36
     clear hbo36
     go_wp2_with fail
     refine (gf HC36).mono ?_
     rintro e w36 ⟨rfl,hb36,hR36⟩
     replace HB:=gh ((gf HB).trans hb36)
     replace HZ:=gh ((gf HZ).but hb36 hrne)
     replace HX3:=gh ((hb36.block _ (blk (gf HX3)).1 (Ne.symm ne3)).trans (gf HX3))
     replace HS:=gh (Nat.lt_of_lt_of_le (gf HS) hb36.size)
     replace HR:=gh hR36
     have hY37:=gf HY
     simp only [gf HO36] at hY37
     replace HY:=gh hY37
     clear hY37
     clear hb36 HC36 hR36
     rcases bo36 with _ | _
     rotate_left
     ·have hY38:=gf HY
      simp only [if_true] at hY38
      replace HY:=gh hY38
      clear hY38
      have hRR:=gf HR
      rw [if_pos rfl] at hRR
      obtain ⟨S39,hS39⟩:∃ S,stepD ts (st)=S:=⟨_,rfl⟩
      rw [hS39] at hRR
      replace HR:=gh hRR
      have HSt39:=gh hS39
      have hY40:=gf HY
      simp only [gf HSt39] at hY40
      replace HY:=gh hY40
      clear hY40
      clear hRR hS39
      have HC41:=gh (gf hI w36 (S39) (gf HR))
      obtain ⟨⟨t41,S41⟩,hX41⟩:∃ X,impD ts g (S39)=X:=⟨_,rfl⟩
      rw [hX41] at HC41
      have HX41:=gh hX41
      clear hX41
      go_wp2_with fail
      refine (gf HC41).mono ?_
      rintro e w41 ⟨hb41,hR41,v41,rfl,hv41⟩
      have hY42:=gf HY
      simp only [gf HX41] at hY42
      replace HY:=gh hY42
      clear hY42
      obtain ⟨i41,j41,s41,m41,b41,a41,n41,c41,rfl⟩:=hv41.form
      have HT41:=gh (hv41.keep (lo':=w.heap.size+1) (Stays.of (Below.refl _ _)) (gf HS))
      replace HB:=gh ((gf HB).trans hb41)
      replace HZ:=gh ((gf HZ).but hb41 hrne)
      replace HX3:=gh ((hb41.block _ (blk (gf HX3)).1 (Ne.symm ne3)).trans (gf HX3))
      replace HS:=gh (Nat.lt_of_lt_of_le (gf HS) hb41.size)
      replace HR:=gh hR41
      clear hb41 hR41 hv41 HC41 HX41
      obtain ⟨B43,eB43,hbB43,hsB43,hhB43⟩:=box_new w41 #[.int .i64 i41,.string s41,.string m41,.bool b41,.slice a41 n41 c41,.int .i64 0,.int .i64 j41] 36
      have ne43:r≠w41.heap.size:=by have:=gf HS;omega
      have hbu44:=But.of (r:=r) hbB43
      replace HR:=gh ((gf HR).keep hbB43)
      replace HB:=gh ((gf HB).trans hbu44)
      replace HZ:=gh ((gf HZ).but hbu44 hrne)
      replace HX3:=gh ((hbu44.block _ (blk (gf HX3)).1 (Ne.symm ne3)).trans (gf HX3))
      replace HT41:=gh ((gf HT41).keep (Stays.but hbu44 (Nat.lt_succ_of_lt hr)) (Nat.le_refl _))
      replace HS:=gh (Nat.lt_of_lt_of_le (gf HS) hbu44.size)
      have HX43:=gh hhB43
      have HEB43:=gh eB43
      have HSB43:=gh hsB43
      clear eB43 hbB43 hhB43 hsB43
      obtain ⟨y043,y143,y243,y343,y443,y543,y643⟩:=blk7 (gf HX43)
      have u03:=(blk (gf HX3)).2.1 0 _ rfl
      have u13:=(blk (gf HX3)).2.1 1 _ rfl
      have u23:=(blk (gf HX3)).2.1 2 _ rfl
      rw [←gf HEB43] at y043 y143 y243 y343 y443 y543 y643 u03 u13 u23
      obtain ⟨C45,eC45,hbC45,hsC45,hhC45⟩:=box_new B43 #[.int .i64 i41,.string s41,.string m41,.bool b41,.slice a41 n41 c41,.int .i64 0,.int .i64 j41] 36
      have hnode:=node (l:=[t41]) (vs:=[[.int .i64 i41,.string s41,.string m41,.bool b41,.slice a41 n41 c41,.int .i64 0,.int .i64 j41]]) 28 at0 ⟨#[]⟩ ⟨#[]⟩ false eC45 rfl (by simp) rfl (by simp) (gf HS) (fun j v t hv ht=>by
       rcases j with _ | j
       ·obtain rfl:=Option.some.inj hv
        obtain rfl:=Option.some.inj ht
        exact gf HT41
       ·simp at hv)
      rw [gf HSB43] at hnode
      have hbu46:=But.of (r:=r) hbC45
      replace HR:=gh ((gf HR).keep hbC45)
      replace HB:=gh ((gf HB).trans hbu46)
      replace HZ:=gh ((gf HZ).but hbu46 hrne)
      replace HX3:=gh ((hbu46.block _ (blk (gf HX3)).1 (Ne.symm ne3)).trans (gf HX3))
      replace HX43:=gh ((hbu46.block _ (blk (gf HX43)).1 (Ne.symm ne43)).trans (gf HX43))
      replace HS:=gh (Nat.lt_of_lt_of_le (gf HS) hbu46.size)
      obtain ⟨y0,y1,y2,y3,y4,y5,y6⟩:=blk7 (gf HZ)
      obtain ⟨z0,z1,z2,z3,z4,z5,z6⟩:=frz7 (gf HZ)
      have uc03:=(blk (gf HX3)).2.1 0 _ rfl
      have uc13:=(blk (gf HX3)).2.1 1 _ rfl
      have uc23:=(blk (gf HX3)).2.1 2 _ rfl
      rw [←eC45,←gf HEB43] at y0 y1 y2 y3 y4 y5 y6 z0 z1 z2 z3 z4 z5 z6 uc03 uc13 uc23
      have HNode:=gh hnode
      have HEC:=gh eC45
      clear hnode eC45 hbC45 hsC45 hhC45
      go_wp2
      rw [gf HEB43,gf HEC]
      rw [←gf HQQ]
      exact dret_put rfl rfl rfl (gf HB) hr (gf HZ) (gf HY).symm (gf HR) (Nat.lt_succ_self _) (gf HNode)
     have hY47:=gf HY
     simp only [Bool.false_eq_true,if_false] at hY47
     replace HY:=gh hY47
     clear hY47
     have hRR:=gf HR
     rw [if_neg Bool.false_ne_true] at hRR
     replace HR:=gh hRR
     clear hRR
     have HC48:=gh (gf hI w36 (st) (gf HR))
     obtain ⟨⟨t48,S48⟩,hX48⟩:∃ X,impD ts g (st)=X:=⟨_,rfl⟩
     rw [hX48] at HC48
     have HX48:=gh hX48
     clear hX48
     go_wp2_with fail
     refine (gf HC48).mono ?_
     rintro e w48 ⟨hb48,hR48,v48,rfl,hv48⟩
     have hY49:=gf HY
     simp only [gf HX48] at hY49
     replace HY:=gh hY49
     clear hY49
     obtain ⟨i48,j48,s48,m48,b48,a48,n48,c48,rfl⟩:=hv48.form
     have HT48:=gh (hv48.keep (lo':=w.heap.size+1) (Stays.of (Below.refl _ _)) (gf HS))
     replace HB:=gh ((gf HB).trans hb48)
     replace HZ:=gh ((gf HZ).but hb48 hrne)
     replace HX3:=gh ((hb48.block _ (blk (gf HX3)).1 (Ne.symm ne3)).trans (gf HX3))
     replace HS:=gh (Nat.lt_of_lt_of_le (gf HS) hb48.size)
     replace HR:=gh hR48
     clear hb48 hR48 hv48 HC48 HX48
     obtain ⟨y0,y1,y2,y3,y4,y5,y6⟩:=blk7 (gf HZ)
     obtain ⟨z0,z1,z2,z3,z4,z5,z6⟩:=frz7 (gf HZ)
     have HNode:=gh (gf HT48)
     go_wp2
     rw [←gf HQQ]
     exact dret_put rfl rfl rfl (gf HB) hr (gf HZ) (gf HY).symm (gf HR) (Nat.lt_succ_self _) (gf HNode)
   ·have d4:decide (kk8=4)=false:=decide_eq_false hk4
    have e4:(kk8 == 4)=false:=by simpa using hk4
    have hYn:=gf HY
    rw [if_neg (fun h=>hk4 (by have h1:=h.2.2.1;rw [gf HN8] at h1;exact h1))] at hYn
    replace HY:=gh hYn
    clear hYn
    have HC50:=gh (eat_any (gf HR) (gf HT) ⟨#[114,97,105,115,101]⟩)
    obtain ⟨bo50,hbo50⟩:∃ b,isD ts ⟨#[114,97,105,115,101]⟩ (st)=b:=⟨_,rfl⟩
    unfold eatD at HC50
    rw [hbo50] at HC50
    have HO50:=gh hbo50
    clear hbo50
    go_wp2_with fail
    refine (gf HC50).mono ?_
    rintro e w50 ⟨rfl,hb50,hR50⟩
    replace HB:=gh ((gf HB).trans hb50)
    replace HZ:=gh ((gf HZ).but hb50 hrne)
    replace HX3:=gh ((hb50.block _ (blk (gf HX3)).1 (Ne.symm ne3)).trans (gf HX3))
    replace HS:=gh (Nat.lt_of_lt_of_le (gf HS) hb50.size)
    replace HR:=gh hR50
    have hY51:=gf HY
    simp only [gf HO50] at hY51
    replace HY:=gh hY51
    clear hY51
    clear hb50 HC50 hR50
    rcases bo50 with _ | _
    rotate_left
    ·have hY52:=gf HY
     simp only [if_true] at hY52
     replace HY:=gh hY52
     clear hY52
     have hRR:=gf HR
     rw [if_pos rfl] at hRR
     obtain ⟨S53,hS53⟩:∃ S,stepD ts (st)=S:=⟨_,rfl⟩
     rw [hS53] at hRR
     replace HR:=gh hRR
     have HSt53:=gh hS53
     have hY54:=gf HY
     simp only [gf HSt53] at hY54
     replace HY:=gh hY54
     clear hY54
     clear hRR hS53
     have HC55:=gh (gf hI w50 (S53) (gf HR))
     obtain ⟨⟨t55,S55⟩,hX55⟩:∃ X,impD ts g (S53)=X:=⟨_,rfl⟩
     rw [hX55] at HC55
     have HX55:=gh hX55
     clear hX55
     go_wp2_with fail
     refine (gf HC55).mono ?_
     rintro e w55 ⟨hb55,hR55,v55,rfl,hv55⟩
     have hY56:=gf HY
     simp only [gf HX55] at hY56
     replace HY:=gh hY56
     clear hY56
     obtain ⟨i55,j55,s55,m55,b55,a55,n55,c55,rfl⟩:=hv55.form
     have HT55:=gh (hv55.keep (lo':=w.heap.size+1) (Stays.of (Below.refl _ _)) (gf HS))
     replace HB:=gh ((gf HB).trans hb55)
     replace HZ:=gh ((gf HZ).but hb55 hrne)
     replace HX3:=gh ((hb55.block _ (blk (gf HX3)).1 (Ne.symm ne3)).trans (gf HX3))
     replace HS:=gh (Nat.lt_of_lt_of_le (gf HS) hb55.size)
     replace HR:=gh hR55
     clear hb55 hR55 hv55 HC55 HX55
     obtain ⟨B57,eB57,hbB57,hsB57,hhB57⟩:=box_new w55 #[.int .i64 i55,.string s55,.string m55,.bool b55,.slice a55 n55 c55,.int .i64 0,.int .i64 j55] 36
     have ne57:r≠w55.heap.size:=by have:=gf HS;omega
     have hbu58:=But.of (r:=r) hbB57
     replace HR:=gh ((gf HR).keep hbB57)
     replace HB:=gh ((gf HB).trans hbu58)
     replace HZ:=gh ((gf HZ).but hbu58 hrne)
     replace HX3:=gh ((hbu58.block _ (blk (gf HX3)).1 (Ne.symm ne3)).trans (gf HX3))
     replace HT55:=gh ((gf HT55).keep (Stays.but hbu58 (Nat.lt_succ_of_lt hr)) (Nat.le_refl _))
     replace HS:=gh (Nat.lt_of_lt_of_le (gf HS) hbu58.size)
     have HX57:=gh hhB57
     have HEB57:=gh eB57
     have HSB57:=gh hsB57
     clear eB57 hbB57 hhB57 hsB57
     obtain ⟨y057,y157,y257,y357,y457,y557,y657⟩:=blk7 (gf HX57)
     have u03:=(blk (gf HX3)).2.1 0 _ rfl
     have u13:=(blk (gf HX3)).2.1 1 _ rfl
     have u23:=(blk (gf HX3)).2.1 2 _ rfl
     rw [←gf HEB57] at y057 y157 y257 y357 y457 y557 y657 u03 u13 u23
     obtain ⟨C59,eC59,hbC59,hsC59,hhC59⟩:=box_new B57 #[.int .i64 i55,.string s55,.string m55,.bool b55,.slice a55 n55 c55,.int .i64 0,.int .i64 j55] 36
     have hnode:=node (l:=[t55]) (vs:=[[.int .i64 i55,.string s55,.string m55,.bool b55,.slice a55 n55 c55,.int .i64 0,.int .i64 j55]]) 26 at0 ⟨#[]⟩ ⟨#[]⟩ false eC59 rfl (by simp) rfl (by simp) (gf HS) (fun j v t hv ht=>by
      rcases j with _ | j
      ·obtain rfl:=Option.some.inj hv
       obtain rfl:=Option.some.inj ht
       exact gf HT55
      ·simp at hv)
     rw [gf HSB57] at hnode
     have hbu60:=But.of (r:=r) hbC59
     replace HR:=gh ((gf HR).keep hbC59)
     replace HB:=gh ((gf HB).trans hbu60)
     replace HZ:=gh ((gf HZ).but hbu60 hrne)
     replace HX3:=gh ((hbu60.block _ (blk (gf HX3)).1 (Ne.symm ne3)).trans (gf HX3))
     replace HX57:=gh ((hbu60.block _ (blk (gf HX57)).1 (Ne.symm ne57)).trans (gf HX57))
     replace HS:=gh (Nat.lt_of_lt_of_le (gf HS) hbu60.size)
     obtain ⟨y0,y1,y2,y3,y4,y5,y6⟩:=blk7 (gf HZ)
     obtain ⟨z0,z1,z2,z3,z4,z5,z6⟩:=frz7 (gf HZ)
     have uc03:=(blk (gf HX3)).2.1 0 _ rfl
     have uc13:=(blk (gf HX3)).2.1 1 _ rfl
     have uc23:=(blk (gf HX3)).2.1 2 _ rfl
     rw [←eC59,←gf HEB57] at y0 y1 y2 y3 y4 y5 y6 z0 z1 z2 z3 z4 z5 z6 uc03 uc13 uc23
     have HNode:=gh hnode
     have HEC:=gh eC59
     clear hnode eC59 hbC59 hsC59 hhC59
     go_wp2
     rw [gf HEB57,gf HEC]
     rw [←gf HQQ]
     exact dret_put rfl rfl rfl (gf HB) hr (gf HZ) (gf HY).symm (gf HR) (Nat.lt_succ_self _) (gf HNode)
    have hY61:=gf HY
    simp only [Bool.false_eq_true,if_false] at hY61
    replace HY:=gh hY61
    clear hY61
    have hRR:=gf HR
    rw [if_neg Bool.false_ne_true] at hRR
    replace HR:=gh hRR
    clear hRR
    have HC62:=gh (eat_any (gf HR) (gf HT) ⟨#[97,115,115,101,114,116]⟩)
    obtain ⟨bo62,hbo62⟩:∃ b,isD ts ⟨#[97,115,115,101,114,116]⟩ (st)=b:=⟨_,rfl⟩
    unfold eatD at HC62
    rw [hbo62] at HC62
    have HO62:=gh hbo62
    clear hbo62
    go_wp2_with fail
    refine (gf HC62).mono ?_
    rintro e w62 ⟨rfl,hb62,hR62⟩
    replace HB:=gh ((gf HB).trans hb62)
    replace HZ:=gh ((gf HZ).but hb62 hrne)
    replace HX3:=gh ((hb62.block _ (blk (gf HX3)).1 (Ne.symm ne3)).trans (gf HX3))
    replace HS:=gh (Nat.lt_of_lt_of_le (gf HS) hb62.size)
    replace HR:=gh hR62
    have hY63:=gf HY
    simp only [gf HO62] at hY63
    replace HY:=gh hY63
    clear hY63
    clear hb62 HC62 hR62
    rcases bo62 with _ | _
    rotate_left
    ·have hY64:=gf HY
     simp only [if_true] at hY64
     replace HY:=gh hY64
     clear hY64
     have hRR:=gf HR
     rw [if_pos rfl] at hRR
     obtain ⟨S65,hS65⟩:∃ S,stepD ts (st)=S:=⟨_,rfl⟩
     rw [hS65] at hRR
     replace HR:=gh hRR
     have HSt65:=gh hS65
     have hY66:=gf HY
     simp only [gf HSt65] at hY66
     replace HY:=gh hY66
     clear hY66
     clear hRR hS65
     have HC67:=gh (gf hI w62 (S65) (gf HR))
     obtain ⟨⟨t67,S67⟩,hX67⟩:∃ X,impD ts g (S65)=X:=⟨_,rfl⟩
     rw [hX67] at HC67
     have HX67:=gh hX67
     clear hX67
     go_wp2_with fail
     refine (gf HC67).mono ?_
     rintro e w67 ⟨hb67,hR67,v67,rfl,hv67⟩
     have hY68:=gf HY
     simp only [gf HX67] at hY68
     replace HY:=gh hY68
     clear hY68
     obtain ⟨i67,j67,s67,m67,b67,a67,n67,c67,rfl⟩:=hv67.form
     have HT67:=gh (hv67.keep (lo':=w.heap.size+1) (Stays.of (Below.refl _ _)) (gf HS))
     replace HB:=gh ((gf HB).trans hb67)
     replace HZ:=gh ((gf HZ).but hb67 hrne)
     replace HX3:=gh ((hb67.block _ (blk (gf HX3)).1 (Ne.symm ne3)).trans (gf HX3))
     replace HS:=gh (Nat.lt_of_lt_of_le (gf HS) hb67.size)
     replace HR:=gh hR67
     clear hb67 hR67 hv67 HC67 HX67
     obtain ⟨B69,eB69,hbB69,hsB69,hhB69⟩:=box_new w67 #[.int .i64 i67,.string s67,.string m67,.bool b67,.slice a67 n67 c67,.int .i64 0,.int .i64 j67] 36
     have ne69:r≠w67.heap.size:=by have:=gf HS;omega
     have hbu70:=But.of (r:=r) hbB69
     replace HR:=gh ((gf HR).keep hbB69)
     replace HB:=gh ((gf HB).trans hbu70)
     replace HZ:=gh ((gf HZ).but hbu70 hrne)
     replace HX3:=gh ((hbu70.block _ (blk (gf HX3)).1 (Ne.symm ne3)).trans (gf HX3))
     replace HT67:=gh ((gf HT67).keep (Stays.but hbu70 (Nat.lt_succ_of_lt hr)) (Nat.le_refl _))
     replace HS:=gh (Nat.lt_of_lt_of_le (gf HS) hbu70.size)
     have HX69:=gh hhB69
     have HEB69:=gh eB69
     have HSB69:=gh hsB69
     clear eB69 hbB69 hhB69 hsB69
     obtain ⟨y069,y169,y269,y369,y469,y569,y669⟩:=blk7 (gf HX69)
     have u03:=(blk (gf HX3)).2.1 0 _ rfl
     have u13:=(blk (gf HX3)).2.1 1 _ rfl
     have u23:=(blk (gf HX3)).2.1 2 _ rfl
     rw [←gf HEB69] at y069 y169 y269 y369 y469 y569 y669 u03 u13 u23
     obtain ⟨C71,eC71,hbC71,hsC71,hhC71⟩:=box_new B69 #[.int .i64 i67,.string s67,.string m67,.bool b67,.slice a67 n67 c67,.int .i64 0,.int .i64 j67] 36
     have hnode:=node (l:=[t67]) (vs:=[[.int .i64 i67,.string s67,.string m67,.bool b67,.slice a67 n67 c67,.int .i64 0,.int .i64 j67]]) 28 at0 ⟨#[]⟩ ⟨#[]⟩ false eC71 rfl (by simp) rfl (by simp) (gf HS) (fun j v t hv ht=>by
      rcases j with _ | j
      ·obtain rfl:=Option.some.inj hv
       obtain rfl:=Option.some.inj ht
       exact gf HT67
      ·simp at hv)
     rw [gf HSB69] at hnode
     have hbu72:=But.of (r:=r) hbC71
     replace HR:=gh ((gf HR).keep hbC71)
     replace HB:=gh ((gf HB).trans hbu72)
     replace HZ:=gh ((gf HZ).but hbu72 hrne)
     replace HX3:=gh ((hbu72.block _ (blk (gf HX3)).1 (Ne.symm ne3)).trans (gf HX3))
     replace HX69:=gh ((hbu72.block _ (blk (gf HX69)).1 (Ne.symm ne69)).trans (gf HX69))
     replace HS:=gh (Nat.lt_of_lt_of_le (gf HS) hbu72.size)
     obtain ⟨y0,y1,y2,y3,y4,y5,y6⟩:=blk7 (gf HZ)
     obtain ⟨z0,z1,z2,z3,z4,z5,z6⟩:=frz7 (gf HZ)
     have uc03:=(blk (gf HX3)).2.1 0 _ rfl
     have uc13:=(blk (gf HX3)).2.1 1 _ rfl
     have uc23:=(blk (gf HX3)).2.1 2 _ rfl
     rw [←eC71,←gf HEB69] at y0 y1 y2 y3 y4 y5 y6 z0 z1 z2 z3 z4 z5 z6 uc03 uc13 uc23
     have HNode:=gh hnode
     have HEC:=gh eC71
     clear hnode eC71 hbC71 hsC71 hhC71
     go_wp2
     rw [gf HEB69,gf HEC]
     rw [←gf HQQ]
     exact dret_put rfl rfl rfl (gf HB) hr (gf HZ) (gf HY).symm (gf HR) (Nat.lt_succ_self _) (gf HNode)
    have hY73:=gf HY
    simp only [Bool.false_eq_true,if_false] at hY73
    replace HY:=gh hY73
    clear hY73
    have hRR:=gf HR
    rw [if_neg Bool.false_ne_true] at hRR
    replace HR:=gh hRR
    clear hRR
    have HC74:=gh (gf hI w62 (st) (gf HR))
    obtain ⟨⟨t74,S74⟩,hX74⟩:∃ X,impD ts g (st)=X:=⟨_,rfl⟩
    rw [hX74] at HC74
    have HX74:=gh hX74
    clear hX74
    go_wp2_with fail
    refine (gf HC74).mono ?_
    rintro e w74 ⟨hb74,hR74,v74,rfl,hv74⟩
    have hY75:=gf HY
    simp only [gf HX74] at hY75
    replace HY:=gh hY75
    clear hY75
    obtain ⟨i74,j74,s74,m74,b74,a74,n74,c74,rfl⟩:=hv74.form
    have HT74:=gh (hv74.keep (lo':=w.heap.size+1) (Stays.of (Below.refl _ _)) (gf HS))
    replace HB:=gh ((gf HB).trans hb74)
    replace HZ:=gh ((gf HZ).but hb74 hrne)
    replace HX3:=gh ((hb74.block _ (blk (gf HX3)).1 (Ne.symm ne3)).trans (gf HX3))
    replace HS:=gh (Nat.lt_of_lt_of_le (gf HS) hb74.size)
    replace HR:=gh hR74
    clear hb74 hR74 hv74 HC74 HX74
    obtain ⟨y0,y1,y2,y3,y4,y5,y6⟩:=blk7 (gf HZ)
    obtain ⟨z0,z1,z2,z3,z4,z5,z6⟩:=frz7 (gf HZ)
    have HNode:=gh (gf HT74)
    go_wp2
    rw [←gf HQQ]
    exact dret_put rfl rfl rfl (gf HB) hr (gf HZ) (gf HY).symm (gf HR) (Nat.lt_succ_self _) (gf HNode)
  ·have d1:decide (kk0=1)=false:=decide_eq_false hk1
   have e1:(kk0 == 1)=false:=by simpa using hk1
   have hYn:=gf HY
   rw [if_neg (fun h=>hk1 h.2.1)] at hYn
   replace HY:=gh hYn
   clear hYn
   have HC76:=gh (eat_any (gf HR) (gf HT) ⟨#[114,97,105,115,101]⟩)
   obtain ⟨bo76,hbo76⟩:∃ b,isD ts ⟨#[114,97,105,115,101]⟩ (st)=b:=⟨_,rfl⟩
   unfold eatD at HC76
   rw [hbo76] at HC76
   have HO76:=gh hbo76
   clear hbo76
   go_wp2_with fail
   rw [gf HEB3]
   refine (gf HC76).mono ?_
   rintro e w76 ⟨rfl,hb76,hR76⟩
   replace HB:=gh ((gf HB).trans hb76)
   replace HZ:=gh ((gf HZ).but hb76 hrne)
   replace HX3:=gh ((hb76.block _ (blk (gf HX3)).1 (Ne.symm ne3)).trans (gf HX3))
   replace HS:=gh (Nat.lt_of_lt_of_le (gf HS) hb76.size)
   replace HR:=gh hR76
   have hY77:=gf HY
   simp only [gf HO76] at hY77
   replace HY:=gh hY77
   clear hY77
   clear hb76 HC76 hR76
   rcases bo76 with _ | _
   rotate_left
   ·have hY78:=gf HY
    simp only [if_true] at hY78
    replace HY:=gh hY78
    clear hY78
    have hRR:=gf HR
    rw [if_pos rfl] at hRR
    obtain ⟨S79,hS79⟩:∃ S,stepD ts (st)=S:=⟨_,rfl⟩
    rw [hS79] at hRR
    replace HR:=gh hRR
    have HSt79:=gh hS79
    have hY80:=gf HY
    simp only [gf HSt79] at hY80
    replace HY:=gh hY80
    clear hY80
    clear hRR hS79
    have HC81:=gh (gf hI w76 (S79) (gf HR))
    obtain ⟨⟨t81,S81⟩,hX81⟩:∃ X,impD ts g (S79)=X:=⟨_,rfl⟩
    rw [hX81] at HC81
    have HX81:=gh hX81
    clear hX81
    go_wp2_with fail
    refine (gf HC81).mono ?_
    rintro e w81 ⟨hb81,hR81,v81,rfl,hv81⟩
    have hY82:=gf HY
    simp only [gf HX81] at hY82
    replace HY:=gh hY82
    clear hY82
    obtain ⟨i81,j81,s81,m81,b81,a81,n81,c81,rfl⟩:=hv81.form
    have HT81:=gh (hv81.keep (lo':=w.heap.size+1) (Stays.of (Below.refl _ _)) (gf HS))
    replace HB:=gh ((gf HB).trans hb81)
    replace HZ:=gh ((gf HZ).but hb81 hrne)
    replace HX3:=gh ((hb81.block _ (blk (gf HX3)).1 (Ne.symm ne3)).trans (gf HX3))
    replace HS:=gh (Nat.lt_of_lt_of_le (gf HS) hb81.size)
    replace HR:=gh hR81
    clear hb81 hR81 hv81 HC81 HX81
    obtain ⟨B83,eB83,hbB83,hsB83,hhB83⟩:=box_new w81 #[.int .i64 i81,.string s81,.string m81,.bool b81,.slice a81 n81 c81,.int .i64 0,.int .i64 j81] 36
    have ne83:r≠w81.heap.size:=by have:=gf HS;omega
    have hbu84:=But.of (r:=r) hbB83
    replace HR:=gh ((gf HR).keep hbB83)
    replace HB:=gh ((gf HB).trans hbu84)
    replace HZ:=gh ((gf HZ).but hbu84 hrne)
    replace HX3:=gh ((hbu84.block _ (blk (gf HX3)).1 (Ne.symm ne3)).trans (gf HX3))
    replace HT81:=gh ((gf HT81).keep (Stays.but hbu84 (Nat.lt_succ_of_lt hr)) (Nat.le_refl _))
    replace HS:=gh (Nat.lt_of_lt_of_le (gf HS) hbu84.size)
    have HX83:=gh hhB83
    have HEB83:=gh eB83
    have HSB83:=gh hsB83
    clear eB83 hbB83 hhB83 hsB83
    obtain ⟨y083,y183,y283,y383,y483,y583,y683⟩:=blk7 (gf HX83)
    have u03:=(blk (gf HX3)).2.1 0 _ rfl
    have u13:=(blk (gf HX3)).2.1 1 _ rfl
    have u23:=(blk (gf HX3)).2.1 2 _ rfl
    rw [←gf HEB83] at y083 y183 y283 y383 y483 y583 y683 u03 u13 u23
    obtain ⟨C85,eC85,hbC85,hsC85,hhC85⟩:=box_new B83 #[.int .i64 i81,.string s81,.string m81,.bool b81,.slice a81 n81 c81,.int .i64 0,.int .i64 j81] 36
    have hnode:=node (l:=[t81]) (vs:=[[.int .i64 i81,.string s81,.string m81,.bool b81,.slice a81 n81 c81,.int .i64 0,.int .i64 j81]]) 26 at0 ⟨#[]⟩ ⟨#[]⟩ false eC85 rfl (by simp) rfl (by simp) (gf HS) (fun j v t hv ht=>by
     rcases j with _ | j
     ·obtain rfl:=Option.some.inj hv
      obtain rfl:=Option.some.inj ht
      exact gf HT81
     ·simp at hv)
    rw [gf HSB83] at hnode
    have hbu86:=But.of (r:=r) hbC85
    replace HR:=gh ((gf HR).keep hbC85)
    replace HB:=gh ((gf HB).trans hbu86)
    replace HZ:=gh ((gf HZ).but hbu86 hrne)
    replace HX3:=gh ((hbu86.block _ (blk (gf HX3)).1 (Ne.symm ne3)).trans (gf HX3))
    replace HX83:=gh ((hbu86.block _ (blk (gf HX83)).1 (Ne.symm ne83)).trans (gf HX83))
    replace HS:=gh (Nat.lt_of_lt_of_le (gf HS) hbu86.size)
    obtain ⟨y0,y1,y2,y3,y4,y5,y6⟩:=blk7 (gf HZ)
    obtain ⟨z0,z1,z2,z3,z4,z5,z6⟩:=frz7 (gf HZ)
    have uc03:=(blk (gf HX3)).2.1 0 _ rfl
    have uc13:=(blk (gf HX3)).2.1 1 _ rfl
    have uc23:=(blk (gf HX3)).2.1 2 _ rfl
    rw [←eC85,←gf HEB83] at y0 y1 y2 y3 y4 y5 y6 z0 z1 z2 z3 z4 z5 z6 uc03 uc13 uc23
    have HNode:=gh hnode
    have HEC:=gh eC85
    clear hnode eC85 hbC85 hsC85 hhC85
    go_wp2
    rw [gf HEB83,gf HEC]
    rw [←gf HQQ]
    exact dret_put rfl rfl rfl (gf HB) hr (gf HZ) (gf HY).symm (gf HR) (Nat.lt_succ_self _) (gf HNode)
   have hY87:=gf HY
   simp only [Bool.false_eq_true,if_false] at hY87
   replace HY:=gh hY87
   clear hY87
   have hRR:=gf HR
   rw [if_neg Bool.false_ne_true] at hRR
   replace HR:=gh hRR
   clear hRR
   have HC88:=gh (eat_any (gf HR) (gf HT) ⟨#[97,115,115,101,114,116]⟩)
   obtain ⟨bo88,hbo88⟩:∃ b,isD ts ⟨#[97,115,115,101,114,116]⟩ (st)=b:=⟨_,rfl⟩
   unfold eatD at HC88
   rw [hbo88] at HC88
   have HO88:=gh hbo88
   clear hbo88
   go_wp2_with fail
   refine (gf HC88).mono ?_
   rintro e w88 ⟨rfl,hb88,hR88⟩
   replace HB:=gh ((gf HB).trans hb88)
   replace HZ:=gh ((gf HZ).but hb88 hrne)
   replace HX3:=gh ((hb88.block _ (blk (gf HX3)).1 (Ne.symm ne3)).trans (gf HX3))
   replace HS:=gh (Nat.lt_of_lt_of_le (gf HS) hb88.size)
   replace HR:=gh hR88
   have hY89:=gf HY
   simp only [gf HO88] at hY89
   replace HY:=gh hY89
   clear hY89
   clear hb88 HC88 hR88
   rcases bo88 with _ | _
   rotate_left
   ·have hY90:=gf HY
    simp only [if_true] at hY90
    replace HY:=gh hY90
    clear hY90
    have hRR:=gf HR
    rw [if_pos rfl] at hRR
    obtain ⟨S91,hS91⟩:∃ S,stepD ts (st)=S:=⟨_,rfl⟩
    rw [hS91] at hRR
    replace HR:=gh hRR
    have HSt91:=gh hS91
    have hY92:=gf HY
    simp only [gf HSt91] at hY92
    replace HY:=gh hY92
    clear hY92
    clear hRR hS91
    have HC93:=gh (gf hI w88 (S91) (gf HR))
    obtain ⟨⟨t93,S93⟩,hX93⟩:∃ X,impD ts g (S91)=X:=⟨_,rfl⟩
    rw [hX93] at HC93
    have HX93:=gh hX93
    clear hX93
    go_wp2_with fail
    refine (gf HC93).mono ?_
    rintro e w93 ⟨hb93,hR93,v93,rfl,hv93⟩
    have hY94:=gf HY
    simp only [gf HX93] at hY94
    replace HY:=gh hY94
    clear hY94
    obtain ⟨i93,j93,s93,m93,b93,a93,n93,c93,rfl⟩:=hv93.form
    have HT93:=gh (hv93.keep (lo':=w.heap.size+1) (Stays.of (Below.refl _ _)) (gf HS))
    replace HB:=gh ((gf HB).trans hb93)
    replace HZ:=gh ((gf HZ).but hb93 hrne)
    replace HX3:=gh ((hb93.block _ (blk (gf HX3)).1 (Ne.symm ne3)).trans (gf HX3))
    replace HS:=gh (Nat.lt_of_lt_of_le (gf HS) hb93.size)
    replace HR:=gh hR93
    clear hb93 hR93 hv93 HC93 HX93
    obtain ⟨B95,eB95,hbB95,hsB95,hhB95⟩:=box_new w93 #[.int .i64 i93,.string s93,.string m93,.bool b93,.slice a93 n93 c93,.int .i64 0,.int .i64 j93] 36
    have ne95:r≠w93.heap.size:=by have:=gf HS;omega
    have hbu96:=But.of (r:=r) hbB95
    replace HR:=gh ((gf HR).keep hbB95)
    replace HB:=gh ((gf HB).trans hbu96)
    replace HZ:=gh ((gf HZ).but hbu96 hrne)
    replace HX3:=gh ((hbu96.block _ (blk (gf HX3)).1 (Ne.symm ne3)).trans (gf HX3))
    replace HT93:=gh ((gf HT93).keep (Stays.but hbu96 (Nat.lt_succ_of_lt hr)) (Nat.le_refl _))
    replace HS:=gh (Nat.lt_of_lt_of_le (gf HS) hbu96.size)
    have HX95:=gh hhB95
    have HEB95:=gh eB95
    have HSB95:=gh hsB95
    clear eB95 hbB95 hhB95 hsB95
    obtain ⟨y095,y195,y295,y395,y495,y595,y695⟩:=blk7 (gf HX95)
    have u03:=(blk (gf HX3)).2.1 0 _ rfl
    have u13:=(blk (gf HX3)).2.1 1 _ rfl
    have u23:=(blk (gf HX3)).2.1 2 _ rfl
    rw [←gf HEB95] at y095 y195 y295 y395 y495 y595 y695 u03 u13 u23
    obtain ⟨C97,eC97,hbC97,hsC97,hhC97⟩:=box_new B95 #[.int .i64 i93,.string s93,.string m93,.bool b93,.slice a93 n93 c93,.int .i64 0,.int .i64 j93] 36
    have hnode:=node (l:=[t93]) (vs:=[[.int .i64 i93,.string s93,.string m93,.bool b93,.slice a93 n93 c93,.int .i64 0,.int .i64 j93]]) 28 at0 ⟨#[]⟩ ⟨#[]⟩ false eC97 rfl (by simp) rfl (by simp) (gf HS) (fun j v t hv ht=>by
     rcases j with _ | j
     ·obtain rfl:=Option.some.inj hv
      obtain rfl:=Option.some.inj ht
      exact gf HT93
     ·simp at hv)
    rw [gf HSB95] at hnode
    have hbu98:=But.of (r:=r) hbC97
    replace HR:=gh ((gf HR).keep hbC97)
    replace HB:=gh ((gf HB).trans hbu98)
    replace HZ:=gh ((gf HZ).but hbu98 hrne)
    replace HX3:=gh ((hbu98.block _ (blk (gf HX3)).1 (Ne.symm ne3)).trans (gf HX3))
    replace HX95:=gh ((hbu98.block _ (blk (gf HX95)).1 (Ne.symm ne95)).trans (gf HX95))
    replace HS:=gh (Nat.lt_of_lt_of_le (gf HS) hbu98.size)
    obtain ⟨y0,y1,y2,y3,y4,y5,y6⟩:=blk7 (gf HZ)
    obtain ⟨z0,z1,z2,z3,z4,z5,z6⟩:=frz7 (gf HZ)
    have uc03:=(blk (gf HX3)).2.1 0 _ rfl
    have uc13:=(blk (gf HX3)).2.1 1 _ rfl
    have uc23:=(blk (gf HX3)).2.1 2 _ rfl
    rw [←eC97,←gf HEB95] at y0 y1 y2 y3 y4 y5 y6 z0 z1 z2 z3 z4 z5 z6 uc03 uc13 uc23
    have HNode:=gh hnode
    have HEC:=gh eC97
    clear hnode eC97 hbC97 hsC97 hhC97
    go_wp2
    rw [gf HEB95,gf HEC]
    rw [←gf HQQ]
    exact dret_put rfl rfl rfl (gf HB) hr (gf HZ) (gf HY).symm (gf HR) (Nat.lt_succ_self _) (gf HNode)
   have hY99:=gf HY
   simp only [Bool.false_eq_true,if_false] at hY99
   replace HY:=gh hY99
   clear hY99
   have hRR:=gf HR
   rw [if_neg Bool.false_ne_true] at hRR
   replace HR:=gh hRR
   clear hRR
   have HC100:=gh (gf hI w88 (st) (gf HR))
   obtain ⟨⟨t100,S100⟩,hX100⟩:∃ X,impD ts g (st)=X:=⟨_,rfl⟩
   rw [hX100] at HC100
   have HX100:=gh hX100
   clear hX100
   go_wp2_with fail
   refine (gf HC100).mono ?_
   rintro e w100 ⟨hb100,hR100,v100,rfl,hv100⟩
   have hY101:=gf HY
   simp only [gf HX100] at hY101
   replace HY:=gh hY101
   clear hY101
   obtain ⟨i100,j100,s100,m100,b100,a100,n100,c100,rfl⟩:=hv100.form
   have HT100:=gh (hv100.keep (lo':=w.heap.size+1) (Stays.of (Below.refl _ _)) (gf HS))
   replace HB:=gh ((gf HB).trans hb100)
   replace HZ:=gh ((gf HZ).but hb100 hrne)
   replace HX3:=gh ((hb100.block _ (blk (gf HX3)).1 (Ne.symm ne3)).trans (gf HX3))
   replace HS:=gh (Nat.lt_of_lt_of_le (gf HS) hb100.size)
   replace HR:=gh hR100
   clear hb100 hR100 hv100 HC100 HX100
   obtain ⟨y0,y1,y2,y3,y4,y5,y6⟩:=blk7 (gf HZ)
   obtain ⟨z0,z1,z2,z3,z4,z5,z6⟩:=frz7 (gf HZ)
   have HNode:=gh (gf HT100)
   go_wp2
   rw [←gf HQQ]
   exact dret_put rfl rfl rfl (gf HB) hr (gf HZ) (gf HY).symm (gf HR) (Nat.lt_succ_self _) (gf HNode)
 ·rw [her] at x25
  have d0:decide (er=0)=false:=decide_eq_false (by rw [←her];exact he)
  have e0:(er == 0)=false:=by have h:=he;rw [her] at h;simpa using h
  have hYn:=gf HY
  rw [if_neg (fun h=>he h.1)] at hYn
  replace HY:=gh hYn
  clear hYn
  have HC102:=gh (eat_any (gf HR) (gf HT) ⟨#[114,97,105,115,101]⟩)
  obtain ⟨bo102,hbo102⟩:∃ b,isD ts ⟨#[114,97,105,115,101]⟩ (st)=b:=⟨_,rfl⟩
  unfold eatD at HC102
  rw [hbo102] at HC102
  have HO102:=gh hbo102
  clear hbo102
  go_wp2_with fail
  rw [gf HEB3]
  refine (gf HC102).mono ?_
  rintro e w102 ⟨rfl,hb102,hR102⟩
  replace HB:=gh ((gf HB).trans hb102)
  replace HZ:=gh ((gf HZ).but hb102 hrne)
  replace HX3:=gh ((hb102.block _ (blk (gf HX3)).1 (Ne.symm ne3)).trans (gf HX3))
  replace HS:=gh (Nat.lt_of_lt_of_le (gf HS) hb102.size)
  replace HR:=gh hR102
  have hY103:=gf HY
  simp only [gf HO102] at hY103
  replace HY:=gh hY103
  clear hY103
  clear hb102 HC102 hR102
  rcases bo102 with _ | _
  rotate_left
  ·have hY104:=gf HY
   simp only [if_true] at hY104
   replace HY:=gh hY104
   clear hY104
   have hRR:=gf HR
   rw [if_pos rfl] at hRR
   obtain ⟨S105,hS105⟩:∃ S,stepD ts (st)=S:=⟨_,rfl⟩
   rw [hS105] at hRR
   replace HR:=gh hRR
   have HSt105:=gh hS105
   have hY106:=gf HY
   simp only [gf HSt105] at hY106
   replace HY:=gh hY106
   clear hY106
   clear hRR hS105
   have HC107:=gh (gf hI w102 (S105) (gf HR))
   obtain ⟨⟨t107,S107⟩,hX107⟩:∃ X,impD ts g (S105)=X:=⟨_,rfl⟩
   rw [hX107] at HC107
   have HX107:=gh hX107
   clear hX107
   go_wp2_with fail
   refine (gf HC107).mono ?_
   rintro e w107 ⟨hb107,hR107,v107,rfl,hv107⟩
   have hY108:=gf HY
   simp only [gf HX107] at hY108
   replace HY:=gh hY108
   clear hY108
   obtain ⟨i107,j107,s107,m107,b107,a107,n107,c107,rfl⟩:=hv107.form
   have HT107:=gh (hv107.keep (lo':=w.heap.size+1) (Stays.of (Below.refl _ _)) (gf HS))
   replace HB:=gh ((gf HB).trans hb107)
   replace HZ:=gh ((gf HZ).but hb107 hrne)
   replace HX3:=gh ((hb107.block _ (blk (gf HX3)).1 (Ne.symm ne3)).trans (gf HX3))
   replace HS:=gh (Nat.lt_of_lt_of_le (gf HS) hb107.size)
   replace HR:=gh hR107
   clear hb107 hR107 hv107 HC107 HX107
   obtain ⟨B109,eB109,hbB109,hsB109,hhB109⟩:=box_new w107 #[.int .i64 i107,.string s107,.string m107,.bool b107,.slice a107 n107 c107,.int .i64 0,.int .i64 j107] 36
   have ne109:r≠w107.heap.size:=by have:=gf HS;omega
   have hbu110:=But.of (r:=r) hbB109
   replace HR:=gh ((gf HR).keep hbB109)
   replace HB:=gh ((gf HB).trans hbu110)
   replace HZ:=gh ((gf HZ).but hbu110 hrne)
   replace HX3:=gh ((hbu110.block _ (blk (gf HX3)).1 (Ne.symm ne3)).trans (gf HX3))
   replace HT107:=gh ((gf HT107).keep (Stays.but hbu110 (Nat.lt_succ_of_lt hr)) (Nat.le_refl _))
   replace HS:=gh (Nat.lt_of_lt_of_le (gf HS) hbu110.size)
   have HX109:=gh hhB109
   have HEB109:=gh eB109
   have HSB109:=gh hsB109
   clear eB109 hbB109 hhB109 hsB109
   obtain ⟨y0109,y1109,y2109,y3109,y4109,y5109,y6109⟩:=blk7 (gf HX109)
   have u03:=(blk (gf HX3)).2.1 0 _ rfl
   have u13:=(blk (gf HX3)).2.1 1 _ rfl
   have u23:=(blk (gf HX3)).2.1 2 _ rfl
   rw [←gf HEB109] at y0109 y1109 y2109 y3109 y4109 y5109 y6109 u03 u13 u23
   obtain ⟨C111,eC111,hbC111,hsC111,hhC111⟩:=box_new B109 #[.int .i64 i107,.string s107,.string m107,.bool b107,.slice a107 n107 c107,.int .i64 0,.int .i64 j107] 36
   have hnode:=node (l:=[t107]) (vs:=[[.int .i64 i107,.string s107,.string m107,.bool b107,.slice a107 n107 c107,.int .i64 0,.int .i64 j107]]) 26 at0 ⟨#[]⟩ ⟨#[]⟩ false eC111 rfl (by simp) rfl (by simp) (gf HS) (fun j v t hv ht=>by
    rcases j with _ | j
    ·obtain rfl:=Option.some.inj hv
     obtain rfl:=Option.some.inj ht
     exact gf HT107
    ·simp at hv)
   rw [gf HSB109] at hnode
   have hbu112:=But.of (r:=r) hbC111
   replace HR:=gh ((gf HR).keep hbC111)
   replace HB:=gh ((gf HB).trans hbu112)
   replace HZ:=gh ((gf HZ).but hbu112 hrne)
   replace HX3:=gh ((hbu112.block _ (blk (gf HX3)).1 (Ne.symm ne3)).trans (gf HX3))
   replace HX109:=gh ((hbu112.block _ (blk (gf HX109)).1 (Ne.symm ne109)).trans (gf HX109))
   replace HS:=gh (Nat.lt_of_lt_of_le (gf HS) hbu112.size)
   obtain ⟨y0,y1,y2,y3,y4,y5,y6⟩:=blk7 (gf HZ)
   obtain ⟨z0,z1,z2,z3,z4,z5,z6⟩:=frz7 (gf HZ)
   have uc03:=(blk (gf HX3)).2.1 0 _ rfl
   have uc13:=(blk (gf HX3)).2.1 1 _ rfl
   have uc23:=(blk (gf HX3)).2.1 2 _ rfl
   rw [←eC111,←gf HEB109] at y0 y1 y2 y3 y4 y5 y6 z0 z1 z2 z3 z4 z5 z6 uc03 uc13 uc23
   have HNode:=gh hnode
   have HEC:=gh eC111
   clear hnode eC111 hbC111 hsC111 hhC111
   go_wp2
   rw [gf HEB109,gf HEC]
   rw [←gf HQQ]
   exact dret_put rfl rfl rfl (gf HB) hr (gf HZ) (gf HY).symm (gf HR) (Nat.lt_succ_self _) (gf HNode)
  have hY113:=gf HY
  simp only [Bool.false_eq_true,if_false] at hY113
  replace HY:=gh hY113
  clear hY113
  have hRR:=gf HR
  rw [if_neg Bool.false_ne_true] at hRR
  replace HR:=gh hRR
  clear hRR
  have HC114:=gh (eat_any (gf HR) (gf HT) ⟨#[97,115,115,101,114,116]⟩)
  obtain ⟨bo114,hbo114⟩:∃ b,isD ts ⟨#[97,115,115,101,114,116]⟩ (st)=b:=⟨_,rfl⟩
  unfold eatD at HC114
  rw [hbo114] at HC114
  have HO114:=gh hbo114
  clear hbo114
  go_wp2_with fail
  refine (gf HC114).mono ?_
  rintro e w114 ⟨rfl,hb114,hR114⟩
  replace HB:=gh ((gf HB).trans hb114)
  replace HZ:=gh ((gf HZ).but hb114 hrne)
  replace HX3:=gh ((hb114.block _ (blk (gf HX3)).1 (Ne.symm ne3)).trans (gf HX3))
  replace HS:=gh (Nat.lt_of_lt_of_le (gf HS) hb114.size)
  replace HR:=gh hR114
  have hY115:=gf HY
  simp only [gf HO114] at hY115
  replace HY:=gh hY115
  clear hY115
  clear hb114 HC114 hR114
  rcases bo114 with _ | _
  rotate_left
  ·have hY116:=gf HY
   simp only [if_true] at hY116
   replace HY:=gh hY116
   clear hY116
   have hRR:=gf HR
   rw [if_pos rfl] at hRR
   obtain ⟨S117,hS117⟩:∃ S,stepD ts (st)=S:=⟨_,rfl⟩
   rw [hS117] at hRR
   replace HR:=gh hRR
   have HSt117:=gh hS117
   have hY118:=gf HY
   simp only [gf HSt117] at hY118
   replace HY:=gh hY118
   clear hY118
   clear hRR hS117
   have HC119:=gh (gf hI w114 (S117) (gf HR))
   obtain ⟨⟨t119,S119⟩,hX119⟩:∃ X,impD ts g (S117)=X:=⟨_,rfl⟩
   rw [hX119] at HC119
   have HX119:=gh hX119
   clear hX119
   go_wp2_with fail
   refine (gf HC119).mono ?_
   rintro e w119 ⟨hb119,hR119,v119,rfl,hv119⟩
   have hY120:=gf HY
   simp only [gf HX119] at hY120
   replace HY:=gh hY120
   clear hY120
   obtain ⟨i119,j119,s119,m119,b119,a119,n119,c119,rfl⟩:=hv119.form
   have HT119:=gh (hv119.keep (lo':=w.heap.size+1) (Stays.of (Below.refl _ _)) (gf HS))
   replace HB:=gh ((gf HB).trans hb119)
   replace HZ:=gh ((gf HZ).but hb119 hrne)
   replace HX3:=gh ((hb119.block _ (blk (gf HX3)).1 (Ne.symm ne3)).trans (gf HX3))
   replace HS:=gh (Nat.lt_of_lt_of_le (gf HS) hb119.size)
   replace HR:=gh hR119
   clear hb119 hR119 hv119 HC119 HX119
   obtain ⟨B121,eB121,hbB121,hsB121,hhB121⟩:=box_new w119 #[.int .i64 i119,.string s119,.string m119,.bool b119,.slice a119 n119 c119,.int .i64 0,.int .i64 j119] 36
   have ne121:r≠w119.heap.size:=by have:=gf HS;omega
   have hbu122:=But.of (r:=r) hbB121
   replace HR:=gh ((gf HR).keep hbB121)
   replace HB:=gh ((gf HB).trans hbu122)
   replace HZ:=gh ((gf HZ).but hbu122 hrne)
   replace HX3:=gh ((hbu122.block _ (blk (gf HX3)).1 (Ne.symm ne3)).trans (gf HX3))
   replace HT119:=gh ((gf HT119).keep (Stays.but hbu122 (Nat.lt_succ_of_lt hr)) (Nat.le_refl _))
   replace HS:=gh (Nat.lt_of_lt_of_le (gf HS) hbu122.size)
   have HX121:=gh hhB121
   have HEB121:=gh eB121
   have HSB121:=gh hsB121
   clear eB121 hbB121 hhB121 hsB121
   obtain ⟨y0121,y1121,y2121,y3121,y4121,y5121,y6121⟩:=blk7 (gf HX121)
   have u03:=(blk (gf HX3)).2.1 0 _ rfl
   have u13:=(blk (gf HX3)).2.1 1 _ rfl
   have u23:=(blk (gf HX3)).2.1 2 _ rfl
   rw [←gf HEB121] at y0121 y1121 y2121 y3121 y4121 y5121 y6121 u03 u13 u23
   obtain ⟨C123,eC123,hbC123,hsC123,hhC123⟩:=box_new B121 #[.int .i64 i119,.string s119,.string m119,.bool b119,.slice a119 n119 c119,.int .i64 0,.int .i64 j119] 36
   have hnode:=node (l:=[t119]) (vs:=[[.int .i64 i119,.string s119,.string m119,.bool b119,.slice a119 n119 c119,.int .i64 0,.int .i64 j119]]) 28 at0 ⟨#[]⟩ ⟨#[]⟩ false eC123 rfl (by simp) rfl (by simp) (gf HS) (fun j v t hv ht=>by
    rcases j with _ | j
    ·obtain rfl:=Option.some.inj hv
     obtain rfl:=Option.some.inj ht
     exact gf HT119
    ·simp at hv)
   rw [gf HSB121] at hnode
   have hbu124:=But.of (r:=r) hbC123
   replace HR:=gh ((gf HR).keep hbC123)
   replace HB:=gh ((gf HB).trans hbu124)
   replace HZ:=gh ((gf HZ).but hbu124 hrne)
   replace HX3:=gh ((hbu124.block _ (blk (gf HX3)).1 (Ne.symm ne3)).trans (gf HX3))
   replace HX121:=gh ((hbu124.block _ (blk (gf HX121)).1 (Ne.symm ne121)).trans (gf HX121))
   replace HS:=gh (Nat.lt_of_lt_of_le (gf HS) hbu124.size)
   obtain ⟨y0,y1,y2,y3,y4,y5,y6⟩:=blk7 (gf HZ)
   obtain ⟨z0,z1,z2,z3,z4,z5,z6⟩:=frz7 (gf HZ)
   have uc03:=(blk (gf HX3)).2.1 0 _ rfl
   have uc13:=(blk (gf HX3)).2.1 1 _ rfl
   have uc23:=(blk (gf HX3)).2.1 2 _ rfl
   rw [←eC123,←gf HEB121] at y0 y1 y2 y3 y4 y5 y6 z0 z1 z2 z3 z4 z5 z6 uc03 uc13 uc23
   have HNode:=gh hnode
   have HEC:=gh eC123
   clear hnode eC123 hbC123 hsC123 hhC123
   go_wp2
   rw [gf HEB121,gf HEC]
   rw [←gf HQQ]
   exact dret_put rfl rfl rfl (gf HB) hr (gf HZ) (gf HY).symm (gf HR) (Nat.lt_succ_self _) (gf HNode)
  have hY125:=gf HY
  simp only [Bool.false_eq_true,if_false] at hY125
  replace HY:=gh hY125
  clear hY125
  have hRR:=gf HR
  rw [if_neg Bool.false_ne_true] at hRR
  replace HR:=gh hRR
  clear hRR
  have HC126:=gh (gf hI w114 (st) (gf HR))
  obtain ⟨⟨t126,S126⟩,hX126⟩:∃ X,impD ts g (st)=X:=⟨_,rfl⟩
  rw [hX126] at HC126
  have HX126:=gh hX126
  clear hX126
  go_wp2_with fail
  refine (gf HC126).mono ?_
  rintro e w126 ⟨hb126,hR126,v126,rfl,hv126⟩
  have hY127:=gf HY
  simp only [gf HX126] at hY127
  replace HY:=gh hY127
  clear hY127
  obtain ⟨i126,j126,s126,m126,b126,a126,n126,c126,rfl⟩:=hv126.form
  have HT126:=gh (hv126.keep (lo':=w.heap.size+1) (Stays.of (Below.refl _ _)) (gf HS))
  replace HB:=gh ((gf HB).trans hb126)
  replace HZ:=gh ((gf HZ).but hb126 hrne)
  replace HX3:=gh ((hb126.block _ (blk (gf HX3)).1 (Ne.symm ne3)).trans (gf HX3))
  replace HS:=gh (Nat.lt_of_lt_of_le (gf HS) hb126.size)
  replace HR:=gh hR126
  clear hb126 hR126 hv126 HC126 HX126
  obtain ⟨y0,y1,y2,y3,y4,y5,y6⟩:=blk7 (gf HZ)
  obtain ⟨z0,z1,z2,z3,z4,z5,z6⟩:=frz7 (gf HZ)
  have HNode:=gh (gf HT126)
  go_wp2
  rw [←gf HQQ]
  exact dret_put rfl rfl rfl (gf HB) hr (gf HZ) (gf HY).symm (gf HR) (Nat.lt_succ_self _) (gf HNode)
end Go.Proofs.YtfkfnbehdcmgeaaGreatDoor
