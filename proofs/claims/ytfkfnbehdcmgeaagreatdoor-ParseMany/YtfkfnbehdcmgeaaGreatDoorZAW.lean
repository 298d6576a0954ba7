/- avowhelp.Decls: its drawn region of two boxes. -/
import Derived.Test.YtfkfnbehdcmgeaaGreatDoorZAV
import Derived.Test.YtfkfnbehdcmgeaaGreatDoorZAF
import Derived.Test.YtfkfnbehdcmgeaaGreatDoorZAQ
import Derived.Deep.RegionHeld3
import Derived.Test.YtfkfnbehdcmgeaaGreatDoorZAM
set_option linter.unusedVariables false
set_option linter.unusedSimpArgs false
namespace Go.Proofs.YtfkfnbehdcmgeaaGreatDoor
open Go Go.RowKit
theorem set4_fill {w:World} {q:Nat} {a0 a1 a2 a3 x0 x1 x2 x3:Value} {ty:TypeId} (h:w.heap[q]?=some (.cells #[a0,a1,a2,a3] ty)):((((w.setCell ⟨q,0,none⟩ x0).setCell ⟨q,1,none⟩ x1).setCell ⟨q,2,none⟩ x2).setCell ⟨q,3,none⟩ x3).heap[q]?=some (.cells #[x0,x1,x2,x3] ty):=set_block (set_block (set_block (set_block h _) _) _) _
theorem blk4 {w:World} {q:Nat} {x0 x1 x2 x3:Value} {ty:TypeId} (h:w.heap[q]?=some (.cells #[x0,x1,x2,x3] ty)):w.cell? ⟨q,0,none⟩=some x0∧w.cell? ⟨q,1,none⟩=some x1∧w.cell? ⟨q,2,none⟩=some x2∧w.cell? ⟨q,3,none⟩=some x3:=⟨(blk h).2.1 0 _ rfl,(blk h).2.1 1 _ rfl,(blk h).2.1 2 _ rfl,(blk h).2.1 3 _ rfl⟩
theorem frz4 {w:World} {q:Nat} {cs:Array Value} {ty:TypeId} (h:w.heap[q]?=some (.cells cs ty)):w.frozen? ⟨q,0,none⟩=false∧w.frozen? ⟨q,1,none⟩=false∧w.frozen? ⟨q,2,none⟩=false∧w.frozen? ⟨q,3,none⟩=false:=⟨(blk h).2.2 0,(blk h).2.2 1,(blk h).2.2 2,(blk h).2.2 3⟩
def ZT (w:World) (q:Nat):Prop:=w.heap[q]?=some (.cells #[.int .i64 0,.string ⟨#[]⟩,.slice none 0 0,.int .i64 0] 54)
theorem ZT.but {w w':World} {q r:Nat} (h:ZT w q) (hb:But r w w') (hr:r≠q):ZT w' q:=(hb.block q (blk h).1 (Ne.symm hr)).trans h
theorem zt_new (w:World):∃ A,w.alloc (.cells #[.int .i64 0,.string ⟨#[]⟩,.slice none 0 0,.int .i64 0] 54)=A∧Below w.heap.size w A∧ZT A w.heap.size∧A.heap.size=w.heap.size+1:=by
 obtain ⟨A,eA,hbA,hsA,hhA⟩:=box_new w #[.int .i64 0,.string ⟨#[]⟩,.slice none 0 0,.int .i64 0] 54
 exact ⟨A,eA,hbA,hhA,hsA⟩
def DTy (x:Ty×PS) (r:Nat) (ts:List (Int×ByteArray×Int)) (d:Nat) (w:World) (e:Ending) (w':World):Prop:=DP (fun w' v t=>TyV w' w.heap.size v t) x r ts d w e w'
def DcT (f:Nat) (r:Nat) (ts:List (Int×ByteArray×Int)) (d:Nat) (X:PS→Ty×PS):Prop:=∀ (w:World) (st:PS),PD w r ts st d→Calls Tryz.prog f #[.pointer (some ⟨r,0,none⟩)] w (DTy (X st) r ts d w)
theorem dret_ty {fn:Func} {a:Act} {tt:Nat} {w w3:World} {r d lo:Nat} {ts:List (Int×ByteArray×Int)} {t:Ty} {st:PS} {Y:Ty×PS} {x0 x1 x2 x3:Value} (hf:fn.results = #[.cell tt 54]) (ht:a.tmps[tt]?=some (.pointer (some ⟨w.heap.size,0,none⟩))) (hdf:a.defers=[]) (hbu:But r w w3) (hr:r<w.heap.size) (hz:ZT w3 w.heap.size) (hY:Y=(t,st)) (hR:PD w3 r ts st d) (hlo:w.heap.size<lo) (hv:TyV w3 lo (.agg #[x0,x1,x2,x3]) t) :
  bodyPost Tryz.prog fn (DTy Y r ts d w) .ret a ((((w3.setCell ⟨w.heap.size,0,none⟩ x0).setCell ⟨w.heap.size,1,none⟩ x1).setCell ⟨w.heap.size,2,none⟩ x2).setCell ⟨w.heap.size,3,none⟩ x3):=by
 subst hY
 refine bodyPost_ret (res_row (cs:=[x0,x1,x2,x3]) hf ht (range_block (set4_fill hz)) Tryz.underlying54 rfl (by kernel_rfl)) hdf ?_
 refine ⟨but_new (but_new (but_new (but_new hbu (Nat.le_refl _) _ _) (Nat.le_refl _) _ _) (Nat.le_refl _) _ _) (Nat.le_refl _) _ _,hR.out hr fun k hk => ?_,_,rfl,?_⟩
 ·rw [heap_set _ _ (by omega),heap_set _ _ (by omega),heap_set _ _ (by omega),heap_set _ _ (by omega)]
 ·exact TyV.keep _ _ _ _ _ _ hv ((((Stays.of (Below.refl _ _)).set hlo _ _).set hlo _ _).set hlo _ _ |>.set hlo _ _) (by omega)
set_option maxRecDepth 100000 in
set_option maxHeartbeats 8000000 in
theorem dtyp_of {r d:Nat} {ts:List (Int×ByteArray×Int)} (hT:TsOk ts) (hE:DcC 37 r ts d (exD ts)):DcT 58 r ts d (typD ts):=by
 intro w st hR
 obtain ⟨Y,hY⟩:∃ Y,typD ts st=Y:=⟨_,rfl⟩
 show Calls _ _ _ _ (DTy (typD ts st) r ts d w)
 rw [hY]
 unfold typD at hY
 have hr:=hR.rlt
 obtain ⟨A,eA,hbA,hzA,hsA⟩:=zt_new w
 have HB:=gh (But.of (r:=r) hbA)
 have HR:=gh (hR.keep hbA)
 have HZ:=gh hzA
 have HS:Hid (w.heap.size<A.heap.size):=by show _<_;omega
 have HE:=gh eA
 have HT:=gh hT
 have HY:=gh hY
 have hrne:r≠w.heap.size:=by omega
 replace hE:=gh hE
 clear hR hbA hzA hsA eA hT hY
 go_enter Tryz.func58,Tryz.ntmps58
 generalize hQQ:bodyPost Tryz.prog Tryz.f58 (DTy Y r ts d w)=QQ
 have HQQ:=gh hQQ
 clear hQQ
 have HC0:=gh (dt_any (gf HR) (gf HT))
 unfold tkV at HC0
 obtain ⟨⟨kk0,T0,at0⟩,hN0⟩:∃ X,tD ts (st)=X:=⟨_,rfl⟩
 rw [hN0] at HC0
 have HN0:=gh hN0
 have hf20:=fld2 (.int .i64 kk0) (.string T0) (.int .i64 at0)
 clear hN0
 go_wp2_with fail
 rw [gf HE]
 refine (gf HC0).mono ?_
 rintro e w0 ⟨rfl,hb0⟩
 have hY1:=gf HY
 simp only [gf HN0] at hY1
 replace HY:=gh hY1
 clear hY1
 have hbu2:=But.of (r:=r) hb0
 replace HR:=gh ((gf HR).keep hb0)
 replace HB:=gh ((gf HB).trans hbu2)
 replace HZ:=gh ((gf HZ).but hbu2 hrne)
 replace HS:=gh (Nat.lt_of_lt_of_le (gf HS) hbu2.size)
 clear hb0 HC0
 have HC3:=gh (eat_any (gf HR) (gf HT) ⟨#[105,110,116]⟩)
 obtain ⟨bo3,hbo3⟩:∃ b,isD ts ⟨#[105,110,116]⟩ (st)=b:=⟨_,rfl⟩
 unfold eatD at HC3
 rw [hbo3] at HC3
 have HO3:=gh hbo3
 clear hbo3
 go_wp2_with fail
 refine (gf HC3).mono ?_
 rintro e w3 ⟨rfl,hb3,hR3⟩
 replace HB:=gh ((gf HB).trans hb3)
 replace HZ:=gh ((gf HZ).but hb3 hrne)
 replace HS:=gh (Nat.lt_of_lt_of_le (gf HS) hb3.size)
 replace HR:=gh hR3
 have hY4:=gf HY
 simp only [gf HO3] at hY4
 replace HY:=gh hY4
 clear hY4
 clear hb3 HC3 hR3
 rcases bo3 with _ | _
 rotate_left
 ·have hY5:=gf HY
  simp only [if_true] at hY5
  replace HY:=gh hY5
  clear hY5
  have hRR:=gf HR
  rw [if_pos rfl] at hRR
  obtain ⟨S6,hS6⟩:∃ S,stepD ts (st)=S:=⟨_,rfl⟩
  rw [hS6] at hRR
  replace HR:=gh hRR
  have HSt6:=gh hS6
  have hY7:=gf HY
  simp only [gf HSt6] at hY7
  replace HY:=gh hY7
  clear hY7
  clear hRR hS6
  obtain ⟨y0,y1,y2,y3⟩:=blk4 (gf HZ)
  obtain ⟨z0,z1,z2,z3⟩:=frz4 (gf HZ)
  go_wp2
  rw [←gf HQQ]
  exact dret_ty rfl rfl rfl (gf HB) hr (gf HZ) (gf HY).symm (gf HR) (lo:=w.heap.size+1) (Nat.lt_succ_self _) ⟨none,0,0,rfl,lsn⟩
 have hY8:=gf HY
 simp only [Bool.false_eq_true,if_false] at hY8
 replace HY:=gh hY8
 clear hY8
 have hRR:=gf HR
 rw [if_neg Bool.false_ne_true] at hRR
 replace HR:=gh hRR
 clear hRR
 have HC9:=gh (eat_any (gf HR) (gf HT) ⟨#[98,111,111,108]⟩)
 obtain ⟨bo9,hbo9⟩:∃ b,isD ts ⟨#[98,111,111,108]⟩ (st)=b:=⟨_,rfl⟩
 unfold eatD at HC9
 rw [hbo9] at HC9
 have HO9:=gh hbo9
 clear hbo9
 go_wp2_with fail
 refine (gf HC9).mono ?_
 rintro e w9 ⟨rfl,hb9,hR9⟩
 replace HB:=gh ((gf HB).trans hb9)
 replace HZ:=gh ((gf HZ).but hb9 hrne)
 replace HS:=gh (Nat.lt_of_lt_of_le (gf HS) hb9.size)
 replace HR:=gh hR9
 have hY10:=gf HY
 simp only [gf HO9] at hY10
 replace HY:=gh hY10
 clear hY10
 clear hb9 HC9 hR9
 rcases bo9 with _ | _
 rotate_left
 ·have hY11:=gf HY
  simp only [if_true] at hY11
  replace HY:=gh hY11
  clear hY11
  have hRR:=gf HR
  rw [if_pos rfl] at hRR
  obtain ⟨S12,hS12⟩:∃ S,stepD ts (st)=S:=⟨_,rfl⟩
  rw [hS12] at hRR
  replace HR:=gh hRR
  have HSt12:=gh hS12
  have hY13:=gf HY
  simp only [gf HSt12] at hY13
  replace HY:=gh hY13
  clear hY13
  clear hRR hS12
  obtain ⟨y0,y1,y2,y3⟩:=blk4 (gf HZ)
  obtain ⟨z0,z1,z2,z3⟩:=frz4 (gf HZ)
  go_wp2
  rw [←gf HQQ]
  exact dret_ty rfl rfl rfl (gf HB) hr (gf HZ) (gf HY).symm (gf HR) (lo:=w.heap.size+1) (Nat.lt_succ_self _) ⟨none,0,0,rfl,lsn⟩
 have hY14:=gf HY
 simp only [Bool.false_eq_true,if_false] at hY14
 replace HY:=gh hY14
 clear hY14
 have hRR:=gf HR
 rw [if_neg Bool.false_ne_true] at hRR
 replace HR:=gh hRR
 clear hRR
 have HC15:=gh (eat_any (gf HR) (gf HT) ⟨#[117,110,105,116]⟩)
 obtain ⟨bo15,hbo15⟩:∃ b,isD ts ⟨#[117,110,105,116]⟩ (st)=b:=⟨_,rfl⟩
 unfold eatD at HC15
 rw [hbo15] at HC15
 have HO15:=gh hbo15
 clear hbo15
 go_wp2_with fail
 refine (gf HC15).mono ?_
 rintro e w15 ⟨rfl,hb15,hR15⟩
 replace HB:=gh ((gf HB).trans hb15)
 replace HZ:=gh ((gf HZ).but hb15 hrne)
 replace HS:=gh (Nat.lt_of_lt_of_le (gf HS) hb15.size)
 replace HR:=gh hR15
 have hY16:=gf HY
 simp only [gf HO15] at hY16
 replace HY:=gh hY16
 clear hY16
 clear hb15 HC15 hR15
 rcases bo15 with _ | _
 rotate_left
 ·have hY17:=gf HY
  simp only [if_true] at hY17
  replace HY:=gh hY17
  clear hY17
  have hRR:=gf HR
  rw [if_pos rfl] at hRR
  obtain ⟨S18,hS18⟩:∃ S,stepD ts (st)=S:=⟨_,rfl⟩
  rw [hS18] at hRR
  replace HR:=gh hRR
  have HSt18:=gh hS18
  have hY19:=gf HY
  simp only [gf HSt18] at hY19
  replace HY:=gh hY19
  clear hY19
  clear hRR hS18
  obtain ⟨y0,y1,y2,y3⟩:=blk4 (gf HZ)
  obtain ⟨z0,z1,z2,z3⟩:=frz4 (gf HZ)
  go_wp2
  rw [←gf HQQ]
  exact dret_ty rfl rfl rfl (gf HB) hr (gf HZ) (gf HY).symm (gf HR) (lo:=w.heap.size+1) (Nat.lt_succ_self _) ⟨none,0,0,rfl,lsn⟩
 have hY20:=gf HY
 simp only [Bool.false_eq_true,if_false] at hY20
 replace HY:=gh hY20
 clear hY20
 have hRR:=gf HR
 rw [if_neg Bool.false_ne_true] at hRR
 replace HR:=gh hRR
 clear hRR
 obtain ⟨S21,hS21⟩:∃ S,mustD ts ⟨#[123]⟩ (st)=S:=⟨_,rfl⟩
 have HC21:=gh (dmust_any (gf HR) (gf HT) ⟨#[123]⟩)
 rw [hS21] at HC21
 have HS21:=gh hS21
 clear hS21
 go_wp2_with fail
 refine (gf HC21).mono ?_
 rintro e w21 ⟨rfl,hb21,hR21⟩
 have hY22:=gf HY
 simp only [gf HS21] at hY22
 replace HY:=gh hY22
 clear hY22
 replace HB:=gh ((gf HB).trans hb21)
 replace HZ:=gh ((gf HZ).but hb21 hrne)
 replace HS:=gh (Nat.lt_of_lt_of_le (gf HS) hb21.size)
 replace HR:=gh hR21
 clear hb21 hR21 HC21 HS21
 have HC23:=gh (name_any (gf HR) (gf HT))
 unfold tkV at HC23
 obtain ⟨⟨⟨kk23,T23,at23⟩,S23⟩,hN23⟩:∃ X,nameD ts (S21)=X:=⟨_,rfl⟩
 rw [hN23] at HC23
 have HN23:=gh hN23
 clear hN23
 go_wp2_with fail
 refine (gf HC23).mono ?_
 rintro e w23 ⟨rfl,hb23,hR23⟩
 have hY24:=gf HY
 simp only [gf HN23] at hY24
 replace HY:=gh hY24
 clear hY24
 replace HB:=gh ((gf HB).trans hb23)
 replace HZ:=gh ((gf HZ).but hb23 hrne)
 replace HS:=gh (Nat.lt_of_lt_of_le (gf HS) hb23.size)
 replace HR:=gh hR23
 clear hb23 hR23 HC23
 obtain ⟨B25,eB25,hbB25,hsB25,hhB25⟩:=box_new w23 #[.int .i64 kk23,.string T23,.int .i64 at23] 74
 have ne25:r≠w23.heap.size:=by have:=gf HS;omega
 have hbu26:=But.of (r:=r) hbB25
 replace HR:=gh ((gf HR).keep hbB25)
 replace HB:=gh ((gf HB).trans hbu26)
 replace HZ:=gh ((gf HZ).but hbu26 hrne)
 replace HS:=gh (Nat.lt_of_lt_of_le (gf HS) hbu26.size)
 have HX25:=gh hhB25
 have HEB25:=gh eB25
 have HSB25:=gh hsB25
 clear eB25 hbB25 hhB25 hsB25
 obtain ⟨S27,hS27⟩:∃ S,mustD ts ⟨#[58]⟩ (S23)=S:=⟨_,rfl⟩
 have HC27:=gh (dmust_any (gf HR) (gf HT) ⟨#[58]⟩)
 rw [hS27] at HC27
 have HS27:=gh hS27
 clear hS27
 go_wp2_with fail
 rw [gf HEB25]
 refine (gf HC27).mono ?_
 rintro e w27 ⟨rfl,hb27,hR27⟩
 have hY28:=gf HY
 simp only [gf HS27] at hY28
 replace HY:=gh hY28
 clear hY28
 replace HB:=gh ((gf HB).trans hb27)
 replace HZ:=gh ((gf HZ).but hb27 hrne)
 replace HX25:=gh ((hb27.block _ (blk (gf HX25)).1 (Ne.symm ne25)).trans (gf HX25))
 replace HS:=gh (Nat.lt_of_lt_of_le (gf HS) hb27.size)
 replace HR:=gh hR27
 clear hb27 hR27 HC27 HS27
 obtain ⟨S29,hS29⟩:∃ S,mustD ts ⟨#[105,110,116]⟩ (S27)=S:=⟨_,rfl⟩
 have HC29:=gh (dmust_any (gf HR) (gf HT) ⟨#[105,110,116]⟩)
 rw [hS29] at HC29
 have HS29:=gh hS29
 clear hS29
 go_wp2_with fail
 refine (gf HC29).mono ?_
 rintro e w29 ⟨rfl,hb29,hR29⟩
 have hY30:=gf HY
 simp only [gf HS29] at hY30
 replace HY:=gh hY30
 clear hY30
 replace HB:=gh ((gf HB).trans hb29)
 replace HZ:=gh ((gf HZ).but hb29 hrne)
 replace HX25:=gh ((hb29.block _ (blk (gf HX25)).1 (Ne.symm ne25)).trans (gf HX25))
 replace HS:=gh (Nat.lt_of_lt_of_le (gf HS) hb29.size)
 replace HR:=gh hR29
 clear hb29 hR29 HC29 HS29
 obtain ⟨S31,hS31⟩:∃ S,mustD ts ⟨#[124]⟩ (S29)=S:=⟨_,rfl⟩
 have HC31:=gh (dmust_any (gf HR) (gf HT) ⟨#[124]⟩)
 rw [hS31] at HC31
 have HS31:=gh hS31
 clear hS31
 go_wp2_with fail
 refine (gf HC31).mono ?_
 rintro e w31 ⟨rfl,hb31,hR31⟩
 have hY32:=gf HY
 simp only [gf HS31] at hY32
 replace HY:=gh hY32
 clear hY32
 replace HB:=gh ((gf HB).trans hb31)
 replace HZ:=gh ((gf HZ).but hb31 hrne)
 replace HX25:=gh ((hb31.block _ (blk (gf HX25)).1 (Ne.symm ne25)).trans (gf HX25))
 replace HS:=gh (Nat.lt_of_lt_of_le (gf HS) hb31.size)
 replace HR:=gh hR31
 clear hb31 hR31 HC31 HS31
 have HC33:=gh (gf hE w31 (S31) (gf HR))
 obtain ⟨⟨t33,S33⟩,hX33⟩:∃ X,exD ts (S31)=X:=⟨_,rfl⟩
 rw [hX33] at HC33
 have HX33:=gh hX33
 clear hX33
 go_wp2_with fail
 refine (gf HC33).mono ?_
 rintro e w33 ⟨hb33,hR33,v33,rfl,hv33⟩
 have hY34:=gf HY
 simp only [gf HX33] at hY34
 replace HY:=gh hY34
 clear hY34
 obtain ⟨i33,j33,s33,m33,b33,a33,n33,c33,rfl⟩:=hv33.form
 have HT33:=gh (hv33.keep (lo':=w.heap.size+1) (Stays.of (Below.refl _ _)) (gf HS))
 replace HB:=gh ((gf HB).trans hb33)
 replace HZ:=gh ((gf HZ).but hb33 hrne)
 replace HX25:=gh ((hb33.block _ (blk (gf HX25)).1 (Ne.symm ne25)).trans (gf HX25))
 replace HS:=gh (Nat.lt_of_lt_of_le (gf HS) hb33.size)
 replace HR:=gh hR33
 clear hb33 hR33 hv33 HC33 HX33
 obtain ⟨B35,eB35,hbB35,hsB35,hhB35⟩:=box_new w33 #[.int .i64 i33,.string s33,.string m33,.bool b33,.slice a33 n33 c33,.int .i64 0,.int .i64 j33] 36
 have ne35:r≠w33.heap.size:=by have:=gf HS;omega
 have hbu36:=But.of (r:=r) hbB35
 replace HR:=gh ((gf HR).keep hbB35)
 replace HB:=gh ((gf HB).trans hbu36)
 replace HZ:=gh ((gf HZ).but hbu36 hrne)
 replace HX25:=gh ((hbu36.block _ (blk (gf HX25)).1 (Ne.symm ne25)).trans (gf HX25))
 replace HT33:=gh ((gf HT33).keep (Stays.but hbu36 (Nat.lt_succ_of_lt hr)) (Nat.le_refl _))
 replace HS:=gh (Nat.lt_of_lt_of_le (gf HS) hbu36.size)
 have HX35:=gh hhB35
 have HEB35:=gh eB35
 have HSB35:=gh hsB35
 clear eB35 hbB35 hhB35 hsB35
 obtain ⟨S37,hS37⟩:∃ S,mustD ts ⟨#[125]⟩ (S33)=S:=⟨_,rfl⟩
 have HC37:=gh (dmust_any (gf HR) (gf HT) ⟨#[125]⟩)
 rw [hS37] at HC37
 have HS37:=gh hS37
 clear hS37
 go_wp2_with fail
 rw [gf HEB35]
 refine (gf HC37).mono ?_
 rintro e w37 ⟨rfl,hb37,hR37⟩
 have hY38:=gf HY
 simp only [gf HS37] at hY38
 replace HY:=gh hY38
 clear hY38
 replace HB:=gh ((gf HB).trans hb37)
 replace HZ:=gh ((gf HZ).but hb37 hrne)
 replace HX25:=gh ((hb37.block _ (blk (gf HX25)).1 (Ne.symm ne25)).trans (gf HX25))
 replace HX35:=gh ((hb37.block _ (blk (gf HX35)).1 (Ne.symm ne35)).trans (gf HX35))
 replace HT33:=gh ((gf HT33).keep (Stays.but hb37 (Nat.lt_succ_of_lt hr)) (Nat.le_refl _))
 replace HS:=gh (Nat.lt_of_lt_of_le (gf HS) hb37.size)
 replace HR:=gh hR37
 clear hb37 hR37 HC37 HS37
 have u025:=(blk (gf HX25)).2.1 0 _ rfl
 have u125:=(blk (gf HX25)).2.1 1 _ rfl
 have u225:=(blk (gf HX25)).2.1 2 _ rfl
 obtain ⟨y035,y135,y235,y335,y435,y535,y635⟩:=blk7 (gf HX35)
 obtain ⟨C39,eC39,hbC39,hsC39,hhC39⟩:=box_new w37 #[.int .i64 i33,.string s33,.string m33,.bool b33,.slice a33 n33 c33,.int .i64 0,.int .i64 j33] 36
 have hls:=one_ls (gf HT33) eC39 (gf HS)
 have hbu40:=But.of (r:=r) hbC39
 replace HR:=gh ((gf HR).keep hbC39)
 replace HB:=gh ((gf HB).trans hbu40)
 replace HZ:=gh ((gf HZ).but hbu40 hrne)
 replace HX25:=gh ((hbu40.block _ (blk (gf HX25)).1 (Ne.symm ne25)).trans (gf HX25))
 replace HX35:=gh ((hbu40.block _ (blk (gf HX35)).1 (Ne.symm ne35)).trans (gf HX35))
 replace HS:=gh (Nat.lt_of_lt_of_le (gf HS) hbu40.size)
 obtain ⟨y0,y1,y2,y3⟩:=blk4 (gf HZ)
 obtain ⟨z0,z1,z2,z3⟩:=frz4 (gf HZ)
 rw [←eC39] at y0 y1 y2 y3 z0 z1 z2 z3
 have HLS:=gh hls
 have HEC:=gh eC39
 clear hls eC39 hbC39 hsC39 hhC39
 go_wp2
 rw [gf HEC]
 rw [←gf HQQ]
 exact dret_ty rfl rfl rfl (gf HB) hr (gf HZ) (gf HY).symm (gf HR) (lo:=w.heap.size+1) (Nat.lt_succ_self _) ⟨_,_,_,rfl,gf HLS⟩
end Go.Proofs.YtfkfnbehdcmgeaaGreatDoor
namespace Go.Proofs.YtfkfnbehdcmgeaaGreatDoor
open Go Go.RowKit
theorem ls_same {w:World} {va vb:Value} {l:List Ex} {P P':Nat→Prop} (ha:LsP w P va l) (hb:LsP w P' vb l):Calls Tryz.prog 34 #[va,vb] w (VP (.bool true) w):=by
 obtain ⟨h,a1,c1,rfl,h1⟩:=ha
 obtain ⟨k,a2,c2,rfl,h2⟩:=hb
 exact sm_all (max h k) w _ _ l P P' ⟨a1,c1,rfl,h1.mono (Nat.le_refl _) (fun _ h=>h) fun b o j hr hbl hj t ht=>ExAt.up _ _ _ _ _ (hj t ht) (Nat.le_max_left _ _)⟩ ⟨a2,c2,rfl,h2.mono (Nat.le_refl _) (fun _ h=>h) fun b o j hr hbl hj t ht=>ExAt.up _ _ _ _ _ (hj t ht) (Nat.le_max_right _ _)⟩
set_option maxRecDepth 100000 in
set_option maxHeartbeats 8000000 in
theorem type_same {w:World} {va vb:Value} {t:Ty} {P P':Nat→Prop} (ha:TyP w P va t) (hb:TyP w P' vb t):Calls Tryz.prog 33 #[va,vb] w (VP (.bool true) w):=by
 obtain ⟨a1,n1,c1,rfl,h1⟩:=ha
 obtain ⟨a2,n2,c2,rfl,h2⟩:=hb
 obtain ⟨B1,eB1,hbB1,hsB1,hhB1⟩:=box_new w #[.int .i64 t.kind,.string t.name,.slice a1 n1 c1,.int .i64 t.at'] 54
 obtain ⟨B2,eB2,hbB2,hsB2,hhB2⟩:=box_new B1 #[.int .i64 t.kind,.string t.name,.slice a2 n2 c2,.int .i64 t.at'] 54
 have hst:∀ Q:Nat→Prop,StaysP (fun b=>Q b∧b<w.heap.size) w B2:=fun Q=>⟨by have:=hbB1.size;have:=hbB2.size;omega,fun k hk _=>(hbB2.block k (by have:=hk.2;omega)).trans (hbB1.block k hk.2)⟩
 have HC:=gh (ls_same (h1.bnd.keep (hst P) fun _ h=>h) (h2.bnd.keep (hst P') fun _ h=>h))
 have hh1:=(hbB2.block _ (blk hhB1).1).trans hhB1
 obtain ⟨y0,y1,y2,y3⟩:=blk4 hh1
 obtain ⟨z0,z1,z2,z3⟩:=blk4 hhB2
 rw [hsB1] at z0 z1 z2 z3
 rw [←eB2,←eB1] at y0 y1 y2 y3 z0 z1 z2 z3
 have HB:=gh (hbB1.trans (hbB2.mono hbB1.size))
 have HE1:=gh eB1
 have HE2:=gh eB2
 clear h1 h2 hst hh1 eB1 hbB1 hsB1 hhB1 eB2 hbB2 hsB2 hhB2
 unfold VP at HC ⊢
 go_enter Tryz.func33,Tryz.ntmps33
 go_wp2_with fail
 rw [gf HE1,gf HE2]
 refine (gf HC).mono ?_
 rintro e w5 ⟨rfl,hb5⟩
 have HF:=gh ((gf HB).trans (hb5.mono (gf HB).size))
 clear hb5 HC y0 y1 y2 y3 z0 z1 z2 z3
 go_wp2
 go_ret
 exact ⟨rfl,gf HF⟩
end Go.Proofs.YtfkfnbehdcmgeaaGreatDoor
namespace Go.Proofs.YtfkfnbehdcmgeaaGreatDoor
open Go Go.RowKit
def TR (w wr:World) (lv:Value) (i:Nat) (cs:List ByteArray) (bx:Obj):Prop:=Below w.heap.size w wr∧wr.heap[w.heap.size]?=some bx∧wr.ownsRow (w.heap.size+1) 9 1 lv i ((cs.take i).map Value.string)
theorem TR.row {w wr:World} {lv:Value} {cs:List ByteArray} {bx:Obj} (h:TR w wr lv cs.length cs bx) (h0:0<cs.length):∃ g cap,lv = .slice (some ⟨g,0,none⟩) cs.length cap∧cs.length≤cap∧∀ (j:Nat) c,cs[j]?=some c→wr.cell? ⟨g,j,none⟩=some (.string c):=by
 obtain ⟨g,cap,e,hg1,hg2⟩:=h.2.2.form h0
 have hc:=h.2.2.cells (g:=g) (by rw [e];rfl)
 have hcap:cs.length≤cap:=by
  obtain ⟨-,h1 | ⟨g',c',cur,e2,-,-,h2,-⟩⟩:=h.2.2
  ·exact absurd h1.2 (by omega)
  ·rw [e] at e2
   obtain ⟨-,rfl⟩:g=g'∧cap=c':=by simpa using e2
   exact h2
 refine ⟨g,cap,e,hcap,fun j c hj => ?_⟩
 have:=hc j (.string c) (by simp [hj])
 rw [addr0] at this
 exact this
end Go.Proofs.YtfkfnbehdcmgeaaGreatDoor
namespace Go.Proofs.YtfkfnbehdcmgeaaGreatDoor
open Go Go.RowKit
def XR (lo:Nat) (ex:Nat→Prop) (X:Except (Int×Int) Ex) (w:World) (v ve:Value):Prop:=match X with
 |.ok t=>IsEP w (fun b=>lo≤b∧¬ ex b) v t∧ve = .nilIface
 |.error (i,n)=>v = .agg zE∧∃ b,¬ ex b∧ve = .iface 61 (.pointer (some ⟨b,0,none⟩))∧w.heap[b]?=some (.cells #[.int .i64 i,.int .i64 n] 66)
theorem XR.form {lo:Nat} {ex:Nat→Prop} {X:Except (Int×Int) Ex} {w:World} {v ve:Value} (h:XR lo ex X w v ve):∃ (i0 i6:Int) (s1 s2:ByteArray) (b3:Bool) (a4:Option Addr) (n4 c4:Nat),v = .agg #[.int .i64 i0,.string s1,.string s2,.bool b3,.slice a4 n4 c4,.int .i64 0,.int .i64 i6]:=by
 unfold XR at h
 split at h
 ·obtain ⟨i0,i6,s1,s2,b3,a4,n4,c4,e⟩:=h.1.form
  exact ⟨i0,i6,s1,s2,b3,a4,n4,c4,e⟩
 ·exact ⟨0,0,⟨#[]⟩,⟨#[]⟩,false,none,0,0,h.1⟩
theorem XR.keep {lo:Nat} {ex:Nat→Prop} {X:Except (Int×Int) Ex} {w w':World} {v ve:Value} (h:XR lo ex X w v ve) (hs:w.heap.size≤w'.heap.size) (hb:∀ k,k<w.heap.size→¬ ex k→w'.heap[k]?=w.heap[k]?):XR lo ex X w' v ve:=by
 unfold XR at h ⊢
 split at h
 ·exact ⟨IsEP.keep h.1 ⟨hs,fun k hk hsz=>hb k hsz hk.2⟩ fun _ h=>h,h.2⟩
 ·obtain ⟨h1,b,h2,h3,h4⟩:=h
  exact ⟨h1,b,h2,h3,(hb b (blk h4).1 h2).trans h4⟩
theorem XR.alloc {lo:Nat} {X:Except (Int×Int) Ex} {w:World} {v ve:Value} (h:XR lo (fun _=>False) X w v ve) (o:Obj):XR lo (fun b=>b=w.heap.size) X (w.alloc o) v ve:=by
 have hB:Below w.heap.size w (w.alloc o):=(Below.refl _ w).alloc (Nat.le_refl _) _
 unfold XR at h ⊢
 split at h
 ·exact ⟨IsEP.keep (IsEP.bnd h.1) ⟨hB.size,fun k hk hsz=>hB.block k hsz⟩ fun b hb=>⟨hb.1.1,fun e=>by have:=hb.2;omega⟩,h.2⟩
 ·obtain ⟨h1,b,h2,h3,h4⟩:=h
  have hl:=(blk h4).1
  exact ⟨h1,b,fun e=>by omega,h3,(hB.block b hl).trans h4⟩
theorem XR.of {s:ByteArray} {w w':World} {e:Ending} (h:ExprP s w e w') (lo:Nat) (ex:Nat→Prop) (hlo:lo≤w.heap.size) (hex:∀ b,ex b→b<w.heap.size) (hz:∀ b,ex b→ZB w b):Below w.heap.size w w'∧∃ v ve,e = .returned (.tuple #[v,ve])∧XR lo ex (exprS s) w' v ve:=by
 obtain ⟨hb,h⟩:=h
 refine ⟨hb,?_⟩
 unfold XR
 split at h
 ·rename_i t hX
  obtain ⟨v,e,hv⟩:=h
  refine ⟨v,_,e,?_⟩
  rw [hX]
  exact ⟨IsEP.keep hv ⟨Nat.le_refl _,fun _ _ _=>rfl⟩ fun b h=>⟨Nat.le_trans hlo h,fun he=>by have:=hex b he;have h2:w.heap.size≤b:=h;omega⟩,rfl⟩
 ·rename_i i n hX
  obtain ⟨v,e,b,rfl,hv⟩:=h
  refine ⟨_,_,e,?_⟩
  rw [hX]
  refine ⟨rfl,b,fun he => ?_,rfl,hv⟩
  have h1:=(hb.block b (hex b he)).trans (hz b he)
  rw [hv] at h1
  simp at h1
section
variable {X:Exit→Act→World→Prop} {K:Act→World→Prop} {a0:Act} {w:World} {dst:Option Tmp} {ty:TypeId} {pos:String} {af:Array Edge} {gd:Option (Nat×Bool)}
theorem op_idx {t:TypeId} {x ix:Operand} {u i v:Value} (h1:a0.eval x=u) (h2:a0.eval ix=i) (hr:(Instr.indexAt t u i).run Tryz.prog w = .ok v w) (h:K (a0.put dst v) w):Oper.wp Tryz.prog ⟨dst,.indexAddr t x ix,ty,pos,af,gd⟩ a0 w K X:=by
 unfold Oper.wp
 simp only [execOp,h1,h2]
 simp [go_sem,hr,Oper.upon]
 exact h
end
def levels_r6S (W:World) (X:Except (Int×Int) Ex) (L:Nat→Bool) (s:Nat→Value) (w:World):Prop:=
 (L 13=true→s 13=s 12)∧(L 14=true→∃ v ve,s 12 = .tuple #[v,ve]∧s 14=v)∧(L 15=true→∃ v ve,s 12 = .tuple #[v,ve]∧s 15=ve)∧(L 18=true→s 18=s 15) ∧
 (L 17=true→∃ W2 qb v ve i0 i6 s1 s2 b3 a4 n4 c4,s 16 = .pointer (some ⟨qb,0,none⟩)∧s 12 = .tuple #[v,ve]∧v = .agg #[.int .i64 i0,.string s1,.string s2,.bool b3,.slice a4 n4 c4,.int .i64 0,.int .i64 i6]∧W.heap.size≤qb∧ZB W2 qb∧Below W.heap.size W W2∧XR W.heap.size (fun b=>b=qb) X W2 v ve∧w=set7 W2 qb (.int .i64 i0) (.string s1) (.string s2) (.bool b3) (.slice a4 n4 c4) (.int .i64 0) (.int .i64 i6)) ∧
 (L 17=false→L 12=false→L 16=false→w=W.drew) ∧
 (L 17=false→L 12=false→L 16=true→s 16 = .pointer (some ⟨W.heap.size,0,none⟩)∧w=(W.drew.alloc (.cells #[.int .i64 0,.string ⟨#[]⟩,.string ⟨#[]⟩,.bool false,.slice none 0 0,.int .i64 0,.int .i64 0] 36))) ∧
 (L 17=false→L 12=true→L 16=false→∃ v ve,s 12 = .tuple #[v,ve]∧Below W.heap.size W w∧XR W.heap.size (fun _=>False) X w v ve) ∧
 (L 17=false→L 12=true→L 16=true→∃ qb v ve,s 16 = .pointer (some ⟨qb,0,none⟩)∧s 12 = .tuple #[v,ve]∧W.heap.size≤qb∧ZB w qb∧Below W.heap.size W w∧XR W.heap.size (fun b=>b=qb) X w v ve)
theorem levels_r6S.below {W:World} {X:Except (Int×Int) Ex} {L:Nat→Bool} {s:Nat→Value} {w:World} (h:levels_r6S W X L s w):Below W.heap.size W w:=by
 obtain ⟨-,-,-,-,h8,h1,h2,h3,h4⟩:=h
 cases e8:L 17 with
 |true =>
  obtain ⟨W2,qb,v,ve,i0,i6,s1,s2,b3,a4,n4,c4,-,-,-,hqb,-,hc,-,rfl⟩:=h8 e8
  exact below7 hc hqb _ _ _ _ _ _ _
 |false =>
  cases e3:L 12 with
  |false =>
   cases e7:L 16 with
   |false=>rw [h1 e8 e3 e7];exact (Below.refl _ W).drew
   |true=>rw [(h2 e8 e3 e7).2];exact ((Below.refl _ W).drew).alloc (Nat.le_refl _) _
  |true =>
   cases e7:L 16 with
   |false =>
    obtain ⟨v,ve,-,hb,-⟩:=h3 e8 e3 e7
    exact hb
   |true =>
    obtain ⟨qb,v,ve,-,-,-,-,hb,-⟩:=h4 e8 e3 e7
    exact hb
end Go.Proofs.YtfkfnbehdcmgeaaGreatDoor
namespace Go.Proofs.YtfkfnbehdcmgeaaGreatDoor
open Go Go.RowKit
def zdL:List Value:=[.bool false,.string ⟨#[]⟩,.string ⟨#[]⟩,.bool false,.slice none 0 0,.int .i64 0,.int .i64 0,.string ⟨#[]⟩,.slice none 0 0,.int .i64 0,.slice none 0 0,.string ⟨#[]⟩,.slice none 0 0,.slice none 0 0,.int .i64 0,.string ⟨#[]⟩,.string ⟨#[]⟩,.bool false,.slice none 0 0,.int .i64 0,.int .i64 0,.int .i64 0]
theorem ix_de {b o n c i:Nat} {w:World} (hi:i<n) (hn:n≤1000000):(Instr.indexAt 23 (.slice (some ⟨b,o,none⟩) n c) (.int .i64 (i:Int))).run Tryz.prog w = .ok (.pointer (some ⟨b,o+i * 22,none⟩)) w:=by
 have h1:¬ (i:Int)<0:=by omega
 have h2:¬ (n:Int)≤(i:Int):=by omega
 have h3:(i:Int)<(n:Int):=by omega
 go_simp
theorem ld_de2 {w:World} {b o:Nat} {l:List Value} (h:w.rangeAt b o l) (hl:l.length=22):(Instr.loadAt 56 (.pointer (some ⟨b,o,none⟩))).run Tryz.prog w = .ok (.agg l.toArray) w:=run_loadAt_mid (P:=Tryz.prog) w b o 56 l _ h Tryz.underlying56 rfl (by rw [de_info,hl])
section
variable {X:Exit→Act→World→Prop} {K:Act→World→Prop} {a0:Act} {w:World} {dst:Option Tmp} {ty:TypeId} {pos:String} {af:Array Edge} {gd:Option (Nat×Bool)}
set_option maxRecDepth 100000 in
theorem op_alD (h:K (a0.put dst (.pointer (some ⟨w.heap.size,0,none⟩))) (w.alloc (.cells zdL.toArray 56))):Oper.wp Tryz.prog ⟨dst,.alloc 56,ty,pos,af,gd⟩ a0 w K X:=by
 unfold zdL at h
 unfold Oper.wp
 go_simp
 exact h
theorem op_stD {k1 k2 q:Nat} {l:List Value} {cs:Array Value} (h1:a0.tmps.getD k1 undef = .pointer (some ⟨q,0,none⟩)) (h2:a0.tmps.getD k2 undef = .agg l.toArray) (hz:w.heap[q]?=some (.cells cs 56)) (hc:cs.size=22) (hl:l.length=22) (ho:l.all (·.oneCell')=true) (h:K a0 (setN w q 0 l)):Oper.wp Tryz.prog ⟨none,.store 56 (.tmp k1) (.tmp k2),ty,pos,af,gd⟩ a0 w K X:=
 wp_store_mid 56 (.tmp k1) (.tmp k2) rfl q 0 l.toArray h1 h2 (by simpa [hl] using there_of (o:=0) (n:=22) hz (by omega)) (by rw [de_info];simp [hl]) (all_one l ho) (by rw [setCells_eq,List.toList_toArray];exact h)
end
def boxS (W:World) (t:De) (x1 x2:DeV) (L:Nat→Bool) (s:Nat→Value) (w:World):Prop:=
 Below W.heap.size W w∧(L 8=true→∃ q,s 8 = .pointer (some ⟨q,0,none⟩)∧W.heap.size≤q∧w.heap[q]?=some (.cells (if L 10=true then deCells t x1 else zdL).toArray 56))∧(L 9=true→∃ q,s 9 = .pointer (some ⟨q,0,none⟩)∧W.heap.size≤q∧w.heap[q]?=some (.cells (if L 11=true then deCells t x2 else zdL).toArray 56))∧(L 8=true→L 9=true→s 8≠s 9)
set_option maxRecDepth 100000 in
set_option maxHeartbeats 8000000 in
theorem decls_r6 {Q:Exit→Act→World→Prop} {a0:Act} {W:World} {b1 o1 b2 o2 ix n c1 c2:Nat} {t:De} {x1 x2:DeV} (hN:a0.tmps.size=175) (h0:a0.tmps[0]?=some (.slice (some ⟨b1,o1,none⟩) n c1)) (h1:a0.tmps[1]?=some (.slice (some ⟨b2,o2,none⟩) n c2)) (h5:a0.tmps[5]?=some (.int .i64 (ix:Int))) (hix:ix<n) (hn:n≤1000000) (hr1:W.rangeAt b1 (o1+ix * 22) (deCells t x1)) (hr2:W.rangeAt b2 (o2+ix * 22) (deCells t x2)) (hb1:b1<W.heap.size) (hb2:b2<W.heap.size)
  (hend:∀ (a:Act) (w:World) (qx qy:Nat),a.defers=a0.defers→(∀ k,k∈((List.range 175).filter fun i => !([6,7,20,21,22,23,24,25,26,27].contains i))→a.tmps[k]?=a0.tmps[k]?)→a.tmps.size=175→a.tmps[6]?=some (.pointer (some ⟨qx,0,none⟩))→a.tmps[7]?=some (.pointer (some ⟨qy,0,none⟩))→qx≠qy→W.heap.size≤qx→W.heap.size≤qy→Below W.heap.size W w→w.heap[qx]?=some (.cells (deCells t x1).toArray 56)→w.heap[qy]?=some (.cells (deCells t x2).toArray 56)→Q .normal a w) :
  (Code.region 6 (regionOf Tryz.f16 6).toArray true).wp Tryz.prog Q a0 W:=by
 have hl:(regionOf Tryz.f16 6).length=12:=by kernel_rfl
 have hds:((List.range 12).all fun i=>i == 10 || i == 11 || ((regionOf Tryz.f16 6).getD i default).dst.isSome)=true:=by kernel_rfl
 have hk0:0∈((List.range 175).filter fun i => !([6,7,20,21,22,23,24,25,26,27].contains i)):=by decide
 have hk1:1∈((List.range 175).filter fun i => !([6,7,20,21,22,23,24,25,26,27].contains i)):=by decide
 have hk5:5∈((List.range 175).filter fun i => !([6,7,20,21,22,23,24,25,26,27].contains i)):=by decide
 refine wp_region_any (by kernel_rfl) ?_
 refine seqP (l:=(regionOf Tryz.f16 6)) 175 ((List.range 175).filter fun i => !([6,7,20,21,22,23,24,25,26,27].contains i)) (fun j v=>∀ u,([.slice (some ⟨b1,o1,none⟩) n c1,.int .i64 (ix:Int),.pointer (some ⟨b1,o1+ix * 22,none⟩),.agg (deCells t x1).toArray,.slice (some ⟨b2,o2,none⟩) n c2,.int .i64 (ix:Int),.pointer (some ⟨b2,o2+ix * 22,none⟩),.agg (deCells t x2).toArray]:List Value)[j]?=some u→v=u) (fun j=>j == 8 || j == 9 || j == 10 || j == 11) (boxS W t x1 x2) (by kernel_rfl) hN ?_ ?_ ?_ ?_ ?_ ?_ ?_
 ·intro i hi
  rw [hl]
  simp at hi
  omega
 ·exact ⟨(Below.refl _ W).drew,fun h=>(by cases h),fun h=>(by cases h),fun h=>(by cases h)⟩
 ·intro L L' s s' w h hs
  have l8:=(h 8 (by decide)).1
  have l9:=(h 9 (by decide)).1
  have l10:=(h 10 (by decide)).1
  have l11:=(h 11 (by decide)).1
  have s8:=(h 8 (by decide)).2 (by kernel_rfl)
  have s9:=(h 9 (by decide)).2 (by kernel_rfl)
  unfold boxS at hs ⊢
  rw [←l8,←l9,←l10,←l11,←s8,←s9]
  exact hs
 ·intro i o ho hd
  have hi:i<12:=by rw [←hl];exact (List.getElem?_eq_some_iff.1 ho).1
  have he:(regionOf Tryz.f16 6).getD i default=o:=by simp [List.getD,ho]
  have:=List.all_eq_true.1 hds i (List.mem_range.2 hi)
  rw [he,hd] at this
  have h2:i=10∨i=11:=by simpa using this
  rcases h2 with rfl | rfl <;> exact ⟨by decide,fun v u hu=>by cases hu⟩
 ·intro i hi hni a w L hd hsz hk hp hs
  rw [hl] at hi
  have hii:i=0∨i=1∨i=2∨i=3∨i=4∨i=5∨i=6∨i=7:=by simp at hni;omega
  have hB:=hs.1
  rcases hii with rfl | rfl | rfl | rfl | rfl | rfl | rfl | rfl
  ·exact st_want (wnone rfl) (op_move ⟨_,rfl,rfl,fun u hu=>(getD_of ((hk 0 hk0).trans h0)).trans (Option.some.inj hu)⟩)
  ·exact st_want (wnone rfl) (op_move ⟨_,rfl,rfl,fun u hu=>(getD_of ((hk 5 hk5).trans h5)).trans (Option.some.inj hu)⟩)
  ·have e1:a.eval (.tmp 20) = .slice (some ⟨b1,o1,none⟩) n c1:=hp 0 (by kernel_rfl) _ rfl
   have e2:a.eval (.tmp 21) = .int .i64 (ix:Int):=hp 1 (by kernel_rfl) _ rfl
   exact st_want (wnone rfl) (op_idx e1 e2 (ix_de hix hn) ⟨_,rfl,rfl,fun u hu=>(Option.some.inj hu)⟩)
  ·have e1:a.eval (.tmp 22) = .pointer (some ⟨b1,o1+ix * 22,none⟩):=hp 2 (by kernel_rfl) _ rfl
   exact st_want (wnone rfl) (op_load e1 (ld_de2 (range_same hr1 (hB.block _ hb1)) rfl) ⟨_,rfl,rfl,fun u hu=>(Option.some.inj hu)⟩)
  ·exact st_want (wnone rfl) (op_move ⟨_,rfl,rfl,fun u hu=>(getD_of ((hk 1 hk1).trans h1)).trans (Option.some.inj hu)⟩)
  ·exact st_want (wnone rfl) (op_move ⟨_,rfl,rfl,fun u hu=>(getD_of ((hk 5 hk5).trans h5)).trans (Option.some.inj hu)⟩)
  ·have e1:a.eval (.tmp 24) = .slice (some ⟨b2,o2,none⟩) n c2:=hp 4 (by kernel_rfl) _ rfl
   have e2:a.eval (.tmp 25) = .int .i64 (ix:Int):=hp 5 (by kernel_rfl) _ rfl
   exact st_want (wnone rfl) (op_idx e1 e2 (ix_de hix hn) ⟨_,rfl,rfl,fun u hu=>(Option.some.inj hu)⟩)
  ·have e1:a.eval (.tmp 26) = .pointer (some ⟨b2,o2+ix * 22,none⟩):=hp 6 (by kernel_rfl) _ rfl
   exact st_want (wnone rfl) (op_load e1 (ld_de2 (range_same hr2 (hB.block _ hb2)) rfl) ⟨_,rfl,rfl,fun u hu=>(Option.some.inj hu)⟩)
 ·intro i hi a w L hd hsz hk hp hLi hdown hs
  have hi4:i=8∨i=9∨i=10∨i=11:=by simp at hi;omega
  obtain ⟨hB,g8,g9,gne⟩:=hs
  have dn:∀ j k,j<12→L j=true→(preds ((regionOf Tryz.f16 6).getD j default)).contains k=true→L k=true:=fun j k hj h1 h2=>hdown j (by rw [hl];exact hj) h1 k h2
  rcases hi4 with rfl | rfl | rfl | rfl
  ·have hst:L 10=false:=by
    cases e:L 10 with
    |false=>rfl
    |true=>exact absurd (dn 10 8 (by omega) e (by kernel_rfl)) (by rw [hLi];exact Bool.false_ne_true)
   have hA:Below w.heap.size w (w.alloc (.cells zdL.toArray 56)):=(Below.refl _ w).alloc (Nat.le_refl _) _
   refine st_want (wnone rfl) (op_alD ⟨_,rfl,(fun _ u hu=>by cases hu),hB.trans (hA.mono hB.size),?_,?_,?_⟩)
   ·intro _
    rw [upS_same,upL_other (by decide),hst]
    exact ⟨w.heap.size,rfl,hB.size,(MapKept.heap_alloc w _).1⟩
   ·intro h
    rw [upL_other (by decide)] at h
    obtain ⟨q,e,hq,hh⟩:=g9 h
    rw [upS_other (by decide),upL_other (by decide)]
    exact ⟨q,e,hq,(hA.block q (blk hh).1).trans hh⟩
   ·intro h8 h9
    rw [upL_other (by decide)] at h9
    obtain ⟨q,e,hq,hh⟩:=g9 h9
    rw [upS_same,upS_other (by decide),e]
    intro he
    have:=(blk hh).1
    simp at he
    try omega
  ·have hst:L 11=false:=by
    cases e:L 11 with
    |false=>rfl
    |true=>exact absurd (dn 11 9 (by omega) e (by kernel_rfl)) (by rw [hLi];exact Bool.false_ne_true)
   have hA:Below w.heap.size w (w.alloc (.cells zdL.toArray 56)):=(Below.refl _ w).alloc (Nat.le_refl _) _
   refine st_want (wnone rfl) (op_alD ⟨_,rfl,(fun _ u hu=>by cases hu),hB.trans (hA.mono hB.size),?_,?_,?_⟩)
   ·intro h
    rw [upL_other (by decide)] at h
    obtain ⟨q,e,hq,hh⟩:=g8 h
    rw [upS_other (by decide),upL_other (by decide)]
    exact ⟨q,e,hq,(hA.block q (blk hh).1).trans hh⟩
   ·intro _
    rw [upS_same,upL_other (by decide),hst]
    exact ⟨w.heap.size,rfl,hB.size,(MapKept.heap_alloc w _).1⟩
   ·intro h8 h9
    rw [upL_other (by decide)] at h8
    obtain ⟨q,e,hq,hh⟩:=g8 h8
    rw [upS_same,upS_other (by decide),e]
    intro he
    have:=(blk hh).1
    simp at he
    try omega
  ·have hb':=(hp 8 (by kernel_rfl)).1
   obtain ⟨q,e8,hq,hh⟩:=g8 hb'
   have e1:a.tmps.getD 6 undef = .pointer (some ⟨q,0,none⟩):=e8
   have e2:a.tmps.getD 23 undef = .agg (deCells t x1).toArray:=(hp 3 (by kernel_rfl)).2 _ rfl
   rw [hLi] at hh
   refine st_want (wnone rfl) (op_stD e1 e2 hh rfl rfl rfl ⟨undef,rfl,(fun h=>absurd (show false=true from h) (by decide)),below_setN _ _ 0 hB hq,?_,?_,?_⟩)
   ·intro _
    rw [upS_other (by decide),upL_same]
    exact ⟨q,e8,hq,blk_all (xs:=zdL) hh rfl⟩
   ·intro h
    rw [upL_other (by decide)] at h
    obtain ⟨q2,e9,hq2,hh2⟩:=g9 h
    rw [upS_other (by decide),upL_other (by decide)]
    have hne:q2≠q:=fun e=>(gne hb' h) (by rw [e8,e9,e])
    exact ⟨q2,e9,hq2,(heap_setN hne _ w 0).trans hh2⟩
   ·intro h8 h9
    rw [upL_other (by decide)] at h8 h9
    rw [upS_other (by decide),upS_other (by decide)]
    exact gne h8 h9
  ·have hb':=(hp 9 (by kernel_rfl)).1
   obtain ⟨q,e8,hq,hh⟩:=g9 hb'
   have e1:a.tmps.getD 7 undef = .pointer (some ⟨q,0,none⟩):=e8
   have e2:a.tmps.getD 27 undef = .agg (deCells t x2).toArray:=(hp 7 (by kernel_rfl)).2 _ rfl
   rw [hLi] at hh
   refine st_want (wnone rfl) (op_stD e1 e2 hh rfl rfl rfl ⟨undef,rfl,(fun h=>absurd (show false=true from h) (by decide)),below_setN _ _ 0 hB hq,?_,?_,?_⟩)
   ·intro h
    rw [upL_other (by decide)] at h
    obtain ⟨q2,e9,hq2,hh2⟩:=g8 h
    rw [upS_other (by decide),upL_other (by decide)]
    have hne:q2≠q:=fun e=>(gne h hb') (by rw [e8,e9,e])
    exact ⟨q2,e9,hq2,(heap_setN hne _ w 0).trans hh2⟩
   ·intro _
    rw [upS_other (by decide),upL_same]
    exact ⟨q,e8,hq,blk_all (xs:=zdL) hh rfl⟩
   ·intro h8 h9
    rw [upL_other (by decide)] at h8 h9
    rw [upS_other (by decide),upS_other (by decide)]
    exact gne h8 h9
 ·intro a w hd hsz hk hp hs
  obtain ⟨hB,g8,g9,gne⟩:=hs
  obtain ⟨qx,e8,hqx,hhx⟩:=g8 rfl
  obtain ⟨qy,e9,hqy,hhy⟩:=g9 rfl
  have e8':a.tmps.getD 6 undef = .pointer (some ⟨qx,0,none⟩):=e8
  have e9':a.tmps.getD 7 undef = .pointer (some ⟨qy,0,none⟩):=e9
  have get:∀ k v,k<175→a.tmps.getD k undef=v→a.tmps[k]?=some v:=fun k v hk h=>by
   have h1:k<a.tmps.size:=by omega
   rw [Array.getD_eq_getD_getElem?,Array.getElem?_eq_getElem h1] at h
   rw [Array.getElem?_eq_getElem h1]
   exact congrArg some h
  exact hend a w qx qy hd hk hsz (get _ _ (by omega) e8') (get _ _ (by omega) e9') (fun e=>gne rfl rfl (by rw [e8,e9,e])) hqx hqy hB hhx hhy
end Go.Proofs.YtfkfnbehdcmgeaaGreatDoor
