/- Package parse: an implication. -/
import Derived.Test.YtfkfnbehdcmgeaaGreatDoorZAD
set_option linter.unusedVariables false
set_option linter.unusedSimpArgs false
namespace Go.Proofs.YtfkfnbehdcmgeaaGreatDoor
open Go Go.RowKit
set_option maxRecDepth 100000 in
set_option maxHeartbeats 8000000 in
theorem binding_of {r d lo:Nat} {ts:List (Int×ByteArray×Int)} {g:Ru→Nat→Nat→(Except (Int×Int) (Ex×Nat))} (hT:TsOk ts) (hE:RuC 59 r ts d (lo+1) (g .rE d)) {w:World} {p:Nat} (hlo:lo≤p) (hp1:p+1<ts.length) (hR:RD w r ts p d):Calls Tryz.prog 96 #[.pointer (some ⟨r,0,none⟩)] w (PE (bindR ts g d p) r ts p d w):=by
 obtain ⟨Y,hY⟩:∃ Y,bindR ts g d p=Y:=⟨_,rfl⟩
 rw [hY]
 unfold bindR at hY
 have hr:=hR.rlt
 obtain ⟨A,eA,hbA,hzA,hsA⟩:=zb_new w
 have HB:=gh (But.of (r:=r) hbA)
 have HR:=gh (hR.keep hbA)
 have HZ:=gh hzA
 have HS:Hid (w.heap.size<A.heap.size):=by show _<_;omega
 have HL:Hid (p≤p∧lo≤p):=⟨Nat.le_refl _,hlo⟩
 have HE:=gh eA
 have HT:=gh hT
 have HY:=gh hY
 have hrne:r≠w.heap.size:=by omega
 have hmf:∀ (fn:Fn) (first cap:Array Value) (w:World),(Instr.makeFunc fn first cap).run Tryz.prog w = .ok (.func fn first cap) w:=fun _ _ _ _=>rfl
 replace hE:=gh hE
 replace hp1:=gh hp1
 clear hlo hR hbA hzA hsA eA hT hY
 go_enter Tryz.func96,Tryz.ntmps96
 have HC0:=gh (take_any (gf HR) (gf HT) (gf hp1))
 unfold tkV at HC0
 obtain ⟨⟨kk0,T0,at0⟩,hN0⟩:∃ X,nx ts p=X:=⟨_,rfl⟩
 rw [hN0] at HC0
 have HN0:=gh hN0
 clear hN0
 go_wp2_with fail
 rw [gf HE]
 refine (gf HC0).mono ?_
 rintro e w0 ⟨rfl,hb0,hR0⟩
 replace HB:=gh ((gf HB).trans hb0)
 replace HZ:=gh ((gf HZ).but hb0 hrne)
 replace HS:=gh (Nat.lt_of_lt_of_le (gf HS) hb0.size)
 replace HR:=gh hR0
 replace HL:Hid (p≤p+1∧lo+1≤p+1):=And.intro (Nat.le_succ_of_le (gf HL).1) (Nat.succ_le_succ (gf HL).2)
 clear hb0 hR0 HC0
 obtain ⟨B1,eB1,hbB1,hsB1,hhB1⟩:=box_new w0 #[.int .i64 kk0,.string T0,.int .i64 at0] 74
 have ne1:r≠w0.heap.size:=by have:=gf HS;omega
 have hbu2:=But.of (r:=r) hbB1
 replace HR:=gh ((gf HR).keep hbB1)
 replace HB:=gh ((gf HB).trans hbu2)
 replace HZ:=gh ((gf HZ).but hbu2 hrne)
 replace HS:=gh (Nat.lt_of_lt_of_le (gf HS) hbu2.size)
 have HX1:=gh hhB1
 have HEB1:=gh eB1
 have HSB1:=gh hsB1
 clear eB1 hbB1 hhB1 hsB1
 have HC3:=gh (mustBe_any (gf HR) (gf HT) (k:=1) (by decide))
 go_wp2_with fail
 rw [gf HEB1]
 refine (gf HC3).mono ?_
 intro e w3 h3
 rcases hX3:mustBeR ts 1 (p+1) with er | ⟨t3,q3⟩
 ·rw [hX3] at h3
  obtain ⟨ei,en⟩:=er
  have hYe:Y = .error (ei,en):=by have h:=gf HY;rw [hX3] at h;exact h.symm
  subst hYe
  obtain ⟨hb3,h3⟩:=h3
  obtain rfl:e=_:=h3
  have HP:=gh ((gf HB).trans hb3)
  clear hb3 HC3 hX3
  go_wp2
  exact ⟨rfl,gf HP,rfl⟩
 rw [hX3] at h3
 obtain ⟨hb3,hle3,hR3,v3,rfl,hv3⟩:=h3
 have hY3:=gf HY
 rw [hX3] at hY3
 simp only [thenR] at hY3
 replace HY:=gh hY3
 clear hY3
 obtain ⟨kk3,T3,at3⟩:=t3
 obtain rfl:v3=_:=hv3
 have hf03:=fld0 (.int .i64 kk3) (.string T3) (.int .i64 at3)
 have hf13:=fld1 (.int .i64 kk3) (.string T3) (.int .i64 at3)
 unfold tkV
 replace HB:=gh ((gf HB).trans hb3)
 replace HZ:=gh ((gf HZ).but hb3 hrne)
 replace HX1:=gh ((hb3.block _ (blk (gf HX1)).1 (Ne.symm ne1)).trans (gf HX1))
 replace HS:=gh (Nat.lt_of_lt_of_le (gf HS) hb3.size)
 replace HR:=gh hR3
 replace HL:=gh (And.intro (Nat.le_trans (gf HL).1 hle3) (Nat.le_trans (gf HL).2 hle3))
 clear hb3 hle3 hR3 HC3 hX3
 have HC4:=gh (must_any (gf HR) (gf HT) (s:=⟨#[61]⟩) (by decide))
 go_wp2_with fail
 refine (gf HC4).mono ?_
 intro e w4 h4
 rcases hX4:mustR ts ⟨#[61]⟩ (q3) with er | ⟨t4,q4⟩
 ·rw [hX4] at h4
  obtain ⟨ei,en⟩:=er
  have hYe:Y = .error (ei,en):=by have h:=gf HY;rw [hX4] at h;exact h.symm
  subst hYe
  obtain ⟨hb4,h4⟩:=h4
  obtain rfl:e=_:=h4
  have HP:=gh ((gf HB).trans hb4)
  clear hb4 HC4 hX4
  go_wp2
  exact ⟨rfl,gf HP,rfl⟩
 rw [hX4] at h4
 obtain ⟨hb4,hle4,hR4,v4,rfl,hv4⟩:=h4
 have hY4:=gf HY
 rw [hX4] at hY4
 simp only [thenR] at hY4
 replace HY:=gh hY4
 clear hY4
 obtain rfl:v4=_:=hv4
 replace HB:=gh ((gf HB).trans hb4)
 replace HZ:=gh ((gf HZ).but hb4 hrne)
 replace HX1:=gh ((hb4.block _ (blk (gf HX1)).1 (Ne.symm ne1)).trans (gf HX1))
 replace HS:=gh (Nat.lt_of_lt_of_le (gf HS) hb4.size)
 replace HR:=gh hR4
 replace HL:=gh (And.intro (Nat.le_trans (gf HL).1 hle4) (Nat.le_trans (gf HL).2 hle4))
 clear hb4 hle4 hR4 HC4 hX4
 have HC5:=gh (gf hE w4 (q4) (gf HL).2 (gf HR))
 go_wp2_with fail
 refine (gf HC5).mono ?_
 intro e w5 h5
 rcases hX5:g .rE d (q4) with er | ⟨t5,q5⟩
 ·rw [hX5] at h5
  obtain ⟨ei,en⟩:=er
  have hYe:Y = .error (ei,en):=by have h:=gf HY;rw [hX5] at h;exact h.symm
  subst hYe
  obtain ⟨hb5,h5⟩:=h5
  obtain rfl:e=_:=h5
  have HP:=gh ((gf HB).trans hb5)
  clear hb5 HC5 hX5
  go_wp2
  exact ⟨rfl,gf HP,rfl⟩
 rw [hX5] at h5
 obtain ⟨hb5,hle5,hR5,v5,rfl,hv5⟩:=h5
 have hY5:=gf HY
 rw [hX5] at hY5
 simp only [thenR] at hY5
 replace HY:=gh hY5
 clear hY5
 obtain ⟨i5,j5,s5,m5,b5,a5,n5,c5,rfl⟩:=hv5.form
 have HT5:=gh (hv5.keep (lo':=w.heap.size+1) (Stays.of (Below.refl _ _)) (gf HS))
 replace HB:=gh ((gf HB).trans hb5)
 replace HZ:=gh ((gf HZ).but hb5 hrne)
 replace HX1:=gh ((hb5.block _ (blk (gf HX1)).1 (Ne.symm ne1)).trans (gf HX1))
 replace HS:=gh (Nat.lt_of_lt_of_le (gf HS) hb5.size)
 replace HR:=gh hR5
 replace HL:=gh (And.intro (Nat.le_trans (gf HL).1 hle5) (Nat.le_trans (gf HL).2 hle5))
 clear hb5 hle5 hR5 hv5 HC5 hX5
 obtain ⟨B6,eB6,hbB6,hsB6,hhB6⟩:=box_new w5 #[.int .i64 i5,.string s5,.string m5,.bool b5,.slice a5 n5 c5,.int .i64 0,.int .i64 j5] 36
 have ne6:r≠w5.heap.size:=by have:=gf HS;omega
 have hbu7:=But.of (r:=r) hbB6
 replace HR:=gh ((gf HR).keep hbB6)
 replace HB:=gh ((gf HB).trans hbu7)
 replace HZ:=gh ((gf HZ).but hbu7 hrne)
 replace HX1:=gh ((hbu7.block _ (blk (gf HX1)).1 (Ne.symm ne1)).trans (gf HX1))
 replace HT5:=gh ((gf HT5).keep (Stays.but hbu7 (Nat.lt_succ_of_lt hr)) (Nat.le_refl _))
 replace HS:=gh (Nat.lt_of_lt_of_le (gf HS) hbu7.size)
 have HX6:=gh hhB6
 have HEB6:=gh eB6
 have HSB6:=gh hsB6
 clear eB6 hbB6 hhB6 hsB6
 have HC8:=gh (must_any (gf HR) (gf HT) (s:=⟨#[105,110]⟩) (by decide))
 go_wp2_with fail
 rw [gf HEB6]
 refine (gf HC8).mono ?_
 intro e w8 h8
 rcases hX8:mustR ts ⟨#[105,110]⟩ (q5) with er | ⟨t8,q8⟩
 ·rw [hX8] at h8
  obtain ⟨ei,en⟩:=er
  have hYe:Y = .error (ei,en):=by have h:=gf HY;rw [hX8] at h;exact h.symm
  subst hYe
  obtain ⟨hb8,h8⟩:=h8
  obtain rfl:e=_:=h8
  have HP:=gh ((gf HB).trans hb8)
  clear hb8 HC8 hX8
  go_wp2
  exact ⟨rfl,gf HP,rfl⟩
 rw [hX8] at h8
 obtain ⟨hb8,hle8,hR8,v8,rfl,hv8⟩:=h8
 have hY8:=gf HY
 rw [hX8] at hY8
 simp only [thenR] at hY8
 replace HY:=gh hY8
 clear hY8
 obtain rfl:v8=_:=hv8
 replace HB:=gh ((gf HB).trans hb8)
 replace HZ:=gh ((gf HZ).but hb8 hrne)
 replace HX1:=gh ((hb8.block _ (blk (gf HX1)).1 (Ne.symm ne1)).trans (gf HX1))
 replace HX6:=gh ((hb8.block _ (blk (gf HX6)).1 (Ne.symm ne6)).trans (gf HX6))
 replace HT5:=gh ((gf HT5).keep (Stays.but hb8 (Nat.lt_succ_of_lt hr)) (Nat.le_refl _))
 replace HS:=gh (Nat.lt_of_lt_of_le (gf HS) hb8.size)
 replace HR:=gh hR8
 replace HL:=gh (And.intro (Nat.le_trans (gf HL).1 hle8) (Nat.le_trans (gf HL).2 hle8))
 clear hb8 hle8 hR8 HC8 hX8
 have HC9:=gh (gf hE w8 (q8) (gf HL).2 (gf HR))
 go_wp2_with fail
 refine (gf HC9).mono ?_
 intro e w9 h9
 rcases hX9:g .rE d (q8) with er | ⟨t9,q9⟩
 ·rw [hX9] at h9
  obtain ⟨ei,en⟩:=er
  have hYe:Y = .error (ei,en):=by have h:=gf HY;rw [hX9] at h;exact h.symm
  subst hYe
  obtain ⟨hb9,h9⟩:=h9
  obtain rfl:e=_:=h9
  have HP:=gh ((gf HB).trans hb9)
  clear hb9 HC9 hX9
  go_wp2
  exact ⟨rfl,gf HP,rfl⟩
 rw [hX9] at h9
 obtain ⟨hb9,hle9,hR9,v9,rfl,hv9⟩:=h9
 have hY9:=gf HY
 rw [hX9] at hY9
 simp only [thenR] at hY9
 replace HY:=gh hY9
 clear hY9
 obtain ⟨i9,j9,s9,m9,b9,a9,n9,c9,rfl⟩:=hv9.form
 have HT9:=gh (hv9.keep (lo':=w.heap.size+1) (Stays.of (Below.refl _ _)) (gf HS))
 replace HB:=gh ((gf HB).trans hb9)
 replace HZ:=gh ((gf HZ).but hb9 hrne)
 replace HX1:=gh ((hb9.block _ (blk (gf HX1)).1 (Ne.symm ne1)).trans (gf HX1))
 replace HX6:=gh ((hb9.block _ (blk (gf HX6)).1 (Ne.symm ne6)).trans (gf HX6))
 replace HT5:=gh ((gf HT5).keep (Stays.but hb9 (Nat.lt_succ_of_lt hr)) (Nat.le_refl _))
 replace HS:=gh (Nat.lt_of_lt_of_le (gf HS) hb9.size)
 replace HR:=gh hR9
 replace HL:=gh (And.intro (Nat.le_trans (gf HL).1 hle9) (Nat.le_trans (gf HL).2 hle9))
 clear hb9 hle9 hR9 hv9 HC9 hX9
 obtain ⟨B10,eB10,hbB10,hsB10,hhB10⟩:=box_new w9 #[.int .i64 i9,.string s9,.string m9,.bool b9,.slice a9 n9 c9,.int .i64 0,.int .i64 j9] 36
 have ne10:r≠w9.heap.size:=by have:=gf HS;omega
 have hbu11:=But.of (r:=r) hbB10
 replace HR:=gh ((gf HR).keep hbB10)
 replace HB:=gh ((gf HB).trans hbu11)
 replace HZ:=gh ((gf HZ).but hbu11 hrne)
 replace HX1:=gh ((hbu11.block _ (blk (gf HX1)).1 (Ne.symm ne1)).trans (gf HX1))
 replace HX6:=gh ((hbu11.block _ (blk (gf HX6)).1 (Ne.symm ne6)).trans (gf HX6))
 replace HT5:=gh ((gf HT5).keep (Stays.but hbu11 (Nat.lt_succ_of_lt hr)) (Nat.le_refl _))
 replace HT9:=gh ((gf HT9).keep (Stays.but hbu11 (Nat.lt_succ_of_lt hr)) (Nat.le_refl _))
 replace HS:=gh (Nat.lt_of_lt_of_le (gf HS) hbu11.size)
 have HX10:=gh hhB10
 have HEB10:=gh eB10
 have HSB10:=gh hsB10
 clear eB10 hbB10 hhB10 hsB10
 have u01:=(blk (gf HX1)).2.1 0 _ rfl
 have u11:=(blk (gf HX1)).2.1 1 _ rfl
 have u21:=(blk (gf HX1)).2.1 2 _ rfl
 obtain ⟨y06,y16,y26,y36,y46,y56,y66⟩:=blk7 (gf HX6)
 obtain ⟨y010,y110,y210,y310,y410,y510,y610⟩:=blk7 (gf HX10)
 rw [←gf HEB10] at u01 u11 u21 y06 y16 y26 y36 y46 y56 y66 y010 y110 y210 y310 y410 y510 y610
 go_wp2_with fail
 rw [gf HEB10]
 clear u01 u11 u21 y06 y16 y26 y36 y46 y56 y66 y010 y110 y210 y310 y410 y510 y610
 refine (named_any _ _ _ _ _ _ _ _ _).mono ?_
 rintro e w12 ⟨rfl,hb12⟩
 obtain ⟨C12,eC12,hbC12,hsC12,hhC12⟩:=box_new B10 #[.int .i64 i5,.string s5,.string m5,.bool b5,.slice a5 n5 c5,.int .i64 0,.int .i64 j5,.int .i64 i9,.string s9,.string m9,.bool b9,.slice a9 n9 c9,.int .i64 0,.int .i64 j9] 36
 rw [eC12] at hb12
 have hnode:=node (l:=[t5,t9]) (vs:=[[.int .i64 i5,.string s5,.string m5,.bool b5,.slice a5 n5 c5,.int .i64 0,.int .i64 j5],[.int .i64 i9,.string s9,.string m9,.bool b9,.slice a9 n9 c9,.int .i64 0,.int .i64 j9]]) 23 at0 T3 ⟨#[]⟩ false eC12 rfl (by simp) rfl (by simp) (gf HS) (fun j v t hv ht=>by
  rcases j with _ | _ | j
  ·obtain rfl:=Option.some.inj hv
   obtain rfl:=Option.some.inj ht
   exact gf HT5
  ·obtain rfl:=Option.some.inj hv
   obtain rfl:=Option.some.inj ht
   exact gf HT9
  ·simp at hv)
 rw [gf HSB10] at hnode
 have hbCb:=hbC12.trans (hb12.mono hbC12.size)
 replace hnode:=hnode.keep (Stays.of hb12) (Nat.le_refl _)
 have hbu13:=But.of (r:=r) hbCb
 replace HR:=gh ((gf HR).keep hbCb)
 replace HB:=gh ((gf HB).trans hbu13)
 replace HZ:=gh ((gf HZ).but hbu13 hrne)
 replace HX1:=gh ((hbu13.block _ (blk (gf HX1)).1 (Ne.symm ne1)).trans (gf HX1))
 replace HX6:=gh ((hbu13.block _ (blk (gf HX6)).1 (Ne.symm ne6)).trans (gf HX6))
 replace HX10:=gh ((hbu13.block _ (blk (gf HX10)).1 (Ne.symm ne10)).trans (gf HX10))
 replace HS:=gh (Nat.lt_of_lt_of_le (gf HS) hbu13.size)
 obtain ⟨y0,y1,y2,y3,y4,y5,y6⟩:=blk7 (gf HZ)
 obtain ⟨z0,z1,z2,z3,z4,z5,z6⟩:=frz7 (gf HZ)
 have HNode:=gh hnode
 go_wp2
 exact ret_put rfl rfl rfl (gf HB) hr (gf HZ) (by have h:=gf HY;rw [gf HN0] at h;exact h.symm) (gf HL).1 (gf HR) (Nat.lt_succ_self _) (gf HNode)
set_option maxRecDepth 100000 in
set_option maxHeartbeats 8000000 in
theorem handler_of {r d lo:Nat} {ts:List (Int×ByteArray×Int)} {g:Ru→Nat→Nat→(Except (Int×Int) (Ex×Nat))} (hT:TsOk ts) (hE:RuC 59 r ts d (lo+1) (g .rE d)) {w:World} {p:Nat} (hlo:lo≤p) (hp1:p+1<ts.length) (hR:RD w r ts p d):Calls Tryz.prog 97 #[.pointer (some ⟨r,0,none⟩)] w (PE (tryR ts g d p) r ts p d w):=by
 obtain ⟨Y,hY⟩:∃ Y,tryR ts g d p=Y:=⟨_,rfl⟩
 rw [hY]
 unfold tryR at hY
 have hr:=hR.rlt
 obtain ⟨A,eA,hbA,hzA,hsA⟩:=zb_new w
 have HB:=gh (But.of (r:=r) hbA)
 have HR:=gh (hR.keep hbA)
 have HZ:=gh hzA
 have HS:Hid (w.heap.size<A.heap.size):=by show _<_;omega
 have HL:Hid (p≤p∧lo≤p):=⟨Nat.le_refl _,hlo⟩
 have HE:=gh eA
 have HT:=gh hT
 have HY:=gh hY
 have hrne:r≠w.heap.size:=by omega
 have hmf:∀ (fn:Fn) (first cap:Array Value) (w:World),(Instr.makeFunc fn first cap).run Tryz.prog w = .ok (.func fn first cap) w:=fun _ _ _ _=>rfl
 replace hE:=gh hE
 replace hp1:=gh hp1
 clear hlo hR hbA hzA hsA eA hT hY
 go_enter Tryz.func97,Tryz.ntmps97
 have HC0:=gh (take_any (gf HR) (gf HT) (gf hp1))
 unfold tkV at HC0
 obtain ⟨⟨kk0,T0,at0⟩,hN0⟩:∃ X,nx ts p=X:=⟨_,rfl⟩
 rw [hN0] at HC0
 have HN0:=gh hN0
 clear hN0
 go_wp2_with fail
 rw [gf HE]
 refine (gf HC0).mono ?_
 rintro e w0 ⟨rfl,hb0,hR0⟩
 replace HB:=gh ((gf HB).trans hb0)
 replace HZ:=gh ((gf HZ).but hb0 hrne)
 replace HS:=gh (Nat.lt_of_lt_of_le (gf HS) hb0.size)
 replace HR:=gh hR0
 replace HL:Hid (p≤p+1∧lo+1≤p+1):=And.intro (Nat.le_succ_of_le (gf HL).1) (Nat.succ_le_succ (gf HL).2)
 clear hb0 hR0 HC0
 obtain ⟨B1,eB1,hbB1,hsB1,hhB1⟩:=box_new w0 #[.int .i64 kk0,.string T0,.int .i64 at0] 74
 have ne1:r≠w0.heap.size:=by have:=gf HS;omega
 have hbu2:=But.of (r:=r) hbB1
 replace HR:=gh ((gf HR).keep hbB1)
 replace HB:=gh ((gf HB).trans hbu2)
 replace HZ:=gh ((gf HZ).but hbu2 hrne)
 replace HS:=gh (Nat.lt_of_lt_of_le (gf HS) hbu2.size)
 have HX1:=gh hhB1
 have HEB1:=gh eB1
 have HSB1:=gh hsB1
 clear eB1 hbB1 hhB1 hsB1
 have HC3:=gh (gf hE B1 (p+1) (gf HL).2 (gf HR))
 go_wp2_with fail
 rw [gf HEB1]
 refine (gf HC3).mono ?_
 intro e w3 h3
 rcases hX3:g .rE d (p+1) with er | ⟨t3,q3⟩
 ·rw [hX3] at h3
  obtain ⟨ei,en⟩:=er
  have hYe:Y = .error (ei,en):=by have h:=gf HY;rw [hX3] at h;exact h.symm
  subst hYe
  obtain ⟨hb3,h3⟩:=h3
  obtain rfl:e=_:=h3
  have HP:=gh ((gf HB).trans hb3)
  clear hb3 HC3 hX3
  go_wp2
  exact ⟨rfl,gf HP,rfl⟩
 rw [hX3] at h3
 obtain ⟨hb3,hle3,hR3,v3,rfl,hv3⟩:=h3
 have hY3:=gf HY
 rw [hX3] at hY3
 simp only [thenR] at hY3
 replace HY:=gh hY3
 clear hY3
 obtain ⟨i3,j3,s3,m3,b3,a3,n3,c3,rfl⟩:=hv3.form
 have HT3:=gh (hv3.keep (lo':=w.heap.size+1) (Stays.of (Below.refl _ _)) (gf HS))
 replace HB:=gh ((gf HB).trans hb3)
 replace HZ:=gh ((gf HZ).but hb3 hrne)
 replace HX1:=gh ((hb3.block _ (blk (gf HX1)).1 (Ne.symm ne1)).trans (gf HX1))
 replace HS:=gh (Nat.lt_of_lt_of_le (gf HS) hb3.size)
 replace HR:=gh hR3
 replace HL:=gh (And.intro (Nat.le_trans (gf HL).1 hle3) (Nat.le_trans (gf HL).2 hle3))
 clear hb3 hle3 hR3 hv3 HC3 hX3
 obtain ⟨B4,eB4,hbB4,hsB4,hhB4⟩:=box_new w3 #[.int .i64 i3,.string s3,.string m3,.bool b3,.slice a3 n3 c3,.int .i64 0,.int .i64 j3] 36
 have ne4:r≠w3.heap.size:=by have:=gf HS;omega
 have hbu5:=But.of (r:=r) hbB4
 replace HR:=gh ((gf HR).keep hbB4)
 replace HB:=gh ((gf HB).trans hbu5)
 replace HZ:=gh ((gf HZ).but hbu5 hrne)
 replace HX1:=gh ((hbu5.block _ (blk (gf HX1)).1 (Ne.symm ne1)).trans (gf HX1))
 replace HT3:=gh ((gf HT3).keep (Stays.but hbu5 (Nat.lt_succ_of_lt hr)) (Nat.le_refl _))
 replace HS:=gh (Nat.lt_of_lt_of_le (gf HS) hbu5.size)
 have HX4:=gh hhB4
 have HEB4:=gh eB4
 have HSB4:=gh hsB4
 clear eB4 hbB4 hhB4 hsB4
 have HC6:=gh (must_any (gf HR) (gf HT) (s:=⟨#[119,105,116,104]⟩) (by decide))
 go_wp2_with fail
 rw [gf HEB4]
 refine (gf HC6).mono ?_
 intro e w6 h6
 rcases hX6:mustR ts ⟨#[119,105,116,104]⟩ (q3) with er | ⟨t6,q6⟩
 ·rw [hX6] at h6
  obtain ⟨ei,en⟩:=er
  have hYe:Y = .error (ei,en):=by have h:=gf HY;rw [hX6] at h;exact h.symm
  subst hYe
  obtain ⟨hb6,h6⟩:=h6
  obtain rfl:e=_:=h6
  have HP:=gh ((gf HB).trans hb6)
  clear hb6 HC6 hX6
  go_wp2
  exact ⟨rfl,gf HP,rfl⟩
 rw [hX6] at h6
 obtain ⟨hb6,hle6,hR6,v6,rfl,hv6⟩:=h6
 have hY6:=gf HY
 rw [hX6] at hY6
 simp only [thenR] at hY6
 replace HY:=gh hY6
 clear hY6
 obtain rfl:v6=_:=hv6
 replace HB:=gh ((gf HB).trans hb6)
 replace HZ:=gh ((gf HZ).but hb6 hrne)
 replace HX1:=gh ((hb6.block _ (blk (gf HX1)).1 (Ne.symm ne1)).trans (gf HX1))
 replace HX4:=gh ((hb6.block _ (blk (gf HX4)).1 (Ne.symm ne4)).trans (gf HX4))
 replace HT3:=gh ((gf HT3).keep (Stays.but hb6 (Nat.lt_succ_of_lt hr)) (Nat.le_refl _))
 replace HS:=gh (Nat.lt_of_lt_of_le (gf HS) hb6.size)
 replace HR:=gh hR6
 replace HL:=gh (And.intro (Nat.le_trans (gf HL).1 hle6) (Nat.le_trans (gf HL).2 hle6))
 clear hb6 hle6 hR6 HC6 hX6
 have HC7:=gh (mustBe_any (gf HR) (gf HT) (k:=1) (by decide))
 go_wp2_with fail
 refine (gf HC7).mono ?_
 intro e w7 h7
 rcases hX7:mustBeR ts 1 (q6) with er | ⟨t7,q7⟩
 ·rw [hX7] at h7
  obtain ⟨ei,en⟩:=er
  have hYe:Y = .error (ei,en):=by have h:=gf HY;rw [hX7] at h;exact h.symm
  subst hYe
  obtain ⟨hb7,h7⟩:=h7
  obtain rfl:e=_:=h7
  have HP:=gh ((gf HB).trans hb7)
  clear hb7 HC7 hX7
  go_wp2
  exact ⟨rfl,gf HP,rfl⟩
 rw [hX7] at h7
 obtain ⟨hb7,hle7,hR7,v7,rfl,hv7⟩:=h7
 have hY7:=gf HY
 rw [hX7] at hY7
 simp only [thenR] at hY7
 replace HY:=gh hY7
 clear hY7
 obtain ⟨kk7,T7,at7⟩:=t7
 obtain rfl:v7=_:=hv7
 have hf07:=fld0 (.int .i64 kk7) (.string T7) (.int .i64 at7)
 have hf17:=fld1 (.int .i64 kk7) (.string T7) (.int .i64 at7)
 unfold tkV
 replace HB:=gh ((gf HB).trans hb7)
 replace HZ:=gh ((gf HZ).but hb7 hrne)
 replace HX1:=gh ((hb7.block _ (blk (gf HX1)).1 (Ne.symm ne1)).trans (gf HX1))
 replace HX4:=gh ((hb7.block _ (blk (gf HX4)).1 (Ne.symm ne4)).trans (gf HX4))
 replace HT3:=gh ((gf HT3).keep (Stays.but hb7 (Nat.lt_succ_of_lt hr)) (Nat.le_refl _))
 replace HS:=gh (Nat.lt_of_lt_of_le (gf HS) hb7.size)
 replace HR:=gh hR7
 replace HL:=gh (And.intro (Nat.le_trans (gf HL).1 hle7) (Nat.le_trans (gf HL).2 hle7))
 clear hb7 hle7 hR7 HC7 hX7
 have HC8:=gh (must_any (gf HR) (gf HT) (s:=⟨#[45,62]⟩) (by decide))
 go_wp2_with fail
 refine (gf HC8).mono ?_
 intro e w8 h8
 rcases hX8:mustR ts ⟨#[45,62]⟩ (q7) with er | ⟨t8,q8⟩
 ·rw [hX8] at h8
  obtain ⟨ei,en⟩:=er
  have hYe:Y = .error (ei,en):=by have h:=gf HY;rw [hX8] at h;exact h.symm
  subst hYe
  obtain ⟨hb8,h8⟩:=h8
  obtain rfl:e=_:=h8
  have HP:=gh ((gf HB).trans hb8)
  clear hb8 HC8 hX8
  go_wp2
  exact ⟨rfl,gf HP,rfl⟩
 rw [hX8] at h8
 obtain ⟨hb8,hle8,hR8,v8,rfl,hv8⟩:=h8
 have hY8:=gf HY
 rw [hX8] at hY8
 simp only [thenR] at hY8
 replace HY:=gh hY8
 clear hY8
 obtain rfl:v8=_:=hv8
 replace HB:=gh ((gf HB).trans hb8)
 replace HZ:=gh ((gf HZ).but hb8 hrne)
 replace HX1:=gh ((hb8.block _ (blk (gf HX1)).1 (Ne.symm ne1)).trans (gf HX1))
 replace HX4:=gh ((hb8.block _ (blk (gf HX4)).1 (Ne.symm ne4)).trans (gf HX4))
 replace HT3:=gh ((gf HT3).keep (Stays.but hb8 (Nat.lt_succ_of_lt hr)) (Nat.le_refl _))
 replace HS:=gh (Nat.lt_of_lt_of_le (gf HS) hb8.size)
 replace HR:=gh hR8
 replace HL:=gh (And.intro (Nat.le_trans (gf HL).1 hle8) (Nat.le_trans (gf HL).2 hle8))
 clear hb8 hle8 hR8 HC8 hX8
 have HC9:=gh (gf hE w8 (q8) (gf HL).2 (gf HR))
 go_wp2_with fail
 refine (gf HC9).mono ?_
 intro e w9 h9
 rcases hX9:g .rE d (q8) with er | ⟨t9,q9⟩
 ·rw [hX9] at h9
  obtain ⟨ei,en⟩:=er
  have hYe:Y = .error (ei,en):=by have h:=gf HY;rw [hX9] at h;exact h.symm
  subst hYe
  obtain ⟨hb9,h9⟩:=h9
  obtain rfl:e=_:=h9
  have HP:=gh ((gf HB).trans hb9)
  clear hb9 HC9 hX9
  go_wp2
  exact ⟨rfl,gf HP,rfl⟩
 rw [hX9] at h9
 obtain ⟨hb9,hle9,hR9,v9,rfl,hv9⟩:=h9
 have hY9:=gf HY
 rw [hX9] at hY9
 simp only [thenR] at hY9
 replace HY:=gh hY9
 clear hY9
 obtain ⟨i9,j9,s9,m9,b9,a9,n9,c9,rfl⟩:=hv9.form
 have HT9:=gh (hv9.keep (lo':=w.heap.size+1) (Stays.of (Below.refl _ _)) (gf HS))
 replace HB:=gh ((gf HB).trans hb9)
 replace HZ:=gh ((gf HZ).but hb9 hrne)
 replace HX1:=gh ((hb9.block _ (blk (gf HX1)).1 (Ne.symm ne1)).trans (gf HX1))
 replace HX4:=gh ((hb9.block _ (blk (gf HX4)).1 (Ne.symm ne4)).trans (gf HX4))
 replace HT3:=gh ((gf HT3).keep (Stays.but hb9 (Nat.lt_succ_of_lt hr)) (Nat.le_refl _))
 replace HS:=gh (Nat.lt_of_lt_of_le (gf HS) hb9.size)
 replace HR:=gh hR9
 replace HL:=gh (And.intro (Nat.le_trans (gf HL).1 hle9) (Nat.le_trans (gf HL).2 hle9))
 clear hb9 hle9 hR9 hv9 HC9 hX9
 obtain ⟨B10,eB10,hbB10,hsB10,hhB10⟩:=box_new w9 #[.int .i64 i9,.string s9,.string m9,.bool b9,.slice a9 n9 c9,.int .i64 0,.int .i64 j9] 36
 have ne10:r≠w9.heap.size:=by have:=gf HS;omega
 have hbu11:=But.of (r:=r) hbB10
 replace HR:=gh ((gf HR).keep hbB10)
 replace HB:=gh ((gf HB).trans hbu11)
 replace HZ:=gh ((gf HZ).but hbu11 hrne)
 replace HX1:=gh ((hbu11.block _ (blk (gf HX1)).1 (Ne.symm ne1)).trans (gf HX1))
 replace HX4:=gh ((hbu11.block _ (blk (gf HX4)).1 (Ne.symm ne4)).trans (gf HX4))
 replace HT3:=gh ((gf HT3).keep (Stays.but hbu11 (Nat.lt_succ_of_lt hr)) (Nat.le_refl _))
 replace HT9:=gh ((gf HT9).keep (Stays.but hbu11 (Nat.lt_succ_of_lt hr)) (Nat.le_refl _))
 replace HS:=gh (Nat.lt_of_lt_of_le (gf HS) hbu11.size)
 have HX10:=gh hhB10
 have HEB10:=gh eB10
 have HSB10:=gh hsB10
 clear eB10 hbB10 hhB10 hsB10
 have u01:=(blk (gf HX1)).2.1 0 _ rfl
 have u11:=(blk (gf HX1)).2.1 1 _ rfl
 have u21:=(blk (gf HX1)).2.1 2 _ rfl
 obtain ⟨y04,y14,y24,y34,y44,y54,y64⟩:=blk7 (gf HX4)
 obtain ⟨y010,y110,y210,y310,y410,y510,y610⟩:=blk7 (gf HX10)
 rw [←gf HEB10] at u01 u11 u21 y04 y14 y24 y34 y44 y54 y64 y010 y110 y210 y310 y410 y510 y610
 go_wp2_with fail
 rw [gf HEB10]
 clear u01 u11 u21 y04 y14 y24 y34 y44 y54 y64 y010 y110 y210 y310 y410 y510 y610
 refine (named_any _ _ _ _ _ _ _ _ _).mono ?_
 rintro e w12 ⟨rfl,hb12⟩
 obtain ⟨C12,eC12,hbC12,hsC12,hhC12⟩:=box_new B10 #[.int .i64 i3,.string s3,.string m3,.bool b3,.slice a3 n3 c3,.int .i64 0,.int .i64 j3,.int .i64 i9,.string s9,.string m9,.bool b9,.slice a9 n9 c9,.int .i64 0,.int .i64 j9] 36
 rw [eC12] at hb12
 have hnode:=node (l:=[t3,t9]) (vs:=[[.int .i64 i3,.string s3,.string m3,.bool b3,.slice a3 n3 c3,.int .i64 0,.int .i64 j3],[.int .i64 i9,.string s9,.string m9,.bool b9,.slice a9 n9 c9,.int .i64 0,.int .i64 j9]]) 27 at0 T7 ⟨#[]⟩ false eC12 rfl (by simp) rfl (by simp) (gf HS) (fun j v t hv ht=>by
  rcases j with _ | _ | j
  ·obtain rfl:=Option.some.inj hv
   obtain rfl:=Option.some.inj ht
   exact gf HT3
  ·obtain rfl:=Option.some.inj hv
   obtain rfl:=Option.some.inj ht
   exact gf HT9
  ·simp at hv)
 rw [gf HSB10] at hnode
 have hbCb:=hbC12.trans (hb12.mono hbC12.size)
 replace hnode:=hnode.keep (Stays.of hb12) (Nat.le_refl _)
 have hbu13:=But.of (r:=r) hbCb
 replace HR:=gh ((gf HR).keep hbCb)
 replace HB:=gh ((gf HB).trans hbu13)
 replace HZ:=gh ((gf HZ).but hbu13 hrne)
 replace HX1:=gh ((hbu13.block _ (blk (gf HX1)).1 (Ne.symm ne1)).trans (gf HX1))
 replace HX4:=gh ((hbu13.block _ (blk (gf HX4)).1 (Ne.symm ne4)).trans (gf HX4))
 replace HX10:=gh ((hbu13.block _ (blk (gf HX10)).1 (Ne.symm ne10)).trans (gf HX10))
 replace HS:=gh (Nat.lt_of_lt_of_le (gf HS) hbu13.size)
 obtain ⟨y0,y1,y2,y3,y4,y5,y6⟩:=blk7 (gf HZ)
 obtain ⟨z0,z1,z2,z3,z4,z5,z6⟩:=frz7 (gf HZ)
 have HNode:=gh hnode
 go_wp2
 exact ret_put rfl rfl rfl (gf HB) hr (gf HZ) (by have h:=gf HY;rw [gf HN0] at h;exact h.symm) (gf HL).1 (gf HR) (Nat.lt_succ_self _) (gf HNode)
set_option maxRecDepth 100000 in
set_option maxHeartbeats 8000000 in
theorem sequence_of {r d lo:Nat} {ts:List (Int×ByteArray×Int)} {g:Ru→Nat→Nat→(Except (Int×Int) (Ex×Nat))} (hT:TsOk ts) (hP:RuC 112 r ts d lo (partR ts g d)) (hE:RuC 59 r ts d (lo+1) (g .rE d)) {w:World} {p:Nat} (hlo:lo≤p) (hR:RD w r ts p d):Calls Tryz.prog 98 #[.pointer (some ⟨r,0,none⟩)] w (PE (seqR ts g d p) r ts p d w):=by
 obtain ⟨Y,hY⟩:∃ Y,seqR ts g d p=Y:=⟨_,rfl⟩
 rw [hY]
 unfold seqR at hY
 have hr:=hR.rlt
 obtain ⟨A,eA,hbA,hzA,hsA⟩:=zb_new w
 have HB:=gh (But.of (r:=r) hbA)
 have HR:=gh (hR.keep hbA)
 have HZ:=gh hzA
 have HS:Hid (w.heap.size<A.heap.size):=by show _<_;omega
 have HL:Hid (p≤p∧lo≤p):=⟨Nat.le_refl _,hlo⟩
 have HSA:=gh hsA
 have HE:=gh eA
 have HT:=gh hT
 have HY:=gh hY
 have hrne:r≠w.heap.size:=by omega
 have hmf:∀ (fn:Fn) (first cap:Array Value) (w:World),(Instr.makeFunc fn first cap).run Tryz.prog w = .ok (.func fn first cap) w:=fun _ _ _ _=>rfl
 replace hP:=gh hP
 replace hE:=gh hE
 clear hlo hR hbA hzA hsA eA hT hY
 go_enter Tryz.func98,Tryz.ntmps98
 have HC0:=gh (gf hP A (p) (gf HL).2 (gf HR))
 go_wp2_with fail
 rw [gf HE]
 refine (gf HC0).mono ?_
 intro e w0 h0
 rcases hX0:partR ts g d (p) with er | ⟨t0,q0⟩
 ·rw [hX0] at h0
  obtain ⟨ei,en⟩:=er
  have hYe:Y = .error (ei,en):=by have h:=gf HY;rw [hX0] at h;exact h.symm
  subst hYe
  obtain ⟨hb0,h0⟩:=h0
  obtain rfl:e=_:=h0
  have HP:=gh ((gf HB).trans hb0)
  clear hb0 HC0 hX0
  go_wp2
  exact ⟨rfl,gf HP,rfl⟩
 rw [hX0] at h0
 obtain ⟨hb0,hle0,hR0,v0,rfl,hv0⟩:=h0
 have hY0:=gf HY
 rw [hX0] at hY0
 simp only [thenR] at hY0
 replace HY:=gh hY0
 clear hY0
 obtain ⟨i0,j0,s0,m0,b0,a0,n0,c0,rfl⟩:=hv0.form
 have HT0:=gh (hv0.keep (lo':=w.heap.size+1) (Stays.of (Below.refl _ _)) (gf HS))
 replace HB:=gh ((gf HB).trans hb0)
 replace HZ:=gh ((gf HZ).but hb0 hrne)
 replace HS:=gh (Nat.lt_of_lt_of_le (gf HS) hb0.size)
 replace HR:=gh hR0
 replace HL:=gh (And.intro (Nat.le_trans (gf HL).1 hle0) (Nat.le_trans (gf HL).2 hle0))
 clear hb0 hle0 hR0 hv0 HC0 hX0
 obtain ⟨B1,eB1,hbB1,hsB1,hhB1⟩:=box_new w0 #[.int .i64 i0,.string s0,.string m0,.bool b0,.slice a0 n0 c0,.int .i64 0,.int .i64 j0] 36
 have ne1:r≠w0.heap.size:=by have:=gf HS;omega
 have HQHX1:=HS
 have hbu2:=But.of (r:=r) hbB1
 replace HR:=gh ((gf HR).keep hbB1)
 replace HB:=gh ((gf HB).trans hbu2)
 replace HZ:=gh ((gf HZ).but hbu2 hrne)
 replace HT0:=gh ((gf HT0).keep (Stays.but hbu2 (Nat.lt_succ_of_lt hr)) (Nat.le_refl _))
 replace HS:=gh (Nat.lt_of_lt_of_le (gf HS) hbu2.size)
 have HX1:=gh hhB1
 have HEB1:=gh eB1
 have HSB1:=gh hsB1
 clear eB1 hbB1 hhB1 hsB1
 have HC3:=gh (sees_any (gf HR) (gf HT) ⟨#[59]⟩)
 obtain ⟨bo3,hbo3⟩:∃ b,sees ts (q0) ⟨#[59]⟩=b:=⟨_,rfl⟩
 rw [hbo3] at HC3
 have hY3:=gf HY
 rw [hbo3] at hY3
 replace HY:=gh hY3
 have HO3:=gh hbo3
 clear hY3 hbo3
 go_wp2_with fail
 rw [gf HEB1]
 refine (gf HC3).mono ?_
 rintro e w3 ⟨rfl,hb3⟩
 have hbu4:=But.of (r:=r) hb3
 replace HR:=gh ((gf HR).keep hb3)
 replace HB:=gh ((gf HB).trans hbu4)
 replace HZ:=gh ((gf HZ).but hbu4 hrne)
 replace HX1:=gh ((hbu4.block _ (blk (gf HX1)).1 (Ne.symm ne1)).trans (gf HX1))
 replace HT0:=gh ((gf HT0).keep (Stays.but hbu4 (Nat.lt_succ_of_lt hr)) (Nat.le_refl _))
 replace HS:=gh (Nat.lt_of_lt_of_le (gf HS) hbu4.size)
 clear hb3 HC3
 rcases bo3 with _ | _
 ·have hY3:=gf HY
  simp only [Bool.false_eq_true,if_false] at hY3
  replace HY:=gh hY3
  clear hY3
  obtain ⟨y01,y11,y21,y31,y41,y51,y61⟩:=blk7 (gf HX1)
  obtain ⟨y0,y1,y2,y3,y4,y5,y6⟩:=blk7 (gf HZ)
  obtain ⟨z0,z1,z2,z3,z4,z5,z6⟩:=frz7 (gf HZ)
  have HNode:=gh (gf HT0)
  go_wp2
  exact ret_put rfl rfl rfl (gf HB) hr (gf HZ) (by have h:=gf HY;exact h.symm) (gf HL).1 (gf HR) (Nat.lt_succ_self _) (gf HNode)
 have hY3:=gf HY
 simp only [if_true] at hY3
 replace HY:=gh hY3
 clear hY3
 have HC5:=gh (take_any (gf HR) (gf HT) (nx_txt (gf HT) (gf HR).lt (by rw [sees_txt (gf HO3)];decide)))
 unfold tkV at HC5
 obtain ⟨⟨kk5,T5,at5⟩,hN5⟩:∃ X,nx ts q0=X:=⟨_,rfl⟩
 rw [hN5] at HC5
 have HN5:=gh hN5
 clear hN5
 go_wp2_with fail
 refine (gf HC5).mono ?_
 rintro e w5 ⟨rfl,hb5,hR5⟩
 replace HB:=gh ((gf HB).trans hb5)
 replace HZ:=gh ((gf HZ).but hb5 hrne)
 replace HX1:=gh ((hb5.block _ (blk (gf HX1)).1 (Ne.symm ne1)).trans (gf HX1))
 replace HT0:=gh ((gf HT0).keep (Stays.but hb5 (Nat.lt_succ_of_lt hr)) (Nat.le_refl _))
 replace HS:=gh (Nat.lt_of_lt_of_le (gf HS) hb5.size)
 replace HR:=gh hR5
 replace HL:Hid (p≤q0+1∧lo+1≤q0+1):=And.intro (Nat.le_succ_of_le (gf HL).1) (Nat.succ_le_succ (gf HL).2)
 clear hb5 hR5 HC5
 obtain ⟨B6,eB6,hbB6,hsB6,hhB6⟩:=box_new w5 #[.int .i64 kk5,.string T5,.int .i64 at5] 74
 have ne6:r≠w5.heap.size:=by have:=gf HS;omega
 have HQHX6:=HS
 have hbu7:=But.of (r:=r) hbB6
 replace HR:=gh ((gf HR).keep hbB6)
 replace HB:=gh ((gf HB).trans hbu7)
 replace HZ:=gh ((gf HZ).but hbu7 hrne)
 replace HX1:=gh ((hbu7.block _ (blk (gf HX1)).1 (Ne.symm ne1)).trans (gf HX1))
 replace HT0:=gh ((gf HT0).keep (Stays.but hbu7 (Nat.lt_succ_of_lt hr)) (Nat.le_refl _))
 replace HS:=gh (Nat.lt_of_lt_of_le (gf HS) hbu7.size)
 have HX6:=gh hhB6
 have HEB6:=gh eB6
 have HSB6:=gh hsB6
 clear eB6 hbB6 hhB6 hsB6
 have HC8:=gh (gf hE B6 (q0+1) (gf HL).2 (gf HR))
 go_wp2_with fail
 rw [gf HEB6]
 refine (gf HC8).mono ?_
 intro e w8 h8
 rcases hX8:g .rE d (q0+1) with er | ⟨t8,q8⟩
 ·rw [hX8] at h8
  obtain ⟨ei,en⟩:=er
  have hYe:Y = .error (ei,en):=by have h:=gf HY;rw [hX8] at h;exact h.symm
  subst hYe
  obtain ⟨hb8,h8⟩:=h8
  obtain rfl:e=_:=h8
  have HP:=gh ((gf HB).trans hb8)
  clear hb8 HC8 hX8
  go_wp2
  exact ⟨rfl,gf HP,rfl⟩
 rw [hX8] at h8
 obtain ⟨hb8,hle8,hR8,v8,rfl,hv8⟩:=h8
 have hY8:=gf HY
 rw [hX8] at hY8
 simp only [thenR] at hY8
 replace HY:=gh hY8
 clear hY8
 obtain ⟨i8,j8,s8,m8,b8,a8,n8,c8,rfl⟩:=hv8.form
 have HT8:=gh (hv8.keep (lo':=w.heap.size+1) (Stays.of (Below.refl _ _)) (gf HS))
 replace HB:=gh ((gf HB).trans hb8)
 replace HZ:=gh ((gf HZ).but hb8 hrne)
 replace HX1:=gh ((hb8.block _ (blk (gf HX1)).1 (Ne.symm ne1)).trans (gf HX1))
 replace HX6:=gh ((hb8.block _ (blk (gf HX6)).1 (Ne.symm ne6)).trans (gf HX6))
 replace HT0:=gh ((gf HT0).keep (Stays.but hb8 (Nat.lt_succ_of_lt hr)) (Nat.le_refl _))
 replace HS:=gh (Nat.lt_of_lt_of_le (gf HS) hb8.size)
 replace HR:=gh hR8
 replace HL:=gh (And.intro (Nat.le_trans (gf HL).1 hle8) (Nat.le_trans (gf HL).2 hle8))
 clear hb8 hle8 hR8 hv8 HC8 hX8
 obtain ⟨B9,eB9,hbB9,hsB9,hhB9⟩:=box_new w8 #[.int .i64 i8,.string s8,.string m8,.bool b8,.slice a8 n8 c8,.int .i64 0,.int .i64 j8] 36
 have ne9:r≠w8.heap.size:=by have:=gf HS;omega
 have HQHX9:=HS
 have hbu10:=But.of (r:=r) hbB9
 replace HR:=gh ((gf HR).keep hbB9)
 replace HB:=gh ((gf HB).trans hbu10)
 replace HZ:=gh ((gf HZ).but hbu10 hrne)
 replace HX1:=gh ((hbu10.block _ (blk (gf HX1)).1 (Ne.symm ne1)).trans (gf HX1))
 replace HX6:=gh ((hbu10.block _ (blk (gf HX6)).1 (Ne.symm ne6)).trans (gf HX6))
 replace HT0:=gh ((gf HT0).keep (Stays.but hbu10 (Nat.lt_succ_of_lt hr)) (Nat.le_refl _))
 replace HT8:=gh ((gf HT8).keep (Stays.but hbu10 (Nat.lt_succ_of_lt hr)) (Nat.le_refl _))
 replace HS:=gh (Nat.lt_of_lt_of_le (gf HS) hbu10.size)
 have HX9:=gh hhB9
 have HEB9:=gh eB9
 have HSB9:=gh hsB9
 clear eB9 hbB9 hhB9 hsB9
 have u06:=(blk (gf HX6)).2.1 0 _ rfl
 have u16:=(blk (gf HX6)).2.1 1 _ rfl
 have u26:=(blk (gf HX6)).2.1 2 _ rfl
 obtain ⟨y01,y11,y21,y31,y41,y51,y61⟩:=blk7 (gf HX1)
 obtain ⟨y09,y19,y29,y39,y49,y59,y69⟩:=blk7 (gf HX9)
 rw [←gf HEB9] at u06 u16 u26 y01 y11 y21 y31 y41 y51 y61 y09 y19 y29 y39 y49 y59 y69
 go_wp2_with fail
 rw [gf HEB9]
 clear u06 u16 u26 y01 y11 y21 y31 y41 y51 y61 y09 y19 y29 y39 y49 y59 y69
 refine (made_any _ _ _ _ _ _ _ _).mono ?_
 rintro e w11 ⟨rfl,hb11⟩
 obtain ⟨C11,eC11,hbC11,hsC11,hhC11⟩:=box_new B9 #[.int .i64 i0,.string s0,.string m0,.bool b0,.slice a0 n0 c0,.int .i64 0,.int .i64 j0,.int .i64 i8,.string s8,.string m8,.bool b8,.slice a8 n8 c8,.int .i64 0,.int .i64 j8] 36
 rw [eC11] at hb11
 have hnode:=node (l:=[t0,t8]) (vs:=[[.int .i64 i0,.string s0,.string m0,.bool b0,.slice a0 n0 c0,.int .i64 0,.int .i64 j0],[.int .i64 i8,.string s8,.string m8,.bool b8,.slice a8 n8 c8,.int .i64 0,.int .i64 j8]]) 24 at5 ⟨#[]⟩ ⟨#[]⟩ false eC11 rfl (by simp) rfl (by simp) (gf HS) (fun j v t hv ht=>by
  rcases j with _ | _ | j
  ·obtain rfl:=Option.some.inj hv
   obtain rfl:=Option.some.inj ht
   exact gf HT0
  ·obtain rfl:=Option.some.inj hv
   obtain rfl:=Option.some.inj ht
   exact gf HT8
  ·simp at hv)
 rw [gf HSB9] at hnode
 have hbCb:=hbC11.trans (hb11.mono hbC11.size)
 replace hnode:=hnode.keep (Stays.of hb11) (Nat.le_refl _)
 have hbu12:=But.of (r:=r) hbCb
 replace HR:=gh ((gf HR).keep hbCb)
 replace HB:=gh ((gf HB).trans hbu12)
 replace HZ:=gh ((gf HZ).but hbu12 hrne)
 replace HX1:=gh ((hbu12.block _ (blk (gf HX1)).1 (Ne.symm ne1)).trans (gf HX1))
 replace HX6:=gh ((hbu12.block _ (blk (gf HX6)).1 (Ne.symm ne6)).trans (gf HX6))
 replace HX9:=gh ((hbu12.block _ (blk (gf HX9)).1 (Ne.symm ne9)).trans (gf HX9))
 replace HS:=gh (Nat.lt_of_lt_of_le (gf HS) hbu12.size)
 obtain ⟨y0,y1,y2,y3,y4,y5,y6⟩:=blk7 (gf HZ)
 obtain ⟨z0,z1,z2,z3,z4,z5,z6⟩:=frz7 (gf HZ)
 have HNode:=gh hnode
 go_wp2
 exact ret_put rfl rfl rfl (gf HB) hr (gf HZ) (by have h:=gf HY;rw [gf HN5] at h;exact h.symm) (gf HL).1 (gf HR) (Nat.lt_succ_self _) (gf HNode)
set_option maxRecDepth 100000 in
set_option maxHeartbeats 8000000 in
theorem imp_of {r d lo:Nat} {ts:List (Int×ByteArray×Int)} {g:Ru→Nat→Nat→(Except (Int×Int) (Ex×Nat))} (hT:TsOk ts) (hO:RuC 117 r ts d lo (orR ts g d)) (hI:∀ (w:World) (p:Nat),lo+1≤p→RD w r ts p d→Calls Tryz.prog 73 #[.pointer (some ⟨r,0,none⟩),.bool (begU ts p),.func (.func 115) #[.pointer (some ⟨r,0,none⟩)] #[]] w (PE (g .rI d p) r ts p d w)) {w:World} {p:Nat} (hlo:lo≤p) (hR:RD w r ts p d):Calls Tryz.prog 115 #[.pointer (some ⟨r,0,none⟩)] w (PE (impR ts g d p) r ts p d w):=by
 obtain ⟨Y,hY⟩:∃ Y,impR ts g d p=Y:=⟨_,rfl⟩
 rw [hY]
 unfold impR at hY
 have hr:=hR.rlt
 obtain ⟨A,eA,hbA,hzA,hsA⟩:=zb_new w
 have HB:=gh (But.of (r:=r) hbA)
 have HR:=gh (hR.keep hbA)
 have HZ:=gh hzA
 have HS:Hid (w.heap.size<A.heap.size):=by show _<_;omega
 have HL:Hid (p≤p∧lo≤p):=⟨Nat.le_refl _,hlo⟩
 have HE:=gh eA
 have HT:=gh hT
 have HY:=gh hY
 have hrne:r≠w.heap.size:=by omega
 have hmf:∀ (fn:Fn) (first cap:Array Value) (w:World),(Instr.makeFunc fn first cap).run Tryz.prog w = .ok (.func fn first cap) w:=fun _ _ _ _=>rfl
 replace hO:=gh hO
 replace hI:=gh hI
 clear hlo hR hbA hzA hsA eA hT hY
 go_enter Tryz.func115,Tryz.ntmps115
 have HC0:=gh (gf hO A (p) (gf HL).2 (gf HR))
 go_wp2_with fail
 rw [gf HE]
 refine (gf HC0).mono ?_
 intro e w0 h0
 rcases hX0:orR ts g d (p) with er | ⟨t0,q0⟩
 ·rw [hX0] at h0
  obtain ⟨ei,en⟩:=er
  have hYe:Y = .error (ei,en):=by have h:=gf HY;rw [hX0] at h;exact h.symm
  subst hYe
  obtain ⟨hb0,h0⟩:=h0
  obtain rfl:e=_:=h0
  have HP:=gh ((gf HB).trans hb0)
  clear hb0 HC0 hX0
  go_wp2
  exact ⟨rfl,gf HP,rfl⟩
 rw [hX0] at h0
 obtain ⟨hb0,hle0,hR0,v0,rfl,hv0⟩:=h0
 have hY0:=gf HY
 rw [hX0] at hY0
 simp only [thenR] at hY0
 replace HY:=gh hY0
 clear hY0
 obtain ⟨i0,j0,s0,m0,b0,a0,n0,c0,rfl⟩:=hv0.form
 have HT0:=gh (hv0.keep (lo':=w.heap.size+1) (Stays.of (Below.refl _ _)) (gf HS))
 replace HB:=gh ((gf HB).trans hb0)
 replace HZ:=gh ((gf HZ).but hb0 hrne)
 replace HS:=gh (Nat.lt_of_lt_of_le (gf HS) hb0.size)
 replace HR:=gh hR0
 replace HL:=gh (And.intro (Nat.le_trans (gf HL).1 hle0) (Nat.le_trans (gf HL).2 hle0))
 clear hb0 hle0 hR0 hv0 HC0 hX0
 obtain ⟨B1,eB1,hbB1,hsB1,hhB1⟩:=box_new w0 #[.int .i64 i0,.string s0,.string m0,.bool b0,.slice a0 n0 c0,.int .i64 0,.int .i64 j0] 36
 have ne1:r≠w0.heap.size:=by have:=gf HS;omega
 have hbu2:=But.of (r:=r) hbB1
 replace HR:=gh ((gf HR).keep hbB1)
 replace HB:=gh ((gf HB).trans hbu2)
 replace HZ:=gh ((gf HZ).but hbu2 hrne)
 replace HT0:=gh ((gf HT0).keep (Stays.but hbu2 (Nat.lt_succ_of_lt hr)) (Nat.le_refl _))
 replace HS:=gh (Nat.lt_of_lt_of_le (gf HS) hbu2.size)
 have HX1:=gh hhB1
 have HEB1:=gh eB1
 have HSB1:=gh hsB1
 clear eB1 hbB1 hhB1 hsB1
 have HC3:=gh (sees_any (gf HR) (gf HT) ⟨#[61,61,62]⟩)
 obtain ⟨bo3,hbo3⟩:∃ b,sees ts (q0) ⟨#[61,61,62]⟩=b:=⟨_,rfl⟩
 rw [hbo3] at HC3
 have hY3:=gf HY
 rw [hbo3] at hY3
 replace HY:=gh hY3
 have HO3:=gh hbo3
 clear hY3 hbo3
 go_wp2_with fail
 rw [gf HEB1]
 refine (gf HC3).mono ?_
 rintro e w3 ⟨rfl,hb3⟩
 have hbu4:=But.of (r:=r) hb3
 replace HR:=gh ((gf HR).keep hb3)
 replace HB:=gh ((gf HB).trans hbu4)
 replace HZ:=gh ((gf HZ).but hbu4 hrne)
 replace HX1:=gh ((hbu4.block _ (blk (gf HX1)).1 (Ne.symm ne1)).trans (gf HX1))
 replace HT0:=gh ((gf HT0).keep (Stays.but hbu4 (Nat.lt_succ_of_lt hr)) (Nat.le_refl _))
 replace HS:=gh (Nat.lt_of_lt_of_le (gf HS) hbu4.size)
 clear hb3 HC3
 rcases bo3 with _ | _
 ·have hY3:=gf HY
  simp only [Bool.false_eq_true,if_false] at hY3
  replace HY:=gh hY3
  clear hY3
  obtain ⟨y01,y11,y21,y31,y41,y51,y61⟩:=blk7 (gf HX1)
  obtain ⟨y0,y1,y2,y3,y4,y5,y6⟩:=blk7 (gf HZ)
  obtain ⟨z0,z1,z2,z3,z4,z5,z6⟩:=frz7 (gf HZ)
  have HNode:=gh (gf HT0)
  go_wp2
  exact ret_put rfl rfl rfl (gf HB) hr (gf HZ) (by have h:=gf HY;exact h.symm) (gf HL).1 (gf HR) (Nat.lt_succ_self _) (gf HNode)
 have hY3:=gf HY
 simp only [if_true] at hY3
 replace HY:=gh hY3
 clear hY3
 have HC5:=gh (take_any (gf HR) (gf HT) (nx_txt (gf HT) (gf HR).lt (by rw [sees_txt (gf HO3)];decide)))
 unfold tkV at HC5
 obtain ⟨⟨kk5,T5,at5⟩,hN5⟩:∃ X,nx ts q0=X:=⟨_,rfl⟩
 rw [hN5] at HC5
 have HN5:=gh hN5
 clear hN5
 go_wp2_with fail
 refine (gf HC5).mono ?_
 rintro e w5 ⟨rfl,hb5,hR5⟩
 replace HB:=gh ((gf HB).trans hb5)
 replace HZ:=gh ((gf HZ).but hb5 hrne)
 replace HX1:=gh ((hb5.block _ (blk (gf HX1)).1 (Ne.symm ne1)).trans (gf HX1))
 replace HT0:=gh ((gf HT0).keep (Stays.but hb5 (Nat.lt_succ_of_lt hr)) (Nat.le_refl _))
 replace HS:=gh (Nat.lt_of_lt_of_le (gf HS) hb5.size)
 replace HR:=gh hR5
 replace HL:Hid (p≤q0+1∧lo+1≤q0+1):=And.intro (Nat.le_succ_of_le (gf HL).1) (Nat.succ_le_succ (gf HL).2)
 clear hb5 hR5 HC5
 obtain ⟨B6,eB6,hbB6,hsB6,hhB6⟩:=box_new w5 #[.int .i64 kk5,.string T5,.int .i64 at5] 74
 have ne6:r≠w5.heap.size:=by have:=gf HS;omega
 have hbu7:=But.of (r:=r) hbB6
 replace HR:=gh ((gf HR).keep hbB6)
 replace HB:=gh ((gf HB).trans hbu7)
 replace HZ:=gh ((gf HZ).but hbu7 hrne)
 replace HX1:=gh ((hbu7.block _ (blk (gf HX1)).1 (Ne.symm ne1)).trans (gf HX1))
 replace HT0:=gh ((gf HT0).keep (Stays.but hbu7 (Nat.lt_succ_of_lt hr)) (Nat.le_refl _))
 replace HS:=gh (Nat.lt_of_lt_of_le (gf HS) hbu7.size)
 have HX6:=gh hhB6
 have HEB6:=gh eB6
 have HSB6:=gh hsB6
 clear eB6 hbB6 hhB6 hsB6
 have HC8:=gh (begU_any (gf HR) (gf HT))
 go_wp2_with fail
 rw [gf HEB6]
 refine (gf HC8).mono ?_
 rintro e w8 ⟨rfl,hb8⟩
 have hbu9:=But.of (r:=r) hb8
 replace HR:=gh ((gf HR).keep hb8)
 replace HB:=gh ((gf HB).trans hbu9)
 replace HZ:=gh ((gf HZ).but hbu9 hrne)
 replace HX1:=gh ((hbu9.block _ (blk (gf HX1)).1 (Ne.symm ne1)).trans (gf HX1))
 replace HX6:=gh ((hbu9.block _ (blk (gf HX6)).1 (Ne.symm ne6)).trans (gf HX6))
 replace HT0:=gh ((gf HT0).keep (Stays.but hbu9 (Nat.lt_succ_of_lt hr)) (Nat.le_refl _))
 replace HS:=gh (Nat.lt_of_lt_of_le (gf HS) hbu9.size)
 clear hb8 HC8
 have HC10:=gh (gf hI w8 (q0+1) (gf HL).2 (gf HR))
 go_wp2_with fail
 refine (gf HC10).mono ?_
 intro e w10 h10
 rcases hX10:g .rI d (q0+1) with er | ⟨t10,q10⟩
 ·rw [hX10] at h10
  obtain ⟨ei,en⟩:=er
  have hYe:Y = .error (ei,en):=by have h:=gf HY;rw [hX10] at h;exact h.symm
  subst hYe
  obtain ⟨hb10,h10⟩:=h10
  obtain rfl:e=_:=h10
  have HP:=gh ((gf HB).trans hb10)
  clear hb10 HC10 hX10
  go_wp2
  exact ⟨rfl,gf HP,rfl⟩
 rw [hX10] at h10
 obtain ⟨hb10,hle10,hR10,v10,rfl,hv10⟩:=h10
 have hY10:=gf HY
 rw [hX10] at hY10
 simp only [thenR] at hY10
 replace HY:=gh hY10
 clear hY10
 obtain ⟨i10,j10,s10,m10,b10,a10,n10,c10,rfl⟩:=hv10.form
 have HT10:=gh (hv10.keep (lo':=w.heap.size+1) (Stays.of (Below.refl _ _)) (gf HS))
 replace HB:=gh ((gf HB).trans hb10)
 replace HZ:=gh ((gf HZ).but hb10 hrne)
 replace HX1:=gh ((hb10.block _ (blk (gf HX1)).1 (Ne.symm ne1)).trans (gf HX1))
 replace HX6:=gh ((hb10.block _ (blk (gf HX6)).1 (Ne.symm ne6)).trans (gf HX6))
 replace HT0:=gh ((gf HT0).keep (Stays.but hb10 (Nat.lt_succ_of_lt hr)) (Nat.le_refl _))
 replace HS:=gh (Nat.lt_of_lt_of_le (gf HS) hb10.size)
 replace HR:=gh hR10
 replace HL:=gh (And.intro (Nat.le_trans (gf HL).1 hle10) (Nat.le_trans (gf HL).2 hle10))
 clear hb10 hle10 hR10 hv10 HC10 hX10
 obtain ⟨B11,eB11,hbB11,hsB11,hhB11⟩:=box_new w10 #[.int .i64 i10,.string s10,.string m10,.bool b10,.slice a10 n10 c10,.int .i64 0,.int .i64 j10] 36
 have ne11:r≠w10.heap.size:=by have:=gf HS;omega
 have hbu12:=But.of (r:=r) hbB11
 replace HR:=gh ((gf HR).keep hbB11)
 replace HB:=gh ((gf HB).trans hbu12)
 replace HZ:=gh ((gf HZ).but hbu12 hrne)
 replace HX1:=gh ((hbu12.block _ (blk (gf HX1)).1 (Ne.symm ne1)).trans (gf HX1))
 replace HX6:=gh ((hbu12.block _ (blk (gf HX6)).1 (Ne.symm ne6)).trans (gf HX6))
 replace HT0:=gh ((gf HT0).keep (Stays.but hbu12 (Nat.lt_succ_of_lt hr)) (Nat.le_refl _))
 replace HT10:=gh ((gf HT10).keep (Stays.but hbu12 (Nat.lt_succ_of_lt hr)) (Nat.le_refl _))
 replace HS:=gh (Nat.lt_of_lt_of_le (gf HS) hbu12.size)
 have HX11:=gh hhB11
 have HEB11:=gh eB11
 have HSB11:=gh hsB11
 clear eB11 hbB11 hhB11 hsB11
 have u06:=(blk (gf HX6)).2.1 0 _ rfl
 have u16:=(blk (gf HX6)).2.1 1 _ rfl
 have u26:=(blk (gf HX6)).2.1 2 _ rfl
 obtain ⟨y01,y11,y21,y31,y41,y51,y61⟩:=blk7 (gf HX1)
 obtain ⟨y011,y111,y211,y311,y411,y511,y611⟩:=blk7 (gf HX11)
 rw [←gf HEB11] at u06 u16 u26 y01 y11 y21 y31 y41 y51 y61 y011 y111 y211 y311 y411 y511 y611
 go_wp2_with fail
 rw [gf HEB11]
 clear u06 u16 u26 y01 y11 y21 y31 y41 y51 y61 y011 y111 y211 y311 y411 y511 y611
 refine (made_any _ _ _ _ _ _ _ _).mono ?_
 rintro e w13 ⟨rfl,hb13⟩
 obtain ⟨C13,eC13,hbC13,hsC13,hhC13⟩:=box_new B11 #[.int .i64 i0,.string s0,.string m0,.bool b0,.slice a0 n0 c0,.int .i64 0,.int .i64 j0,.int .i64 i10,.string s10,.string m10,.bool b10,.slice a10 n10 c10,.int .i64 0,.int .i64 j10] 36
 rw [eC13] at hb13
 have hnode:=node (l:=[t0,t10]) (vs:=[[.int .i64 i0,.string s0,.string m0,.bool b0,.slice a0 n0 c0,.int .i64 0,.int .i64 j0],[.int .i64 i10,.string s10,.string m10,.bool b10,.slice a10 n10 c10,.int .i64 0,.int .i64 j10]]) 20 at5 ⟨#[]⟩ ⟨#[]⟩ false eC13 rfl (by simp) rfl (by simp) (gf HS) (fun j v t hv ht=>by
  rcases j with _ | _ | j
  ·obtain rfl:=Option.some.inj hv
   obtain rfl:=Option.some.inj ht
   exact gf HT0
  ·obtain rfl:=Option.some.inj hv
   obtain rfl:=Option.some.inj ht
   exact gf HT10
  ·simp at hv)
 rw [gf HSB11] at hnode
 have hbCb:=hbC13.trans (hb13.mono hbC13.size)
 replace hnode:=hnode.keep (Stays.of hb13) (Nat.le_refl _)
 have hbu14:=But.of (r:=r) hbCb
 replace HR:=gh ((gf HR).keep hbCb)
 replace HB:=gh ((gf HB).trans hbu14)
 replace HZ:=gh ((gf HZ).but hbu14 hrne)
 replace HX1:=gh ((hbu14.block _ (blk (gf HX1)).1 (Ne.symm ne1)).trans (gf HX1))
 replace HX6:=gh ((hbu14.block _ (blk (gf HX6)).1 (Ne.symm ne6)).trans (gf HX6))
 replace HX11:=gh ((hbu14.block _ (blk (gf HX11)).1 (Ne.symm ne11)).trans (gf HX11))
 replace HS:=gh (Nat.lt_of_lt_of_le (gf HS) hbu14.size)
 obtain ⟨y0,y1,y2,y3,y4,y5,y6⟩:=blk7 (gf HZ)
 obtain ⟨z0,z1,z2,z3,z4,z5,z6⟩:=frz7 (gf HZ)
 have HNode:=gh hnode
 go_wp2
 exact ret_put rfl rfl rfl (gf HB) hr (gf HZ) (by have h:=gf HY;rw [gf HN5] at h;exact h.symm) (gf HL).1 (gf HR) (Nat.lt_succ_self _) (gf HNode)
end Go.Proofs.YtfkfnbehdcmgeaaGreatDoor
