/- Package parse: the drawn regions of unary. -/
import Derived.Test.YtfkfnbehdcmgeaaGreatDoorZAD
import Derived.Test.YtfkfnbehdcmgeaaGreatDoorZAE
set_option linter.unusedVariables false
set_option linter.unusedSimpArgs false
namespace Go.Proofs.YtfkfnbehdcmgeaaGreatDoor
open Go Go.RowKit
def RuC1 (f:Nat) (r:Nat) (ts:List (Int×ByteArray×Int)) (d lo:Nat) (X:Nat→(Except (Int×Int) (Ex×Nat))):Prop:=∀ (w:World) (p:Nat),lo≤p→p+1<ts.length→RD w r ts p d→Calls Tryz.prog f #[.pointer (some ⟨r,0,none⟩)] w (PE (X p) r ts p d w)
set_option maxRecDepth 100000 in
set_option maxHeartbeats 8000000 in
theorem within_of {r d lo:Nat} {ts:List (Int×ByteArray×Int)} {g:Ru→Nat→Nat→(Except (Int×Int) (Ex×Nat))} (hT:TsOk ts) (hBr:RuC1 95 r ts d lo (branchR ts g d)) (hBi:RuC1 96 r ts d lo (bindR ts g d)) (hHa:RuC1 97 r ts d lo (tryR ts g d)) (hSe:RuC 98 r ts d lo (seqR ts g d)) {w:World} {p:Nat} (hlo:lo≤p) (hR:RD w r ts p d):Calls Tryz.prog 75 #[.pointer (some ⟨r,0,none⟩)] w (PE (withinR ts g d p) r ts p d w):=by
 obtain ⟨Y,hY⟩:∃ Y,withinR ts g d p=Y:=⟨_,rfl⟩
 rw [hY]
 unfold withinR at hY
 have hr:=hR.rlt
 obtain ⟨A,eA,hbA,hzA,hsA⟩:=zb_new w
 have HB:=gh (But.of (r:=r) hbA)
 have HR:=gh (hR.keep hbA)
 have HZ:=gh hzA
 have HS:Hid (w.heap.size<A.heap.size):=by show _<_;omega
 have HL:Hid (p≤p∧lo≤p):=⟨Nat.le_refl _,hlo⟩
 have HE:=gh eA
 have HT:=gh hT
 have HY:=gh hY
 have hrne:r≠w.heap.size:=by omega
 have hmf:∀ (fn:Fn) (first cap:Array Value) (w:World),(Instr.makeFunc fn first cap).run Tryz.prog w = .ok (.func fn first cap) w:=fun _ _ _ _=>rfl
 replace hBr:=gh hBr
 replace hBi:=gh hBi
 replace hHa:=gh hHa
 replace hSe:=gh hSe
 clear hlo hR hbA hzA hsA eA hT hY
 go_enter Tryz.func75,Tryz.ntmps75
 have HC0:=gh (next_any (gf HR) (gf HT))
 unfold tkV at HC0
 obtain ⟨⟨kk0,T0,at0⟩,hN0⟩:∃ X,nx ts p=X:=⟨_,rfl⟩
 rw [hN0] at HC0
 have HN0:=gh hN0
 clear hN0
 go_wp2_with fail
 rw [gf HE]
 refine (gf HC0).mono ?_
 rintro e w0 ⟨rfl,hb0⟩
 have hbu1:=But.of (r:=r) hb0
 replace HR:=gh ((gf HR).keep hb0)
 replace HB:=gh ((gf HB).trans hbu1)
 replace HZ:=gh ((gf HZ).but hbu1 hrne)
 replace HS:=gh (Nat.lt_of_lt_of_le (gf HS) hbu1.size)
 clear hb0 HC0
 have hf1:=fld1 (.int .i64 kk0) (.string T0) (.int .i64 at0)
 have hx2:txt ts (p)=T0:=by unfold txt;rw [gf HN0]
 by_cases hT2:T0=⟨#[105,102]⟩
 ·have e2:(T0.toList == [105,102])=true:=(eqb T0 ⟨#[105,102]⟩ [105,102] rfl).mp hT2
  have hp1:=nx_txt (gf HT) (gf HR).lt (by rw [hx2,hT2];decide)
  have hY2:=gf HY
  rw [if_pos (hx2.trans hT2)] at hY2
  replace HY:=gh hY2
  replace hp1:=gh hp1
  clear hY2 hx2 hT2
  have HC3:=gh (gf hBr w0 (p) (gf HL).2 (gf hp1) (gf HR))
  go_wp2_with fail
  refine (gf HC3).mono ?_
  intro e w3 h3
  rcases hX3:branchR ts g d (p) with er | ⟨t3,q3⟩
  ·rw [hX3] at h3
   obtain ⟨ei,en⟩:=er
   have hYe:Y = .error (ei,en):=by have h:=gf HY;rw [hX3] at h;exact h.symm
   subst hYe
   obtain ⟨hb3,h3⟩:=h3
   obtain rfl:e=_:=h3
   have HP:=gh ((gf HB).trans hb3)
   clear hb3 HC3 hX3
   go_wp2
   exact ⟨rfl,gf HP,rfl⟩
  rw [hX3] at h3
  obtain ⟨hb3,hle3,hR3,v3,rfl,hv3⟩:=h3
  have hY3:=gf HY
  rw [hX3] at hY3
  replace HY:=gh hY3
  clear hY3
  obtain ⟨i3,j3,s3,m3,b3,a3,n3,c3,rfl⟩:=hv3.form
  have HT3:=gh (hv3.keep (lo':=w.heap.size+1) (Stays.of (Below.refl _ _)) (gf HS))
  replace HB:=gh ((gf HB).trans hb3)
  replace HZ:=gh ((gf HZ).but hb3 hrne)
  replace HS:=gh (Nat.lt_of_lt_of_le (gf HS) hb3.size)
  replace HR:=gh hR3
  replace HL:=gh (And.intro (Nat.le_trans (gf HL).1 hle3) (Nat.le_trans (gf HL).2 hle3))
  clear hb3 hle3 hR3 hv3 HC3 hX3
  obtain ⟨y0,y1,y2,y3,y4,y5,y6⟩:=blk7 (gf HZ)
  obtain ⟨z0,z1,z2,z3,z4,z5,z6⟩:=frz7 (gf HZ)
  have HNode:=gh (gf HT3)
  go_wp2
  exact ret_put rfl rfl rfl (gf HB) hr (gf HZ) (by have h:=gf HY;exact h.symm) (gf HL).1 (gf HR) (Nat.lt_succ_self _) (gf HNode)
 have e2:(T0.toList == [105,102])=false:=by have h:=hT2;rw [eqb T0 ⟨#[105,102]⟩ [105,102] rfl] at h;simpa using h
 have hY2:=gf HY
 rw [if_neg (fun h=>hT2 (hx2.symm.trans h))] at hY2
 replace HY:=gh hY2
 clear hY2 hx2 hT2
 have hx4:txt ts (p)=T0:=by unfold txt;rw [gf HN0]
 by_cases hT4:T0=⟨#[108,101,116]⟩
 ·have e4:(T0.toList == [108,101,116])=true:=(eqb T0 ⟨#[108,101,116]⟩ [108,101,116] rfl).mp hT4
  have hp1:=nx_txt (gf HT) (gf HR).lt (by rw [hx4,hT4];decide)
  have hY4:=gf HY
  rw [if_pos (hx4.trans hT4)] at hY4
  replace HY:=gh hY4
  replace hp1:=gh hp1
  clear hY4 hx4 hT4
  have HC5:=gh (gf hBi w0 (p) (gf HL).2 (gf hp1) (gf HR))
  go_wp2_with fail
  refine (gf HC5).mono ?_
  intro e w5 h5
  rcases hX5:bindR ts g d (p) with er | ⟨t5,q5⟩
  ·rw [hX5] at h5
   obtain ⟨ei,en⟩:=er
   have hYe:Y = .error (ei,en):=by have h:=gf HY;rw [hX5] at h;exact h.symm
   subst hYe
   obtain ⟨hb5,h5⟩:=h5
   obtain rfl:e=_:=h5
   have HP:=gh ((gf HB).trans hb5)
   clear hb5 HC5 hX5
   go_wp2
   exact ⟨rfl,gf HP,rfl⟩
  rw [hX5] at h5
  obtain ⟨hb5,hle5,hR5,v5,rfl,hv5⟩:=h5
  have hY5:=gf HY
  rw [hX5] at hY5
  replace HY:=gh hY5
  clear hY5
  obtain ⟨i5,j5,s5,m5,b5,a5,n5,c5,rfl⟩:=hv5.form
  have HT5:=gh (hv5.keep (lo':=w.heap.size+1) (Stays.of (Below.refl _ _)) (gf HS))
  replace HB:=gh ((gf HB).trans hb5)
  replace HZ:=gh ((gf HZ).but hb5 hrne)
  replace HS:=gh (Nat.lt_of_lt_of_le (gf HS) hb5.size)
  replace HR:=gh hR5
  replace HL:=gh (And.intro (Nat.le_trans (gf HL).1 hle5) (Nat.le_trans (gf HL).2 hle5))
  clear hb5 hle5 hR5 hv5 HC5 hX5
  obtain ⟨y0,y1,y2,y3,y4,y5,y6⟩:=blk7 (gf HZ)
  obtain ⟨z0,z1,z2,z3,z4,z5,z6⟩:=frz7 (gf HZ)
  have HNode:=gh (gf HT5)
  go_wp2
  exact ret_put rfl rfl rfl (gf HB) hr (gf HZ) (by have h:=gf HY;exact h.symm) (gf HL).1 (gf HR) (Nat.lt_succ_self _) (gf HNode)
 have e4:(T0.toList == [108,101,116])=false:=by have h:=hT4;rw [eqb T0 ⟨#[108,101,116]⟩ [108,101,116] rfl] at h;simpa using h
 have hY4:=gf HY
 rw [if_neg (fun h=>hT4 (hx4.symm.trans h))] at hY4
 replace HY:=gh hY4
 clear hY4 hx4 hT4
 have hx6:txt ts (p)=T0:=by unfold txt;rw [gf HN0]
 by_cases hT6:T0=⟨#[116,114,121]⟩
 ·have e6:(T0.toList == [116,114,121])=true:=(eqb T0 ⟨#[116,114,121]⟩ [116,114,121] rfl).mp hT6
  have hp1:=nx_txt (gf HT) (gf HR).lt (by rw [hx6,hT6];decide)
  have hY6:=gf HY
  rw [if_pos (hx6.trans hT6)] at hY6
  replace HY:=gh hY6
  replace hp1:=gh hp1
  clear hY6 hx6 hT6
  have HC7:=gh (gf hHa w0 (p) (gf HL).2 (gf hp1) (gf HR))
  go_wp2_with fail
  refine (gf HC7).mono ?_
  intro e w7 h7
  rcases hX7:tryR ts g d (p) with er | ⟨t7,q7⟩
  ·rw [hX7] at h7
   obtain ⟨ei,en⟩:=er
   have hYe:Y = .error (ei,en):=by have h:=gf HY;rw [hX7] at h;exact h.symm
   subst hYe
   obtain ⟨hb7,h7⟩:=h7
   obtain rfl:e=_:=h7
   have HP:=gh ((gf HB).trans hb7)
   clear hb7 HC7 hX7
   go_wp2
   exact ⟨rfl,gf HP,rfl⟩
  rw [hX7] at h7
  obtain ⟨hb7,hle7,hR7,v7,rfl,hv7⟩:=h7
  have hY7:=gf HY
  rw [hX7] at hY7
  replace HY:=gh hY7
  clear hY7
  obtain ⟨i7,j7,s7,m7,b7,a7,n7,c7,rfl⟩:=hv7.form
  have HT7:=gh (hv7.keep (lo':=w.heap.size+1) (Stays.of (Below.refl _ _)) (gf HS))
  replace HB:=gh ((gf HB).trans hb7)
  replace HZ:=gh ((gf HZ).but hb7 hrne)
  replace HS:=gh (Nat.lt_of_lt_of_le (gf HS) hb7.size)
  replace HR:=gh hR7
  replace HL:=gh (And.intro (Nat.le_trans (gf HL).1 hle7) (Nat.le_trans (gf HL).2 hle7))
  clear hb7 hle7 hR7 hv7 HC7 hX7
  obtain ⟨y0,y1,y2,y3,y4,y5,y6⟩:=blk7 (gf HZ)
  obtain ⟨z0,z1,z2,z3,z4,z5,z6⟩:=frz7 (gf HZ)
  have HNode:=gh (gf HT7)
  go_wp2
  exact ret_put rfl rfl rfl (gf HB) hr (gf HZ) (by have h:=gf HY;exact h.symm) (gf HL).1 (gf HR) (Nat.lt_succ_self _) (gf HNode)
 have e6:(T0.toList == [116,114,121])=false:=by have h:=hT6;rw [eqb T0 ⟨#[116,114,121]⟩ [116,114,121] rfl] at h;simpa using h
 have hY6:=gf HY
 rw [if_neg (fun h=>hT6 (hx6.symm.trans h))] at hY6
 replace HY:=gh hY6
 clear hY6 hx6 hT6
 have HC8:=gh (gf hSe w0 (p) (gf HL).2 (gf HR))
 go_wp2_with fail
 refine (gf HC8).mono ?_
 intro e w8 h8
 rcases hX8:seqR ts g d (p) with er | ⟨t8,q8⟩
 ·rw [hX8] at h8
  obtain ⟨ei,en⟩:=er
  have hYe:Y = .error (ei,en):=by have h:=gf HY;rw [hX8] at h;exact h.symm
  subst hYe
  obtain ⟨hb8,h8⟩:=h8
  obtain rfl:e=_:=h8
  have HP:=gh ((gf HB).trans hb8)
  clear hb8 HC8 hX8
  go_wp2
  exact ⟨rfl,gf HP,rfl⟩
 rw [hX8] at h8
 obtain ⟨hb8,hle8,hR8,v8,rfl,hv8⟩:=h8
 have hY8:=gf HY
 rw [hX8] at hY8
 replace HY:=gh hY8
 clear hY8
 obtain ⟨i8,j8,s8,m8,b8,a8,n8,c8,rfl⟩:=hv8.form
 have HT8:=gh (hv8.keep (lo':=w.heap.size+1) (Stays.of (Below.refl _ _)) (gf HS))
 replace HB:=gh ((gf HB).trans hb8)
 replace HZ:=gh ((gf HZ).but hb8 hrne)
 replace HS:=gh (Nat.lt_of_lt_of_le (gf HS) hb8.size)
 replace HR:=gh hR8
 replace HL:=gh (And.intro (Nat.le_trans (gf HL).1 hle8) (Nat.le_trans (gf HL).2 hle8))
 clear hb8 hle8 hR8 hv8 HC8 hX8
 obtain ⟨y0,y1,y2,y3,y4,y5,y6⟩:=blk7 (gf HZ)
 obtain ⟨z0,z1,z2,z3,z4,z5,z6⟩:=frz7 (gf HZ)
 have HNode:=gh (gf HT8)
 go_wp2
 exact ret_put rfl rfl rfl (gf HB) hr (gf HZ) (by have h:=gf HY;exact h.symm) (gf HL).1 (gf HR) (Nat.lt_succ_self _) (gf HNode)
def stunary_r3 (W:World) (r:Nat) (ts:List (Int×ByteArray×Int)) (p d q6:Nat) (X:(Except (Int×Int) (Ex×Nat))) (ai:Int) (T:ByteArray) (n:Nat) (s:Nat→Value) (w:World):Prop:=match n with
 |0=>w=W.drew
 |1=>∃ t q,X = .ok (t,q)∧But r W w∧RD w r ts q d∧p≤q∧IsE w W.heap.size (s 2) t
 |2=>∃ t q b,X = .ok (t,q)∧s 3 = .slice (some ⟨b,0,none⟩) 1 1∧But r W w∧RD w r ts q d∧p≤q∧IsE w W.heap.size (.agg #[.int .i64 7,.string ⟨#[]⟩,.string ⟨#[]⟩,.bool false,.slice (some ⟨b,0,none⟩) 1 1,.int .i64 0,.int .i64 ai]) (.mk 7 ⟨#[]⟩ ⟨#[]⟩ false [t] ai)
 |3=>∃ t q b,X = .ok (t,q)∧s 4 = .agg #[.int .i64 7,.string ⟨#[]⟩,.string ⟨#[]⟩,.bool false,.slice (some ⟨b,0,none⟩) 1 1,.int .i64 0,.int .i64 ai]∧But r W w∧RD w r ts q d∧p≤q∧IsE w W.heap.size (.agg #[.int .i64 7,.string ⟨#[]⟩,.string ⟨#[]⟩,.bool false,.slice (some ⟨b,0,none⟩) 1 1,.int .i64 0,.int .i64 ai]) (.mk 7 ⟨#[]⟩ ⟨#[]⟩ false [t] ai)
 |_=>∃ t q b W2,X = .ok (t,q)∧But r W W2∧RD W2 r ts q d∧p≤q∧IsE W2 W.heap.size (.agg #[.int .i64 7,.string ⟨#[]⟩,.string ⟨#[]⟩,.bool false,.slice (some ⟨b,0,none⟩) 1 1,.int .i64 0,.int .i64 ai]) (.mk 7 ⟨#[]⟩ ⟨#[]⟩ false [t] ai)∧w=set7 W2 q6 (.int .i64 7) (.string ⟨#[]⟩) (.string ⟨#[]⟩) (.bool false) (.slice (some ⟨b,0,none⟩) 1 1) (.int .i64 0) (.int .i64 ai)
theorem stunary_r3_at {W:World} {r p d q6:Nat} {ts:List (Int×ByteArray×Int)} {X:(Except (Int×Int) (Ex×Nat))} {ai:Int} {T:ByteArray} {n:Nat} {s:Nat→Value} {w:World} (h:stunary_r3 W r ts p d q6 X ai T n s w):∀ q,q<W.heap.size→q≠q6→r≠q→w.heap[q]?=W.heap[q]?:=by
 intro q3 hq hne hr
 rcases n with _ | _ | _ | _ | n
 ·obtain rfl:w=W.drew:=h
  rfl
 ·obtain ⟨t,q,-,hb,-⟩:=h
  exact hb.block q3 hq (Ne.symm hr)
 ·obtain ⟨t,q,b,-,-,hb,-⟩:=h
  exact hb.block q3 hq (Ne.symm hr)
 ·obtain ⟨t,q,b,-,-,hb,-⟩:=h
  exact hb.block q3 hq (Ne.symm hr)
 ·obtain ⟨t,q,b,W2,-,hb,-,-,-,rfl⟩:=h
  unfold set7
  rw [same7 hne]
  exact hb.block q3 hq (Ne.symm hr)
set_option maxRecDepth 100000 in
set_option maxHeartbeats 4000000 in
theorem unary_r3 {Q:Exit→Act→World→Prop} {a0:Act} {W:World} {r p d q3 q6:Nat} {ts:List (Int×ByteArray×Int)} {X:(Except (Int×Int) (Ex×Nat))} {kk ai:Int} {T:ByteArray} (hN:a0.tmps.size=40) (h0:a0.tmps[0]?=some (.pointer (some ⟨r,0,none⟩))) (h2:a0.tmps[2]?=some (.pointer (some ⟨q6,0,none⟩))) (h3:a0.tmps[3]?=some (.pointer (some ⟨q3,0,none⟩)))
  (b3:W.heap[q3]?=some (.cells #[.int .i64 kk,.string T,.int .i64 ai] 74)) (z6:ZB W q6) (n1:r≠q3) (n2:r≠q6) (n3:q3≠q6) (hC:Calls Tryz.prog 127 #[.pointer (some ⟨r,0,none⟩)] W.drew (PE X r ts p d W.drew))
  (herr:∀ (a:Act) (w:World) (ei en:Int),X = .error (ei,en)→a.defers=a0.defers→But r W w→Q (.panic [{ v:=.iface 89 (.agg #[.int .i64 ei,.int .i64 en]),recovered:=false }]) a w)
  (hend:∀ (a:Act) (W2:World) (t:Ex) (q b:Nat),X = .ok (t,q)→a.defers=a0.defers→(∀ k,k∈((List.range 40).filter fun i => !([9,10,11,12,13].contains i))→a.tmps[k]?=a0.tmps[k]?)→But r W W2→RD W2 r ts q d→p≤q→IsE W2 W.heap.size (.agg #[.int .i64 7,.string ⟨#[]⟩,.string ⟨#[]⟩,.bool false,.slice (some ⟨b,0,none⟩) 1 1,.int .i64 0,.int .i64 ai]) (.mk 7 ⟨#[]⟩ ⟨#[]⟩ false [t] ai)→Q .normal a (set7 W2 q6 (.int .i64 7) (.string ⟨#[]⟩) (.string ⟨#[]⟩) (.bool false) (.slice (some ⟨b,0,none⟩) 1 1) (.int .i64 0) (.int .i64 ai))) :
  (Code.region 3 (regionOf Tryz.f126 3).toArray true).wp Tryz.prog Q a0 W:=by
 have hl:(regionOf Tryz.f126 3).length=6:=by kernel_rfl
 have hds:((List.range 5).all fun i=>((regionOf Tryz.f126 3).getD i default).dst.isSome)=true:=by kernel_rfl
 have bx:∀ {n:Nat} {s:Nat→Value} {w:World},stunary_r3 W r ts p d q6 X ai T n s w→w.heap[q3]?=some (.cells #[.int .i64 kk,.string T,.int .i64 ai] 74):=fun h=>(stunary_r3_at h q3 (blk b3).1 n3 n1).trans b3
 have hk3:3∈((List.range 40).filter fun i => !([9,10,11,12,13].contains i)):=by decide
 have hk2:2∈((List.range 40).filter fun i => !([9,10,11,12,13].contains i)):=by decide
 have hk0:0∈((List.range 40).filter fun i => !([9,10,11,12,13].contains i)):=by decide
 refine wp_region_any (by kernel_rfl) ?_
 refine seqN (l:=(regionOf Tryz.f126 3)) 40 ((List.range 40).filter fun i => !([9,10,11,12,13].contains i)) [2,3,4,5] (fun j v=>(j=0→v = .agg #[.int .i64 kk,.string T,.int .i64 ai])∧(j=1→v = .pointer (some ⟨r,0,none⟩))) (stunary_r3 W r ts p d q6 X ai T) (by kernel_rfl) hN (by decide) (by rw [hl];decide) ?_ ?_ ?_ rfl ?_ ?_ ?_
 ·intro k hk
  have hk3:k=0∨k=1∨k=2:=by simp at hk;omega
  rcases hk3 with rfl | rfl | rfl
  ·show (preds ((regionOf Tryz.f126 3).getD 3 default)).contains 2=true
   kernel_rfl
  ·show (preds ((regionOf Tryz.f126 3).getD 4 default)).contains 3=true
   kernel_rfl
  ·show (preds ((regionOf Tryz.f126 3).getD 5 default)).contains 4=true
   kernel_rfl
 ·intro i o ho hd
  have hi:i<6:=by rw [←hl];exact (List.getElem?_eq_some_iff.1 ho).1
  have he:(regionOf Tryz.f126 3).getD i default=o:=by simp [List.getD,ho]
  rcases Nat.lt_or_ge i 5 with h | h
  ·have:=List.all_eq_true.1 hds i (List.mem_range.2 h)
   rw [he,hd] at this
   cases this
  ·obtain rfl:i=5:=by omega
   exact ⟨by decide,fun v=>⟨(fun h=>absurd h (by decide)),(fun h=>absurd h (by decide))⟩⟩
 ·intro n s s' w h hs
  have e1:s 2=s' 2:=h 0 (by decide) (by kernel_rfl)
  have e2:s 3=s' 3:=h 1 (by decide) (by kernel_rfl)
  have e3:s 4=s' 4:=h 2 (by decide) (by kernel_rfl)
  rcases n with _ | _ | _ | _ | n
  ·exact hs
  ·obtain ⟨t,q,g1,g2,g3,g4,g5⟩:=hs
   exact ⟨t,q,g1,g2,g3,g4,e1▸g5⟩
  ·obtain ⟨t,q,b,g1,g2,g3⟩:=hs
   exact ⟨t,q,b,g1,e2▸g2,g3⟩
  ·obtain ⟨t,q,b,g1,g2,g3⟩:=hs
   exact ⟨t,q,b,g1,e3▸g2,g3⟩
  ·exact hs
 ·intro i hi hni a w n s hd hsz hk hp hn hs
  rw [hl] at hi
  have hii:i=0∨i=1:=by simp at hni;omega
  have ke3:a.eval (.tmp 3) = .pointer (some ⟨q3,0,none⟩):=getD_of ((hk 3 hk3).trans h3)
  have ke0:a.eval (.tmp 0) = .pointer (some ⟨r,0,none⟩):=getD_of ((hk 0 hk0).trans h0)
  have cc:=bx hs
  rcases hii with rfl | rfl
  ·exact st_want (wnone rfl) (op_load ke3 (ld_Tok cc) ⟨_,rfl,rfl,⟨fun _=>rfl,(fun h=>absurd h (by decide))⟩⟩)
  ·exact st_want (wnone rfl) (op_move ⟨_,rfl,rfl,⟨(fun h=>absurd h (by decide)),fun _=>ke0⟩⟩)
 ·intro k hk a w hd hsz hkp hp hs
  have hk4:k=0∨k=1∨k=2∨k=3:=by simp at hk;omega
  have ke2:a.tmps.getD 2 undef = .pointer (some ⟨q6,0,none⟩):=getD_of ((hkp 2 hk2).trans h2)
  rcases hk4 with rfl | rfl | rfl | rfl
  ·obtain rfl:w=W.drew:=hs
   have e1:a.tmps.getD 10 undef = .pointer (some ⟨r,0,none⟩):=(hp 1 (by kernel_rfl)).2 rfl
   refine st_want (wnone rfl) (op_callP enter_unb ?_)
   have hargs:(#[Operand.tmp 10]).map a.eval = #[.pointer (some ⟨r,0,none⟩)]:=by
    simp only [List.map_toArray,List.map_cons,List.map_nil,Act.eval]
    rw [e1]
   rw [hargs]
   refine hC.mono ?_
   intro e w' h'
   rcases hX:X with er | ⟨t,q⟩
   ·rw [hX] at h'
    obtain ⟨ei,en⟩:=er
    obtain ⟨hb,h'⟩:=h'
    obtain rfl:e=_:=h'
    exact .inr ⟨_,rfl,herr a w' ei en hX hd ((But.of ((Below.refl _ W).drew)).trans hb)⟩
   ·rw [hX] at h'
    obtain ⟨hb,hle,hR,v,rfl,hv⟩:=h'
    exact .inl ⟨v,rfl,v,rfl,(fun _=>⟨(fun h=>absurd h (by decide)),(fun h=>absurd h (by decide))⟩),t,q,(by first | rfl | exact hX),((But.of ((Below.refl _ W).drew)).trans hb),hR,hle,hv⟩
  ·obtain ⟨t,q,hX,hb,hR,hle,hv⟩:=hs
   have hv':IsE w W.heap.size (a.tmps.getD 11 undef) t:=hv
   obtain ⟨i0,i6,s1,s2,b3,a4,n4,c4,e1⟩:=hv'.form
   rw [e1] at hv'
   have hnode:=node (w:=w) (lo:=W.heap.size) (l:=[t]) (vs:=[[.int .i64 i0,.string s1,.string s2,.bool b3,.slice a4 n4 c4,.int .i64 0,.int .i64 i6]]) (cs:=#[.int .i64 i0,.string s1,.string s2,.bool b3,.slice a4 n4 c4,.int .i64 0,.int .i64 i6]) (ty:=36) 7 ai ⟨#[]⟩ ⟨#[]⟩ false rfl rfl (by simp) rfl (by simp) hb.size (fun j v t' hv ht=>by
    rcases j with _ | j
    ·obtain rfl:=Option.some.inj hv
     obtain rfl:=Option.some.inj ht
     exact hv'
    ·simp at hv)
   have hB:Below w.heap.size w (w.alloc (.cells #[.int .i64 i0,.string s1,.string s2,.bool b3,.slice a4 n4 c4,.int .i64 0,.int .i64 i6] 36)):=(Below.refl _ w).alloc (Nat.le_refl _) _
   exact st_want (wnone rfl) (op_bs1E e1 ⟨_,rfl,(fun _=>⟨(fun h=>absurd h (by decide)),(fun h=>absurd h (by decide))⟩),t,q,w.heap.size,hX,rfl,hb.trans (But.of hB),hR.keep hB,hle,hnode⟩)
  ·obtain ⟨t,q,b,hX,hsl,hb,hR,hle,hv⟩:=hs
   have e1:a.tmps.getD 9 undef = .agg #[.int .i64 kk,.string T,.int .i64 ai]:=(hp 0 (by kernel_rfl)).1 rfl
   have e2:a.tmps.getD 12 undef = .slice (some ⟨b,0,none⟩) 1 1:=hsl
   refine st_want (wnone rfl) (op_call enter_made ?_)
   have hargs:(#[Operand.const (.int .i64 7),.tmp 9,.tmp 12]).map a.eval = #[.int .i64 7,.agg #[.int .i64 kk,.string T,.int .i64 ai],.slice (some ⟨b,0,none⟩) 1 1]:=by
    simp only [List.map_toArray,List.map_cons,List.map_nil,Act.eval]
    rw [e1,e2]
   rw [hargs]
   refine (made_any _ _ _ _ _ _ _ _).mono ?_
   rintro ex w' ⟨rfl,hbw⟩
   exact ⟨_,rfl,_,rfl,(fun _=>⟨(fun h=>absurd h (by decide)),(fun h=>absurd h (by decide))⟩),t,q,b,hX,rfl,hb.trans (But.of hbw),hR.keep hbw,hle,hv.keep (Stays.of hbw) (Nat.le_refl _)⟩
  ·obtain ⟨t,q,b,hX,hnd,hb,hR,hle,hv⟩:=hs
   have e2:a.tmps.getD 13 undef = .agg #[.int .i64 7,.string ⟨#[]⟩,.string ⟨#[]⟩,.bool false,.slice (some ⟨b,0,none⟩) 1 1,.int .i64 0,.int .i64 ai]:=hnd
   have hz:ZB w q6:=(hb.block q6 (blk z6).1 (Ne.symm n2)).trans z6
   exact st_want (wnone rfl) (op_stE ke2 e2 hz ⟨undef,rfl,(fun h=>absurd (show false=true from h) (by decide)),t,q,b,w,hX,hb,hR,hle,hv,rfl⟩)
 ·intro a w hd hsz hk hp hs
  obtain ⟨t,q,b,W2,hX,hb,hR,hle,hv,rfl⟩:=hs
  exact hend a W2 t q b hX hd hk hb hR hle hv
def stunary_r5 (W:World) (r:Nat) (ts:List (Int×ByteArray×Int)) (p d q6:Nat) (X:(Except (Int×Int) (Ex×Nat))) (ai:Int) (T:ByteArray) (n:Nat) (s:Nat→Value) (w:World):Prop:=match n with
 |0=>w=W.drew
 |1=>∃ t q,X = .ok (t,q)∧But r W w∧RD w r ts q d∧p≤q∧IsE w W.heap.size (s 2) t
 |2=>∃ t q b,X = .ok (t,q)∧s 3 = .slice (some ⟨b,0,none⟩) 1 1∧But r W w∧RD w r ts q d∧p≤q∧IsE w W.heap.size (.agg #[.int .i64 8,.string ⟨#[]⟩,.string ⟨#[]⟩,.bool false,.slice (some ⟨b,0,none⟩) 1 1,.int .i64 0,.int .i64 ai]) (.mk 8 ⟨#[]⟩ ⟨#[]⟩ false [t] ai)
 |3=>∃ t q b,X = .ok (t,q)∧s 4 = .agg #[.int .i64 8,.string ⟨#[]⟩,.string ⟨#[]⟩,.bool false,.slice (some ⟨b,0,none⟩) 1 1,.int .i64 0,.int .i64 ai]∧But r W w∧RD w r ts q d∧p≤q∧IsE w W.heap.size (.agg #[.int .i64 8,.string ⟨#[]⟩,.string ⟨#[]⟩,.bool false,.slice (some ⟨b,0,none⟩) 1 1,.int .i64 0,.int .i64 ai]) (.mk 8 ⟨#[]⟩ ⟨#[]⟩ false [t] ai)
 |_=>∃ t q b W2,X = .ok (t,q)∧But r W W2∧RD W2 r ts q d∧p≤q∧IsE W2 W.heap.size (.agg #[.int .i64 8,.string ⟨#[]⟩,.string ⟨#[]⟩,.bool false,.slice (some ⟨b,0,none⟩) 1 1,.int .i64 0,.int .i64 ai]) (.mk 8 ⟨#[]⟩ ⟨#[]⟩ false [t] ai)∧w=set7 W2 q6 (.int .i64 8) (.string ⟨#[]⟩) (.string ⟨#[]⟩) (.bool false) (.slice (some ⟨b,0,none⟩) 1 1) (.int .i64 0) (.int .i64 ai)
theorem stunary_r5_at {W:World} {r p d q6:Nat} {ts:List (Int×ByteArray×Int)} {X:(Except (Int×Int) (Ex×Nat))} {ai:Int} {T:ByteArray} {n:Nat} {s:Nat→Value} {w:World} (h:stunary_r5 W r ts p d q6 X ai T n s w):∀ q,q<W.heap.size→q≠q6→r≠q→w.heap[q]?=W.heap[q]?:=by
 intro q3 hq hne hr
 rcases n with _ | _ | _ | _ | n
 ·obtain rfl:w=W.drew:=h
  rfl
 ·obtain ⟨t,q,-,hb,-⟩:=h
  exact hb.block q3 hq (Ne.symm hr)
 ·obtain ⟨t,q,b,-,-,hb,-⟩:=h
  exact hb.block q3 hq (Ne.symm hr)
 ·obtain ⟨t,q,b,-,-,hb,-⟩:=h
  exact hb.block q3 hq (Ne.symm hr)
 ·obtain ⟨t,q,b,W2,-,hb,-,-,-,rfl⟩:=h
  unfold set7
  rw [same7 hne]
  exact hb.block q3 hq (Ne.symm hr)
set_option maxRecDepth 100000 in
set_option maxHeartbeats 4000000 in
theorem unary_r5 {Q:Exit→Act→World→Prop} {a0:Act} {W:World} {r p d q3 q6:Nat} {ts:List (Int×ByteArray×Int)} {X:(Except (Int×Int) (Ex×Nat))} {kk ai:Int} {T:ByteArray} (hN:a0.tmps.size=40) (h0:a0.tmps[0]?=some (.pointer (some ⟨r,0,none⟩))) (h2:a0.tmps[2]?=some (.pointer (some ⟨q6,0,none⟩))) (h3:a0.tmps[3]?=some (.pointer (some ⟨q3,0,none⟩)))
  (b3:W.heap[q3]?=some (.cells #[.int .i64 kk,.string T,.int .i64 ai] 74)) (z6:ZB W q6) (n1:r≠q3) (n2:r≠q6) (n3:q3≠q6) (hC:Calls Tryz.prog 127 #[.pointer (some ⟨r,0,none⟩)] W.drew (PE X r ts p d W.drew))
  (herr:∀ (a:Act) (w:World) (ei en:Int),X = .error (ei,en)→a.defers=a0.defers→But r W w→Q (.panic [{ v:=.iface 89 (.agg #[.int .i64 ei,.int .i64 en]),recovered:=false }]) a w)
  (hend:∀ (a:Act) (W2:World) (t:Ex) (q b:Nat),X = .ok (t,q)→a.defers=a0.defers→(∀ k,k∈((List.range 40).filter fun i => !([17,18,19,20,21].contains i))→a.tmps[k]?=a0.tmps[k]?)→But r W W2→RD W2 r ts q d→p≤q→IsE W2 W.heap.size (.agg #[.int .i64 8,.string ⟨#[]⟩,.string ⟨#[]⟩,.bool false,.slice (some ⟨b,0,none⟩) 1 1,.int .i64 0,.int .i64 ai]) (.mk 8 ⟨#[]⟩ ⟨#[]⟩ false [t] ai)→Q .normal a (set7 W2 q6 (.int .i64 8) (.string ⟨#[]⟩) (.string ⟨#[]⟩) (.bool false) (.slice (some ⟨b,0,none⟩) 1 1) (.int .i64 0) (.int .i64 ai))) :
  (Code.region 5 (regionOf Tryz.f126 5).toArray true).wp Tryz.prog Q a0 W:=by
 have hl:(regionOf Tryz.f126 5).length=6:=by kernel_rfl
 have hds:((List.range 5).all fun i=>((regionOf Tryz.f126 5).getD i default).dst.isSome)=true:=by kernel_rfl
 have bx:∀ {n:Nat} {s:Nat→Value} {w:World},stunary_r5 W r ts p d q6 X ai T n s w→w.heap[q3]?=some (.cells #[.int .i64 kk,.string T,.int .i64 ai] 74):=fun h=>(stunary_r5_at h q3 (blk b3).1 n3 n1).trans b3
 have hk3:3∈((List.range 40).filter fun i => !([17,18,19,20,21].contains i)):=by decide
 have hk2:2∈((List.range 40).filter fun i => !([17,18,19,20,21].contains i)):=by decide
 have hk0:0∈((List.range 40).filter fun i => !([17,18,19,20,21].contains i)):=by decide
 refine wp_region_any (by kernel_rfl) ?_
 refine seqN (l:=(regionOf Tryz.f126 5)) 40 ((List.range 40).filter fun i => !([17,18,19,20,21].contains i)) [2,3,4,5] (fun j v=>(j=0→v = .agg #[.int .i64 kk,.string T,.int .i64 ai])∧(j=1→v = .pointer (some ⟨r,0,none⟩))) (stunary_r5 W r ts p d q6 X ai T) (by kernel_rfl) hN (by decide) (by rw [hl];decide) ?_ ?_ ?_ rfl ?_ ?_ ?_
 ·intro k hk
  have hk3:k=0∨k=1∨k=2:=by simp at hk;omega
  rcases hk3 with rfl | rfl | rfl
  ·show (preds ((regionOf Tryz.f126 5).getD 3 default)).contains 2=true
   kernel_rfl
  ·show (preds ((regionOf Tryz.f126 5).getD 4 default)).contains 3=true
   kernel_rfl
  ·show (preds ((regionOf Tryz.f126 5).getD 5 default)).contains 4=true
   kernel_rfl
 ·intro i o ho hd
  have hi:i<6:=by rw [←hl];exact (List.getElem?_eq_some_iff.1 ho).1
  have he:(regionOf Tryz.f126 5).getD i default=o:=by simp [List.getD,ho]
  rcases Nat.lt_or_ge i 5 with h | h
  ·have:=List.all_eq_true.1 hds i (List.mem_range.2 h)
   rw [he,hd] at this
   cases this
  ·obtain rfl:i=5:=by omega
   exact ⟨by decide,fun v=>⟨(fun h=>absurd h (by decide)),(fun h=>absurd h (by decide))⟩⟩
 ·intro n s s' w h hs
  have e1:s 2=s' 2:=h 0 (by decide) (by kernel_rfl)
  have e2:s 3=s' 3:=h 1 (by decide) (by kernel_rfl)
  have e3:s 4=s' 4:=h 2 (by decide) (by kernel_rfl)
  rcases n with _ | _ | _ | _ | n
  ·exact hs
  ·obtain ⟨t,q,g1,g2,g3,g4,g5⟩:=hs
   exact ⟨t,q,g1,g2,g3,g4,e1▸g5⟩
  ·obtain ⟨t,q,b,g1,g2,g3⟩:=hs
   exact ⟨t,q,b,g1,e2▸g2,g3⟩
  ·obtain ⟨t,q,b,g1,g2,g3⟩:=hs
   exact ⟨t,q,b,g1,e3▸g2,g3⟩
  ·exact hs
 ·intro i hi hni a w n s hd hsz hk hp hn hs
  rw [hl] at hi
  have hii:i=0∨i=1:=by simp at hni;omega
  have ke3:a.eval (.tmp 3) = .pointer (some ⟨q3,0,none⟩):=getD_of ((hk 3 hk3).trans h3)
  have ke0:a.eval (.tmp 0) = .pointer (some ⟨r,0,none⟩):=getD_of ((hk 0 hk0).trans h0)
  have cc:=bx hs
  rcases hii with rfl | rfl
  ·exact st_want (wnone rfl) (op_load ke3 (ld_Tok cc) ⟨_,rfl,rfl,⟨fun _=>rfl,(fun h=>absurd h (by decide))⟩⟩)
  ·exact st_want (wnone rfl) (op_move ⟨_,rfl,rfl,⟨(fun h=>absurd h (by decide)),fun _=>ke0⟩⟩)
 ·intro k hk a w hd hsz hkp hp hs
  have hk4:k=0∨k=1∨k=2∨k=3:=by simp at hk;omega
  have ke2:a.tmps.getD 2 undef = .pointer (some ⟨q6,0,none⟩):=getD_of ((hkp 2 hk2).trans h2)
  rcases hk4 with rfl | rfl | rfl | rfl
  ·obtain rfl:w=W.drew:=hs
   have e1:a.tmps.getD 18 undef = .pointer (some ⟨r,0,none⟩):=(hp 1 (by kernel_rfl)).2 rfl
   refine st_want (wnone rfl) (op_callP enter_unb ?_)
   have hargs:(#[Operand.tmp 18]).map a.eval = #[.pointer (some ⟨r,0,none⟩)]:=by
    simp only [List.map_toArray,List.map_cons,List.map_nil,Act.eval]
    rw [e1]
   rw [hargs]
   refine hC.mono ?_
   intro e w' h'
   rcases hX:X with er | ⟨t,q⟩
   ·rw [hX] at h'
    obtain ⟨ei,en⟩:=er
    obtain ⟨hb,h'⟩:=h'
    obtain rfl:e=_:=h'
    exact .inr ⟨_,rfl,herr a w' ei en hX hd ((But.of ((Below.refl _ W).drew)).trans hb)⟩
   ·rw [hX] at h'
    obtain ⟨hb,hle,hR,v,rfl,hv⟩:=h'
    exact .inl ⟨v,rfl,v,rfl,(fun _=>⟨(fun h=>absurd h (by decide)),(fun h=>absurd h (by decide))⟩),t,q,(by first | rfl | exact hX),((But.of ((Below.refl _ W).drew)).trans hb),hR,hle,hv⟩
  ·obtain ⟨t,q,hX,hb,hR,hle,hv⟩:=hs
   have hv':IsE w W.heap.size (a.tmps.getD 19 undef) t:=hv
   obtain ⟨i0,i6,s1,s2,b3,a4,n4,c4,e1⟩:=hv'.form
   rw [e1] at hv'
   have hnode:=node (w:=w) (lo:=W.heap.size) (l:=[t]) (vs:=[[.int .i64 i0,.string s1,.string s2,.bool b3,.slice a4 n4 c4,.int .i64 0,.int .i64 i6]]) (cs:=#[.int .i64 i0,.string s1,.string s2,.bool b3,.slice a4 n4 c4,.int .i64 0,.int .i64 i6]) (ty:=36) 8 ai ⟨#[]⟩ ⟨#[]⟩ false rfl rfl (by simp) rfl (by simp) hb.size (fun j v t' hv ht=>by
    rcases j with _ | j
    ·obtain rfl:=Option.some.inj hv
     obtain rfl:=Option.some.inj ht
     exact hv'
    ·simp at hv)
   have hB:Below w.heap.size w (w.alloc (.cells #[.int .i64 i0,.string s1,.string s2,.bool b3,.slice a4 n4 c4,.int .i64 0,.int .i64 i6] 36)):=(Below.refl _ w).alloc (Nat.le_refl _) _
   exact st_want (wnone rfl) (op_bs1E e1 ⟨_,rfl,(fun _=>⟨(fun h=>absurd h (by decide)),(fun h=>absurd h (by decide))⟩),t,q,w.heap.size,hX,rfl,hb.trans (But.of hB),hR.keep hB,hle,hnode⟩)
  ·obtain ⟨t,q,b,hX,hsl,hb,hR,hle,hv⟩:=hs
   have e1:a.tmps.getD 17 undef = .agg #[.int .i64 kk,.string T,.int .i64 ai]:=(hp 0 (by kernel_rfl)).1 rfl
   have e2:a.tmps.getD 20 undef = .slice (some ⟨b,0,none⟩) 1 1:=hsl
   refine st_want (wnone rfl) (op_call enter_made ?_)
   have hargs:(#[Operand.const (.int .i64 8),.tmp 17,.tmp 20]).map a.eval = #[.int .i64 8,.agg #[.int .i64 kk,.string T,.int .i64 ai],.slice (some ⟨b,0,none⟩) 1 1]:=by
    simp only [List.map_toArray,List.map_cons,List.map_nil,Act.eval]
    rw [e1,e2]
   rw [hargs]
   refine (made_any _ _ _ _ _ _ _ _).mono ?_
   rintro ex w' ⟨rfl,hbw⟩
   exact ⟨_,rfl,_,rfl,(fun _=>⟨(fun h=>absurd h (by decide)),(fun h=>absurd h (by decide))⟩),t,q,b,hX,rfl,hb.trans (But.of hbw),hR.keep hbw,hle,hv.keep (Stays.of hbw) (Nat.le_refl _)⟩
  ·obtain ⟨t,q,b,hX,hnd,hb,hR,hle,hv⟩:=hs
   have e2:a.tmps.getD 21 undef = .agg #[.int .i64 8,.string ⟨#[]⟩,.string ⟨#[]⟩,.bool false,.slice (some ⟨b,0,none⟩) 1 1,.int .i64 0,.int .i64 ai]:=hnd
   have hz:ZB w q6:=(hb.block q6 (blk z6).1 (Ne.symm n2)).trans z6
   exact st_want (wnone rfl) (op_stE ke2 e2 hz ⟨undef,rfl,(fun h=>absurd (show false=true from h) (by decide)),t,q,b,w,hX,hb,hR,hle,hv,rfl⟩)
 ·intro a w hd hsz hk hp hs
  obtain ⟨t,q,b,W2,hX,hb,hR,hle,hv,rfl⟩:=hs
  exact hend a W2 t q b hX hd hk hb hR hle hv
end Go.Proofs.YtfkfnbehdcmgeaaGreatDoor
