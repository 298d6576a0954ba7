/- Package parse: brackets. -/
import Derived.Test.YtfkfnbehdcmgeaaGreatDoorZAI
import Derived.Test.YtfkfnbehdcmgeaaGreatDoorZAE
set_option linter.unusedVariables false
set_option linter.unusedSimpArgs false
namespace Go.Proofs.YtfkfnbehdcmgeaaGreatDoor
open Go Go.RowKit
section
variable {X:Exit→Act→World→Prop} {K:Act→World→Prop} {a:Act} {w:World} {dst:Option Tmp} {ty:TypeId} {pos:String} {af:Array Edge} {gd:Option (Nat×Bool)}
set_option maxRecDepth 100000 in
set_option maxHeartbeats 4000000 in
theorem op_bldN {k1 k2:Nat} {T:ByteArray} {ai:Int} (h1:a.tmps.getD k1 undef = .string T) (h2:a.tmps.getD k2 undef = .int .i64 ai) (h:K (a.put dst (.agg #[.int .i64 1,.string ⟨#[]⟩,.string T,.bool false,.slice none 0 0,.int .i64 0,.int .i64 ai])) w):Oper.wp Tryz.prog ⟨dst,.build 36 #[(0,.const (.int .i64 1)),(2,.tmp k1),(6,.tmp k2)],ty,pos,af,gd⟩ a w K X:=by
 have e1:a.eval (.tmp k1) = .string T:=h1
 have e2:a.eval (.tmp k2) = .int .i64 ai:=h2
 have e3:a.eval (.const (.int .i64 1)) = .int .i64 1:=rfl
 unfold Oper.wp
 simp only [execOp,List.map_toArray,List.map_cons,List.map_nil,e1,e2,e3]
 go_simp
 exact h
end
def stN (W:World) (r:Nat) (ts:List (Int×ByteArray×Int)) (p d q6:Nat) (ai:Int) (T:ByteArray) (n:Nat) (_:Nat→Value) (w:World):Prop:=match n with
 |0=>w=W.drew
 |1=>But r W w∧RD w r ts (p+1) d
 |_=>∃ W2,But r W W2∧RD W2 r ts (p+1) d∧w=set7 W2 q6 (.int .i64 1) (.string ⟨#[]⟩) (.string T) (.bool false) (.slice none 0 0) (.int .i64 0) (.int .i64 ai)
theorem stN_at {W:World} {r p d q6:Nat} {ts:List (Int×ByteArray×Int)} {ai:Int} {T:ByteArray} {n:Nat} {s:Nat→Value} {w:World} (h:stN W r ts p d q6 ai T n s w):∀ q,q<W.heap.size→q≠q6→r≠q→w.heap[q]?=W.heap[q]?:=by
 intro q3 hq hne hr
 rcases n with _ | _ | n
 ·obtain rfl:w=W.drew:=h
  rfl
 ·exact h.1.block q3 hq (Ne.symm hr)
 ·obtain ⟨W2,hb,-,rfl⟩:=h
  unfold set7
  rw [same7 hne]
  exact hb.block q3 hq (Ne.symm hr)
def spN (r q3:Nat) (kk ai:Int) (T:ByteArray):List Value:=[.pointer (some ⟨r,0,none⟩),.agg #[.int .i64 kk,.string T,.int .i64 ai],.string T,.pointer (some ⟨q3,2,none⟩),.int .i64 ai,.agg #[.int .i64 1,.string ⟨#[]⟩,.string T,.bool false,.slice none 0 0,.int .i64 0,.int .i64 ai]]
set_option maxRecDepth 100000 in
set_option maxHeartbeats 4000000 in
theorem prim_r3 {Q:Exit→Act→World→Prop} {a0:Act} {W:World} {r p d q3 q6:Nat} {ts:List (Int×ByteArray×Int)} {kk ai:Int} {T:ByteArray} (hN:a0.tmps.size=50) (h0:a0.tmps[0]?=some (.pointer (some ⟨r,0,none⟩))) (h2:a0.tmps[2]?=some (.pointer (some ⟨q6,0,none⟩))) (h3:a0.tmps[3]?=some (.pointer (some ⟨q3,0,none⟩)))
  (b3:W.heap[q3]?=some (.cells #[.int .i64 kk,.string T,.int .i64 ai] 74)) (z6:ZB W q6) (n1:r≠q3) (n2:r≠q6) (n3:q3≠q6) (hC:Calls Tryz.prog 87 #[.pointer (some ⟨r,0,none⟩)] W.drew fun e w'=>e = .returned (.agg #[.int .i64 kk,.string T,.int .i64 ai])∧But r W.drew w'∧RD w' r ts (p+1) d)
  (hend:∀ (a:Act) (W2:World),a.defers=a0.defers→(∀ k,k∈((List.range 50).filter fun i => !([10,11,12,13,14,15].contains i))→a.tmps[k]?=a0.tmps[k]?)→But r W W2→RD W2 r ts (p+1) d→Q .normal a (set7 W2 q6 (.int .i64 1) (.string ⟨#[]⟩) (.string T) (.bool false) (.slice none 0 0) (.int .i64 0) (.int .i64 ai))) :
  (Code.region 3 (regionOf Tryz.f128 3).toArray true).wp Tryz.prog Q a0 W:=by
 have hl:(regionOf Tryz.f128 3).length=7:=by kernel_rfl
 have hds:((List.range 6).all fun i=>((regionOf Tryz.f128 3).getD i default).dst.isSome)=true:=by kernel_rfl
 have bx:∀ {n:Nat} {s:Nat→Value} {w:World},stN W r ts p d q6 ai T n s w→w.heap[q3]?=some (.cells #[.int .i64 kk,.string T,.int .i64 ai] 74):=fun h=>(stN_at h q3 (blk b3).1 n3 n1).trans b3
 have hk3:3∈((List.range 50).filter fun i => !([10,11,12,13,14,15].contains i)):=by decide
 have hk2:2∈((List.range 50).filter fun i => !([10,11,12,13,14,15].contains i)):=by decide
 have hk0:0∈((List.range 50).filter fun i => !([10,11,12,13,14,15].contains i)):=by decide
 refine wp_region_any (by kernel_rfl) ?_
 refine seqN (l:=(regionOf Tryz.f128 3)) 50 ((List.range 50).filter fun i => !([10,11,12,13,14,15].contains i)) [1,6] (fun j v=>j<6→v=(spN r q3 kk ai T).getD j undef) (stN W r ts p d q6 ai T) (by kernel_rfl) hN (by decide) (by rw [hl];decide) ?_ ?_ ?_ rfl ?_ ?_ ?_
 ·intro k hk
  have hk3:k=0:=by simp at hk;omega
  subst hk3
  show (preds ((regionOf Tryz.f128 3).getD 6 default)).contains 1=true
  kernel_rfl
 ·intro i o ho hd
  have hi:i<7:=by rw [←hl];exact (List.getElem?_eq_some_iff.1 ho).1
  have he:(regionOf Tryz.f128 3).getD i default=o:=by simp [List.getD,ho]
  rcases Nat.lt_or_ge i 6 with h | h
  ·have:=List.all_eq_true.1 hds i (List.mem_range.2 h)
   rw [he,hd] at this
   cases this
  ·obtain rfl:i=6:=by omega
   exact ⟨by decide,fun v h=>absurd h (by decide)⟩
 ·intro n s s' w h hs
  exact hs
 ·intro i hi hni a w n s hd hsz hk hp hn hs
  rw [hl] at hi
  have hii:i=0∨i=2∨i=3∨i=4∨i=5:=by simp at hni;omega
  have ke3:a.eval (.tmp 3) = .pointer (some ⟨q3,0,none⟩):=getD_of ((hk 3 hk3).trans h3)
  have ke0:a.eval (.tmp 0) = .pointer (some ⟨r,0,none⟩):=getD_of ((hk 0 hk0).trans h0)
  have cc:=bx hs
  rcases hii with rfl | rfl | rfl | rfl | rfl
  ·exact st_want (wnone rfl) (op_move ⟨_,rfl,rfl,fun _=>ke0⟩)
  ·have e2:a.eval (.tmp 11) = .agg #[.int .i64 kk,.string T,.int .i64 ai]:=hp 1 (by kernel_rfl) (by decide)
   exact st_want (wnone rfl) (op_fieldV e2 (fld1 _ _ _ w) ⟨_,rfl,rfl,fun _=>rfl⟩)
  ·exact st_want (wnone rfl) (op_fieldAddr ke3 (fa_tok q3 2 w (by omega)) ⟨_,rfl,rfl,fun _=>rfl⟩)
  ·have e1:a.eval (.tmp 13) = .pointer (some ⟨q3,2,none⟩):=hp 3 (by kernel_rfl) (by decide)
   exact st_want (wnone rfl) (op_load e1 (ld_int ((blk cc).2.1 2 _ rfl)) ⟨_,rfl,rfl,fun _=>rfl⟩)
  ·have e1:a.tmps.getD 12 undef = .string T:=hp 2 (by kernel_rfl) (by decide)
   have e2:a.tmps.getD 14 undef = .int .i64 ai:=hp 4 (by kernel_rfl) (by decide)
   exact st_want (wnone rfl) (op_bldN e1 e2 ⟨_,rfl,rfl,fun _=>rfl⟩)
 ·intro k hk a w hd hsz hkp hp hs
  have hk4:k=0∨k=1:=by simp at hk;omega
  have ke2:a.tmps.getD 2 undef = .pointer (some ⟨q6,0,none⟩):=getD_of ((hkp 2 hk2).trans h2)
  rcases hk4 with rfl | rfl
  ·obtain rfl:w=W.drew:=hs
   have e1:a.tmps.getD 10 undef = .pointer (some ⟨r,0,none⟩):=hp 0 (by kernel_rfl) (by decide)
   refine st_want (wnone rfl) (op_call enter_take ?_)
   have hargs:(#[Operand.tmp 10]).map a.eval = #[.pointer (some ⟨r,0,none⟩)]:=by
    simp only [List.map_toArray,List.map_cons,List.map_nil,Act.eval]
    rw [e1]
   rw [hargs]
   refine hC.mono ?_
   rintro e w' ⟨rfl,hb,hR⟩
   exact ⟨_,rfl,_,rfl,(fun _ _=>rfl),((But.of ((Below.refl _ W).drew)).trans hb),hR⟩
  ·obtain ⟨hb,hR⟩:=hs
   have e2:a.tmps.getD 15 undef = .agg #[.int .i64 1,.string ⟨#[]⟩,.string T,.bool false,.slice none 0 0,.int .i64 0,.int .i64 ai]:=hp 5 (by kernel_rfl) (by decide)
   have hz:ZB w q6:=(hb.block q6 (blk z6).1 (Ne.symm n2)).trans z6
   exact st_want (wnone rfl) (op_stE ke2 e2 hz ⟨undef,rfl,(fun h=>absurd (show false=true from h) (by decide)),w,hb,hR,rfl⟩)
 ·intro a w hd hsz hk hp hs
  obtain ⟨W2,hb,hR,rfl⟩:=hs
  exact hend a W2 hd hk hb hR
end Go.Proofs.YtfkfnbehdcmgeaaGreatDoor
namespace Go.Proofs.YtfkfnbehdcmgeaaGreatDoor
open Go Go.RowKit
set_option maxRecDepth 100000 in
set_option maxHeartbeats 8000000 in
theorem primary_of {r d lo:Nat} {ts:List (Int×ByteArray×Int)} {g:Ru→Nat→Nat→(Except (Int×Int) (Ex×Nat))} (hT:TsOk ts) (hBr:∀ (w:World) (p:Nat) (kk ai:Int) (T:ByteArray),lo+1≤p→RD w r ts p d→Calls Tryz.prog 129 #[.pointer (some ⟨r,0,none⟩),.agg #[.int .i64 kk,.string T,.int .i64 ai]] w (PE (brackR ts g d ai p) r ts p d w)) (hCa:∀ (w:World) (p:Nat),lo≤p→p+1<ts.length→txt ts (p+1)=⟨#[40]⟩→RD w r ts p d→Calls Tryz.prog 130 #[.pointer (some ⟨r,0,none⟩)] w (PE (callR ts g d p) r ts p d w)) {w:World} {p:Nat} (hlo:lo≤p) (hR:RD w r ts p d):Calls Tryz.prog 128 #[.pointer (some ⟨r,0,none⟩)] w (PE (primR ts g d p) r ts p d w):=by
 obtain ⟨Y,hY⟩:∃ Y,primR ts g d p=Y:=⟨_,rfl⟩
 rw [hY]
 unfold primR at hY
 have hr:=hR.rlt
 obtain ⟨A,eA,hbA,hzA,hsA⟩:=zb_new w
 have HB:=gh (But.of (r:=r) hbA)
 have HR:=gh (hR.keep hbA)
 have HZ:=gh hzA
 have HS:Hid (w.heap.size<A.heap.size):=by show _<_;omega
 have HL:Hid (p≤p∧lo≤p):=⟨Nat.le_refl _,hlo⟩
 have HE:=gh eA
 have HT:=gh hT
 have HY:=gh hY
 have hrne:r≠w.heap.size:=by omega
 have hmf:∀ (fn:Fn) (first cap:Array Value) (w:World),(Instr.makeFunc fn first cap).run Tryz.prog w = .ok (.func fn first cap) w:=fun _ _ _ _=>rfl
 replace hBr:=gh hBr
 replace hCa:=gh hCa
 clear hlo hR hbA hzA hsA eA hT hY
 go_enter Tryz.func128,Tryz.ntmps128
 have HC0:=gh (next_any (gf HR) (gf HT))
 unfold tkV at HC0
 obtain ⟨⟨kk0,T0,at0⟩,hN0⟩:∃ X,nx ts p=X:=⟨_,rfl⟩
 rw [hN0] at HC0
 have HN0:=gh hN0
 clear hN0
 go_wp2_with fail
 rw [gf HE]
 refine (gf HC0).mono ?_
 rintro e w0 ⟨rfl,hb0⟩
 have hbu1:=But.of (r:=r) hb0
 replace HR:=gh ((gf HR).keep hb0)
 replace HB:=gh ((gf HB).trans hbu1)
 replace HZ:=gh ((gf HZ).but hbu1 hrne)
 replace HS:=gh (Nat.lt_of_lt_of_le (gf HS) hbu1.size)
 clear hb0 HC0
 obtain ⟨B2,eB2,hbB2,hsB2,hhB2⟩:=box_new w0 #[.int .i64 kk0,.string T0,.int .i64 at0] 74
 have ne2:r≠w0.heap.size:=by have:=gf HS;omega
 have HQHX2:=HS
 have hbu3:=But.of (r:=r) hbB2
 replace HR:=gh ((gf HR).keep hbB2)
 replace HB:=gh ((gf HB).trans hbu3)
 replace HZ:=gh ((gf HZ).but hbu3 hrne)
 replace HS:=gh (Nat.lt_of_lt_of_le (gf HS) hbu3.size)
 have HX2:=gh hhB2
 have HEB2:=gh eB2
 have HSB2:=gh hsB2
 clear eB2 hbB2 hhB2 hsB2
 have u02:=(blk (gf HX2)).2.1 0 _ rfl
 have u12:=(blk (gf HX2)).2.1 1 _ rfl
 have u22:=(blk (gf HX2)).2.1 2 _ rfl
 rw [←gf HEB2] at u02 u12 u22
 by_cases hk1:kk0=3
 ·subst hk1
  have hY4:=gf HY
  rw [if_pos (by rw [gf HN0])] at hY4
  replace HY:=gh hY4
  clear hY4
  have hp1:=nx_kind (gf HT) (gf HR).lt (by rw [gf HN0];exact (by decide:(3:Int)≠0))
  replace hp1:=gh hp1
  have HC5:=gh ((by have h:=take_any ((gf HR).keep ((Below.refl _ B2).drew)) (gf HT) (gf hp1);unfold tkV at h;rw [gf HN0] at h;exact h:Calls Tryz.prog 87 #[.pointer (some ⟨r,0,none⟩)] B2.drew fun e w'=>e = .returned (.agg #[.int .i64 3,.string T0,.int .i64 at0])∧But r B2.drew w'∧RD w' r ts (p+1) d))
  go_wp2_with fail
  rw [gf HEB2]
  have n35:w0.heap.size≠w.heap.size:=by have:=gf HQHX2;omega
  refine prim_r3 rfl rfl rfl rfl (gf HX2) (gf HZ) ne2 hrne n35 (gf HC5) ?_
  intro a W2 hd hk hb hR
  have HF:=gh (And.intro hd (And.intro ((hk 2 (by decide)).trans rfl) (And.intro ((gf HB).trans hb) (And.intro ((gf HZ).but hb hrne) hR))))
  clear hd hk hb hR
  go_wp2
  obtain ⟨hd,h2,hb,hz,hR⟩:=gf HF
  exact ret_put rfl h2 hd hb hr hz (by have h:=gf HY;simp only [txt] at h;rw [gf HN0] at h;exact h.symm) (Nat.le_succ_of_le (gf HL).1) hR (Nat.lt_succ_self _) (leaf _ _ _ _ _)
 ·have ek1:(kk0 == 3)=false:=by simpa using hk1
  have ek2:decide (kk0=3)=false:=by simpa using hk1
  have hY6:=gf HY
  rw [if_neg (fun h=>hk1 (by have h1:=h;rw [gf HN0] at h1;exact h1))] at hY6
  replace HY:=gh hY6
  clear hY6
  have hk3:=hk1
  clear hk1
  have HC7:=gh (takeIf_any (gf HR) (gf HT) (s:=⟨#[116,114,117,101]⟩) (by decide))
  obtain ⟨bo7,hbo7⟩:∃ b,sees ts (p) ⟨#[116,114,117,101]⟩=b:=⟨_,rfl⟩
  rw [hbo7] at HC7
  have hY7:=gf HY
  rw [hbo7] at hY7
  replace HY:=gh hY7
  have HO7:=gh hbo7
  clear hY7 hbo7
  go_wp2_with fail
  rw [gf HEB2]
  refine (gf HC7).mono ?_
  rintro e w7 ⟨rfl,hb7,hR7⟩
  replace HB:=gh ((gf HB).trans hb7)
  replace HZ:=gh ((gf HZ).but hb7 hrne)
  replace HX2:=gh ((hb7.block _ (blk (gf HX2)).1 (Ne.symm ne2)).trans (gf HX2))
  replace HS:=gh (Nat.lt_of_lt_of_le (gf HS) hb7.size)
  replace HR:=gh hR7
  clear hb7 hR7 HC7
  rcases bo7 with _ | _
  rotate_left
  ·have hY7:=gf HY
   simp only [if_true] at hY7
   replace HY:=gh hY7
   have hRR:=gf HR
   rw [if_pos rfl] at hRR
   replace HR:=gh hRR
   clear hY7 hRR
   replace HL:Hid (p≤p+1∧lo+1≤p+1):=And.intro (Nat.le_succ_of_le (gf HL).1) (Nat.succ_le_succ (gf HL).2)
   have u02:=(blk (gf HX2)).2.1 0 _ rfl
   have u12:=(blk (gf HX2)).2.1 1 _ rfl
   have u22:=(blk (gf HX2)).2.1 2 _ rfl
   obtain ⟨y0,y1,y2,y3,y4,y5,y6⟩:=blk7 (gf HZ)
   obtain ⟨z0,z1,z2,z3,z4,z5,z6⟩:=frz7 (gf HZ)
   have HNode:=gh (leaf (W:=w7) (lo:=w.heap.size+1) 2 at0 ⟨#[]⟩ ⟨#[]⟩ true)
   go_wp2
   exact ret_put rfl rfl rfl (gf HB) hr (gf HZ) (by have h:=gf HY;rw [gf HN0] at h;exact h.symm) (gf HL).1 (gf HR) (Nat.lt_succ_self _) (gf HNode)
  have hY7:=gf HY
  simp only [Bool.false_eq_true,if_false] at hY7
  replace HY:=gh hY7
  have hRR:=gf HR
  rw [if_neg Bool.false_ne_true] at hRR
  replace HR:=gh hRR
  clear hY7 hRR
  have HC8:=gh (takeIf_any (gf HR) (gf HT) (s:=⟨#[102,97,108,115,101]⟩) (by decide))
  obtain ⟨bo8,hbo8⟩:∃ b,sees ts (p) ⟨#[102,97,108,115,101]⟩=b:=⟨_,rfl⟩
  rw [hbo8] at HC8
  have hY8:=gf HY
  rw [hbo8] at hY8
  replace HY:=gh hY8
  have HO8:=gh hbo8
  clear hY8 hbo8
  go_wp2_with fail
  refine (gf HC8).mono ?_
  rintro e w8 ⟨rfl,hb8,hR8⟩
  replace HB:=gh ((gf HB).trans hb8)
  replace HZ:=gh ((gf HZ).but hb8 hrne)
  replace HX2:=gh ((hb8.block _ (blk (gf HX2)).1 (Ne.symm ne2)).trans (gf HX2))
  replace HS:=gh (Nat.lt_of_lt_of_le (gf HS) hb8.size)
  replace HR:=gh hR8
  clear hb8 hR8 HC8
  rcases bo8 with _ | _
  rotate_left
  ·have hY8:=gf HY
   simp only [if_true] at hY8
   replace HY:=gh hY8
   have hRR:=gf HR
   rw [if_pos rfl] at hRR
   replace HR:=gh hRR
   clear hY8 hRR
   replace HL:Hid (p≤p+1∧lo+1≤p+1):=And.intro (Nat.le_succ_of_le (gf HL).1) (Nat.succ_le_succ (gf HL).2)
   have u02:=(blk (gf HX2)).2.1 0 _ rfl
   have u12:=(blk (gf HX2)).2.1 1 _ rfl
   have u22:=(blk (gf HX2)).2.1 2 _ rfl
   have HC9:=gh (made_any 2 kk0 at0 T0 none 0 0 w8)
   go_wp2_with fail
   refine (gf HC9).mono ?_
   rintro e w9 ⟨rfl,hb9⟩
   have hbu10:=But.of (r:=r) hb9
   replace HR:=gh ((gf HR).keep hb9)
   replace HB:=gh ((gf HB).trans hbu10)
   replace HZ:=gh ((gf HZ).but hbu10 hrne)
   replace HX2:=gh ((hbu10.block _ (blk (gf HX2)).1 (Ne.symm ne2)).trans (gf HX2))
   replace HS:=gh (Nat.lt_of_lt_of_le (gf HS) hbu10.size)
   clear hb9 HC9
   obtain ⟨y0,y1,y2,y3,y4,y5,y6⟩:=blk7 (gf HZ)
   obtain ⟨z0,z1,z2,z3,z4,z5,z6⟩:=frz7 (gf HZ)
   have HNode:=gh (leaf (W:=w9) (lo:=w.heap.size+1) 2 at0 ⟨#[]⟩ ⟨#[]⟩ false)
   go_wp2
   exact ret_put rfl rfl rfl (gf HB) hr (gf HZ) (by have h:=gf HY;rw [gf HN0] at h;exact h.symm) (gf HL).1 (gf HR) (Nat.lt_succ_self _) (gf HNode)
  have hY8:=gf HY
  simp only [Bool.false_eq_true,if_false] at hY8
  replace HY:=gh hY8
  have hRR:=gf HR
  rw [if_neg Bool.false_ne_true] at hRR
  replace HR:=gh hRR
  clear hY8 hRR
  have HC11:=gh (takeIf_any (gf HR) (gf HT) (s:=⟨#[40]⟩) (by decide))
  obtain ⟨bo11,hbo11⟩:∃ b,sees ts (p) ⟨#[40]⟩=b:=⟨_,rfl⟩
  rw [hbo11] at HC11
  have hY11:=gf HY
  rw [hbo11] at hY11
  replace HY:=gh hY11
  have HO11:=gh hbo11
  clear hY11 hbo11
  go_wp2_with fail
  refine (gf HC11).mono ?_
  rintro e w11 ⟨rfl,hb11,hR11⟩
  replace HB:=gh ((gf HB).trans hb11)
  replace HZ:=gh ((gf HZ).but hb11 hrne)
  replace HX2:=gh ((hb11.block _ (blk (gf HX2)).1 (Ne.symm ne2)).trans (gf HX2))
  replace HS:=gh (Nat.lt_of_lt_of_le (gf HS) hb11.size)
  replace HR:=gh hR11
  clear hb11 hR11 HC11
  rcases bo11 with _ | _
  rotate_left
  ·have hY11:=gf HY
   simp only [if_true] at hY11
   replace HY:=gh hY11
   have hRR:=gf HR
   rw [if_pos rfl] at hRR
   replace HR:=gh hRR
   clear hY11 hRR
   replace HL:Hid (p≤p+1∧lo+1≤p+1):=And.intro (Nat.le_succ_of_le (gf HL).1) (Nat.succ_le_succ (gf HL).2)
   have u02:=(blk (gf HX2)).2.1 0 _ rfl
   have u12:=(blk (gf HX2)).2.1 1 _ rfl
   have u22:=(blk (gf HX2)).2.1 2 _ rfl
   replace HY:Hid (brackR ts g d at0 (p+1)=Y):=by have h:=gf HY;rw [gf HN0] at h;exact h
   have HC12:=gh (gf hBr w11 (p+1) kk0 at0 T0 (gf HL).2 (gf HR))
   go_wp2_with fail
   refine (gf HC12).mono ?_
   intro e w12 h12
   rcases hX12:brackR ts g d at0 (p+1) with er | ⟨t12,q12⟩
   ·rw [hX12] at h12
    obtain ⟨ei,en⟩:=er
    have hYe:Y = .error (ei,en):=by have h:=gf HY;rw [hX12] at h;exact h.symm
    subst hYe
    obtain ⟨hb12,h12⟩:=h12
    obtain rfl:e=_:=h12
    have HP:=gh ((gf HB).trans hb12)
    clear hb12 HC12 hX12
    go_wp2
    exact ⟨rfl,gf HP,rfl⟩
   rw [hX12] at h12
   obtain ⟨hb12,hle12,hR12,v12,rfl,hv12⟩:=h12
   have hY12:=gf HY
   rw [hX12] at hY12
   replace HY:=gh hY12
   clear hY12
   obtain ⟨i12,j12,s12,m12,b12,a12,n12,c12,rfl⟩:=hv12.form
   have HT12:=gh (hv12.keep (lo':=w.heap.size+1) (Stays.of (Below.refl _ _)) (gf HS))
   replace HB:=gh ((gf HB).trans hb12)
   replace HZ:=gh ((gf HZ).but hb12 hrne)
   replace HX2:=gh ((hb12.block _ (blk (gf HX2)).1 (Ne.symm ne2)).trans (gf HX2))
   replace HS:=gh (Nat.lt_of_lt_of_le (gf HS) hb12.size)
   replace HR:=gh hR12
   replace HL:=gh (And.intro (Nat.le_trans (gf HL).1 hle12) (Nat.le_trans (gf HL).2 hle12))
   clear hb12 hle12 hR12 hv12 HC12 hX12
   obtain ⟨y0,y1,y2,y3,y4,y5,y6⟩:=blk7 (gf HZ)
   obtain ⟨z0,z1,z2,z3,z4,z5,z6⟩:=frz7 (gf HZ)
   have HNode:=gh (gf HT12)
   go_wp2
   exact ret_put rfl rfl rfl (gf HB) hr (gf HZ) (by have h:=gf HY;exact h.symm) (gf HL).1 (gf HR) (Nat.lt_succ_self _) (gf HNode)
  have hY11:=gf HY
  simp only [Bool.false_eq_true,if_false] at hY11
  replace HY:=gh hY11
  have hRR:=gf HR
  rw [if_neg Bool.false_ne_true] at hRR
  replace HR:=gh hRR
  clear hY11 hRR
  have ek3:=ek1
  have ek4:=ek2
  clear ek1 ek2
  by_cases hk1:kk0=1
  ·subst hk1
   have u02:=(blk (gf HX2)).2.1 0 _ rfl
   have u12:=(blk (gf HX2)).2.1 1 _ rfl
   have u22:=(blk (gf HX2)).2.1 2 _ rfl
   have hp1:p+1<ts.length:=nx_kind (gf HT) (gf HR).lt (by rw [gf HN0];exact (by decide:(1:Int)≠0))
   have HC13:=gh (behind_any (gf HR) (gf HT) hp1)
   replace hp1:=gh hp1
   unfold tkV at HC13
   obtain ⟨⟨ku13,U13,au13⟩,hN13⟩:∃ X,nx ts (p+1)=X:=⟨_,rfl⟩
   rw [hN13] at HC13
   have hu13:txt ts (p+1)=U13:=by unfold txt;rw [hN13]
   replace hu13:=gh hu13
   have HNb13:=gh hN13
   have hfb13:=fld1 (.int .i64 ku13) (.string U13) (.int .i64 au13)
   clear hN13
   go_wp2_with fail
   refine (gf HC13).mono ?_
   rintro e w13 ⟨rfl,hb13⟩
   have hbu14:=But.of (r:=r) hb13
   replace HR:=gh ((gf HR).keep hb13)
   replace HB:=gh ((gf HB).trans hbu14)
   replace HZ:=gh ((gf HZ).but hbu14 hrne)
   replace HX2:=gh ((hbu14.block _ (blk (gf HX2)).1 (Ne.symm ne2)).trans (gf HX2))
   replace HS:=gh (Nat.lt_of_lt_of_le (gf HS) hbu14.size)
   clear hb13 HC13
   by_cases hT13:U13=⟨#[40]⟩
   ·have e13:(U13.toList == [40])=true:=(eqb U13 ⟨#[40]⟩ [40] rfl).mp hT13
    have hub:txt ts (p+1)=⟨#[40]⟩:=(gf hu13).trans hT13
    replace hub:=gh hub
    clear hT13
    have hY15:=gf HY
    rw [if_pos ⟨by rw [gf HN0],gf hub⟩] at hY15
    replace HY:=gh hY15
    clear hY15
    have HC16:=gh (gf hCa w13 (p) (gf HL).2 (gf hp1) (gf hub) (gf HR))
    go_wp2_with fail
    refine (gf HC16).mono ?_
    intro e w16 h16
    rcases hX16:callR ts g d (p) with er | ⟨t16,q16⟩
    ·rw [hX16] at h16
     obtain ⟨ei,en⟩:=er
     have hYe:Y = .error (ei,en):=by have h:=gf HY;rw [hX16] at h;exact h.symm
     subst hYe
     obtain ⟨hb16,h16⟩:=h16
     obtain rfl:e=_:=h16
     have HP:=gh ((gf HB).trans hb16)
     clear hb16 HC16 hX16
     go_wp2
     exact ⟨rfl,gf HP,rfl⟩
    rw [hX16] at h16
    obtain ⟨hb16,hle16,hR16,v16,rfl,hv16⟩:=h16
    have hY16:=gf HY
    rw [hX16] at hY16
    replace HY:=gh hY16
    clear hY16
    obtain ⟨i16,j16,s16,m16,b16,a16,n16,c16,rfl⟩:=hv16.form
    have HT16:=gh (hv16.keep (lo':=w.heap.size+1) (Stays.of (Below.refl _ _)) (gf HS))
    replace HB:=gh ((gf HB).trans hb16)
    replace HZ:=gh ((gf HZ).but hb16 hrne)
    replace HX2:=gh ((hb16.block _ (blk (gf HX2)).1 (Ne.symm ne2)).trans (gf HX2))
    replace HS:=gh (Nat.lt_of_lt_of_le (gf HS) hb16.size)
    replace HR:=gh hR16
    replace HL:=gh (And.intro (Nat.le_trans (gf HL).1 hle16) (Nat.le_trans (gf HL).2 hle16))
    clear hb16 hle16 hR16 hv16 HC16 hX16
    obtain ⟨y0,y1,y2,y3,y4,y5,y6⟩:=blk7 (gf HZ)
    obtain ⟨z0,z1,z2,z3,z4,z5,z6⟩:=frz7 (gf HZ)
    have HNode:=gh (gf HT16)
    go_wp2
    exact ret_put rfl rfl rfl (gf HB) hr (gf HZ) (by have h:=gf HY;exact h.symm) (gf HL).1 (gf HR) (Nat.lt_succ_self _) (gf HNode)
   ·have e13:(U13.toList == [40])=false:=by have h:=hT13;rw [eqb U13 ⟨#[40]⟩ [40] rfl] at h;simpa using h
    have hub:¬ txt ts (p+1)=⟨#[40]⟩:=fun h=>hT13 ((gf hu13).symm.trans h)
    replace hub:=gh hub
    clear hT13
    have hY17:=gf HY
    rw [if_neg (fun h=>gf hub h.2)] at hY17
    replace HY:=gh hY17
    clear hY17
    have HC18:=gh (mustBe_any ((gf HR).keep ((Below.refl _ w13).drew)) (gf HT) (k:=1) (by decide))
    go_wp2_with fail
    have n318:w0.heap.size≠w.heap.size:=by have:=gf HQHX2;omega
    refine prim_r12 (X:=mustBeR ts 1 (p)) rfl rfl rfl rfl (gf HX2) (gf HZ) ne2 hrne n318 (gf HC18) ?_ ?_
    ·intro a w9 ei en hX hd hb
     have hYe:Y = .error (ei,en):=by have h:=gf HY;rw [hX] at h;exact h.symm
     subst hYe
     exact ⟨hd,(gf HB).trans hb,rfl⟩
    ·intro a W2 t q hX hd hk hb hR hle
     have hY9:=gf HY
     rw [hX] at hY9
     simp only [thenR,txt] at hY9
     rw [gf HN0] at hY9
     have HF:=gh (And.intro hd (And.intro ((hk 2 (by decide)).trans rfl) (And.intro ((gf HB).trans hb) (And.intro ((gf HZ).but hb hrne) (And.intro hR (And.intro (Nat.le_trans (gf HL).1 hle) (And.intro hY9 trivial)))))))
     clear hd hk hb hR hle hY9 hX
     go_wp2
     obtain ⟨hd,h2,hb,hz,hR,hle,hY9,hv⟩:=gf HF
     exact ret_put rfl h2 hd hb hr hz hY9.symm hle hR (Nat.lt_succ_self _) (leaf _ _ _ _ _)
  ·have ek1:(kk0 == 1)=false:=by simpa using hk1
   have ek2:decide (kk0=1)=false:=by simpa using hk1
   have hY19:=gf HY
   rw [if_neg (fun h=>hk1 (by have h1:=h.1;rw [gf HN0] at h1;exact h1))] at hY19
   replace HY:=gh hY19
   clear hY19
   have u02:=(blk (gf HX2)).2.1 0 _ rfl
   have u12:=(blk (gf HX2)).2.1 1 _ rfl
   have u22:=(blk (gf HX2)).2.1 2 _ rfl
   have HC20:=gh (mustBe_any ((gf HR).keep ((Below.refl _ w11).drew)) (gf HT) (k:=1) (by decide))
   go_wp2_with fail
   have n320:w0.heap.size≠w.heap.size:=by have:=gf HQHX2;omega
   refine prim_r12 (X:=mustBeR ts 1 (p)) rfl rfl rfl rfl (gf HX2) (gf HZ) ne2 hrne n320 (gf HC20) ?_ ?_
   ·intro a w9 ei en hX hd hb
    have hYe:Y = .error (ei,en):=by have h:=gf HY;rw [hX] at h;exact h.symm
    subst hYe
    exact ⟨hd,(gf HB).trans hb,rfl⟩
   ·intro a W2 t q hX hd hk hb hR hle
    have hY9:=gf HY
    rw [hX] at hY9
    simp only [thenR,txt] at hY9
    rw [gf HN0] at hY9
    have HF:=gh (And.intro hd (And.intro ((hk 2 (by decide)).trans rfl) (And.intro ((gf HB).trans hb) (And.intro ((gf HZ).but hb hrne) (And.intro hR (And.intro (Nat.le_trans (gf HL).1 hle) (And.intro hY9 trivial)))))))
    clear hd hk hb hR hle hY9 hX
    go_wp2
    obtain ⟨hd,h2,hb,hz,hR,hle,hY9,hv⟩:=gf HF
    exact ret_put rfl h2 hd hb hr hz hY9.symm hle hR (Nat.lt_succ_self _) (leaf _ _ _ _ _)
end Go.Proofs.YtfkfnbehdcmgeaaGreatDoor
namespace Go.Proofs.YtfkfnbehdcmgeaaGreatDoor
open Go Go.RowKit
theorem enter_and:Enters Tryz.prog 120:=⟨fun xs w=>by go_simp⟩
theorem enter_cmp:Enters Tryz.prog 122:=⟨fun xs w=>by go_simp⟩
theorem enter_unary:Enters Tryz.prog 126:=⟨fun xs w=>by go_simp⟩
theorem enter_term:Enters Tryz.prog 125:=⟨fun xs w=>by go_simp⟩
theorem enter_sum:Enters Tryz.prog 124:=⟨fun xs w=>by go_simp⟩
set_option maxRecDepth 100000 in
set_option maxHeartbeats 8000000 in
theorem or_of {r d lo:Nat} {ts:List (Int×ByteArray×Int)} {g:Ru→Nat→Nat→(Except (Int×Int) (Ex×Nat))} (hT:TsOk ts) (hS:RuC 120 r ts d lo (andR ts g d)) {w:World} {p:Nat} (hlo:lo≤p) (hR:RD w r ts p d):Calls Tryz.prog 117 #[.pointer (some ⟨r,0,none⟩)] w (PE (orR ts g d p) r ts p d w):=by
 obtain ⟨Y,hY⟩:∃ Y,orR ts g d p=Y:=⟨_,rfl⟩
 rw [hY]
 unfold orR at hY
 have hr:=hR.rlt
 obtain ⟨A,eA,hbA,hzA,hsA⟩:=zb_new w
 have HB:=gh (But.of (r:=r) hbA)
 have HR:=gh (hR.keep hbA)
 have HZ:=gh hzA
 have HS:Hid (w.heap.size<A.heap.size):=by show _<_;omega
 have HL:Hid (p≤p∧lo≤p):=⟨Nat.le_refl _,hlo⟩
 have HSA:=gh hsA
 have HE:=gh eA
 have HT:=gh hT
 have HY:=gh hY
 have hrne:r≠w.heap.size:=by omega
 have hmf:∀ (fn:Fn) (first cap:Array Value) (w:World),(Instr.makeFunc fn first cap).run Tryz.prog w = .ok (.func fn first cap) w:=fun _ _ _ _=>rfl
 replace hS:=gh hS
 clear hlo hR hbA hzA hsA eA hT hY
 have HJ:=gh (joined_of (gf HT) (enter_and) (gf hS))
 obtain ⟨B,eB,hbB,hsB,hhB⟩:=box_new A #[.string ⟨#[124,124]⟩] 9
 have hAr:r≠A.heap.size:=by have:=gf HS;omega
 have HC:=gh (chain_of (cc0:=1) (nn0:=1) (signs:=[⟨#[124,124]⟩]) (gf HT) (enter_and) (gf hS) (gf HJ) (gf HL).2 ((gf HR).keep hbB) rfl (fun s hs=>by simp only [List.mem_cons,List.not_mem_nil,or_false] at hs;rcases hs with rfl <;> decide) (by simp) ⟨(blk hhB).1,hAr⟩ (fun j s hs=>by rw [←eB];exact strs_at rfl j s hs))
 have hC:=gf HC
 rw [gf HSA] at hC
 replace HC:=gh hC
 clear hC
 have HBB:=gh hbB
 have HEB:=gh eB
 clear eB hbB hsB hhB
 go_enter Tryz.func117,Tryz.ntmps117
 go_wp2_with fail
 rw [gf HE,gf HEB]
 have hbu0:=But.of (r:=r) (gf HBB)
 replace HR:=gh ((gf HR).keep (gf HBB))
 replace HB:=gh ((gf HB).trans hbu0)
 replace HZ:=gh ((gf HZ).but hbu0 hrne)
 replace HS:=gh (Nat.lt_of_lt_of_le (gf HS) hbu0.size)
 refine (gf HC).mono ?_
 intro e w1 h1
 rcases hX1:chainR ts (andR ts g d) [⟨#[124,124]⟩] p with er | ⟨t1,q1⟩
 ·rw [hX1] at h1
  obtain ⟨ei,en⟩:=er
  have hYe:Y = .error (ei,en):=by have h:=gf HY;rw [hX1] at h;exact h.symm
  subst hYe
  obtain ⟨hb1,h1⟩:=h1
  obtain rfl:e=_:=h1
  have HP:=gh ((gf HB).trans hb1)
  clear hb1 HC hX1
  go_wp2
  exact ⟨rfl,gf HP,rfl⟩
 rw [hX1] at h1
 obtain ⟨hb1,hle1,hR1,v1,rfl,hv1⟩:=h1
 have hY1:=gf HY
 rw [hX1] at hY1
 replace HY:=gh hY1
 obtain ⟨i1,j1,s1,m1,b1,a1,n1,c1,rfl⟩:=hv1.form
 have HT1:=gh (hv1.keep (lo':=w.heap.size+1) (Stays.of (Below.refl _ _)) (gf HS))
 replace HB:=gh ((gf HB).trans hb1)
 replace HZ:=gh ((gf HZ).but hb1 hrne)
 replace HS:=gh (Nat.lt_of_lt_of_le (gf HS) hb1.size)
 replace HR:=gh hR1
 replace HL:=gh (And.intro (Nat.le_trans (gf HL).1 hle1) (Nat.le_trans (gf HL).2 hle1))
 clear hb1 hle1 hR1 hv1 HC hX1 hY1
 obtain ⟨y0,y1,y2,y3,y4,y5,y6⟩:=blk7 (gf HZ)
 obtain ⟨z0,z1,z2,z3,z4,z5,z6⟩:=frz7 (gf HZ)
 have HNode:=gh (gf HT1)
 go_wp2
 exact ret_put rfl rfl rfl (gf HB) hr (gf HZ) (by have h:=gf HY;exact h.symm) (gf HL).1 (gf HR) (Nat.lt_succ_self _) (gf HNode)
set_option maxRecDepth 100000 in
set_option maxHeartbeats 8000000 in
theorem and_of {r d lo:Nat} {ts:List (Int×ByteArray×Int)} {g:Ru→Nat→Nat→(Except (Int×Int) (Ex×Nat))} (hT:TsOk ts) (hS:RuC 122 r ts d lo (cmpR ts g d)) {w:World} {p:Nat} (hlo:lo≤p) (hR:RD w r ts p d):Calls Tryz.prog 120 #[.pointer (some ⟨r,0,none⟩)] w (PE (andR ts g d p) r ts p d w):=by
 obtain ⟨Y,hY⟩:∃ Y,andR ts g d p=Y:=⟨_,rfl⟩
 rw [hY]
 unfold andR at hY
 have hr:=hR.rlt
 obtain ⟨A,eA,hbA,hzA,hsA⟩:=zb_new w
 have HB:=gh (But.of (r:=r) hbA)
 have HR:=gh (hR.keep hbA)
 have HZ:=gh hzA
 have HS:Hid (w.heap.size<A.heap.size):=by show _<_;omega
 have HL:Hid (p≤p∧lo≤p):=⟨Nat.le_refl _,hlo⟩
 have HSA:=gh hsA
 have HE:=gh eA
 have HT:=gh hT
 have HY:=gh hY
 have hrne:r≠w.heap.size:=by omega
 have hmf:∀ (fn:Fn) (first cap:Array Value) (w:World),(Instr.makeFunc fn first cap).run Tryz.prog w = .ok (.func fn first cap) w:=fun _ _ _ _=>rfl
 replace hS:=gh hS
 clear hlo hR hbA hzA hsA eA hT hY
 have HJ:=gh (joined_of (gf HT) (enter_cmp) (gf hS))
 obtain ⟨B,eB,hbB,hsB,hhB⟩:=box_new A #[.string ⟨#[38,38]⟩] 9
 have hAr:r≠A.heap.size:=by have:=gf HS;omega
 have HC:=gh (chain_of (cc0:=1) (nn0:=1) (signs:=[⟨#[38,38]⟩]) (gf HT) (enter_cmp) (gf hS) (gf HJ) (gf HL).2 ((gf HR).keep hbB) rfl (fun s hs=>by simp only [List.mem_cons,List.not_mem_nil,or_false] at hs;rcases hs with rfl <;> decide) (by simp) ⟨(blk hhB).1,hAr⟩ (fun j s hs=>by rw [←eB];exact strs_at rfl j s hs))
 have hC:=gf HC
 rw [gf HSA] at hC
 replace HC:=gh hC
 clear hC
 have HBB:=gh hbB
 have HEB:=gh eB
 clear eB hbB hsB hhB
 go_enter Tryz.func120,Tryz.ntmps120
 go_wp2_with fail
 rw [gf HE,gf HEB]
 have hbu0:=But.of (r:=r) (gf HBB)
 replace HR:=gh ((gf HR).keep (gf HBB))
 replace HB:=gh ((gf HB).trans hbu0)
 replace HZ:=gh ((gf HZ).but hbu0 hrne)
 replace HS:=gh (Nat.lt_of_lt_of_le (gf HS) hbu0.size)
 refine (gf HC).mono ?_
 intro e w1 h1
 rcases hX1:chainR ts (cmpR ts g d) [⟨#[38,38]⟩] p with er | ⟨t1,q1⟩
 ·rw [hX1] at h1
  obtain ⟨ei,en⟩:=er
  have hYe:Y = .error (ei,en):=by have h:=gf HY;rw [hX1] at h;exact h.symm
  subst hYe
  obtain ⟨hb1,h1⟩:=h1
  obtain rfl:e=_:=h1
  have HP:=gh ((gf HB).trans hb1)
  clear hb1 HC hX1
  go_wp2
  exact ⟨rfl,gf HP,rfl⟩
 rw [hX1] at h1
 obtain ⟨hb1,hle1,hR1,v1,rfl,hv1⟩:=h1
 have hY1:=gf HY
 rw [hX1] at hY1
 replace HY:=gh hY1
 obtain ⟨i1,j1,s1,m1,b1,a1,n1,c1,rfl⟩:=hv1.form
 have HT1:=gh (hv1.keep (lo':=w.heap.size+1) (Stays.of (Below.refl _ _)) (gf HS))
 replace HB:=gh ((gf HB).trans hb1)
 replace HZ:=gh ((gf HZ).but hb1 hrne)
 replace HS:=gh (Nat.lt_of_lt_of_le (gf HS) hb1.size)
 replace HR:=gh hR1
 replace HL:=gh (And.intro (Nat.le_trans (gf HL).1 hle1) (Nat.le_trans (gf HL).2 hle1))
 clear hb1 hle1 hR1 hv1 HC hX1 hY1
 obtain ⟨y0,y1,y2,y3,y4,y5,y6⟩:=blk7 (gf HZ)
 obtain ⟨z0,z1,z2,z3,z4,z5,z6⟩:=frz7 (gf HZ)
 have HNode:=gh (gf HT1)
 go_wp2
 exact ret_put rfl rfl rfl (gf HB) hr (gf HZ) (by have h:=gf HY;exact h.symm) (gf HL).1 (gf HR) (Nat.lt_succ_self _) (gf HNode)
set_option maxRecDepth 100000 in
set_option maxHeartbeats 8000000 in
theorem term_of {r d lo:Nat} {ts:List (Int×ByteArray×Int)} {g:Ru→Nat→Nat→(Except (Int×Int) (Ex×Nat))} (hT:TsOk ts) (hS:RuC 126 r ts d lo (unaryR ts g d)) {w:World} {p:Nat} (hlo:lo≤p) (hR:RD w r ts p d):Calls Tryz.prog 125 #[.pointer (some ⟨r,0,none⟩)] w (PE (termR ts g d p) r ts p d w):=by
 obtain ⟨Y,hY⟩:∃ Y,termR ts g d p=Y:=⟨_,rfl⟩
 rw [hY]
 unfold termR at hY
 have hr:=hR.rlt
 obtain ⟨A,eA,hbA,hzA,hsA⟩:=zb_new w
 have HB:=gh (But.of (r:=r) hbA)
 have HR:=gh (hR.keep hbA)
 have HZ:=gh hzA
 have HS:Hid (w.heap.size<A.heap.size):=by show _<_;omega
 have HL:Hid (p≤p∧lo≤p):=⟨Nat.le_refl _,hlo⟩
 have HSA:=gh hsA
 have HE:=gh eA
 have HT:=gh hT
 have HY:=gh hY
 have hrne:r≠w.heap.size:=by omega
 have hmf:∀ (fn:Fn) (first cap:Array Value) (w:World),(Instr.makeFunc fn first cap).run Tryz.prog w = .ok (.func fn first cap) w:=fun _ _ _ _=>rfl
 replace hS:=gh hS
 clear hlo hR hbA hzA hsA eA hT hY
 have HJ:=gh (joined_of (gf HT) (enter_unary) (gf hS))
 obtain ⟨B,eB,hbB,hsB,hhB⟩:=box_new A #[.string ⟨#[42]⟩] 9
 have hAr:r≠A.heap.size:=by have:=gf HS;omega
 have HC:=gh (chain_of (cc0:=1) (nn0:=1) (signs:=[⟨#[42]⟩]) (gf HT) (enter_unary) (gf hS) (gf HJ) (gf HL).2 ((gf HR).keep hbB) rfl (fun s hs=>by simp only [List.mem_cons,List.not_mem_nil,or_false] at hs;rcases hs with rfl <;> decide) (by simp) ⟨(blk hhB).1,hAr⟩ (fun j s hs=>by rw [←eB];exact strs_at rfl j s hs))
 have hC:=gf HC
 rw [gf HSA] at hC
 replace HC:=gh hC
 clear hC
 have HBB:=gh hbB
 have HEB:=gh eB
 clear eB hbB hsB hhB
 go_enter Tryz.func125,Tryz.ntmps125
 go_wp2_with fail
 rw [gf HE,gf HEB]
 have hbu0:=But.of (r:=r) (gf HBB)
 replace HR:=gh ((gf HR).keep (gf HBB))
 replace HB:=gh ((gf HB).trans hbu0)
 replace HZ:=gh ((gf HZ).but hbu0 hrne)
 replace HS:=gh (Nat.lt_of_lt_of_le (gf HS) hbu0.size)
 refine (gf HC).mono ?_
 intro e w1 h1
 rcases hX1:chainR ts (unaryR ts g d) [⟨#[42]⟩] p with er | ⟨t1,q1⟩
 ·rw [hX1] at h1
  obtain ⟨ei,en⟩:=er
  have hYe:Y = .error (ei,en):=by have h:=gf HY;rw [hX1] at h;exact h.symm
  subst hYe
  obtain ⟨hb1,h1⟩:=h1
  obtain rfl:e=_:=h1
  have HP:=gh ((gf HB).trans hb1)
  clear hb1 HC hX1
  go_wp2
  exact ⟨rfl,gf HP,rfl⟩
 rw [hX1] at h1
 obtain ⟨hb1,hle1,hR1,v1,rfl,hv1⟩:=h1
 have hY1:=gf HY
 rw [hX1] at hY1
 replace HY:=gh hY1
 obtain ⟨i1,j1,s1,m1,b1,a1,n1,c1,rfl⟩:=hv1.form
 have HT1:=gh (hv1.keep (lo':=w.heap.size+1) (Stays.of (Below.refl _ _)) (gf HS))
 replace HB:=gh ((gf HB).trans hb1)
 replace HZ:=gh ((gf HZ).but hb1 hrne)
 replace HS:=gh (Nat.lt_of_lt_of_le (gf HS) hb1.size)
 replace HR:=gh hR1
 replace HL:=gh (And.intro (Nat.le_trans (gf HL).1 hle1) (Nat.le_trans (gf HL).2 hle1))
 clear hb1 hle1 hR1 hv1 HC hX1 hY1
 obtain ⟨y0,y1,y2,y3,y4,y5,y6⟩:=blk7 (gf HZ)
 obtain ⟨z0,z1,z2,z3,z4,z5,z6⟩:=frz7 (gf HZ)
 have HNode:=gh (gf HT1)
 go_wp2
 exact ret_put rfl rfl rfl (gf HB) hr (gf HZ) (by have h:=gf HY;exact h.symm) (gf HL).1 (gf HR) (Nat.lt_succ_self _) (gf HNode)
set_option maxRecDepth 100000 in
set_option maxHeartbeats 8000000 in
theorem sum_of {r d lo:Nat} {ts:List (Int×ByteArray×Int)} {g:Ru→Nat→Nat→(Except (Int×Int) (Ex×Nat))} (hT:TsOk ts) (hS:RuC 125 r ts d lo (termR ts g d)) {w:World} {p:Nat} (hlo:lo≤p) (hR:RD w r ts p d):Calls Tryz.prog 124 #[.pointer (some ⟨r,0,none⟩)] w (PE (sumR ts g d p) r ts p d w):=by
 obtain ⟨Y,hY⟩:∃ Y,sumR ts g d p=Y:=⟨_,rfl⟩
 rw [hY]
 unfold sumR at hY
 have hr:=hR.rlt
 obtain ⟨A,eA,hbA,hzA,hsA⟩:=zb_new w
 have HB:=gh (But.of (r:=r) hbA)
 have HR:=gh (hR.keep hbA)
 have HZ:=gh hzA
 have HS:Hid (w.heap.size<A.heap.size):=by show _<_;omega
 have HL:Hid (p≤p∧lo≤p):=⟨Nat.le_refl _,hlo⟩
 have HSA:=gh hsA
 have HE:=gh eA
 have HT:=gh hT
 have HY:=gh hY
 have hrne:r≠w.heap.size:=by omega
 have hmf:∀ (fn:Fn) (first cap:Array Value) (w:World),(Instr.makeFunc fn first cap).run Tryz.prog w = .ok (.func fn first cap) w:=fun _ _ _ _=>rfl
 replace hS:=gh hS
 clear hlo hR hbA hzA hsA eA hT hY
 have HJ:=gh (joined_of (gf HT) (enter_term) (gf hS))
 obtain ⟨B,eB,hbB,hsB,hhB⟩:=box_new A #[.string ⟨#[43]⟩,.string ⟨#[45]⟩] 9
 have hAr:r≠A.heap.size:=by have:=gf HS;omega
 have HC:=gh (chain_of (cc0:=2) (nn0:=2) (signs:=[⟨#[43]⟩,⟨#[45]⟩]) (gf HT) (enter_term) (gf hS) (gf HJ) (gf HL).2 ((gf HR).keep hbB) rfl (fun s hs=>by simp only [List.mem_cons,List.not_mem_nil,or_false] at hs;rcases hs with rfl | rfl <;> decide) (by simp) ⟨(blk hhB).1,hAr⟩ (fun j s hs=>by rw [←eB];exact strs_at rfl j s hs))
 have hC:=gf HC
 rw [gf HSA] at hC
 replace HC:=gh hC
 clear hC
 have HBB:=gh hbB
 have HEB:=gh eB
 clear eB hbB hsB hhB
 go_enter Tryz.func124,Tryz.ntmps124
 go_wp2_with fail
 rw [gf HE,gf HEB]
 have hbu0:=But.of (r:=r) (gf HBB)
 replace HR:=gh ((gf HR).keep (gf HBB))
 replace HB:=gh ((gf HB).trans hbu0)
 replace HZ:=gh ((gf HZ).but hbu0 hrne)
 replace HS:=gh (Nat.lt_of_lt_of_le (gf HS) hbu0.size)
 refine (gf HC).mono ?_
 intro e w1 h1
 rcases hX1:chainR ts (termR ts g d) [⟨#[43]⟩,⟨#[45]⟩] p with er | ⟨t1,q1⟩
 ·rw [hX1] at h1
  obtain ⟨ei,en⟩:=er
  have hYe:Y = .error (ei,en):=by have h:=gf HY;rw [hX1] at h;exact h.symm
  subst hYe
  obtain ⟨hb1,h1⟩:=h1
  obtain rfl:e=_:=h1
  have HP:=gh ((gf HB).trans hb1)
  clear hb1 HC hX1
  go_wp2
  exact ⟨rfl,gf HP,rfl⟩
 rw [hX1] at h1
 obtain ⟨hb1,hle1,hR1,v1,rfl,hv1⟩:=h1
 have hY1:=gf HY
 rw [hX1] at hY1
 replace HY:=gh hY1
 obtain ⟨i1,j1,s1,m1,b1,a1,n1,c1,rfl⟩:=hv1.form
 have HT1:=gh (hv1.keep (lo':=w.heap.size+1) (Stays.of (Below.refl _ _)) (gf HS))
 replace HB:=gh ((gf HB).trans hb1)
 replace HZ:=gh ((gf HZ).but hb1 hrne)
 replace HS:=gh (Nat.lt_of_lt_of_le (gf HS) hb1.size)
 replace HR:=gh hR1
 replace HL:=gh (And.intro (Nat.le_trans (gf HL).1 hle1) (Nat.le_trans (gf HL).2 hle1))
 clear hb1 hle1 hR1 hv1 HC hX1 hY1
 obtain ⟨y0,y1,y2,y3,y4,y5,y6⟩:=blk7 (gf HZ)
 obtain ⟨z0,z1,z2,z3,z4,z5,z6⟩:=frz7 (gf HZ)
 have HNode:=gh (gf HT1)
 go_wp2
 exact ret_put rfl rfl rfl (gf HB) hr (gf HZ) (by have h:=gf HY;exact h.symm) (gf HL).1 (gf HR) (Nat.lt_succ_self _) (gf HNode)
end Go.Proofs.YtfkfnbehdcmgeaaGreatDoor
namespace Go.Proofs.YtfkfnbehdcmgeaaGreatDoor
open Go Go.RowKit
set_option maxRecDepth 100000 in
set_option maxHeartbeats 8000000 in
theorem cmp_of {r d lo:Nat} {ts:List (Int×ByteArray×Int)} {g:Ru→Nat→Nat→(Except (Int×Int) (Ex×Nat))} (hT:TsOk ts) (hS:RuC 124 r ts d lo (sumR ts g d)) {w:World} {p:Nat} (hlo:lo≤p) (hR:RD w r ts p d):Calls Tryz.prog 122 #[.pointer (some ⟨r,0,none⟩)] w (PE (cmpR ts g d p) r ts p d w):=by
 obtain ⟨Y,hY⟩:∃ Y,cmpR ts g d p=Y:=⟨_,rfl⟩
 rw [hY]
 unfold cmpR at hY
 have hr:=hR.rlt
 obtain ⟨A,eA,hbA,hzA,hsA⟩:=zb_new w
 have HB:=gh (But.of (r:=r) hbA)
 have HR:=gh (hR.keep hbA)
 have HZ:=gh hzA
 have HS:Hid (w.heap.size<A.heap.size):=by show _<_;omega
 have HL:Hid (p≤p∧lo≤p):=⟨Nat.le_refl _,hlo⟩
 have HSA:=gh hsA
 have HE:=gh eA
 have HT:=gh hT
 have HY:=gh hY
 have hrne:r≠w.heap.size:=by omega
 have hmf:∀ (fn:Fn) (first cap:Array Value) (w:World),(Instr.makeFunc fn first cap).run Tryz.prog w = .ok (.func fn first cap) w:=fun _ _ _ _=>rfl
 replace hS:=gh hS
 clear hlo hR hbA hzA hsA eA hT hY
 have HJ:=gh (joined_of (gf HT) enter_sum (gf hS))
 go_enter Tryz.func122,Tryz.ntmps122
 have HC0:=gh (gf hS A (p) (gf HL).2 (gf HR))
 go_wp2_with fail
 rw [gf HE]
 refine (gf HC0).mono ?_
 intro e w0 h0
 rcases hX0:sumR ts g d (p) with er | ⟨t0,q0⟩
 ·rw [hX0] at h0
  obtain ⟨ei,en⟩:=er
  have hYe:Y = .error (ei,en):=by have h:=gf HY;rw [hX0] at h;exact h.symm
  subst hYe
  obtain ⟨hb0,h0⟩:=h0
  obtain rfl:e=_:=h0
  have HP:=gh ((gf HB).trans hb0)
  clear hb0 HC0 hX0
  go_wp2
  exact ⟨rfl,gf HP,rfl⟩
 rw [hX0] at h0
 obtain ⟨hb0,hle0,hR0,v0,rfl,hv0⟩:=h0
 have hY0:=gf HY
 rw [hX0] at hY0
 simp only [thenR] at hY0
 replace HY:=gh hY0
 clear hY0
 obtain ⟨i0,j0,s0,m0,b0,a0,n0,c0,rfl⟩:=hv0.form
 have HT0:=gh (hv0.keep (lo':=w.heap.size+1) (Stays.of (Below.refl _ _)) (gf HS))
 replace HB:=gh ((gf HB).trans hb0)
 replace HZ:=gh ((gf HZ).but hb0 hrne)
 replace HS:=gh (Nat.lt_of_lt_of_le (gf HS) hb0.size)
 replace HR:=gh hR0
 replace HL:=gh (And.intro (Nat.le_trans (gf HL).1 hle0) (Nat.le_trans (gf HL).2 hle0))
 clear hb0 hle0 hR0 hv0 HC0 hX0
 obtain ⟨B1,eB1,hbB1,hsB1,hhB1⟩:=box_new w0 #[.int .i64 i0,.string s0,.string m0,.bool b0,.slice a0 n0 c0,.int .i64 0,.int .i64 j0] 36
 have ne1:r≠w0.heap.size:=by have:=gf HS;omega
 have HQHX1:=HS
 have hbu2:=But.of (r:=r) hbB1
 replace HR:=gh ((gf HR).keep hbB1)
 replace HB:=gh ((gf HB).trans hbu2)
 replace HZ:=gh ((gf HZ).but hbu2 hrne)
 replace HT0:=gh ((gf HT0).keep (Stays.but hbu2 (Nat.lt_succ_of_lt hr)) (Nat.le_refl _))
 replace HS:=gh (Nat.lt_of_lt_of_le (gf HS) hbu2.size)
 have HX1:=gh hhB1
 have HEB1:=gh eB1
 have HSB1:=gh hsB1
 clear eB1 hbB1 hhB1 hsB1
 obtain ⟨B,eB,hbB,hsB,hhB⟩:=box_new B1 #[.string ⟨#[61]⟩,.string ⟨#[60,62]⟩,.string ⟨#[60]⟩,.string ⟨#[60,61]⟩,.string ⟨#[62]⟩,.string ⟨#[62,61]⟩] 9
 have HO:=gh (one_any (c:=6) (l:=[⟨#[61]⟩,⟨#[60,62]⟩,⟨#[60]⟩,⟨#[60,61]⟩,⟨#[62]⟩,⟨#[62,61]⟩]) ((gf HR).keep hbB) (gf HT) (blk hhB).1 (by simp) (fun j s hs=>by rw [←eB];exact strs_at rfl j s hs))
 obtain ⟨bo,hbo⟩:∃ b,([⟨#[61]⟩,⟨#[60,62]⟩,⟨#[60]⟩,⟨#[60,61]⟩,⟨#[62]⟩,⟨#[62,61]⟩]:List ByteArray).any (sees ts (q0))=b:=⟨_,rfl⟩
 rw [hbo] at HO
 have hO1:=gf HO
 rw [gf HSB1] at hO1
 replace HO:=gh hO1
 have hY0:=gf HY
 rw [hbo] at hY0
 replace HY:=gh hY0
 have Hbo:=gh hbo
 have HEB:=gh eB
 have hbu3:=But.of (r:=r) hbB
 replace HR:=gh ((gf HR).keep hbB)
 replace HB:=gh ((gf HB).trans hbu3)
 replace HZ:=gh ((gf HZ).but hbu3 hrne)
 replace HX1:=gh ((hbu3.block _ (blk (gf HX1)).1 (Ne.symm ne1)).trans (gf HX1))
 replace HT0:=gh ((gf HT0).keep (Stays.but hbu3 (Nat.lt_succ_of_lt hr)) (Nat.le_refl _))
 replace HS:=gh (Nat.lt_of_lt_of_le (gf HS) hbu3.size)
 clear hbo eB hbB hsB hhB hO1 hY0
 go_wp2_with fail
 rw [gf HEB1,gf HEB]
 refine (gf HO).mono ?_
 rintro e w9 ⟨rfl,hb9⟩
 have hbu4:=But.of (r:=r) hb9
 replace HR:=gh ((gf HR).keep hb9)
 replace HB:=gh ((gf HB).trans hbu4)
 replace HZ:=gh ((gf HZ).but hbu4 hrne)
 replace HX1:=gh ((hbu4.block _ (blk (gf HX1)).1 (Ne.symm ne1)).trans (gf HX1))
 replace HT0:=gh ((gf HT0).keep (Stays.but hbu4 (Nat.lt_succ_of_lt hr)) (Nat.le_refl _))
 replace HS:=gh (Nat.lt_of_lt_of_le (gf HS) hbu4.size)
 clear hb9 HO
 rcases bo with _ | _
 ·have hY0:=gf HY
  simp only [Bool.false_eq_true,if_false] at hY0
  replace HY:=gh hY0
  clear hY0
  obtain ⟨y01,y11,y21,y31,y41,y51,y61⟩:=blk7 (gf HX1)
  obtain ⟨y0,y1,y2,y3,y4,y5,y6⟩:=blk7 (gf HZ)
  obtain ⟨z0,z1,z2,z3,z4,z5,z6⟩:=frz7 (gf HZ)
  have HNode:=gh (gf HT0)
  go_wp2
  exact ret_put rfl rfl rfl (gf HB) hr (gf HZ) (by have h:=gf HY;exact h.symm) (gf HL).1 (gf HR) (Nat.lt_succ_self _) (gf HNode)
 have hY0:=gf HY
 simp only [if_true] at hY0
 replace HY:=gh hY0
 clear hY0
 have hp1:q0+1<ts.length:=by
  obtain ⟨s,hs,hs2⟩:=List.any_eq_true.1 (gf Hbo)
  refine nx_txt (gf HT) (gf HR).lt ?_
  rw [sees_txt hs2]
  simp only [List.mem_cons,List.not_mem_nil,or_false] at hs
  rcases hs with rfl | rfl | rfl | rfl | rfl | rfl <;> decide
 replace hp1:=gh hp1
 obtain ⟨y01,y11,y21,y31,y41,y51,y61⟩:=blk7 (gf HX1)
 have HC:=gh (gf HJ w9 (q0) (fun b=>w.heap.size+1≤b) t0 i0 j0 s0 m0 b0 a0 n0 c0 (gf HL).2 (gf hp1) (gf HR) (gf HT0) (by show ¬ (w.heap.size+1≤r);omega) (fun b hb=>Nat.le_trans (gf HS) hb))
 go_wp2_with fail
 refine (gf HC).mono ?_
 intro e w8 h8
 rcases hX:joinR ts (sumR ts g d) t0 (q0) with er | ⟨t8,q8⟩
 ·rw [hX] at h8
  obtain ⟨ei,en⟩:=er
  have hYe:Y = .error (ei,en):=by have h:=gf HY;rw [hX] at h;exact h.symm
  subst hYe
  obtain ⟨hb8,h8⟩:=h8
  obtain rfl:e=_:=h8
  have HP:=gh ((gf HB).trans hb8)
  clear hb8 HC hX
  go_wp2
  exact ⟨rfl,gf HP,rfl⟩
 rw [hX] at h8
 obtain ⟨hb8,hle8,hR8,v8,rfl,hv8⟩:=h8
 have hY8:=gf HY
 rw [hX] at hY8
 replace HY:=gh hY8
 obtain ⟨i8,j8,s8,m8,b8,a8,n8,c8,rfl⟩:=hv8.form
 replace HB:=gh ((gf HB).trans hb8)
 replace HZ:=gh ((gf HZ).but hb8 hrne)
 replace HX1:=gh ((hb8.block _ (blk (gf HX1)).1 (Ne.symm ne1)).trans (gf HX1))
 replace HS:=gh (Nat.lt_of_lt_of_le (gf HS) hb8.size)
 have HT8:=gh hv8
 replace HR:=gh hR8
 replace HL:=gh (And.intro (Nat.le_trans (Nat.le_succ_of_le (gf HL).1) hle8) (Nat.le_trans (Nat.le_succ_of_le (gf HL).2) hle8))
 clear hb8 hle8 hR8 hv8 HC hX hY8
 obtain ⟨y0,y1,y2,y3,y4,y5,y6⟩:=blk7 (gf HZ)
 obtain ⟨z0,z1,z2,z3,z4,z5,z6⟩:=frz7 (gf HZ)
 have HNode:=gh (gf HT8)
 go_wp2
 exact ret_put rfl rfl rfl (gf HB) hr (gf HZ) (by have h:=gf HY;exact h.symm) (gf HL).1 (gf HR) (Nat.lt_succ_self _) (gf HNode)
end Go.Proofs.YtfkfnbehdcmgeaaGreatDoor
namespace Go.Proofs.YtfkfnbehdcmgeaaGreatDoor
open Go Go.RowKit
theorem pe_base {Y:(Except (Int×Int) (Ex×Nat))} {r p d:Nat} {ts:List (Int×ByteArray×Int)} {w w1 w':World} {e:Ending} (hb:Below w.heap.size w w1) (h:PE Y r ts p d w1 e w'):PE Y r ts p d w e w':=by
 refine ⟨(But.of hb).trans h.1,?_⟩
 rcases Y with er | ⟨t,q⟩
 ·exact h.2
 ·obtain ⟨-,h1,h2,v,h3,h4⟩:=h
  exact ⟨h1,h2,v,h3,h4.keep (Stays.of (Below.refl _ _)) hb.size⟩
set_option maxRecDepth 100000 in
set_option maxHeartbeats 8000000 in
theorem bracketed_of {r d lo:Nat} {ts:List (Int×ByteArray×Int)} {g:Ru→Nat→Nat→(Except (Int×Int) (Ex×Nat))} (hT:TsOk ts) (hE:RuC 59 r ts d lo (g .rE d)) {wq:World} {p:Nat} {kk ai:Int} {T:ByteArray} (hlo:lo≤p) (hRq:RD wq r ts p d):Calls Tryz.prog 129 #[.pointer (some ⟨r,0,none⟩),.agg #[.int .i64 kk,.string T,.int .i64 ai]] wq (PE (brackR ts g d ai p) r ts p d wq):=by
 obtain ⟨w,ew,hbw,hsw,hhw⟩:=box_new wq #[.int .i64 kk,.string T,.int .i64 ai] 74
 refine Calls.mono (R:=PE (brackR ts g d ai p) r ts p d w) ?_ fun e w' h=>pe_base hbw h
 have hR:=hRq.keep hbw
 have ne9:r≠wq.heap.size:=by have:=hRq.rlt;omega
 have Hew:=gh ew
 have HX9:=gh hhw
 clear hRq ew hbw hhw
 obtain ⟨Y,hY⟩:∃ Y,brackR ts g d ai p=Y:=⟨_,rfl⟩
 rw [hY]
 unfold brackR at hY
 have hr:=hR.rlt
 obtain ⟨A,eA,hbA,hzA,hsA⟩:=zb_new w
 have HB:=gh (But.of (r:=r) hbA)
 have HR:=gh (hR.keep hbA)
 have HZ:=gh hzA
 have HS:Hid (w.heap.size<A.heap.size):=by show _<_;omega
 have HL:Hid (p≤p∧lo≤p):=⟨Nat.le_refl _,hlo⟩
 have HSA:=gh hsA
 have HE:=gh eA
 have HT:=gh hT
 have HY:=gh hY
 have hrne:r≠w.heap.size:=by omega
 have hmf:∀ (fn:Fn) (first cap:Array Value) (w:World),(Instr.makeFunc fn first cap).run Tryz.prog w = .ok (.func fn first cap) w:=fun _ _ _ _=>rfl
 replace hE:=gh hE
 clear hlo hR hbA hzA hsA eA hT hY
 replace HX9:=gh (((gf HB).block _ (blk (gf HX9)).1 (Ne.symm ne9)).trans (gf HX9))
 replace hsw:=gh hsw
 go_enter Tryz.func129,Tryz.ntmps129
 have HC0:=gh (takeIf_any (gf HR) (gf HT) (s:=⟨#[41]⟩) (by decide))
 obtain ⟨bo0,hbo0⟩:∃ b,sees ts (p) ⟨#[41]⟩=b:=⟨_,rfl⟩
 rw [hbo0] at HC0
 have hY0:=gf HY
 rw [hbo0] at hY0
 replace HY:=gh hY0
 have HO0:=gh hbo0
 clear hY0 hbo0
 go_wp2_with fail
 rw [gf Hew,gf HE]
 refine (gf HC0).mono ?_
 rintro e w0 ⟨rfl,hb0,hR0⟩
 replace HB:=gh ((gf HB).trans hb0)
 replace HZ:=gh ((gf HZ).but hb0 hrne)
 replace HX9:=gh ((hb0.block _ (blk (gf HX9)).1 (Ne.symm ne9)).trans (gf HX9))
 replace HS:=gh (Nat.lt_of_lt_of_le (gf HS) hb0.size)
 replace HR:=gh hR0
 clear hb0 hR0 HC0
 rcases bo0 with _ | _
 rotate_left
 ·have hY0:=gf HY
  simp only [if_true] at hY0
  replace HY:=gh hY0
  have hRR:=gf HR
  rw [if_pos rfl] at hRR
  replace HR:=gh hRR
  clear hY0 hRR
  replace HL:Hid (p≤p+1∧lo+1≤p+1):=And.intro (Nat.le_succ_of_le (gf HL).1) (Nat.succ_le_succ (gf HL).2)
  have u09:=(blk (gf HX9)).2.1 0 _ rfl
  have u19:=(blk (gf HX9)).2.1 1 _ rfl
  have u29:=(blk (gf HX9)).2.1 2 _ rfl
  have HC1:=gh (made_any 3 kk ai T none 0 0 w0)
  go_wp2_with fail
  refine (gf HC1).mono ?_
  rintro e w1 ⟨rfl,hb1⟩
  have hbu2:=But.of (r:=r) hb1
  replace HR:=gh ((gf HR).keep hb1)
  replace HB:=gh ((gf HB).trans hbu2)
  replace HZ:=gh ((gf HZ).but hbu2 hrne)
  replace HX9:=gh ((hbu2.block _ (blk (gf HX9)).1 (Ne.symm ne9)).trans (gf HX9))
  replace HS:=gh (Nat.lt_of_lt_of_le (gf HS) hbu2.size)
  clear hb1 HC1
  obtain ⟨y0,y1,y2,y3,y4,y5,y6⟩:=blk7 (gf HZ)
  obtain ⟨z0,z1,z2,z3,z4,z5,z6⟩:=frz7 (gf HZ)
  have HNode:=gh (leaf (W:=w1) (lo:=w.heap.size+1) 3 ai ⟨#[]⟩ ⟨#[]⟩ false)
  rw [gf hsw] at y0 y1 y2 y3 y4 y5 y6 z0 z1 z2 z3 z4 z5 z6
  go_wp2
  rw [←gf hsw]
  exact ret_put rfl rfl rfl (gf HB) hr (gf HZ) (by have h:=gf HY;exact h.symm) (gf HL).1 (gf HR) (Nat.lt_succ_self _) (gf HNode)
 have hY0:=gf HY
 simp only [Bool.false_eq_true,if_false] at hY0
 replace HY:=gh hY0
 have hRR:=gf HR
 rw [if_neg Bool.false_ne_true] at hRR
 replace HR:=gh hRR
 clear hY0 hRR
 have HC3:=gh (gf hE w0 (p) (gf HL).2 (gf HR))
 go_wp2_with fail
 refine (gf HC3).mono ?_
 intro e w3 h3
 rcases hX3:g .rE d (p) with er | ⟨t3,q3⟩
 ·rw [hX3] at h3
  obtain ⟨ei,en⟩:=er
  have hYe:Y = .error (ei,en):=by have h:=gf HY;rw [hX3] at h;exact h.symm
  subst hYe
  obtain ⟨hb3,h3⟩:=h3
  obtain rfl:e=_:=h3
  have HP:=gh ((gf HB).trans hb3)
  clear hb3 HC3 hX3
  go_wp2
  exact ⟨rfl,gf HP,rfl⟩
 rw [hX3] at h3
 obtain ⟨hb3,hle3,hR3,v3,rfl,hv3⟩:=h3
 have hY3:=gf HY
 rw [hX3] at hY3
 simp only [thenR] at hY3
 replace HY:=gh hY3
 clear hY3
 obtain ⟨i3,j3,s3,m3,b3,a3,n3,c3,rfl⟩:=hv3.form
 have HT3:=gh (hv3.keep (lo':=w.heap.size+1) (Stays.of (Below.refl _ _)) (gf HS))
 replace HB:=gh ((gf HB).trans hb3)
 replace HZ:=gh ((gf HZ).but hb3 hrne)
 replace HX9:=gh ((hb3.block _ (blk (gf HX9)).1 (Ne.symm ne9)).trans (gf HX9))
 replace HS:=gh (Nat.lt_of_lt_of_le (gf HS) hb3.size)
 replace HR:=gh hR3
 replace HL:=gh (And.intro (Nat.le_trans (gf HL).1 hle3) (Nat.le_trans (gf HL).2 hle3))
 clear hb3 hle3 hR3 hv3 HC3 hX3
 obtain ⟨B4,eB4,hbB4,hsB4,hhB4⟩:=box_new w3 #[.int .i64 i3,.string s3,.string m3,.bool b3,.slice a3 n3 c3,.int .i64 0,.int .i64 j3] 36
 have ne4:r≠w3.heap.size:=by have:=gf HS;omega
 have HQHX4:=HS
 have hbu5:=But.of (r:=r) hbB4
 replace HR:=gh ((gf HR).keep hbB4)
 replace HB:=gh ((gf HB).trans hbu5)
 replace HZ:=gh ((gf HZ).but hbu5 hrne)
 replace HX9:=gh ((hbu5.block _ (blk (gf HX9)).1 (Ne.symm ne9)).trans (gf HX9))
 replace HT3:=gh ((gf HT3).keep (Stays.but hbu5 (Nat.lt_succ_of_lt hr)) (Nat.le_refl _))
 replace HS:=gh (Nat.lt_of_lt_of_le (gf HS) hbu5.size)
 have HX4:=gh hhB4
 have HEB4:=gh eB4
 have HSB4:=gh hsB4
 clear eB4 hbB4 hhB4 hsB4
 have HC6:=gh (must_any (gf HR) (gf HT) (s:=⟨#[41]⟩) (by decide))
 go_wp2_with fail
 rw [gf HEB4]
 refine (gf HC6).mono ?_
 intro e w6 h6
 rcases hX6:mustR ts ⟨#[41]⟩ (q3) with er | ⟨t6,q6⟩
 ·rw [hX6] at h6
  obtain ⟨ei,en⟩:=er
  have hYe:Y = .error (ei,en):=by have h:=gf HY;rw [hX6] at h;exact h.symm
  subst hYe
  obtain ⟨hb6,h6⟩:=h6
  obtain rfl:e=_:=h6
  have HP:=gh ((gf HB).trans hb6)
  clear hb6 HC6 hX6
  go_wp2
  exact ⟨rfl,gf HP,rfl⟩
 rw [hX6] at h6
 obtain ⟨hb6,hle6,hR6,v6,rfl,hv6⟩:=h6
 have hY6:=gf HY
 rw [hX6] at hY6
 simp only [thenR] at hY6
 replace HY:=gh hY6
 clear hY6
 obtain rfl:v6=_:=hv6
 replace HB:=gh ((gf HB).trans hb6)
 replace HZ:=gh ((gf HZ).but hb6 hrne)
 replace HX9:=gh ((hb6.block _ (blk (gf HX9)).1 (Ne.symm ne9)).trans (gf HX9))
 replace HX4:=gh ((hb6.block _ (blk (gf HX4)).1 (Ne.symm ne4)).trans (gf HX4))
 replace HT3:=gh ((gf HT3).keep (Stays.but hb6 (Nat.lt_succ_of_lt hr)) (Nat.le_refl _))
 replace HS:=gh (Nat.lt_of_lt_of_le (gf HS) hb6.size)
 replace HR:=gh hR6
 replace HL:=gh (And.intro (Nat.le_trans (gf HL).1 hle6) (Nat.le_trans (gf HL).2 hle6))
 clear hb6 hle6 hR6 HC6 hX6
 obtain ⟨y04,y14,y24,y34,y44,y54,y64⟩:=blk7 (gf HX4)
 obtain ⟨y0,y1,y2,y3,y4,y5,y6⟩:=blk7 (gf HZ)
 obtain ⟨z0,z1,z2,z3,z4,z5,z6⟩:=frz7 (gf HZ)
 have HNode:=gh (gf HT3)
 rw [gf hsw] at y0 y1 y2 y3 y4 y5 y6 z0 z1 z2 z3 z4 z5 z6
 go_wp2
 rw [←gf hsw]
 exact ret_put rfl rfl rfl (gf HB) hr (gf HZ) (by have h:=gf HY;exact h.symm) (gf HL).1 (gf HR) (Nat.lt_succ_self _) (gf HNode)
end Go.Proofs.YtfkfnbehdcmgeaaGreatDoor
