/- Package parse: words of effects and kinds. -/
import Derived.Test.YtfkfnbehdcmgeaaGreatDoorZAF
import Derived.Test.YtfkfnbehdcmgeaaGreatDoorZAG
import Derived.Test.YtfkfnbehdcmgeaaGreatDoorZAH
import Derived.Test.YtfkfnbehdcmgeaaGreatDoorZAI
import Derived.Test.YtfkfnbehdcmgeaaGreatDoorZAJ
import Derived.Test.YtfkfnbehdcmgeaaGreatDoorZAK
import Derived.Test.YtfkfnbehdcmgeaaGreatDoorZAC
import Derived.Defers
import Derived.Recover
set_option linter.unusedVariables false
set_option linter.unusedSimpArgs false
namespace Go.Proofs.YtfkfnbehdcmgeaaGreatDoor
open Go Go.RowKit
theorem IsLs.form {w:World} {lo:Nat} {v:Value} {l:List Ex} (h:IsLs w lo v l):∃ (a:Option Addr) (n c:Nat),v = .slice a n c:=by
 obtain ⟨k,a,c,e,-⟩:=h
 exact ⟨_,_,_,e⟩
set_option maxRecDepth 100000 in
set_option maxHeartbeats 8000000 in
theorem call_of {r d lo:Nat} {ts:List (Int×ByteArray×Int)} {g:Ru→Nat→Nat→(Except (Int×Int) (Ex×Nat))} (hT:TsOk ts) (hE:RuC 59 r ts d (lo+1) (g .rE d)) {w:World} {p:Nat} (hlo:lo≤p) (hp1:p+1<ts.length) (hR:RD w r ts p d):Calls Tryz.prog 130 #[.pointer (some ⟨r,0,none⟩)] w (PE (callR ts g d p) r ts p d w):=by
 obtain ⟨Y,hY⟩:∃ Y,callR ts g d p=Y:=⟨_,rfl⟩
 rw [hY]
 unfold callR at hY
 have hr:=hR.rlt
 obtain ⟨A,eA,hbA,hzA,hsA⟩:=zb_new w
 have HB:=gh (But.of (r:=r) hbA)
 have HR:=gh (hR.keep hbA)
 have HZ:=gh hzA
 have HS:Hid (w.heap.size<A.heap.size):=by show _<_;omega
 have HL:Hid (p≤p∧lo≤p):=⟨Nat.le_refl _,hlo⟩
 have HSA:=gh hsA
 have HE:=gh eA
 have HT:=gh hT
 have HY:=gh hY
 have hrne:r≠w.heap.size:=by omega
 have hmf:∀ (fn:Fn) (first cap:Array Value) (w:World),(Instr.makeFunc fn first cap).run Tryz.prog w = .ok (.func fn first cap) w:=fun _ _ _ _=>rfl
 replace hE:=gh hE
 replace hp1:=gh hp1
 clear hlo hR hbA hzA hsA eA hT hY
 go_enter Tryz.func130,Tryz.ntmps130
 have HC0:=gh (take_any (gf HR) (gf HT) (gf hp1))
 unfold tkV at HC0
 obtain ⟨⟨kk0,T0,at0⟩,hN0⟩:∃ X,nx ts p=X:=⟨_,rfl⟩
 rw [hN0] at HC0
 have HN0:=gh hN0
 clear hN0
 go_wp2_with fail
 rw [gf HE]
 refine (gf HC0).mono ?_
 rintro e w0 ⟨rfl,hb0,hR0⟩
 replace HB:=gh ((gf HB).trans hb0)
 replace HZ:=gh ((gf HZ).but hb0 hrne)
 replace HS:=gh (Nat.lt_of_lt_of_le (gf HS) hb0.size)
 replace HR:=gh hR0
 replace HL:Hid (p≤p+1∧lo+1≤p+1):=And.intro (Nat.le_succ_of_le (gf HL).1) (Nat.succ_le_succ (gf HL).2)
 clear hb0 hR0 HC0
 obtain ⟨B1,eB1,hbB1,hsB1,hhB1⟩:=box_new w0 #[.int .i64 kk0,.string T0,.int .i64 at0] 74
 have ne1:r≠w0.heap.size:=by have:=gf HS;omega
 have HQHX1:=HS
 have hbu2:=But.of (r:=r) hbB1
 replace HR:=gh ((gf HR).keep hbB1)
 replace HB:=gh ((gf HB).trans hbu2)
 replace HZ:=gh ((gf HZ).but hbu2 hrne)
 replace HS:=gh (Nat.lt_of_lt_of_le (gf HS) hbu2.size)
 have HX1:=gh hhB1
 have HEB1:=gh eB1
 have HSB1:=gh hsB1
 clear eB1 hbB1 hhB1 hsB1
 have htx:txt ts p=T0:=by unfold txt;rw [gf HN0]
 have hYt:=gf HY
 rw [htx] at hYt
 replace HY:=gh hYt
 clear htx hYt
 have HC3:=gh (must_any (gf HR) (gf HT) (s:=⟨#[40]⟩) (by decide))
 go_wp2_with fail
 rw [gf HEB1]
 refine (gf HC3).mono ?_
 intro e w3 h3
 rcases hX3:mustR ts ⟨#[40]⟩ (p+1) with er | ⟨t3,q3⟩
 ·rw [hX3] at h3
  obtain ⟨ei,en⟩:=er
  have hYe:Y = .error (ei,en):=by have h:=gf HY;rw [hX3] at h;exact h.symm
  subst hYe
  obtain ⟨hb3,h3⟩:=h3
  obtain rfl:e=_:=h3
  have HP:=gh ((gf HB).trans hb3)
  clear hb3 HC3 hX3
  go_wp2
  exact ⟨rfl,gf HP,rfl⟩
 rw [hX3] at h3
 obtain ⟨hb3,hle3,hR3,v3,rfl,hv3⟩:=h3
 have hY3:=gf HY
 rw [hX3] at hY3
 simp only [thenR] at hY3
 replace HY:=gh hY3
 clear hY3
 obtain rfl:v3=_:=hv3
 replace HB:=gh ((gf HB).trans hb3)
 replace HZ:=gh ((gf HZ).but hb3 hrne)
 replace HX1:=gh ((hb3.block _ (blk (gf HX1)).1 (Ne.symm ne1)).trans (gf HX1))
 replace HS:=gh (Nat.lt_of_lt_of_le (gf HS) hb3.size)
 replace HR:=gh hR3
 replace HL:=gh (And.intro (Nat.le_trans (gf HL).1 hle3) (Nat.le_trans (gf HL).2 hle3))
 clear hb3 hle3 hR3 HC3 hX3
 have HC4:=gh (takeIf_any (gf HR) (gf HT) (s:=⟨#[41]⟩) (by decide))
 obtain ⟨bo4,hbo4⟩:∃ b,sees ts (q3) ⟨#[41]⟩=b:=⟨_,rfl⟩
 rw [hbo4] at HC4
 have hY4:=gf HY
 rw [hbo4] at hY4
 replace HY:=gh hY4
 have HO4:=gh hbo4
 clear hY4 hbo4
 go_wp2_with fail
 refine (gf HC4).mono ?_
 rintro e w4 ⟨rfl,hb4,hR4⟩
 replace HB:=gh ((gf HB).trans hb4)
 replace HZ:=gh ((gf HZ).but hb4 hrne)
 replace HX1:=gh ((hb4.block _ (blk (gf HX1)).1 (Ne.symm ne1)).trans (gf HX1))
 replace HS:=gh (Nat.lt_of_lt_of_le (gf HS) hb4.size)
 replace HR:=gh hR4
 clear hb4 hR4 HC4
 rcases bo4 with _ | _
 rotate_left
 ·have hY4:=gf HY
  simp only [if_true] at hY4
  replace HY:=gh hY4
  have hRR:=gf HR
  rw [if_pos rfl] at hRR
  replace HR:=gh hRR
  clear hY4 hRR
  replace HL:Hid (p≤q3+1∧lo+1≤q3+1):=And.intro (Nat.le_succ_of_le (gf HL).1) (Nat.le_succ_of_le (gf HL).2)
  have u01:=(blk (gf HX1)).2.1 0 _ rfl
  have u11:=(blk (gf HX1)).2.1 1 _ rfl
  have u21:=(blk (gf HX1)).2.1 2 _ rfl
  have HC5:=gh (named_any 21 kk0 at0 T0 T0 none 0 0 w4)
  go_wp2_with fail
  refine (gf HC5).mono ?_
  rintro e w5 ⟨rfl,hb5⟩
  have hbu6:=But.of (r:=r) hb5
  replace HR:=gh ((gf HR).keep hb5)
  replace HB:=gh ((gf HB).trans hbu6)
  replace HZ:=gh ((gf HZ).but hbu6 hrne)
  replace HX1:=gh ((hbu6.block _ (blk (gf HX1)).1 (Ne.symm ne1)).trans (gf HX1))
  replace HS:=gh (Nat.lt_of_lt_of_le (gf HS) hbu6.size)
  clear hb5 HC5
  obtain ⟨y0,y1,y2,y3,y4,y5,y6⟩:=blk7 (gf HZ)
  obtain ⟨z0,z1,z2,z3,z4,z5,z6⟩:=frz7 (gf HZ)
  have HNode:=gh (leaf (W:=w5) (lo:=w.heap.size+1) 21 at0 T0 ⟨#[]⟩ false)
  go_wp2
  exact ret_put rfl rfl rfl (gf HB) hr (gf HZ) (by have h:=gf HY;rw [gf HN0] at h;exact h.symm) (gf HL).1 (gf HR) (Nat.lt_succ_self _) (gf HNode)
 have hY4:=gf HY
 simp only [Bool.false_eq_true,if_false] at hY4
 replace HY:=gh hY4
 have hRR:=gf HR
 rw [if_neg Bool.false_ne_true] at hRR
 replace HR:=gh hRR
 clear hY4 hRR
 have HC7:=gh (exprs_of (gf HT) (gf hE) (by decide:8≤1000000) (gf HL).2 (gf HR))
 go_wp2_with fail
 refine (gf HC7).mono ?_
 intro e w7 h7
 rcases hX7:exprsR ts (g .rE d) 8 (q3) with er | ⟨t7,q7⟩
 ·rw [hX7] at h7
  obtain ⟨ei,en⟩:=er
  have hYe:Y = .error (ei,en):=by have h:=gf HY;rw [hX7] at h;exact h.symm
  subst hYe
  obtain ⟨hb7,h7⟩:=h7
  obtain rfl:e=_:=h7
  have HP:=gh ((gf HB).trans hb7)
  clear hb7 HC7 hX7
  go_wp2
  exact ⟨rfl,gf HP,rfl⟩
 rw [hX7] at h7
 obtain ⟨hb7,hle7,hR7,v7,rfl,hv7⟩:=h7
 have hY7:=gf HY
 rw [hX7] at hY7
 simp only [thenR] at hY7
 replace HY:=gh hY7
 clear hY7
 obtain ⟨a7,n7,c7,rfl⟩:=IsLs.form hv7
 have HT7:=gh (IsLs.keep (lo':=w.heap.size+1) hv7 (Stays.of (Below.refl _ _)) (gf HS))
 replace HB:=gh ((gf HB).trans hb7)
 replace HZ:=gh ((gf HZ).but hb7 hrne)
 replace HX1:=gh ((hb7.block _ (blk (gf HX1)).1 (Ne.symm ne1)).trans (gf HX1))
 replace HS:=gh (Nat.lt_of_lt_of_le (gf HS) hb7.size)
 replace HR:=gh hR7
 replace HL:=gh (And.intro (Nat.le_trans (gf HL).1 hle7) (Nat.le_trans (gf HL).2 hle7))
 clear hb7 hle7 hR7 hv7 HC7 hX7
 have HC8:=gh (must_any (gf HR) (gf HT) (s:=⟨#[41]⟩) (by decide))
 go_wp2_with fail
 refine (gf HC8).mono ?_
 intro e w8 h8
 rcases hX8:mustR ts ⟨#[41]⟩ (q7) with er | ⟨t8,q8⟩
 ·rw [hX8] at h8
  obtain ⟨ei,en⟩:=er
  have hYe:Y = .error (ei,en):=by have h:=gf HY;rw [hX8] at h;exact h.symm
  subst hYe
  obtain ⟨hb8,h8⟩:=h8
  obtain rfl:e=_:=h8
  have HP:=gh ((gf HB).trans hb8)
  clear hb8 HC8 hX8
  go_wp2
  exact ⟨rfl,gf HP,rfl⟩
 rw [hX8] at h8
 obtain ⟨hb8,hle8,hR8,v8,rfl,hv8⟩:=h8
 have hY8:=gf HY
 rw [hX8] at hY8
 simp only [thenR] at hY8
 replace HY:=gh hY8
 clear hY8
 obtain rfl:v8=_:=hv8
 replace HB:=gh ((gf HB).trans hb8)
 replace HZ:=gh ((gf HZ).but hb8 hrne)
 replace HX1:=gh ((hb8.block _ (blk (gf HX1)).1 (Ne.symm ne1)).trans (gf HX1))
 replace HT7:=gh ((gf HT7).keep (Stays.but hb8 (Nat.lt_succ_of_lt hr)) (Nat.le_refl _))
 replace HS:=gh (Nat.lt_of_lt_of_le (gf HS) hb8.size)
 replace HR:=gh hR8
 replace HL:=gh (And.intro (Nat.le_trans (gf HL).1 hle8) (Nat.le_trans (gf HL).2 hle8))
 clear hb8 hle8 hR8 HC8 hX8
 have u01:=(blk (gf HX1)).2.1 0 _ rfl
 have u11:=(blk (gf HX1)).2.1 1 _ rfl
 have u21:=(blk (gf HX1)).2.1 2 _ rfl
 have HC9:=gh (named_any 21 kk0 at0 T0 T0 a7 n7 c7 w8)
 go_wp2_with fail
 refine (gf HC9).mono ?_
 rintro e w9 ⟨rfl,hb9⟩
 have hbu10:=But.of (r:=r) hb9
 replace HR:=gh ((gf HR).keep hb9)
 replace HB:=gh ((gf HB).trans hbu10)
 replace HZ:=gh ((gf HZ).but hbu10 hrne)
 replace HX1:=gh ((hbu10.block _ (blk (gf HX1)).1 (Ne.symm ne1)).trans (gf HX1))
 replace HT7:=gh ((gf HT7).keep (Stays.but hbu10 (Nat.lt_succ_of_lt hr)) (Nat.le_refl _))
 replace HS:=gh (Nat.lt_of_lt_of_le (gf HS) hbu10.size)
 clear hb9 HC9
 obtain ⟨y0,y1,y2,y3,y4,y5,y6⟩:=blk7 (gf HZ)
 obtain ⟨z0,z1,z2,z3,z4,z5,z6⟩:=frz7 (gf HZ)
 have HNode:=gh ((gf HT7).node 21 at0 T0 ⟨#[]⟩ false)
 go_wp2
 exact ret_put rfl rfl rfl (gf HB) hr (gf HZ) (by have h:=gf HY;rw [gf HN0] at h;exact h.symm) (gf HL).1 (gf HR) (Nat.lt_succ_self _) (gf HNode)
end Go.Proofs.YtfkfnbehdcmgeaaGreatDoor
namespace Go.Proofs.YtfkfnbehdcmgeaaGreatDoor
open Go Go.RowKit
theorem enter_within:Enters Tryz.prog 75:=⟨fun xs w=>by go_simp⟩
def GC (r:Nat) (ts:List (Int×ByteArray×Int)) (f d lo:Nat):Prop:=
 RuC 59 r ts d lo (gR ts f .rE d)∧RuC 127 r ts d lo (gR ts f .rU d) ∧
 ∀ (w:World) (p:Nat),lo≤p→RD w r ts p d→Calls Tryz.prog 73 #[.pointer (some ⟨r,0,none⟩),.bool (begU ts p),.func (.func 115) #[.pointer (some ⟨r,0,none⟩)] #[]] w (PE (gR ts f .rI d p) r ts p d w)
theorem rules_all {r:Nat} {ts:List (Int×ByteArray×Int)} (hT:TsOk ts):∀ (f d lo:Nat),ts.length≤lo+f→d+f≤1000000→GC r ts f d lo
 |0,d,lo,hf,_=>⟨fun w p hlo hR=>absurd hR.lt (by omega),fun w p hlo hR=>absurd hR.lt (by omega),fun w p hlo hR=>absurd hR.lt (by omega)⟩
 |f+1,d,lo,hf,hd=>by
  obtain ⟨hE,hU,hI⟩:=rules_all hT f (d+1) (lo+1) (by omega) (by omega)
  have hd':d≤1000000:=by omega
  have hPr:RuC 128 r ts (d+1) lo (primR ts (gR ts f) (d+1)):=fun w p hlo hR =>
   primary_of hT (fun w p kk ai T hlo hR=>bracketed_of hT hE hlo hR) (fun w p hlo hp1 _ hR=>call_of hT hE hlo hp1 hR) hlo hR
  have hUn:RuC 126 r ts (d+1) lo (unaryR ts (gR ts f) (d+1)):=fun w p hlo hR=>unary_of hT hU hPr hlo hR
  have hTe:RuC 125 r ts (d+1) lo (termR ts (gR ts f) (d+1)):=fun w p hlo hR=>term_of hT hUn hlo hR
  have hSu:RuC 124 r ts (d+1) lo (sumR ts (gR ts f) (d+1)):=fun w p hlo hR=>sum_of hT hTe hlo hR
  have hCm:RuC 122 r ts (d+1) lo (cmpR ts (gR ts f) (d+1)):=fun w p hlo hR=>cmp_of hT hSu hlo hR
  have hAn:RuC 120 r ts (d+1) lo (andR ts (gR ts f) (d+1)):=fun w p hlo hR=>and_of hT hCm hlo hR
  have hOr:RuC 117 r ts (d+1) lo (orR ts (gR ts f) (d+1)):=fun w p hlo hR=>or_of hT hAn hlo hR
  have hIm:RuC 115 r ts (d+1) lo (impR ts (gR ts f) (d+1)):=fun w p hlo hR=>imp_of hT hOr hI hlo hR
  have hPa:RuC 112 r ts (d+1) lo (partR ts (gR ts f) (d+1)):=fun w p hlo hR=>part_of hT hIm hlo hR
  have hSe:RuC 98 r ts (d+1) lo (seqR ts (gR ts f) (d+1)):=fun w p hlo hR=>sequence_of hT hPa hE hlo hR
  have hWi:RuC 75 r ts (d+1) lo (withinR ts (gR ts f) (d+1)):=fun w p hlo hR =>
   within_of hT (fun w p hlo hp1 hR=>branch_of hT hE hlo hp1 hR) (fun w p hlo hp1 hR=>binding_of hT hE hlo hp1 hR) (fun w p hlo hp1 hR=>handler_of hT hE hlo hp1 hR) hSe hlo hR
  refine ⟨?_,?_,fun w p hlo hR => ?_⟩
  ·exact expr_of hT hd' enter_within hWi
  ·exact unb_of hT hd' enter_unary hUn
  ·exact nested_any hR hT (begU ts p) hd' enter_imp hIm hlo
end Go.Proofs.YtfkfnbehdcmgeaaGreatDoor
namespace Go.Proofs.YtfkfnbehdcmgeaaGreatDoor
structure Ty where
 kind:Int
 name:ByteArray
 r:List Ex
 at':Int
structure Pm where
 name:ByteArray
 t:Ty
 at':Int
structure De where
 cell:Bool
 name:ByteArray
 num:ByteArray
 again:Bool
 ps:List Pm
 eff:Int
 t:Ty
 req:List Ex
 res:ByteArray
 ens:List Ex
 mea:List Ex
 body:Ex
 at':Int
def zEx:Ex:=.mk 0 ⟨#[]⟩ ⟨#[]⟩ false [] 0
def zTy:Ty:=.mk 0 ⟨#[]⟩ [] 0
def kindD (s:ByteArray):Int:=if s=⟨#[105,110,116]⟩ then 1 else if s=⟨#[98,111,111,108]⟩ then 2 else if s=⟨#[117,110,105,116]⟩ then 3 else 0
def effD (s:ByteArray):Int:=if s=⟨#[80,117,114,101]⟩ then 1 else if s=⟨#[83,116,97,116,101]⟩ then 2 else if s=⟨#[69,120,110]⟩ then 3 else if s=⟨#[65,108,108]⟩ then 4 else if s=⟨#[68,105,118]⟩ then 5 else 0
section
variable (ts:List (Int×ByteArray×Int))
def exR (p:Nat):(Except (Int×Int) (Ex×Nat)):=gR ts ts.length .rE 0 p
def endR (p:Nat):(Except (Int×Int) (Unit×Nat)):=if (nx ts p).1=0 then .ok ((),p) else bad ts p 150
def aloneP (p:Nat):(Except (Int×Int) (Ex×Nat)):=thenR (exR ts p) fun x q=>thenR (endR ts q) fun _ z => .ok (x,z)
def refR (p:Nat):(Except (Int×Int) (Ty×Nat)):=thenR (mustBeR ts 1 (p+1)) fun n q=>thenR (mustR ts ⟨#[58]⟩ q) fun _ q=>thenR (mustR ts ⟨#[105,110,116]⟩ q) fun _ q=>thenR (mustR ts ⟨#[124]⟩ q) fun _ q=>thenR (exR ts q) fun x q=>thenR (mustR ts ⟨#[125]⟩ q) fun _ q => .ok (.mk 1 n.2.1 [x] (nx ts p).2.2,q)
def typeR (p:Nat):(Except (Int×Int) (Ty×Nat)):=if sees ts p ⟨#[123]⟩ then refR ts p else if kindD (txt ts p)=0 then bad ts p 150 else .ok (.mk (kindD (txt ts p)) ⟨#[]⟩ [] (nx ts p).2.2,p+1)
def effR (p:Nat):(Except (Int×Int) (Int×Nat)):=if effD (txt ts p)=0 then bad ts p 150 else .ok (effD (txt ts p),p+1)
def paramR (p:Nat):(Except (Int×Int) (Pm×Nat)):=thenR (mustR ts ⟨#[40]⟩ p) fun _ q=>thenR (mustBeR ts 1 q) fun n q=>thenR (mustR ts ⟨#[58]⟩ q) fun _ q=>thenR (typeR ts q) fun t q=>thenR (mustR ts ⟨#[41]⟩ q) fun _ q => .ok (.mk n.2.1 t n.2.2,q)
def paramsL:Nat→List Pm→Nat→(Except (Int×Int) ((List Pm)×Nat))
 |0,out,p => .ok (out,p)
 |n+1,out,p=>if sees ts p ⟨#[40]⟩ then (if out.length=8 then bad ts p 152 else thenR (paramR ts p) fun x q=>paramsL n (out++[x]) q) else .ok (out,p)
def paramsR (p:Nat):(Except (Int×Int) ((List Pm)×Nat)):=paramsL ts ts.length [] p
def reqR (p:Nat):(Except (Int×Int) ((List Ex)×Nat)):=if sees ts p ⟨#[114,101,113,117,105,114,101,115]⟩ then thenR (exR ts (p+1)) fun x q => .ok ([x],q) else .ok ([],p)
def ensR (p:Nat):(Except (Int×Int) ((ByteArray×List Ex)×Nat)):=if sees ts p ⟨#[101,110,115,117,114,101,115]⟩ then thenR (mustBeR ts 1 (p+1)) fun n q=>thenR (mustR ts ⟨#[46]⟩ q) fun _ q=>thenR (exR ts q) fun x q => .ok ((n.2.1,[x]),q) else .ok ((⟨#[]⟩,[]),p)
def meaR (p:Nat):(Except (Int×Int) ((List Ex)×Nat)):=if sees ts p ⟨#[100,101,99,114,101,97,115,101,115]⟩ then exprsR ts (exR ts) 65536 (p+1) else .ok ([],p)
def contR (p:Nat):(Except (Int×Int) ((List Ex×ByteArray×List Ex×List Ex)×Nat)):=thenR (reqR ts p) fun a q=>thenR (ensR ts q) fun b q=>thenR (meaR ts q) fun c q => .ok ((a,b.1,b.2,c),q)
def defR (p:Nat):(Except (Int×Int) (De×Nat)):=
 thenR (mustBeR ts 1 (if sees ts p ⟨#[114,101,99]⟩ then p+1 else p)) fun n q=>thenR (paramsR ts q) fun ps q=>thenR (mustR ts ⟨#[58]⟩ q) fun _ q=>thenR (effR ts q) fun e q=>thenR (typeR ts q) fun t q=>thenR (contR ts q) fun c q=>thenR (mustR ts ⟨#[105,115]⟩ q) fun _ q=>thenR (exR ts q) fun x q=>thenR (mustR ts ⟨#[59,59]⟩ q) fun _ q =>
  .ok (.mk false n.2.1 ⟨#[]⟩ (sees ts p ⟨#[114,101,99]⟩) ps e t c.1 c.2.1 c.2.2.1 c.2.2.2 x n.2.2,q)
def cellN (below:Bool) (n:ByteArray):ByteArray:=if below∧n≠⟨#[48]⟩ then ⟨#[45]⟩++n else n
def cellR (p:Nat):(Except (Int×Int) (De×Nat)):=
 thenR (mustBeR ts 1 p) fun n q=>thenR (mustR ts ⟨#[58,61]⟩ q) fun _ q=>thenR (mustBeR ts 3 (if sees ts q ⟨#[45]⟩ then q+1 else q)) fun k z=>thenR (mustR ts ⟨#[59,59]⟩ z) fun _ z =>
  .ok (.mk true n.2.1 (cellN (sees ts q ⟨#[45]⟩) k.2.1) false [] 0 zTy [] ⟨#[]⟩ [] [] zEx n.2.2,z)
def declR (p:Nat):(Except (Int×Int) (De×Nat)):=if sees ts p ⟨#[114,101,102]⟩ then cellR ts (p+1) else thenR (mustR ts ⟨#[108,101,116]⟩ p) fun _ q=>defR ts q
def progL:Nat→List De→Nat→(Except (Int×Int) ((List De)×Nat))
 |0,out,p => .ok (out,p)
 |n+1,out,p=>if ([⟨#[114,101,102]⟩,⟨#[108,101,116]⟩]:List ByteArray).any (sees ts p) then (if out.length=100 then bad ts p 152 else thenR (declR ts p) fun x q=>progL n (out++[x]) q) else .ok (out,p)
def progR (p:Nat):(Except (Int×Int) ((List De)×Nat)):=thenR (progL ts ts.length [] p) fun l q=>thenR (endR ts q) fun _ z => .ok (l,z)
end
end Go.Proofs.YtfkfnbehdcmgeaaGreatDoor
namespace Go.Proofs.YtfkfnbehdcmgeaaGreatDoor
open Go Go.RowKit
set_option maxRecDepth 100000 in
set_option maxHeartbeats 4000000 in
theorem mustEnd_any {w:World} {r p d:Nat} {ts:List (Int×ByteArray×Int)} (hR:RD w r ts p d) (hT:TsOk ts):Calls Tryz.prog 46 #[.pointer (some ⟨r,0,none⟩)] w (RP UnOk (endR ts p) r ts p d w):=by
 have HS:=gh (next_any hR hT)
 obtain ⟨X,hX⟩:∃ X,endR ts p=X:=⟨_,rfl⟩
 rw [hX]
 unfold endR at hX
 have HT:=gh (And.intro hR hT)
 unfold tkV at HS
 obtain ⟨⟨kk,T,i⟩,hN⟩:∃ Y,nx ts p=Y:=⟨_,rfl⟩
 rw [hN] at HS
 have HA:=gh (And.intro hX hN)
 have h0:=fld0 (.int .i64 kk) (.string T) (.int .i64 i)
 clear hR hT hX hN
 by_cases hkk:kk=0
 ·subst hkk
  go_enter Tryz.func46,Tryz.ntmps46
  go_wp2_with fail
  refine (gf HS).mono ?_
  rintro e w2 ⟨rfl,hb2⟩
  have HB2:=gh hb2
  clear hb2 HS
  go_wp2
  obtain ⟨hX,hN⟩:=gf HA
  obtain ⟨hR,hT⟩:=gf HT
  rw [hN,if_pos rfl] at hX
  obtain rfl:=hX
  refine bodyPost_ret (results_none rfl _ _ _) rfl ?_
  exact ⟨But.of (gf HB2),Nat.le_refl _,hR.keep (gf HB2),_,rfl,rfl⟩
 ·have g0:decide (kk=0)=false:=by simpa using hkk
  go_enter Tryz.func46,Tryz.ntmps46
  go_wp2_with fail
  refine (gf HS).mono ?_
  rintro e w2 ⟨rfl,hb2⟩
  have HRf:=gh (refused_any ((gf HT).1.keep hb2) (gf HT).2 150)
  have HB2:=gh hb2
  clear hb2 HS
  go_wp2_with fail
  refine (gf HRf).mono ?_
  rintro e w3 ⟨rfl,hb3⟩
  have HB3:=gh hb3
  clear hb3 HRf
  go_wp2
  obtain ⟨hX,hN⟩:=gf HA
  rw [hN,if_neg hkk] at hX
  obtain rfl:=hX
  refine ⟨rfl,(But.of (gf HB2)).trans (But.of (gf HB3)),?_⟩
  rfl
set_option maxRecDepth 100000 in
set_option maxHeartbeats 8000000 in
theorem alone_of {r d lo:Nat} {ts:List (Int×ByteArray×Int)} {g:Ru→Nat→Nat→(Except (Int×Int) (Ex×Nat))} (hT:TsOk ts) (hE:RuC 59 r ts d lo (exR ts)) {w:World} {p:Nat} (hlo:lo≤p) (hR:RD w r ts p d):Calls Tryz.prog 36 #[.pointer (some ⟨r,0,none⟩)] w (PE (aloneP ts p) r ts p d w):=by
 obtain ⟨Y,hY⟩:∃ Y,aloneP ts p=Y:=⟨_,rfl⟩
 rw [hY]
 unfold aloneP at hY
 have hr:=hR.rlt
 obtain ⟨A,eA,hbA,hzA,hsA⟩:=zb_new w
 have HB:=gh (But.of (r:=r) hbA)
 have HR:=gh (hR.keep hbA)
 have HZ:=gh hzA
 have HS:Hid (w.heap.size<A.heap.size):=by show _<_;omega
 have HL:Hid (p≤p∧lo≤p):=⟨Nat.le_refl _,hlo⟩
 have HSA:=gh hsA
 have HE:=gh eA
 have HT:=gh hT
 have HY:=gh hY
 have hrne:r≠w.heap.size:=by omega
 have hmf:∀ (fn:Fn) (first cap:Array Value) (w:World),(Instr.makeFunc fn first cap).run Tryz.prog w = .ok (.func fn first cap) w:=fun _ _ _ _=>rfl
 replace hE:=gh hE
 clear hlo hR hbA hzA hsA eA hT hY
 go_enter Tryz.func36,Tryz.ntmps36
 have HC0:=gh (gf hE A (p) (gf HL).2 (gf HR))
 go_wp2_with fail
 rw [gf HE]
 refine (gf HC0).mono ?_
 intro e w0 h0
 rcases hX0:exR ts (p) with er | ⟨t0,q0⟩
 ·rw [hX0] at h0
  obtain ⟨ei,en⟩:=er
  have hYe:Y = .error (ei,en):=by have h:=gf HY;rw [hX0] at h;exact h.symm
  subst hYe
  obtain ⟨hb0,h0⟩:=h0
  obtain rfl:e=_:=h0
  have HP:=gh ((gf HB).trans hb0)
  clear hb0 HC0 hX0
  go_wp2
  exact ⟨rfl,gf HP,rfl⟩
 rw [hX0] at h0
 obtain ⟨hb0,hle0,hR0,v0,rfl,hv0⟩:=h0
 have hY0:=gf HY
 rw [hX0] at hY0
 simp only [thenR] at hY0
 replace HY:=gh hY0
 clear hY0
 obtain ⟨i0,j0,s0,m0,b0,a0,n0,c0,rfl⟩:=hv0.form
 have HT0:=gh (hv0.keep (lo':=w.heap.size+1) (Stays.of (Below.refl _ _)) (gf HS))
 replace HB:=gh ((gf HB).trans hb0)
 replace HZ:=gh ((gf HZ).but hb0 hrne)
 replace HS:=gh (Nat.lt_of_lt_of_le (gf HS) hb0.size)
 replace HR:=gh hR0
 replace HL:=gh (And.intro (Nat.le_trans (gf HL).1 hle0) (Nat.le_trans (gf HL).2 hle0))
 clear hb0 hle0 hR0 hv0 HC0 hX0
 obtain ⟨B1,eB1,hbB1,hsB1,hhB1⟩:=box_new w0 #[.int .i64 i0,.string s0,.string m0,.bool b0,.slice a0 n0 c0,.int .i64 0,.int .i64 j0] 36
 have ne1:r≠w0.heap.size:=by have:=gf HS;omega
 have HQHX1:=HS
 have hbu2:=But.of (r:=r) hbB1
 replace HR:=gh ((gf HR).keep hbB1)
 replace HB:=gh ((gf HB).trans hbu2)
 replace HZ:=gh ((gf HZ).but hbu2 hrne)
 replace HT0:=gh ((gf HT0).keep (Stays.but hbu2 (Nat.lt_succ_of_lt hr)) (Nat.le_refl _))
 replace HS:=gh (Nat.lt_of_lt_of_le (gf HS) hbu2.size)
 have HX1:=gh hhB1
 have HEB1:=gh eB1
 have HSB1:=gh hsB1
 clear eB1 hbB1 hhB1 hsB1
 have HC3:=gh (mustEnd_any (gf HR) (gf HT))
 go_wp2_with fail
 rw [gf HEB1]
 refine (gf HC3).mono ?_
 intro e w3 h3
 rcases hX3:endR ts (q0) with er | ⟨t3,q3⟩
 ·rw [hX3] at h3
  obtain ⟨ei,en⟩:=er
  have hYe:Y = .error (ei,en):=by have h:=gf HY;rw [hX3] at h;exact h.symm
  subst hYe
  obtain ⟨hb3,h3⟩:=h3
  obtain rfl:e=_:=h3
  have HP:=gh ((gf HB).trans hb3)
  clear hb3 HC3 hX3
  go_wp2
  exact ⟨rfl,gf HP,rfl⟩
 rw [hX3] at h3
 obtain ⟨hb3,hle3,hR3,v3,rfl,hv3⟩:=h3
 have hY3:=gf HY
 rw [hX3] at hY3
 simp only [thenR] at hY3
 replace HY:=gh hY3
 clear hY3
 obtain rfl:v3=_:=hv3
 replace HB:=gh ((gf HB).trans hb3)
 replace HZ:=gh ((gf HZ).but hb3 hrne)
 replace HX1:=gh ((hb3.block _ (blk (gf HX1)).1 (Ne.symm ne1)).trans (gf HX1))
 replace HT0:=gh ((gf HT0).keep (Stays.but hb3 (Nat.lt_succ_of_lt hr)) (Nat.le_refl _))
 replace HS:=gh (Nat.lt_of_lt_of_le (gf HS) hb3.size)
 replace HR:=gh hR3
 replace HL:=gh (And.intro (Nat.le_trans (gf HL).1 hle3) (Nat.le_trans (gf HL).2 hle3))
 clear hb3 hle3 hR3 HC3 hX3
 obtain ⟨y01,y11,y21,y31,y41,y51,y61⟩:=blk7 (gf HX1)
 obtain ⟨y0,y1,y2,y3,y4,y5,y6⟩:=blk7 (gf HZ)
 obtain ⟨z0,z1,z2,z3,z4,z5,z6⟩:=frz7 (gf HZ)
 have HNode:=gh (gf HT0)
 go_wp2
 exact ret_put rfl rfl rfl (gf HB) hr (gf HZ) (by have h:=gf HY;exact h.symm) (gf HL).1 (gf HR) (Nat.lt_succ_self _) (gf HNode)
end Go.Proofs.YtfkfnbehdcmgeaaGreatDoor
namespace Go.Proofs.YtfkfnbehdcmgeaaGreatDoor
open Go Go.RowKit
theorem tkl_len (s:ByteArray):(tkL s).length≤65537:=by
 rw [tkL_len]
 have:(tk s).1.length≤65536:=by
  unfold tk
  split
  ·simp
  ·have:=lx_len s s.size 0
   omega
 omega
theorem tsok_of (s:ByteArray):TsOk (tkL s):=by
 refine ⟨by have:=tkl_len s;omega,by rw [tkL_len];omega,fun j x hx hne => ?_⟩
 have hj:=(List.getElem?_eq_some_iff.1 hx).1
 rw [tkL_len] at hj ⊢
 rcases Nat.lt_or_ge j (tk s).1.length with h | h
 ·omega
 ·have e:j=(tk s).1.length:=by omega
  subst e
  unfold tkL at hx
  rw [List.getElem?_append_right (by simp)] at hx
  simp at hx
  subst hx
  rcases hne with h | h
  ·exact absurd rfl h
  ·exact absurd rfl h
theorem tkp_rd {s:ByteArray} {w w':World} {e:Ending} (h:TkP s (tk s) w e w') (hn:(tk s).2=none):Below w.heap.size w w'∧∃ g c,e = .returned (.tuple #[.slice (some ⟨g,0,none⟩) (tkL s).length c,.nilIface])∧g<w'.heap.size∧(tkL s).length≤c∧∀ j x,(tkL s)[j]?=some x→w'.rangeAt g (j * 3) [.int .i64 x.1,.string x.2.1,.int .i64 x.2.2]:=by
 obtain ⟨hb,v,he,hr⟩:=tkp_ok h hn
 obtain ⟨a,c,rfl,hr⟩:=hr
 obtain ⟨g,rfl,hg,hc⟩:=hr (by unfold tkL;simp)
 refine ⟨hb,g,c,he,hg,?_,fun j x hx => ?_⟩
 ·obtain ⟨_,⟨_,v,he2,ho⟩ | ⟨a,n,b,hx,_⟩⟩:=h
  ·have e1:(Value.slice (some ⟨g,0,none⟩) (tkL s).length c)=v:=by
    rw [he] at he2
    simpa using he2
   subst e1
   obtain ⟨-,h1 | ⟨g',c',cur,e,-,-,h2,-⟩⟩:=ho
   ·exact absurd h1.2 (by omega)
   ·obtain ⟨-,-,rfl⟩:g=g'∧_∧c=c':=by simpa using e
    rw [tkL_len]
    exact h2
  ·rw [hn] at hx;cases hx
 ·obtain ⟨c0,c1,c2⟩:=hc j x hx
  intro i u hu
  rcases i with _ | _ | _ | i
  ·obtain rfl:=Option.some.inj hu
   exact c0
  ·obtain rfl:=Option.some.inj hu
   exact c1
  ·obtain rfl:=Option.some.inj hu
   exact c2
  ·simp at hu
theorem heap_two {w:World} {k:Nat} (h:k<w.heap.size) (o1 o2:Obj):((w.alloc o1).alloc o2).heap[k]?=w.heap[k]?:=
 (((Below.refl (w.alloc o1).heap.size (w.alloc o1)).alloc (Nat.le_refl _) o2).block k (by simp;omega)).trans (((Below.refl w.heap.size w).alloc (Nat.le_refl _) o1).block k h)
set_option maxRecDepth 100000 in
set_option maxHeartbeats 4000000 in
theorem catch_panicking (wb:Nat) (old:Value) (i n:Int) (w:World) (hh:w.heap[wb]?=some (.cells #[old] 25)) :
  CallsD Tryz.prog 42 #[.pointer (some ⟨wb,0,none⟩)] (.panicking [{ v:=.iface 89 (.agg #[.int .i64 i,.int .i64 n]),recovered:=false }]) w fun e u' w' =>
   e = .returned (.tuple #[])∧u' = .panicking [{ v:=.iface 89 (.agg #[.int .i64 i,.int .i64 n]),recovered:=true }]∧But wb w w' ∧
   ∃ b,w'.heap[wb]?=some (.cells #[.iface 61 (.pointer (some ⟨b,0,none⟩))] 25)∧w'.heap[b]?=some (.cells #[.int .i64 i,.int .i64 n] 66):=by
 refine callsD_of_wpS Tryz.func42 rfl fun c₀ cs hu => ?_
 apply wpS_seq
 apply wpS_region
 simp [wpOpsS,go_sem,recoverD,hu,Tryz.ntmps42,Exit.thenS]
 apply wpS_seq
 apply wpS_region
 simp [wpOpsS,go_sem,Exit.thenS]
 refine wpS_cond (t:=true) (by simp [Act.eval,Array.replicate]) ?_
 simp only [if_true]
 refine wpS_of_wp ?_
 have elit:(#[Value.pointer (some { block:=wb,off:=0 })]++((((Array.replicate 14 undef).setIfInBounds 2 (Value.iface 89 (Value.agg #[Value.int IntKind.i64 i,Value.int IntKind.i64 n]))).setIfInBounds 0 (Value.iface 89 (Value.agg #[Value.int IntKind.i64 i,Value.int IntKind.i64 n]))).setIfInBounds 3 (Value.iface 89 (Value.agg #[Value.int IntKind.i64 i,Value.int IntKind.i64 n]))).setIfInBounds 4 (Value.bool true)) = #[Value.pointer (some { block:=wb,off:=0 }),Value.iface 89 (Value.agg #[Value.int IntKind.i64 i,Value.int IntKind.i64 n]),undef,Value.iface 89 (Value.agg #[Value.int IntKind.i64 i,Value.int IntKind.i64 n]),Value.iface 89 (Value.agg #[Value.int IntKind.i64 i,Value.int IntKind.i64 n]),Value.bool true,undef,undef,undef,undef,undef,undef,undef,undef,undef]:=rfl
 rw [elit]
 have hta:∀ (W:World),(Instr.typeAssert (.iface 89 (.agg #[.int .i64 i,.int .i64 n])) 20 89 false).run Tryz.prog W = .ok (.agg #[.int .i64 i,.int .i64 n]) W:=fun W=>by rfl
 have hw1:∀ o1 o2,((w.alloc o1).alloc o2).heap[wb]?=some (.cells #[old] 25):=fun o1 o2=>(heap_two (blk hh).1 o1 o2).trans hh
 have hc1:∀ o1 o2,((w.alloc o1).alloc o2).cell? ⟨wb,0,none⟩=some old:=fun o1 o2=>(blk (hw1 o1 o2)).2.1 0 _ rfl
 have hf1:∀ o1 o2,((w.alloc o1).alloc o2).frozen? ⟨wb,0,none⟩=false:=fun o1 o2=>(blk (hw1 o1 o2)).2.2 0
 have hlt:=(blk hh).1
 have hw0:=gh hh
 clear hw1
 clear elit hu hh
 go_wp2
 obtain ⟨w1,hw9⟩:∃ w1,w.setCell ⟨wb,0,none⟩ (.iface 61 (.pointer (some ⟨w.heap.size+1,0,none⟩)))=w1:=⟨_,rfl⟩
 have hbw:But wb w w1:=by rw [←hw9];exact (But.refl wb w).set 0 _
 have hs1:w1.heap.size=w.heap.size:=by rw [←hw9];simp
 have hw2:w1.heap[wb]?=some (.cells #[.iface 61 (.pointer (some ⟨w.heap.size+1,0,none⟩))] 25):=by rw [←hw9];exact set_block (gf hw0) _
 rw [hw9]
 refine ⟨rfl,_,rfl,_,results_none rfl _ _ _,rfl,rfl,hbw.trans (But.of (((Below.refl _ w1).alloc (Nat.le_refl _) _).trans ((Below.refl _ _).alloc (by simp) _))),w.heap.size+1,?_,?_⟩
 ·rw [heap_two (by omega)]
  exact hw2
 ·rw [←hs1]
  have:=(MapKept.heap_alloc (w1.alloc (Obj.cells #[Value.int IntKind.i64 i,Value.int IntKind.i64 n] 89)) (Obj.cells #[Value.int IntKind.i64 i,Value.int IntKind.i64 n] 66)).1
  simpa using this
set_option maxRecDepth 100000 in
set_option maxHeartbeats 4000000 in
theorem catch_idle (wb:Nat) (w:World) :
  CallsD Tryz.prog 42 #[.pointer (some ⟨wb,0,none⟩)] .returning w fun e u' w'=>e = .returned (.tuple #[])∧u' = .returning∧w'=w:=by
 refine callsD_of_wpS Tryz.func42 rfl fun c₀ cs hu => ?_
 apply wpS_seq
 apply wpS_region
 simp [wpOpsS,go_sem,recoverD,hu,Tryz.ntmps42,Exit.thenS]
 apply wpS_seq
 apply wpS_region
 simp [wpOpsS,go_sem,Exit.thenS]
 refine wpS_cond (t:=false) (by simp [Act.eval,Array.replicate]) ?_
 simp only [Bool.false_eq_true,if_false]
 refine wpS_of_wp (wp_skip ?_)
 cases c₀
 simp_all [bodyPostS,results,Tryz.results42]
end Go.Proofs.YtfkfnbehdcmgeaaGreatDoor
namespace Go.Proofs.YtfkfnbehdcmgeaaGreatDoor
open Go Go.RowKit
structure Bu (q r:Nat) (w w':World):Prop where
 os:w'.os=w.os
 tape:w'.tape=w.tape
 output:w'.output=w.output
 size:w.heap.size≤w'.heap.size
 block:∀ k,k<w.heap.size→k≠r→k≠q→w'.heap[k]?=w.heap[k]?
def KP {α:Type} (X:List (Int×ByteArray×Int)→(Except (Int×Int) (α×Nat))) (Φ:World→α→Prop) (s:ByteArray) (ob r:Nat) (W:World) (e:Ending) (w':World):Prop:=
 match X (tkL s) with
 |.ok (t,_)=>e = .returned (.tuple #[])∧Bu ob r W w'∧Φ w' t
 |.error (i,n)=>But r W w'∧Ref i n e
def PErr (w:World) (v:Value) (i n:Int):Prop:=∃ b,v = .iface 61 (.pointer (some ⟨b,0,none⟩))∧w.heap[b]?=some (.cells #[.int .i64 i,.int .i64 n] 66)
def ReadP {α:Type} (X:List (Int×ByteArray×Int)→(Except (Int×Int) (α×Nat))) (Φ:World→α→Prop) (s:ByteArray) (ob:Nat) (w:World) (e:Ending) (w':World):Prop:=
 match (tk s).2 with
 |some (a,n)=>Below w.heap.size w w'∧∃ v,e = .returned v∧PErr w' v a n
 |none=>match X (tkL s) with
  |.ok (t,_)=>e = .returned .nilIface∧But ob w w'∧Φ w' t
  |.error (i,n)=>Below w.heap.size w w'∧∃ v,e = .returned v∧PErr w' v i n
theorem res_cell {P:Program} {W:World} {fn:Func} {tmps:Array Value} {t b:Nat} {ty:TypeId} {v:Value} (hf:fn.results = #[.cell t ty]) (ht:tmps[t]?=some (.pointer (some ⟨b,0,none⟩))) (hl:(loadVar ty ⟨b,0,none⟩).run P W = .ok v W):(results fn tmps).run P W = .ok v W:=by
 simp [results,hf,ht,asAddr,hl]
theorem load_err {W:World} {b:Nat} {v:Value} (h:W.heap[b]?=some (.cells #[v] 25)):(loadVar 25 ⟨b,0,none⟩).run Tryz.prog W = .ok v W:=by
 have hc:W.cell? ⟨b,0,none⟩=some v:=(blk h).2.1 0 _ rfl
 go_simp
set_option maxRecDepth 100000 in
set_option maxHeartbeats 8000000 in
theorem pread_any {α:Type} {k ob:Nat} {X:List (Int×ByteArray×Int)→(Except (Int×Int) (α×Nat))} {Φ:World→α→Prop} (s:ByteArray) (w:World) (hG:SG w) (hEn:Enters Tryz.prog k) (hob:ob<w.heap.size)
  (hΦ:∀ w1 w2 t,But w.heap.size w1 w2→w.heap.size<w1.heap.size→Φ w1 t→Φ w2 t)
  (hK:∀ (W:World) (r:Nat),Below w.heap.size w W→w.heap.size<r→RD W r (tkL s) 0 0→Calls Tryz.prog k #[.pointer (some ⟨r,0,none⟩),.pointer (some ⟨ob,0,none⟩)] W (KP X Φ s ob r W)) :
  Calls Tryz.prog 24 #[.string s,.func (.func k) #[] #[.pointer (some ⟨ob,0,none⟩)]] w (ReadP X Φ s ob w):=by
 obtain ⟨A,eA,hbA,hsA,hhA⟩:=box_new w #[.nilIface] 25
 have h1w:=hG.lt
 have HC:=gh (tokens_any s A (hG.below hbA h1w))
 have hmf:∀ (fn:Fn) (first cap:Array Value) (w:World),(Instr.makeFunc fn first cap).run Tryz.prog w = .ok (.func fn first cap) w:=fun _ _ _ _=>rfl
 have HA:=gh (And.intro hEn (And.intro hob (And.intro hΦ (And.intro hK (And.intro hbA (And.intro hhA hsA))))))
 have HE:=gh eA
 clear hEn hob hΦ hK hbA hhA hsA eA hG h1w
 go_enter_defers Tryz.func24,Tryz.ntmps24
 go_wp2_with fail
 rw [gf HE]
 refine (gf HC).mono ?_
 intro e w1 h1
 rcases hn:(tk s).2 with _ | ⟨a,n⟩
 ·obtain ⟨hb1,g,c,rfl,hg,hc,ht⟩:=tkp_rd h1 hn
  obtain ⟨hEn,hob,hΦ,hK,hbA,hhA,hsA⟩:=gf HA
  have hh1:=(hb1.block w.heap.size (blk hhA).1).trans hhA
  have hw1:Below w.heap.size w w1:=hbA.trans (hb1.mono hbA.size)
  obtain ⟨W,eW,hbW,hsW,hhW⟩:=box_new w1 #[.slice (some ⟨g,0,none⟩) (tkL s).length c,.int .i64 0,.int .i64 0] 91
  have hRD:RD W w1.heap.size (tkL s) 0 0:=⟨⟨g,c,hhW,hg,hc,fun j x hx=>range_same (ht j x hx) (hbW.block g hg)⟩,by have:=(tsok_of s).pos;omega⟩
  have hs1:w.heap.size<w1.heap.size:=by have:=hb1.size;omega
  have HK:=gh (hK W w1.heap.size (hw1.trans (hbW.mono hw1.size)) hs1 hRD)
  have hEn':=gh hEn
  have HF:=gh (And.intro hw1 (And.intro hbW (And.intro hs1 (And.intro hh1 hhW))))
  have HEW:=gh eW
  have HN:=gh hn
  obtain ⟨L,hL⟩:∃ L,(tkL s).length=L:=⟨_,rfl⟩
  rw [hL] at HEW
  rw [hL]
  clear HC h1 hn hb1 hg hc ht hEn hob hΦ hK hbA hhA hsA hh1 hw1 hbW hsW hhW hRD hs1 eW hL
  go_wp2_with fail
  rw [(gf hEn').run,gf HEW]
  refine Calls.mono (gf HK) ?_
  intro e w3 h3
  unfold KP at h3
  obtain ⟨hw1,hbW,hs1,hh1,hhW⟩:=gf HF
  have hhW1:=(hbW.block w.heap.size (blk hh1).1).trans hh1
  obtain ⟨hEn,hob,hΦ,hK,hbA,hhA,hsA⟩:=gf HA
  rcases hX:X (tkL s) with ⟨i,n⟩ | ⟨t,q⟩
  ·rw [hX] at h3
   obtain ⟨hb3,h3⟩:=h3
   obtain rfl:e=_:=h3
   have hh3:=(hb3.block w.heap.size (blk hhW1).1 (by omega)).trans hhW1
   have hB3:Below w.heap.size w w3:=⟨hb3.os.trans (hbW.os.trans hw1.os),hb3.tape.trans (hbW.tape.trans hw1.tape),hb3.output.trans (hbW.output.trans hw1.output),Nat.le_trans hw1.size (Nat.le_trans hbW.size hb3.size),fun j hj=>by
    have h1:=hw1.size
    have h2:=hbW.size
    exact (hb3.block j (by omega) (by omega)).trans ((hbW.block j (by omega)).trans (hw1.block j hj))⟩
   have HQ:=gh (And.intro hh3 (And.intro hB3 hX))
   clear HK hw1 hbW hs1 hh1 hhW hhW1 hEn hob hΦ hK hbA hhA hsA hX hb3 hh3 hB3
   go_wp2
   obtain ⟨hh3,hB3,hX⟩:=gf HQ
   refine leaves_cons (f:=42) (args:=#[.pointer (some ⟨w.heap.size,0,none⟩)]) (by simp) (by simp [go_sem]) ?_
   refine (catch_panicking w.heap.size _ i n w3 hh3).mono ?_
   rintro e u' w4 ⟨rfl,rfl,hb4,b,hv4,hd4⟩
   refine ⟨_,res_cell rfl rfl (load_err hv4),?_⟩
   unfold ReadP
   rw [gf HN,hX]
   exact ⟨⟨hb4.os.trans hB3.os,hb4.tape.trans hB3.tape,hb4.output.trans hB3.output,Nat.le_trans hB3.size hb4.size,fun j hj=>(hb4.block j (Nat.lt_of_lt_of_le hj hB3.size) (by omega)).trans (hB3.block j hj)⟩,_,rfl,b,rfl,hd4⟩
  ·rw [hX] at h3
   obtain ⟨rfl,hb3,hΦ3⟩:=h3
   have hh3:=(hb3.block w.heap.size (blk hhW1).1 (by omega) (by omega)).trans hhW1
   have hs3:=(blk hh3).1
   have c0:w3.cell? ⟨w.heap.size,0,none⟩=some .nilIface:=(blk hh3).2.1 0 _ rfl
   have f0:=(blk hh3).2.2 0
   have hB3:But ob w w3:=⟨hb3.os.trans (hbW.os.trans hw1.os),hb3.tape.trans (hbW.tape.trans hw1.tape),hb3.output.trans (hbW.output.trans hw1.output),Nat.le_trans hw1.size (Nat.le_trans hbW.size hb3.size),fun j hj hjo=>by
    have h1:=hw1.size
    have h2:=hbW.size
    exact (hb3.block j (by omega) (by omega) hjo).trans ((hbW.block j (by omega)).trans (hw1.block j hj))⟩
   have HQ:=gh (And.intro hh3 (And.intro hB3 (And.intro hX (And.intro hΦ3 (And.intro hΦ hs3)))))
   clear HK hw1 hbW hs1 hh1 hhW hhW1 hEn hob hΦ hK hbA hhA hsA hX hb3 hh3 hB3 hΦ3 hs3
   go_wp2
   obtain ⟨hh3,hB3,hX,hΦ3,hΦ,hs3⟩:=gf HQ
   refine leaves_cons (f:=42) (args:=#[.pointer (some ⟨w.heap.size,0,none⟩)]) (by simp) (by simp [go_sem]) ?_
   refine (catch_idle w.heap.size _).mono ?_
   rintro e u' w4 ⟨rfl,rfl,rfl⟩
   refine ⟨_,res_cell rfl rfl (load_err (set_block hh3 _)),?_⟩
   unfold ReadP
   rw [gf HN,hX]
   have hb4:But w.heap.size w3 (w3.setCell ⟨w.heap.size,0,none⟩ .nilIface):=(But.refl _ w3).set 0 _
   refine ⟨rfl,⟨hb4.os.trans hB3.os,hb4.tape.trans hB3.tape,hb4.output.trans hB3.output,Nat.le_trans hB3.size hb4.size,fun j hj hjo=>(hb4.block j (Nat.lt_of_lt_of_le hj hB3.size) (by omega)).trans (hB3.block j hj hjo)⟩,hΦ _ _ _ hb4 hs3 hΦ3⟩
 ·obtain ⟨hb1,b,rfl,hd⟩:=tkp_err h1 hn
  obtain ⟨hEn,hob,hΦ,hK,hbA,hhA,hsA⟩:=gf HA
  have hh1:=(hb1.block w.heap.size (blk hhA).1).trans hhA
  have hw1:Below w.heap.size w w1:=hbA.trans (hb1.mono hbA.size)
  have c0:w1.cell? ⟨w.heap.size,0,none⟩=some .nilIface:=(blk hh1).2.1 0 _ rfl
  have f0:=(blk hh1).2.2 0
  have HQ:=gh (And.intro hh1 (And.intro hw1 (And.intro hn (And.intro hd hhA))))
  have hne:b≠w.heap.size:=by
   intro e
   subst e
   rw [hh1] at hd
   cases hd
  replace hne:=gh hne
  clear HC h1 hn hb1 hd hEn hob hΦ hK hbA hhA hsA hh1 hw1
  go_wp2
  obtain ⟨hh1,hw1,hn,hd,hhA⟩:=gf HQ
  refine ⟨_,res_cell rfl rfl (load_err (set_block hh1 _)),?_⟩
  unfold ReadP
  rw [hn]
  have hb4:But w.heap.size w1 (w1.setCell ⟨w.heap.size,0,none⟩ (.iface 61 (.pointer (some ⟨b,0,none⟩)))):=(But.refl _ w1).set 0 _
  exact ⟨⟨hb4.os.trans hw1.os,hb4.tape.trans hw1.tape,hb4.output.trans hw1.output,Nat.le_trans hw1.size hb4.size,fun j hj=>(hb4.block j (Nat.lt_of_lt_of_le hj hw1.size) (by omega)).trans (hw1.block j hj)⟩,_,rfl,b,rfl,(heap_set _ _ (gf hne)).trans hd⟩
end Go.Proofs.YtfkfnbehdcmgeaaGreatDoor
namespace Go.Proofs.YtfkfnbehdcmgeaaGreatDoor
open Go Go.RowKit
def aloneF (ts:List (Int×ByteArray×Int)):(Except (Int×Int) (Ex×Nat)):=aloneP ts 0
theorem aloneF_eq (ts:List (Int×ByteArray×Int)):aloneF ts=aloneP ts 0:=rfl
def exprS (s:ByteArray):Except (Int×Int) Ex:=
 match (tk s).2 with
 |some (a,n) => .error (a,n)
 |none=>match aloneF (tkL s) with
  |.ok (t,_) => .ok t
  |.error e => .error e
def ExprP (s:ByteArray) (w:World) (e:Ending) (w':World):Prop:=Below w.heap.size w w' ∧
 match exprS s with
 |.ok t=>∃ v,e = .returned (.tuple #[v,.nilIface])∧IsE w' w.heap.size v t
 |.error (i,n)=>∃ v,e = .returned (.tuple #[.agg zE,v])∧PErr w' v i n
theorem results_two {P:Program} {W:World} {fn:Func} {tmps:Array Value} {t b j:Nat} {ty:TypeId} {v u:Value} (hf:fn.results = #[.cell t ty,.tmp j]) (ht:tmps[t]?=some (.pointer (some ⟨b,0,none⟩))) (hl:(loadVar ty ⟨b,0,none⟩).run P W = .ok v W) (hj:tmps[j]?=some u):(results fn tmps).run P W = .ok (.tuple #[v,u]) W:=by
 simp [results,hf,ht,asAddr,hl,hj]
theorem Bu.set {q r:Nat} {w w':World} (h:Bu q r w w') (o:Nat) (v:Value):Bu q r w (w'.setCell ⟨q,o,none⟩ v):=
 ⟨h.os,h.tape,h.output,by simpa using h.size,fun k hk h1 h2=>(Below.heap_setCell w' ⟨q,o,none⟩ v k h2).trans (h.block k hk h1 h2)⟩
theorem Bu.of_but {q r:Nat} {w w':World} (h:But r w w'):Bu q r w w':=⟨h.os,h.tape,h.output,h.size,fun k hk h1 _=>h.block k hk h1⟩
def OutE (ob:Nat) (w:World) (t:Ex):Prop:=∃ x0 x1 x2 x3 x4 x5 x6,w.heap[ob]?=some (.cells #[x0,x1,x2,x3,x4,x5,x6] 36)∧IsE w (ob+2) (.agg #[x0,x1,x2,x3,x4,x5,x6]) t
set_option maxRecDepth 100000 in
set_option maxHeartbeats 8000000 in
theorem exprClo_any {s:ByteArray} {W:World} {r ob:Nat} (hR:RD W r (tkL s) 0 0) (hz:ZB W ob) (hob:ob+1<r) :
  Calls Tryz.prog 35 #[.pointer (some ⟨r,0,none⟩),.pointer (some ⟨ob,0,none⟩)] W (KP aloneF (OutE ob) s ob r W):=by
 have hT:=tsok_of s
 have hlen:=hT.len
 have hE:RuC 59 r (tkL s) 0 0 (exR (tkL s)):=(rules_all hT (tkL s).length 0 0 (by omega) (by omega)).1
 have HC:=gh (alone_of (g:=fun _ _ _ => .error (0,0)) hT hE (Nat.zero_le 0) hR)
 have hrl:=hR.rlt
 have HA:=gh (And.intro hz (And.intro hob hrl))
 clear hR hz hob hT hlen hE hrl
 go_enter Tryz.func35,Tryz.ntmps35
 go_wp2_with fail
 refine (gf HC).mono ?_
 intro e w3 h3
 obtain ⟨hz,hob,hrl⟩:=gf HA
 rcases hX:aloneP (tkL s) 0 with ⟨i,n⟩ | ⟨t,q⟩
 ·rw [hX] at h3
  obtain ⟨hb3,h3⟩:=h3
  obtain rfl:e=_:=h3
  have HQ:=gh (And.intro hb3 hX)
  clear HC hz hob hrl hX hb3
  go_wp2
  obtain ⟨hb3,hX⟩:=gf HQ
  refine ⟨rfl,?_⟩
  unfold KP
  rw [aloneF_eq,hX]
  exact ⟨hb3,rfl⟩
 ·rw [hX] at h3
  obtain ⟨hb3,hle,hR3,v,rfl,hv⟩:=h3
  obtain ⟨i0,i6,s1,s2,b3,a4,n4,c4,rfl⟩:=hv.form
  have hz3:ZB w3 ob:=hz.but hb3 (by omega)
  obtain ⟨y0,y1,y2,y3,y4,y5,y6⟩:=blk7 hz3
  obtain ⟨z0,z1,z2,z3,z4,z5,z6⟩:=frz7 hz3
  have HQ:=gh (And.intro hb3 (And.intro hX (And.intro hv (And.intro hz3 (And.intro hob hrl)))))
  clear HC hz hob hrl hX hb3 hle hR3 hv hz3
  go_wp2
  obtain ⟨hb3,hX,hv,hz3,hob,hrl⟩:=gf HQ
  refine bodyPost_end (results_none rfl _ _ _) rfl ?_
  unfold KP
  rw [aloneF_eq,hX]
  have k1:=fill7 (x0:=.int .i64 i0) (x1:=.string s1) (x2:=.string s2) (x3:=.bool b3) (x4:=.slice a4 n4 c4) (x5:=.int .i64 0) (x6:=.int .i64 i6) hz3
  have k3:=hv.keep (lo':=ob+2) (stays7 (lo:=W.heap.size) (Stays.of (Below.refl w3.heap.size w3)) (show ob<W.heap.size by omega) (.int .i64 i0) (.string s1) (.string s2) (.bool b3) (.slice a4 n4 c4) (.int .i64 0) (.int .i64 i6)) (by omega)
  have k4:=((((((((Bu.of_but (q:=ob) hb3).set 0 (.int .i64 i0)).set 1 (.string s1)).set 2 (.string s2)).set 3 (.bool b3)).set 4 (.slice a4 n4 c4)).set 5 (.int .i64 0)).set 6 (.int .i64 i6))
  exact ⟨rfl,k4,_,_,_,_,_,_,_,k1,k3⟩
end Go.Proofs.YtfkfnbehdcmgeaaGreatDoor
namespace Go.Proofs.YtfkfnbehdcmgeaaGreatDoor
open Go Go.RowKit
set_option maxRecDepth 100000 in
set_option maxHeartbeats 8000000 in
theorem pexpr_any (s:ByteArray) (w:World) (hG:SG w):Calls Tryz.prog 17 #[.string s] w (ExprP s w):=by
 obtain ⟨A,eA,hbA,hzA,hsA⟩:=zb_new w
 have h1w:=hG.lt
 have HC:=gh (pread_any (k:=35) (ob:=w.heap.size) (X:=aloneF) (Φ:=OutE w.heap.size) s A (hG.below hbA h1w) ⟨fun xs w=>by go_simp⟩ (by omega)
  (fun w1 w2 t hb hs h=>by
   obtain ⟨x0,x1,x2,x3,x4,x5,x6,h1,h2⟩:=h
   exact ⟨x0,x1,x2,x3,x4,x5,x6,(hb.block _ (blk h1).1 (by omega)).trans h1,h2.keep (Stays.but hb (by omega)) (Nat.le_refl _)⟩)
  (fun W r hb hr hR=>exprClo_any hR ((hb.block _ (by omega)).trans hzA) (by omega)))
 have hmf:∀ (fn:Fn) (first cap:Array Value) (w:World),(Instr.makeFunc fn first cap).run Tryz.prog w = .ok (.func fn first cap) w:=fun _ _ _ _=>rfl
 have HA:=gh (And.intro hbA (And.intro hzA hsA))
 have HE:=gh eA
 clear hbA hzA hsA eA hG h1w
 go_enter Tryz.func17,Tryz.ntmps17
 go_wp2_with fail
 rw [gf HE]
 refine (gf HC).mono ?_
 intro e w3 h3
 obtain ⟨hbA,hzA,hsA⟩:=gf HA
 have bad9:∀ (i n:Int) (v:Value),exprS s = .error (i,n)→Below A.heap.size A w3→e = .returned v→PErr w3 v i n→∃ b,v = .iface 61 (.pointer (some ⟨b,0,none⟩))∧b≠w.heap.size:=fun i n v _ hb _ ⟨b,hv,hh⟩=>⟨b,hv,fun e=>by
  subst e
  have:=(hb.block _ (by omega)).trans hzA
  rw [this] at hh
  cases hh⟩
 unfold ReadP at h3
 rcases hS:exprS s with ⟨i,n⟩ | t
 ·have h4:Below A.heap.size A w3∧∃ v,e = .returned v∧PErr w3 v i n:=by
   unfold exprS at hS
   rcases hn:(tk s).2 with _ | ⟨a,m⟩
   ·rw [hn] at hS h3
    rcases hX:aloneF (tkL s) with ⟨a,m⟩ | ⟨t,q⟩
    ·rw [hX] at hS h3
     obtain ⟨rfl,rfl⟩:a=i∧m=n:=by simpa using hS
     exact h3
    ·rw [hX] at hS
     cases hS
   ·rw [hn] at hS h3
    obtain ⟨rfl,rfl⟩:(a:Int)=i∧(m:Int)=n:=by simpa using hS
    exact h3
  obtain ⟨hb,v,rfl,hP⟩:=h4
  obtain ⟨b,rfl,hne⟩:=bad9 i n v hS hb rfl hP
  have hz3:=(hb.block _ (by omega)).trans hzA
  obtain ⟨y0,y1,y2,y3,y4,y5,y6⟩:=blk7 hz3
  obtain ⟨z0,z1,z2,z3,z4,z5,z6⟩:=frz7 hz3
  have HQ:=gh (And.intro hb (And.intro hP (And.intro hz3 (And.intro hne (And.intro hS (And.intro hbA hsA))))))
  clear HC h3 bad9 hS hb hP hne hz3 hbA hzA hsA
  go_wp2
  obtain ⟨hb,hP,hz3,hne,hS,hbA,hsA⟩:=gf HQ
  refine bodyPost_ret (results_two rfl rfl (run_loadVar_mid _ _ _ _ _ _ (range_block (fill7 hz3)) Tryz.underlying36 rfl (by kernel_rfl)) rfl) rfl ?_
  unfold ExprP
  rw [hS]
  obtain ⟨b2,e2,hd⟩:=hP
  obtain rfl:b=b2:=by simpa using e2
  refine ⟨below_set (below_set (below_set (below_set (below_set (below_set (below_set (hbA.trans (hb.mono (by omega))) (Nat.le_refl _) _ _) (Nat.le_refl _) _ _) (Nat.le_refl _) _ _) (Nat.le_refl _) _ _) (Nat.le_refl _) _ _) (Nat.le_refl _) _ _) (Nat.le_refl _) _ _,_,rfl,b,rfl,(same7 hne _ _ _ _ _ _ _).trans hd⟩
 ·have h4:e = .returned .nilIface∧But w.heap.size A w3∧OutE w.heap.size w3 t:=by
   unfold exprS at hS
   rcases hn:(tk s).2 with _ | ⟨a,m⟩
   ·rw [hn] at hS h3
    rcases hX:aloneF (tkL s) with ⟨a,m⟩ | ⟨t2,q⟩
    ·rw [hX] at hS
     cases hS
    ·rw [hX] at hS h3
     obtain rfl:t2=t:=by simpa using hS
     exact h3
   ·rw [hn] at hS
    cases hS
  obtain ⟨rfl,hb,x0,x1,x2,x3,x4,x5,x6,hz3,hv⟩:=h4
  obtain ⟨i0,i6,s1,s2,b3,a4,n4,c4,ev⟩:=hv.form
  obtain ⟨rfl,rfl,rfl,rfl,rfl,rfl,rfl⟩:x0 = .int .i64 i0∧x1 = .string s1∧x2 = .string s2∧x3 = .bool b3∧x4 = .slice a4 n4 c4∧x5 = .int .i64 0∧x6 = .int .i64 i6:=by simpa using ev
  obtain ⟨y0,y1,y2,y3,y4,y5,y6⟩:=blk7 hz3
  obtain ⟨z0,z1,z2,z3,z4,z5,z6⟩:=frz7 hz3
  have HQ:=gh (And.intro hb (And.intro hv (And.intro hz3 (And.intro hS (And.intro hbA hsA)))))
  clear HC h3 bad9 hS hb hv hz3 hbA hzA hsA ev
  go_wp2
  obtain ⟨hb,hv,hz3,hS,hbA,hsA⟩:=gf HQ
  refine bodyPost_ret (results_two rfl rfl (run_loadVar_mid _ _ _ _ _ _ (range_block (fill7 hz3)) Tryz.underlying36 rfl (by kernel_rfl)) rfl) rfl ?_
  unfold ExprP
  rw [hS]
  have hb9:Below w.heap.size w w3:=⟨hb.os.trans hbA.os,hb.tape.trans hbA.tape,hb.output.trans hbA.output,Nat.le_trans hbA.size hb.size,fun j hj=>(hb.block j (by omega) (by omega)).trans (hbA.block j hj)⟩
  exact ⟨below7 hb9 (Nat.le_refl _) _ _ _ _ _ _ _,_,rfl,hv.keep (stays7 (lo:=w.heap.size+2) (Stays.of (Below.refl _ _)) (by omega) _ _ _ _ _ _ _) (by omega)⟩
end Go.Proofs.YtfkfnbehdcmgeaaGreatDoor
namespace Go.Proofs.YtfkfnbehdcmgeaaGreatDoor
open Go Go.RowKit
set_option maxRecDepth 100000 in
set_option maxHeartbeats 16000000 in
theorem effOf_eq (s:ByteArray) (w:World):Calls Tryz.prog 106 #[.string s] w (fun e w'=>e = .returned (.int .i64 (effD s))∧w'=w):=by
 obtain ⟨o,ho⟩:∃ o,effD s=o:=⟨_,rfl⟩
 rw [ho]
 unfold effD at ho
 simp only [eqb s ⟨#[80,117,114,101]⟩ [80,117,114,101] rfl,eqb s ⟨#[83,116,97,116,101]⟩ [83,116,97,116,101] rfl,eqb s ⟨#[69,120,110]⟩ [69,120,110] rfl,eqb s ⟨#[65,108,108]⟩ [65,108,108] rfl,eqb s ⟨#[68,105,118]⟩ [68,105,118] rfl] at ho
 replace ho:=gh ho
 go_enter Tryz.func106,Tryz.ntmps106
 go_wp2_with fail
 all_goals
  go_ret
  refine ⟨?_,rfl⟩
  have ho2:=gf ho
  simp only [*,if_true,if_false,Bool.false_eq_true] at ho2
  rw [←ho2]
  rfl
theorem effOf_any (s:ByteArray) (w:World):Calls Tryz.prog 106 #[.string s] w (VP (.int .i64 (effD s)) w):=(effOf_eq s w).mono fun _ _ h=>⟨h.1,by rw [h.2];exact Below.refl _ _⟩
set_option maxRecDepth 100000 in
set_option maxHeartbeats 16000000 in
theorem kindOf_eq (s:ByteArray) (w:World):Calls Tryz.prog 108 #[.string s] w (fun e w'=>e = .returned (.int .i64 (kindD s))∧w'=w):=by
 obtain ⟨o,ho⟩:∃ o,kindD s=o:=⟨_,rfl⟩
 rw [ho]
 unfold kindD at ho
 simp only [eqb s ⟨#[105,110,116]⟩ [105,110,116] rfl,eqb s ⟨#[98,111,111,108]⟩ [98,111,111,108] rfl,eqb s ⟨#[117,110,105,116]⟩ [117,110,105,116] rfl] at ho
 replace ho:=gh ho
 go_enter Tryz.func108,Tryz.ntmps108
 go_wp2_with fail
 all_goals
  go_ret
  refine ⟨?_,rfl⟩
  have ho2:=gf ho
  simp only [*,if_true,if_false,Bool.false_eq_true] at ho2
  rw [←ho2]
  rfl
theorem kindOf_any (s:ByteArray) (w:World):Calls Tryz.prog 108 #[.string s] w (VP (.int .i64 (kindD s)) w):=(kindOf_eq s w).mono fun _ _ h=>⟨h.1,by rw [h.2];exact Below.refl _ _⟩
theorem effD_txt {s:ByteArray} (h:effD s≠0):s≠⟨#[]⟩:=fun e=>h (by subst e;decide)
theorem kindD_txt {s:ByteArray} (h:kindD s≠0):s≠⟨#[]⟩:=fun e=>h (by subst e;decide)
def InOk (_:World) (v:Value) (x:Int):Prop:=v = .int .i64 x
set_option maxRecDepth 100000 in
set_option maxHeartbeats 4000000 in
theorem effect_any {w:World} {r p d:Nat} {ts:List (Int×ByteArray×Int)} (hR:RD w r ts p d) (hT:TsOk ts):Calls Tryz.prog 90 #[.pointer (some ⟨r,0,none⟩)] w (RP InOk (effR ts p) r ts p d w):=by
 have HS:=gh (next_any hR hT)
 obtain ⟨X,hX⟩:∃ X,effR ts p=X:=⟨_,rfl⟩
 rw [hX]
 unfold effR txt at hX
 have hlen:effD (nx ts p).2.1≠0→p+1<ts.length:=fun h=>nx_txt hT hR.lt (effD_txt h)
 have HT:=gh (And.intro hR (And.intro hT hlen))
 unfold tkV at HS
 obtain ⟨⟨kk,T,i⟩,hN⟩:∃ Y,nx ts p=Y:=⟨_,rfl⟩
 rw [hN] at HS hX
 have h1:=fld1 (.int .i64 kk) (.string T) (.int .i64 i)
 obtain ⟨o,ho⟩:∃ o,effD T=o:=⟨_,rfl⟩
 have HO:=effOf_any T
 rw [ho] at HO
 replace HO:=gh HO
 have HA:=gh (And.intro hX (And.intro hN ho))
 clear hR hT hX hN hlen ho
 by_cases ho0:o=0
 ·subst ho0
  go_enter Tryz.func90,Tryz.ntmps90
  go_wp2_with fail
  refine (gf HS).mono ?_
  rintro e w2 ⟨rfl,hb2⟩
  have HB2:=gh hb2
  clear hb2 HS
  go_wp2_with fail
  refine (gf HO w2).mono ?_
  rintro e w3 ⟨rfl,hb3⟩
  have HRf:=gh (refused_any (((gf HT).1.keep (gf HB2)).keep hb3) (gf HT).2.1 150)
  have HB3:=gh hb3
  clear hb3
  go_wp2_with fail
  refine (gf HRf).mono ?_
  rintro e w4 ⟨rfl,hb4⟩
  have HB4:=gh hb4
  clear hb4 HRf
  go_wp2
  obtain ⟨hX,hN,ho⟩:=gf HA
  rw [if_pos ho] at hX
  obtain rfl:=hX
  refine ⟨rfl,(But.of (gf HB2)).trans ((But.of (gf HB3)).trans (But.of (gf HB4))),?_⟩
  show Ref _ _ _
  rw [show (nx ts p).2.2=i from by rw [hN]]
  rfl
 ·have g0:(o == 0)=false:=by simpa using ho0
  have g1:decide (o=0)=false:=by simpa using ho0
  go_enter Tryz.func90,Tryz.ntmps90
  go_wp2_with fail
  refine (gf HS).mono ?_
  rintro e w2 ⟨rfl,hb2⟩
  have HB2:=gh hb2
  clear hb2 HS
  go_wp2_with fail
  refine (gf HO w2).mono ?_
  rintro e w3 ⟨rfl,hb3⟩
  have HTk:=gh (take_any (((gf HT).1.keep (gf HB2)).keep hb3) (gf HT).2.1 ((gf HT).2.2 (by rw [(gf HA).2.1];show effD T≠0;rw [(gf HA).2.2];exact ho0)))
  have HB3:=gh hb3
  clear hb3
  go_wp2_with fail
  refine (gf HTk).mono ?_
  rintro e w4 ⟨rfl,hb4,hR4⟩
  have HB4:=gh (And.intro hb4 hR4)
  clear hb4 hR4 HTk
  go_wp2
  obtain ⟨hX,hN,ho⟩:=gf HA
  rw [if_neg (by rw [ho];exact ho0),ho] at hX
  obtain rfl:=hX
  refine bodyPost_ret (results_tmp rfl _ _ _) rfl ?_
  exact ⟨(But.of (gf HB2)).trans ((But.of (gf HB3)).trans (gf HB4).1),Nat.le_succ _,(gf HB4).2,_,rfl,rfl⟩
end Go.Proofs.YtfkfnbehdcmgeaaGreatDoor
