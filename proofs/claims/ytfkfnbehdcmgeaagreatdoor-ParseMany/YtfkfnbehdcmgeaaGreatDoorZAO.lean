/- Package parse: a contract. -/
import Derived.Test.YtfkfnbehdcmgeaaGreatDoorZAN
set_option linter.unusedVariables false
set_option linter.unusedSimpArgs false
namespace Go.Proofs.YtfkfnbehdcmgeaaGreatDoor
open Go Go.RowKit
def ContP (Q r:Nat) (ts:List (Int×ByteArray×Int)) (p d:Nat) (xs:List Value→List Value) (Y:(Except (Int×Int) ((List Ex×ByteArray×List Ex×List Ex)×Nat))) (w:World) (e:Ending) (w':World):Prop:=
 match Y with
 |.ok (t,q)=>p≤q∧Bu Q r w w'∧RD w' r ts q d∧e = .returned (.tuple #[])∧∃ (ra ea ma:Option Addr) (rn rc en ec mn mc:Nat),w'.heap[Q]?=some (.cells (xs [.slice ra rn rc,.string t.2.1,.slice ea en ec,.slice ma mn mc]).toArray 56)∧IsLs w' w.heap.size (.slice ra rn rc) t.1∧IsLs w' w.heap.size (.slice ea en ec) t.2.2.1∧IsLs w' w.heap.size (.slice ma mn mc) t.2.2.2
 |.error (i,n)=>Bu Q r w w'∧Ref i n e
theorem Bu.refl (q r:Nat) (w:World):Bu q r w w:=⟨rfl,rfl,rfl,Nat.le_refl _,fun _ _ _ _=>rfl⟩
theorem Bu.but {q r:Nat} {a b c:World} (h:Bu q r a b) (k:But r b c):Bu q r a c:=
 ⟨k.os.trans h.os,k.tape.trans h.tape,k.output.trans h.output,Nat.le_trans h.size k.size,fun j hj h1 h2=>(k.block j (Nat.lt_of_lt_of_le hj h.size) h1).trans (h.block j hj h1 h2)⟩
set_option maxRecDepth 100000 in
set_option maxHeartbeats 8000000 in
theorem contract_of {r d lo Q:Nat} {ts:List (Int×ByteArray×Int)} (hT:TsOk ts) (hE:RuC 59 r ts d lo (exR ts)) {w:World} {p:Nat} (hlo:lo≤p) (hrQ:r<Q) (hQw:Q<w.heap.size) {x0 x1 x2 x3 x4 x5 x6 x7 x8 x9 x14 x15 x16 x17 x18 x19 x20 x21:Value} (hQ:w.heap[Q]?=some (.cells #[x0,x1,x2,x3,x4,x5,x6,x7,x8,x9,.slice none 0 0,.string ⟨#[]⟩,.slice none 0 0,.slice none 0 0,x14,x15,x16,x17,x18,x19,x20,x21] 56)) (hR:RD w r ts p d):Calls Tryz.prog 92 #[.pointer (some ⟨r,0,none⟩),.pointer (some ⟨Q,0,none⟩)] w (ContP Q r ts p d (fun l=>[x0,x1,x2,x3,x4,x5,x6,x7,x8,x9]++l++[x14,x15,x16,x17,x18,x19,x20,x21]) (contR ts p) w):=by
 obtain ⟨Y,hY⟩:∃ Y,contR ts p=Y:=⟨_,rfl⟩
 rw [hY]
 unfold contR reqR ensR meaR at hY
 have hr:=hR.rlt
 have HB:=gh (Bu.refl Q r w)
 have HR:=gh hR
 have HX:=gh hQ
 have HS:Hid (w.heap.size≤w.heap.size):=Nat.le_refl _
 have HL:Hid (p≤p∧lo≤p):=⟨Nat.le_refl _,hlo⟩
 have HT:=gh hT
 have HY:=gh hY
 have neQ:r≠Q:=by omega
 replace hE:=gh hE
 clear hlo hR hQ hT hY
 go_enter Tryz.func92,Tryz.ntmps92
 have HC0:=gh (takeIf_any (gf HR) (gf HT) (s:=⟨#[114,101,113,117,105,114,101,115]⟩) (by decide))
 obtain ⟨bo0,hbo0⟩:∃ b,sees ts (p) ⟨#[114,101,113,117,105,114,101,115]⟩=b:=⟨_,rfl⟩
 rw [hbo0] at HC0
 have hY0:=gf HY
 rw [hbo0] at hY0
 replace HY:=gh hY0
 clear hY0 hbo0
 go_wp2_with fail
 refine (gf HC0).mono ?_
 rintro e w0 ⟨rfl,hb0,hR0⟩
 replace HB:=gh ((gf HB).but hb0)
 replace HX:=gh (zkeep (gf HX) hb0 neQ)
 replace HS:=gh (Nat.le_trans (gf HS) hb0.size)
 replace HR:=gh hR0
 clear hb0 hR0 HC0
 rcases bo0 with _ | _
 ·have hY0:=gf HY
  simp only [Bool.false_eq_true,if_false,thenR] at hY0
  replace HY:=gh hY0
  have hRR:=gf HR
  rw [if_neg Bool.false_ne_true] at hRR
  replace HR:=gh hRR
  clear hY0 hRR
  have HC1:=gh (takeIf_any (gf HR) (gf HT) (s:=⟨#[101,110,115,117,114,101,115]⟩) (by decide))
  obtain ⟨bo1,hbo1⟩:∃ b,sees ts (p) ⟨#[101,110,115,117,114,101,115]⟩=b:=⟨_,rfl⟩
  rw [hbo1] at HC1
  have hY1:=gf HY
  rw [hbo1] at hY1
  replace HY:=gh hY1
  clear hY1 hbo1
  go_wp2_with fail
  refine (gf HC1).mono ?_
  rintro e w1 ⟨rfl,hb1,hR1⟩
  replace HB:=gh ((gf HB).but hb1)
  replace HX:=gh (zkeep (gf HX) hb1 neQ)
  replace HS:=gh (Nat.le_trans (gf HS) hb1.size)
  replace HR:=gh hR1
  clear hb1 hR1 HC1
  rcases bo1 with _ | _
  ·have hY1:=gf HY
   simp only [Bool.false_eq_true,if_false,thenR] at hY1
   replace HY:=gh hY1
   have hRR:=gf HR
   rw [if_neg Bool.false_ne_true] at hRR
   replace HR:=gh hRR
   clear hY1 hRR
   have HC2:=gh (takeIf_any (gf HR) (gf HT) (s:=⟨#[100,101,99,114,101,97,115,101,115]⟩) (by decide))
   obtain ⟨bo2,hbo2⟩:∃ b,sees ts (p) ⟨#[100,101,99,114,101,97,115,101,115]⟩=b:=⟨_,rfl⟩
   rw [hbo2] at HC2
   have hY2:=gf HY
   rw [hbo2] at hY2
   replace HY:=gh hY2
   clear hY2 hbo2
   go_wp2_with fail
   refine (gf HC2).mono ?_
   rintro e w2 ⟨rfl,hb2,hR2⟩
   replace HB:=gh ((gf HB).but hb2)
   replace HX:=gh (zkeep (gf HX) hb2 neQ)
   replace HS:=gh (Nat.le_trans (gf HS) hb2.size)
   replace HR:=gh hR2
   clear hb2 hR2 HC2
   rcases bo2 with _ | _
   ·have hY2:=gf HY
    simp only [Bool.false_eq_true,if_false,thenR] at hY2
    replace HY:=gh hY2
    have hRR:=gf HR
    rw [if_neg Bool.false_ne_true] at hRR
    replace HR:=gh hRR
    clear hY2 hRR
    go_wp2
    obtain rfl:=gf HY
    refine bodyPost_end (results_none rfl _ _ _) rfl ?_
    exact ⟨(gf HL).1,gf HB,gf HR,rfl,_,_,_,_,_,_,_,_,_,gf HX,lsn,lsn,lsn⟩
   ·have hY2:=gf HY
    simp only [if_true] at hY2
    replace HY:=gh hY2
    have hRR:=gf HR
    rw [if_pos rfl] at hRR
    replace HR:=gh hRR
    clear hY2 hRR
    replace HL:=gh (And.intro (Nat.le_succ_of_le (gf HL).1) (Nat.le_succ_of_le (gf HL).2))
    have HC3:=gh (exprs_of (gf HT) (gf hE) (by decide:65536≤1000000) (gf HL).2 (gf HR))
    go_wp2_with fail
    refine (gf HC3).mono ?_
    intro e w3 h3
    rcases hX3:exprsR ts (exR ts) 65536 (p+1) with er | ⟨t3,q3⟩
    ·rw [hX3] at h3
     obtain ⟨ei,en⟩:=er
     have hYe:Y = .error (ei,en):=by have h:=gf HY;rw [hX3] at h;exact h.symm
     subst hYe
     obtain ⟨hb3,h3⟩:=h3
     obtain rfl:e=_:=h3
     have HP:=gh ((gf HB).but hb3)
     clear hb3 HC3 hX3
     go_wp2
     exact ⟨rfl,gf HP,rfl⟩
    rw [hX3] at h3
    obtain ⟨hb3,hle3,hR3,v3,rfl,hv3⟩:=h3
    have hY3:=gf HY
    rw [hX3] at hY3
    simp only [thenR] at hY3
    replace HY:=gh hY3
    clear hY3
    obtain ⟨a3,n3,c3,rfl⟩:=IsLs.form hv3
    have HT3:=gh (IsLs.keep hv3 (lo':=w.heap.size) (Stays.of (Below.refl _ _)) (gf HS))
    replace HB:=gh ((gf HB).but hb3)
    replace HX:=gh (zkeep (gf HX) hb3 neQ)
    replace HS:=gh (Nat.le_trans (gf HS) hb3.size)
    replace HR:=gh hR3
    replace HL:=gh (And.intro (Nat.le_trans (gf HL).1 hle3) (Nat.le_trans (gf HL).2 hle3))
    clear hb3 hle3 hR3 hv3 HC3 hX3
    have st4_0:=(blk (gf HX)).2.1 13 _ rfl
    have sz4_0:=(blk (gf HX)).2.2 13
    obtain ⟨V4,eV4⟩:∃ V,(w3.setCell ⟨Q,13,none⟩ (.slice a3 n3 c3))=V:=⟨_,rfl⟩
    have eN4:setN w3 Q 13 [.slice a3 n3 c3]=V4:=eV4
    replace HB:=gh (by rw [←eN4];exact Bu.setN [.slice a3 n3 c3] w3 13 (gf HB):Bu Q r w V4)
    replace HR:=gh (by rw [←eN4];exact (gf HR).setN hrQ 13 [.slice a3 n3 c3]:RD V4 r ts (q3) d)
    replace HX:=gh (by rw [←eN4];exact blk_setN [.slice a3 n3 c3] w3 13 [x0,x1,x2,x3,x4,x5,x6,x7,x8,x9,.slice none 0 0,.string ⟨#[]⟩,.slice none 0 0,.slice none 0 0,x14,x15,x16,x17,x18,x19,x20,x21] (gf HX) (by simp):V4.heap[Q]?=some (.cells #[x0,x1,x2,x3,x4,x5,x6,x7,x8,x9,.slice none 0 0,.string ⟨#[]⟩,.slice none 0 0,.slice a3 n3 c3,x14,x15,x16,x17,x18,x19,x20,x21] 56))
    replace HT3:=gh (eN4▸(gf HT3).keep (Stays.setN [.slice a3 n3 c3] w3 13 (Stays.of (Below.refl _ _)) hQw) (Nat.le_refl _))
    have hsz4:V4.heap.size=w3.heap.size:=by rw [←eN4];exact size_setN [.slice a3 n3 c3] w3 13
    replace HS:=gh (by rw [hsz4];exact gf HS:w.heap.size≤V4.heap.size)
    have HEV4:=gh eV4
    clear eV4 eN4 hsz4
    go_wp2
    rw [gf HEV4]
    obtain rfl:=gf HY
    refine bodyPost_end (results_none rfl _ _ _) rfl ?_
    exact ⟨(gf HL).1,gf HB,gf HR,rfl,_,_,_,_,_,_,_,_,_,gf HX,lsn,lsn,gf HT3⟩
  ·have hY1:=gf HY
   simp only [if_true] at hY1
   replace HY:=gh hY1
   have hRR:=gf HR
   rw [if_pos rfl] at hRR
   replace HR:=gh hRR
   clear hY1 hRR
   replace HL:=gh (And.intro (Nat.le_succ_of_le (gf HL).1) (Nat.le_succ_of_le (gf HL).2))
   have HC5:=gh (mustBe_any (gf HR) (gf HT) (k:=1) (by decide))
   go_wp2_with fail
   refine (gf HC5).mono ?_
   intro e w5 h5
   rcases hX5:mustBeR ts 1 (p+1) with er | ⟨t5,q5⟩
   ·rw [hX5] at h5
    obtain ⟨ei,en⟩:=er
    have hYe:Y = .error (ei,en):=by have h:=gf HY;rw [hX5] at h;exact h.symm
    subst hYe
    obtain ⟨hb5,h5⟩:=h5
    obtain rfl:e=_:=h5
    have HP:=gh ((gf HB).but hb5)
    clear hb5 HC5 hX5
    go_wp2
    exact ⟨rfl,gf HP,rfl⟩
   rw [hX5] at h5
   obtain ⟨hb5,hle5,hR5,v5,rfl,hv5⟩:=h5
   have hY5:=gf HY
   rw [hX5] at hY5
   simp only [thenR] at hY5
   replace HY:=gh hY5
   clear hY5
   obtain ⟨kk5,T5,at5⟩:=t5
   obtain rfl:v5=_:=hv5
   have hf05:=fld0 (.int .i64 kk5) (.string T5) (.int .i64 at5)
   have hf15:=fld1 (.int .i64 kk5) (.string T5) (.int .i64 at5)
   unfold tkV
   replace HB:=gh ((gf HB).but hb5)
   replace HX:=gh (zkeep (gf HX) hb5 neQ)
   replace HS:=gh (Nat.le_trans (gf HS) hb5.size)
   replace HR:=gh hR5
   replace HL:=gh (And.intro (Nat.le_trans (gf HL).1 hle5) (Nat.le_trans (gf HL).2 hle5))
   clear hb5 hle5 hR5 HC5 hX5
   have st6_0:=(blk (gf HX)).2.1 11 _ rfl
   have sz6_0:=(blk (gf HX)).2.2 11
   obtain ⟨V6,eV6⟩:∃ V,(w5.setCell ⟨Q,11,none⟩ (.string T5))=V:=⟨_,rfl⟩
   have eN6:setN w5 Q 11 [.string T5]=V6:=eV6
   replace HB:=gh (by rw [←eN6];exact Bu.setN [.string T5] w5 11 (gf HB):Bu Q r w V6)
   replace HR:=gh (by rw [←eN6];exact (gf HR).setN hrQ 11 [.string T5]:RD V6 r ts (q5) d)
   replace HX:=gh (by rw [←eN6];exact blk_setN [.string T5] w5 11 [x0,x1,x2,x3,x4,x5,x6,x7,x8,x9,.slice none 0 0,.string ⟨#[]⟩,.slice none 0 0,.slice none 0 0,x14,x15,x16,x17,x18,x19,x20,x21] (gf HX) (by simp):V6.heap[Q]?=some (.cells #[x0,x1,x2,x3,x4,x5,x6,x7,x8,x9,.slice none 0 0,.string T5,.slice none 0 0,.slice none 0 0,x14,x15,x16,x17,x18,x19,x20,x21] 56))
   have hsz6:V6.heap.size=w5.heap.size:=by rw [←eN6];exact size_setN [.string T5] w5 11
   replace HS:=gh (by rw [hsz6];exact gf HS:w.heap.size≤V6.heap.size)
   have HEV6:=gh eV6
   clear eV6 eN6 hsz6
   have HC7:=gh (must_any (gf HR) (gf HT) (s:=⟨#[46]⟩) (by decide))
   go_wp2_with fail
   rw [gf HEV6]
   refine (gf HC7).mono ?_
   intro e w7 h7
   rcases hX7:mustR ts ⟨#[46]⟩ (q5) with er | ⟨t7,q7⟩
   ·rw [hX7] at h7
    obtain ⟨ei,en⟩:=er
    have hYe:Y = .error (ei,en):=by have h:=gf HY;rw [hX7] at h;exact h.symm
    subst hYe
    obtain ⟨hb7,h7⟩:=h7
    obtain rfl:e=_:=h7
    have HP:=gh ((gf HB).but hb7)
    clear hb7 HC7 hX7
    go_wp2
    exact ⟨rfl,gf HP,rfl⟩
   rw [hX7] at h7
   obtain ⟨hb7,hle7,hR7,v7,rfl,hv7⟩:=h7
   have hY7:=gf HY
   rw [hX7] at hY7
   simp only [thenR] at hY7
   replace HY:=gh hY7
   clear hY7
   obtain rfl:v7=_:=hv7
   replace HB:=gh ((gf HB).but hb7)
   replace HX:=gh (zkeep (gf HX) hb7 neQ)
   replace HS:=gh (Nat.le_trans (gf HS) hb7.size)
   replace HR:=gh hR7
   replace HL:=gh (And.intro (Nat.le_trans (gf HL).1 hle7) (Nat.le_trans (gf HL).2 hle7))
   clear hb7 hle7 hR7 HC7 hX7
   have HC8:=gh (gf hE w7 (q7) (gf HL).2 (gf HR))
   go_wp2_with fail
   refine (gf HC8).mono ?_
   intro e w8 h8
   rcases hX8:exR ts (q7) with er | ⟨t8,q8⟩
   ·rw [hX8] at h8
    obtain ⟨ei,en⟩:=er
    have hYe:Y = .error (ei,en):=by have h:=gf HY;rw [hX8] at h;exact h.symm
    subst hYe
    obtain ⟨hb8,h8⟩:=h8
    obtain rfl:e=_:=h8
    have HP:=gh ((gf HB).but hb8)
    clear hb8 HC8 hX8
    go_wp2
    exact ⟨rfl,gf HP,rfl⟩
   rw [hX8] at h8
   obtain ⟨hb8,hle8,hR8,v8,rfl,hv8⟩:=h8
   have hY8:=gf HY
   rw [hX8] at hY8
   simp only [thenR] at hY8
   replace HY:=gh hY8
   clear hY8
   obtain ⟨i8,j8,s8,m8,b8,a8,n8,c8,rfl⟩:=hv8.form
   have HT8:=gh (hv8.keep (lo':=w.heap.size) (Stays.of (Below.refl _ _)) (gf HS))
   replace HB:=gh ((gf HB).but hb8)
   replace HX:=gh (zkeep (gf HX) hb8 neQ)
   replace HS:=gh (Nat.le_trans (gf HS) hb8.size)
   replace HR:=gh hR8
   replace HL:=gh (And.intro (Nat.le_trans (gf HL).1 hle8) (Nat.le_trans (gf HL).2 hle8))
   clear hb8 hle8 hR8 hv8 HC8 hX8
   have HPT9:=HT8
   have HPS9:=HS
   obtain ⟨B9,eB9,hbB9,hsB9,hhB9⟩:=box_new w8 #[.int .i64 i8,.string s8,.string m8,.bool b8,.slice a8 n8 c8,.int .i64 0,.int .i64 j8] 36
   have hbu10:=But.of (r:=r) hbB9
   replace HR:=gh ((gf HR).keep hbB9)
   replace HB:=gh ((gf HB).but hbu10)
   replace HX:=gh (zkeep (gf HX) hbu10 neQ)
   replace HT8:=gh ((gf HT8).keep (Stays.but hbu10 hr) (Nat.le_refl _))
   replace HS:=gh (Nat.le_trans (gf HS) hbu10.size)
   have HEB9:=gh eB9
   clear eB9 hbB9 hhB9 hsB9
   have hone9:=one_ls (gf HPT9) (gf HEB9) (gf HPS9)
   have HO9:=gh hone9
   clear hone9 HPT9 HPS9
   have st11_0:=(blk (gf HX)).2.1 12 _ rfl
   have sz11_0:=(blk (gf HX)).2.2 12
   rw [←gf HEB9] at st11_0 sz11_0
   obtain ⟨V11,eV11⟩:∃ V,(B9.setCell ⟨Q,12,none⟩ (.slice (some ⟨w8.heap.size,0,none⟩) 1 1))=V:=⟨_,rfl⟩
   have eN11:setN B9 Q 12 [.slice (some ⟨w8.heap.size,0,none⟩) 1 1]=V11:=eV11
   replace HB:=gh (by rw [←eN11];exact Bu.setN [.slice (some ⟨w8.heap.size,0,none⟩) 1 1] B9 12 (gf HB):Bu Q r w V11)
   replace HR:=gh (by rw [←eN11];exact (gf HR).setN hrQ 12 [.slice (some ⟨w8.heap.size,0,none⟩) 1 1]:RD V11 r ts (q8) d)
   replace HX:=gh (by rw [←eN11];exact blk_setN [.slice (some ⟨w8.heap.size,0,none⟩) 1 1] B9 12 [x0,x1,x2,x3,x4,x5,x6,x7,x8,x9,.slice none 0 0,.string T5,.slice none 0 0,.slice none 0 0,x14,x15,x16,x17,x18,x19,x20,x21] (gf HX) (by simp):V11.heap[Q]?=some (.cells #[x0,x1,x2,x3,x4,x5,x6,x7,x8,x9,.slice none 0 0,.string T5,.slice (some ⟨w8.heap.size,0,none⟩) 1 1,.slice none 0 0,x14,x15,x16,x17,x18,x19,x20,x21] 56))
   replace HO9:=gh (eN11▸(gf HO9).keep (Stays.setN [.slice (some ⟨w8.heap.size,0,none⟩) 1 1] B9 12 (Stays.of (Below.refl _ _)) hQw) (Nat.le_refl _))
   have hsz11:V11.heap.size=B9.heap.size:=by rw [←eN11];exact size_setN [.slice (some ⟨w8.heap.size,0,none⟩) 1 1] B9 12
   replace HS:=gh (by rw [hsz11];exact gf HS:w.heap.size≤V11.heap.size)
   have HEV11:=gh eV11
   clear eV11 eN11 hsz11
   have HC12:=gh (takeIf_any (gf HR) (gf HT) (s:=⟨#[100,101,99,114,101,97,115,101,115]⟩) (by decide))
   obtain ⟨bo12,hbo12⟩:∃ b,sees ts (q8) ⟨#[100,101,99,114,101,97,115,101,115]⟩=b:=⟨_,rfl⟩
   rw [hbo12] at HC12
   have hY12:=gf HY
   rw [hbo12] at hY12
   replace HY:=gh hY12
   clear hY12 hbo12
   go_wp2_with fail
   rw [gf HEB9,gf HEV11]
   refine (gf HC12).mono ?_
   rintro e w12 ⟨rfl,hb12,hR12⟩
   replace HB:=gh ((gf HB).but hb12)
   replace HX:=gh (zkeep (gf HX) hb12 neQ)
   replace HO9:=gh ((gf HO9).keep (Stays.but hb12 hr) (Nat.le_refl _))
   replace HS:=gh (Nat.le_trans (gf HS) hb12.size)
   replace HR:=gh hR12
   clear hb12 hR12 HC12
   rcases bo12 with _ | _
   ·have hY12:=gf HY
    simp only [Bool.false_eq_true,if_false,thenR] at hY12
    replace HY:=gh hY12
    have hRR:=gf HR
    rw [if_neg Bool.false_ne_true] at hRR
    replace HR:=gh hRR
    clear hY12 hRR
    go_wp2
    obtain rfl:=gf HY
    refine bodyPost_end (results_none rfl _ _ _) rfl ?_
    exact ⟨(gf HL).1,gf HB,gf HR,rfl,_,_,_,_,_,_,_,_,_,gf HX,lsn,gf HO9,lsn⟩
   ·have hY12:=gf HY
    simp only [if_true] at hY12
    replace HY:=gh hY12
    have hRR:=gf HR
    rw [if_pos rfl] at hRR
    replace HR:=gh hRR
    clear hY12 hRR
    replace HL:=gh (And.intro (Nat.le_succ_of_le (gf HL).1) (Nat.le_succ_of_le (gf HL).2))
    have HC13:=gh (exprs_of (gf HT) (gf hE) (by decide:65536≤1000000) (gf HL).2 (gf HR))
    go_wp2_with fail
    refine (gf HC13).mono ?_
    intro e w13 h13
    rcases hX13:exprsR ts (exR ts) 65536 (q8+1) with er | ⟨t13,q13⟩
    ·rw [hX13] at h13
     obtain ⟨ei,en⟩:=er
     have hYe:Y = .error (ei,en):=by have h:=gf HY;rw [hX13] at h;exact h.symm
     subst hYe
     obtain ⟨hb13,h13⟩:=h13
     obtain rfl:e=_:=h13
     have HP:=gh ((gf HB).but hb13)
     clear hb13 HC13 hX13
     go_wp2
     exact ⟨rfl,gf HP,rfl⟩
    rw [hX13] at h13
    obtain ⟨hb13,hle13,hR13,v13,rfl,hv13⟩:=h13
    have hY13:=gf HY
    rw [hX13] at hY13
    simp only [thenR] at hY13
    replace HY:=gh hY13
    clear hY13
    obtain ⟨a13,n13,c13,rfl⟩:=IsLs.form hv13
    have HT13:=gh (IsLs.keep hv13 (lo':=w.heap.size) (Stays.of (Below.refl _ _)) (gf HS))
    replace HB:=gh ((gf HB).but hb13)
    replace HX:=gh (zkeep (gf HX) hb13 neQ)
    replace HO9:=gh ((gf HO9).keep (Stays.but hb13 hr) (Nat.le_refl _))
    replace HS:=gh (Nat.le_trans (gf HS) hb13.size)
    replace HR:=gh hR13
    replace HL:=gh (And.intro (Nat.le_trans (gf HL).1 hle13) (Nat.le_trans (gf HL).2 hle13))
    clear hb13 hle13 hR13 hv13 HC13 hX13
    have st14_0:=(blk (gf HX)).2.1 13 _ rfl
    have sz14_0:=(blk (gf HX)).2.2 13
    obtain ⟨V14,eV14⟩:∃ V,(w13.setCell ⟨Q,13,none⟩ (.slice a13 n13 c13))=V:=⟨_,rfl⟩
    have eN14:setN w13 Q 13 [.slice a13 n13 c13]=V14:=eV14
    replace HB:=gh (by rw [←eN14];exact Bu.setN [.slice a13 n13 c13] w13 13 (gf HB):Bu Q r w V14)
    replace HR:=gh (by rw [←eN14];exact (gf HR).setN hrQ 13 [.slice a13 n13 c13]:RD V14 r ts (q13) d)
    replace HX:=gh (by rw [←eN14];exact blk_setN [.slice a13 n13 c13] w13 13 [x0,x1,x2,x3,x4,x5,x6,x7,x8,x9,.slice none 0 0,.string T5,.slice (some ⟨w8.heap.size,0,none⟩) 1 1,.slice none 0 0,x14,x15,x16,x17,x18,x19,x20,x21] (gf HX) (by simp):V14.heap[Q]?=some (.cells #[x0,x1,x2,x3,x4,x5,x6,x7,x8,x9,.slice none 0 0,.string T5,.slice (some ⟨w8.heap.size,0,none⟩) 1 1,.slice a13 n13 c13,x14,x15,x16,x17,x18,x19,x20,x21] 56))
    replace HO9:=gh (eN14▸(gf HO9).keep (Stays.setN [.slice a13 n13 c13] w13 13 (Stays.of (Below.refl _ _)) hQw) (Nat.le_refl _))
    replace HT13:=gh (eN14▸(gf HT13).keep (Stays.setN [.slice a13 n13 c13] w13 13 (Stays.of (Below.refl _ _)) hQw) (Nat.le_refl _))
    have hsz14:V14.heap.size=w13.heap.size:=by rw [←eN14];exact size_setN [.slice a13 n13 c13] w13 13
    replace HS:=gh (by rw [hsz14];exact gf HS:w.heap.size≤V14.heap.size)
    have HEV14:=gh eV14
    clear eV14 eN14 hsz14
    go_wp2
    rw [gf HEV14]
    obtain rfl:=gf HY
    refine bodyPost_end (results_none rfl _ _ _) rfl ?_
    exact ⟨(gf HL).1,gf HB,gf HR,rfl,_,_,_,_,_,_,_,_,_,gf HX,lsn,gf HO9,gf HT13⟩
 ·have hY0:=gf HY
  simp only [if_true] at hY0
  replace HY:=gh hY0
  have hRR:=gf HR
  rw [if_pos rfl] at hRR
  replace HR:=gh hRR
  clear hY0 hRR
  replace HL:=gh (And.intro (Nat.le_succ_of_le (gf HL).1) (Nat.le_succ_of_le (gf HL).2))
  have HC15:=gh (gf hE w0 (p+1) (gf HL).2 (gf HR))
  go_wp2_with fail
  refine (gf HC15).mono ?_
  intro e w15 h15
  rcases hX15:exR ts (p+1) with er | ⟨t15,q15⟩
  ·rw [hX15] at h15
   obtain ⟨ei,en⟩:=er
   have hYe:Y = .error (ei,en):=by have h:=gf HY;rw [hX15] at h;exact h.symm
   subst hYe
   obtain ⟨hb15,h15⟩:=h15
   obtain rfl:e=_:=h15
   have HP:=gh ((gf HB).but hb15)
   clear hb15 HC15 hX15
   go_wp2
   exact ⟨rfl,gf HP,rfl⟩
  rw [hX15] at h15
  obtain ⟨hb15,hle15,hR15,v15,rfl,hv15⟩:=h15
  have hY15:=gf HY
  rw [hX15] at hY15
  simp only [thenR] at hY15
  replace HY:=gh hY15
  clear hY15
  obtain ⟨i15,j15,s15,m15,b15,a15,n15,c15,rfl⟩:=hv15.form
  have HT15:=gh (hv15.keep (lo':=w.heap.size) (Stays.of (Below.refl _ _)) (gf HS))
  replace HB:=gh ((gf HB).but hb15)
  replace HX:=gh (zkeep (gf HX) hb15 neQ)
  replace HS:=gh (Nat.le_trans (gf HS) hb15.size)
  replace HR:=gh hR15
  replace HL:=gh (And.intro (Nat.le_trans (gf HL).1 hle15) (Nat.le_trans (gf HL).2 hle15))
  clear hb15 hle15 hR15 hv15 HC15 hX15
  have HPT16:=HT15
  have HPS16:=HS
  obtain ⟨B16,eB16,hbB16,hsB16,hhB16⟩:=box_new w15 #[.int .i64 i15,.string s15,.string m15,.bool b15,.slice a15 n15 c15,.int .i64 0,.int .i64 j15] 36
  have hbu17:=But.of (r:=r) hbB16
  replace HR:=gh ((gf HR).keep hbB16)
  replace HB:=gh ((gf HB).but hbu17)
  replace HX:=gh (zkeep (gf HX) hbu17 neQ)
  replace HT15:=gh ((gf HT15).keep (Stays.but hbu17 hr) (Nat.le_refl _))
  replace HS:=gh (Nat.le_trans (gf HS) hbu17.size)
  have HEB16:=gh eB16
  clear eB16 hbB16 hhB16 hsB16
  have hone16:=one_ls (gf HPT16) (gf HEB16) (gf HPS16)
  have HO16:=gh hone16
  clear hone16 HPT16 HPS16
  have st18_0:=(blk (gf HX)).2.1 10 _ rfl
  have sz18_0:=(blk (gf HX)).2.2 10
  rw [←gf HEB16] at st18_0 sz18_0
  obtain ⟨V18,eV18⟩:∃ V,(B16.setCell ⟨Q,10,none⟩ (.slice (some ⟨w15.heap.size,0,none⟩) 1 1))=V:=⟨_,rfl⟩
  have eN18:setN B16 Q 10 [.slice (some ⟨w15.heap.size,0,none⟩) 1 1]=V18:=eV18
  replace HB:=gh (by rw [←eN18];exact Bu.setN [.slice (some ⟨w15.heap.size,0,none⟩) 1 1] B16 10 (gf HB):Bu Q r w V18)
  replace HR:=gh (by rw [←eN18];exact (gf HR).setN hrQ 10 [.slice (some ⟨w15.heap.size,0,none⟩) 1 1]:RD V18 r ts (q15) d)
  replace HX:=gh (by rw [←eN18];exact blk_setN [.slice (some ⟨w15.heap.size,0,none⟩) 1 1] B16 10 [x0,x1,x2,x3,x4,x5,x6,x7,x8,x9,.slice none 0 0,.string ⟨#[]⟩,.slice none 0 0,.slice none 0 0,x14,x15,x16,x17,x18,x19,x20,x21] (gf HX) (by simp):V18.heap[Q]?=some (.cells #[x0,x1,x2,x3,x4,x5,x6,x7,x8,x9,.slice (some ⟨w15.heap.size,0,none⟩) 1 1,.string ⟨#[]⟩,.slice none 0 0,.slice none 0 0,x14,x15,x16,x17,x18,x19,x20,x21] 56))
  replace HO16:=gh (eN18▸(gf HO16).keep (Stays.setN [.slice (some ⟨w15.heap.size,0,none⟩) 1 1] B16 10 (Stays.of (Below.refl _ _)) hQw) (Nat.le_refl _))
  have hsz18:V18.heap.size=B16.heap.size:=by rw [←eN18];exact size_setN [.slice (some ⟨w15.heap.size,0,none⟩) 1 1] B16 10
  replace HS:=gh (by rw [hsz18];exact gf HS:w.heap.size≤V18.heap.size)
  have HEV18:=gh eV18
  clear eV18 eN18 hsz18
  have HC19:=gh (takeIf_any (gf HR) (gf HT) (s:=⟨#[101,110,115,117,114,101,115]⟩) (by decide))
  obtain ⟨bo19,hbo19⟩:∃ b,sees ts (q15) ⟨#[101,110,115,117,114,101,115]⟩=b:=⟨_,rfl⟩
  rw [hbo19] at HC19
  have hY19:=gf HY
  rw [hbo19] at hY19
  replace HY:=gh hY19
  clear hY19 hbo19
  go_wp2_with fail
  rw [gf HEB16,gf HEV18]
  refine (gf HC19).mono ?_
  rintro e w19 ⟨rfl,hb19,hR19⟩
  replace HB:=gh ((gf HB).but hb19)
  replace HX:=gh (zkeep (gf HX) hb19 neQ)
  replace HO16:=gh ((gf HO16).keep (Stays.but hb19 hr) (Nat.le_refl _))
  replace HS:=gh (Nat.le_trans (gf HS) hb19.size)
  replace HR:=gh hR19
  clear hb19 hR19 HC19
  rcases bo19 with _ | _
  ·have hY19:=gf HY
   simp only [Bool.false_eq_true,if_false,thenR] at hY19
   replace HY:=gh hY19
   have hRR:=gf HR
   rw [if_neg Bool.false_ne_true] at hRR
   replace HR:=gh hRR
   clear hY19 hRR
   have HC20:=gh (takeIf_any (gf HR) (gf HT) (s:=⟨#[100,101,99,114,101,97,115,101,115]⟩) (by decide))
   obtain ⟨bo20,hbo20⟩:∃ b,sees ts (q15) ⟨#[100,101,99,114,101,97,115,101,115]⟩=b:=⟨_,rfl⟩
   rw [hbo20] at HC20
   have hY20:=gf HY
   rw [hbo20] at hY20
   replace HY:=gh hY20
   clear hY20 hbo20
   go_wp2_with fail
   refine (gf HC20).mono ?_
   rintro e w20 ⟨rfl,hb20,hR20⟩
   replace HB:=gh ((gf HB).but hb20)
   replace HX:=gh (zkeep (gf HX) hb20 neQ)
   replace HO16:=gh ((gf HO16).keep (Stays.but hb20 hr) (Nat.le_refl _))
   replace HS:=gh (Nat.le_trans (gf HS) hb20.size)
   replace HR:=gh hR20
   clear hb20 hR20 HC20
   rcases bo20 with _ | _
   ·have hY20:=gf HY
    simp only [Bool.false_eq_true,if_false,thenR] at hY20
    replace HY:=gh hY20
    have hRR:=gf HR
    rw [if_neg Bool.false_ne_true] at hRR
    replace HR:=gh hRR
    clear hY20 hRR
    go_wp2
    obtain rfl:=gf HY
    refine bodyPost_end (results_none rfl _ _ _) rfl ?_
    exact ⟨(gf HL).1,gf HB,gf HR,rfl,_,_,_,_,_,_,_,_,_,gf HX,gf HO16,lsn,lsn⟩
   ·have hY20:=gf HY
    simp only [if_true] at hY20
    replace HY:=gh hY20
    have hRR:=gf HR
    rw [if_pos rfl] at hRR
    replace HR:=gh hRR
    clear hY20 hRR
    replace HL:=gh (And.intro (Nat.le_succ_of_le (gf HL).1) (Nat.le_succ_of_le (gf HL).2))
    have HC21:=gh (exprs_of (gf HT) (gf hE) (by decide:65536≤1000000) (gf HL).2 (gf HR))
    go_wp2_with fail
    refine (gf HC21).mono ?_
    intro e w21 h21
    rcases hX21:exprsR ts (exR ts) 65536 (q15+1) with er | ⟨t21,q21⟩
    ·rw [hX21] at h21
     obtain ⟨ei,en⟩:=er
     have hYe:Y = .error (ei,en):=by have h:=gf HY;rw [hX21] at h;exact h.symm
     subst hYe
     obtain ⟨hb21,h21⟩:=h21
     obtain rfl:e=_:=h21
     have HP:=gh ((gf HB).but hb21)
     clear hb21 HC21 hX21
     go_wp2
     exact ⟨rfl,gf HP,rfl⟩
    rw [hX21] at h21
    obtain ⟨hb21,hle21,hR21,v21,rfl,hv21⟩:=h21
    have hY21:=gf HY
    rw [hX21] at hY21
    simp only [thenR] at hY21
    replace HY:=gh hY21
    clear hY21
    obtain ⟨a21,n21,c21,rfl⟩:=IsLs.form hv21
    have HT21:=gh (IsLs.keep hv21 (lo':=w.heap.size) (Stays.of (Below.refl _ _)) (gf HS))
    replace HB:=gh ((gf HB).but hb21)
    replace HX:=gh (zkeep (gf HX) hb21 neQ)
    replace HO16:=gh ((gf HO16).keep (Stays.but hb21 hr) (Nat.le_refl _))
    replace HS:=gh (Nat.le_trans (gf HS) hb21.size)
    replace HR:=gh hR21
    replace HL:=gh (And.intro (Nat.le_trans (gf HL).1 hle21) (Nat.le_trans (gf HL).2 hle21))
    clear hb21 hle21 hR21 hv21 HC21 hX21
    have st22_0:=(blk (gf HX)).2.1 13 _ rfl
    have sz22_0:=(blk (gf HX)).2.2 13
    obtain ⟨V22,eV22⟩:∃ V,(w21.setCell ⟨Q,13,none⟩ (.slice a21 n21 c21))=V:=⟨_,rfl⟩
    have eN22:setN w21 Q 13 [.slice a21 n21 c21]=V22:=eV22
    replace HB:=gh (by rw [←eN22];exact Bu.setN [.slice a21 n21 c21] w21 13 (gf HB):Bu Q r w V22)
    replace HR:=gh (by rw [←eN22];exact (gf HR).setN hrQ 13 [.slice a21 n21 c21]:RD V22 r ts (q21) d)
    replace HX:=gh (by rw [←eN22];exact blk_setN [.slice a21 n21 c21] w21 13 [x0,x1,x2,x3,x4,x5,x6,x7,x8,x9,.slice (some ⟨w15.heap.size,0,none⟩) 1 1,.string ⟨#[]⟩,.slice none 0 0,.slice none 0 0,x14,x15,x16,x17,x18,x19,x20,x21] (gf HX) (by simp):V22.heap[Q]?=some (.cells #[x0,x1,x2,x3,x4,x5,x6,x7,x8,x9,.slice (some ⟨w15.heap.size,0,none⟩) 1 1,.string ⟨#[]⟩,.slice none 0 0,.slice a21 n21 c21,x14,x15,x16,x17,x18,x19,x20,x21] 56))
    replace HO16:=gh (eN22▸(gf HO16).keep (Stays.setN [.slice a21 n21 c21] w21 13 (Stays.of (Below.refl _ _)) hQw) (Nat.le_refl _))
    replace HT21:=gh (eN22▸(gf HT21).keep (Stays.setN [.slice a21 n21 c21] w21 13 (Stays.of (Below.refl _ _)) hQw) (Nat.le_refl _))
    have hsz22:V22.heap.size=w21.heap.size:=by rw [←eN22];exact size_setN [.slice a21 n21 c21] w21 13
    replace HS:=gh (by rw [hsz22];exact gf HS:w.heap.size≤V22.heap.size)
    have HEV22:=gh eV22
    clear eV22 eN22 hsz22
    go_wp2
    rw [gf HEV22]
    obtain rfl:=gf HY
    refine bodyPost_end (results_none rfl _ _ _) rfl ?_
    exact ⟨(gf HL).1,gf HB,gf HR,rfl,_,_,_,_,_,_,_,_,_,gf HX,gf HO16,lsn,gf HT21⟩
  ·have hY19:=gf HY
   simp only [if_true] at hY19
   replace HY:=gh hY19
   have hRR:=gf HR
   rw [if_pos rfl] at hRR
   replace HR:=gh hRR
   clear hY19 hRR
   replace HL:=gh (And.intro (Nat.le_succ_of_le (gf HL).1) (Nat.le_succ_of_le (gf HL).2))
   have HC23:=gh (mustBe_any (gf HR) (gf HT) (k:=1) (by decide))
   go_wp2_with fail
   refine (gf HC23).mono ?_
   intro e w23 h23
   rcases hX23:mustBeR ts 1 (q15+1) with er | ⟨t23,q23⟩
   ·rw [hX23] at h23
    obtain ⟨ei,en⟩:=er
    have hYe:Y = .error (ei,en):=by have h:=gf HY;rw [hX23] at h;exact h.symm
    subst hYe
    obtain ⟨hb23,h23⟩:=h23
    obtain rfl:e=_:=h23
    have HP:=gh ((gf HB).but hb23)
    clear hb23 HC23 hX23
    go_wp2
    exact ⟨rfl,gf HP,rfl⟩
   rw [hX23] at h23
   obtain ⟨hb23,hle23,hR23,v23,rfl,hv23⟩:=h23
   have hY23:=gf HY
   rw [hX23] at hY23
   simp only [thenR] at hY23
   replace HY:=gh hY23
   clear hY23
   obtain ⟨kk23,T23,at23⟩:=t23
   obtain rfl:v23=_:=hv23
   have hf023:=fld0 (.int .i64 kk23) (.string T23) (.int .i64 at23)
   have hf123:=fld1 (.int .i64 kk23) (.string T23) (.int .i64 at23)
   unfold tkV
   replace HB:=gh ((gf HB).but hb23)
   replace HX:=gh (zkeep (gf HX) hb23 neQ)
   replace HO16:=gh ((gf HO16).keep (Stays.but hb23 hr) (Nat.le_refl _))
   replace HS:=gh (Nat.le_trans (gf HS) hb23.size)
   replace HR:=gh hR23
   replace HL:=gh (And.intro (Nat.le_trans (gf HL).1 hle23) (Nat.le_trans (gf HL).2 hle23))
   clear hb23 hle23 hR23 HC23 hX23
   have st24_0:=(blk (gf HX)).2.1 11 _ rfl
   have sz24_0:=(blk (gf HX)).2.2 11
   obtain ⟨V24,eV24⟩:∃ V,(w23.setCell ⟨Q,11,none⟩ (.string T23))=V:=⟨_,rfl⟩
   have eN24:setN w23 Q 11 [.string T23]=V24:=eV24
   replace HB:=gh (by rw [←eN24];exact Bu.setN [.string T23] w23 11 (gf HB):Bu Q r w V24)
   replace HR:=gh (by rw [←eN24];exact (gf HR).setN hrQ 11 [.string T23]:RD V24 r ts (q23) d)
   replace HX:=gh (by rw [←eN24];exact blk_setN [.string T23] w23 11 [x0,x1,x2,x3,x4,x5,x6,x7,x8,x9,.slice (some ⟨w15.heap.size,0,none⟩) 1 1,.string ⟨#[]⟩,.slice none 0 0,.slice none 0 0,x14,x15,x16,x17,x18,x19,x20,x21] (gf HX) (by simp):V24.heap[Q]?=some (.cells #[x0,x1,x2,x3,x4,x5,x6,x7,x8,x9,.slice (some ⟨w15.heap.size,0,none⟩) 1 1,.string T23,.slice none 0 0,.slice none 0 0,x14,x15,x16,x17,x18,x19,x20,x21] 56))
   replace HO16:=gh (eN24▸(gf HO16).keep (Stays.setN [.string T23] w23 11 (Stays.of (Below.refl _ _)) hQw) (Nat.le_refl _))
   have hsz24:V24.heap.size=w23.heap.size:=by rw [←eN24];exact size_setN [.string T23] w23 11
   replace HS:=gh (by rw [hsz24];exact gf HS:w.heap.size≤V24.heap.size)
   have HEV24:=gh eV24
   clear eV24 eN24 hsz24
   have HC25:=gh (must_any (gf HR) (gf HT) (s:=⟨#[46]⟩) (by decide))
   go_wp2_with fail
   rw [gf HEV24]
   refine (gf HC25).mono ?_
   intro e w25 h25
   rcases hX25:mustR ts ⟨#[46]⟩ (q23) with er | ⟨t25,q25⟩
   ·rw [hX25] at h25
    obtain ⟨ei,en⟩:=er
    have hYe:Y = .error (ei,en):=by have h:=gf HY;rw [hX25] at h;exact h.symm
    subst hYe
    obtain ⟨hb25,h25⟩:=h25
    obtain rfl:e=_:=h25
    have HP:=gh ((gf HB).but hb25)
    clear hb25 HC25 hX25
    go_wp2
    exact ⟨rfl,gf HP,rfl⟩
   rw [hX25] at h25
   obtain ⟨hb25,hle25,hR25,v25,rfl,hv25⟩:=h25
   have hY25:=gf HY
   rw [hX25] at hY25
   simp only [thenR] at hY25
   replace HY:=gh hY25
   clear hY25
   obtain rfl:v25=_:=hv25
   replace HB:=gh ((gf HB).but hb25)
   replace HX:=gh (zkeep (gf HX) hb25 neQ)
   replace HO16:=gh ((gf HO16).keep (Stays.but hb25 hr) (Nat.le_refl _))
   replace HS:=gh (Nat.le_trans (gf HS) hb25.size)
   replace HR:=gh hR25
   replace HL:=gh (And.intro (Nat.le_trans (gf HL).1 hle25) (Nat.le_trans (gf HL).2 hle25))
   clear hb25 hle25 hR25 HC25 hX25
   have HC26:=gh (gf hE w25 (q25) (gf HL).2 (gf HR))
   go_wp2_with fail
   refine (gf HC26).mono ?_
   intro e w26 h26
   rcases hX26:exR ts (q25) with er | ⟨t26,q26⟩
   ·rw [hX26] at h26
    obtain ⟨ei,en⟩:=er
    have hYe:Y = .error (ei,en):=by have h:=gf HY;rw [hX26] at h;exact h.symm
    subst hYe
    obtain ⟨hb26,h26⟩:=h26
    obtain rfl:e=_:=h26
    have HP:=gh ((gf HB).but hb26)
    clear hb26 HC26 hX26
    go_wp2
    exact ⟨rfl,gf HP,rfl⟩
   rw [hX26] at h26
   obtain ⟨hb26,hle26,hR26,v26,rfl,hv26⟩:=h26
   have hY26:=gf HY
   rw [hX26] at hY26
   simp only [thenR] at hY26
   replace HY:=gh hY26
   clear hY26
   obtain ⟨i26,j26,s26,m26,b26,a26,n26,c26,rfl⟩:=hv26.form
   have HT26:=gh (hv26.keep (lo':=w.heap.size) (Stays.of (Below.refl _ _)) (gf HS))
   replace HB:=gh ((gf HB).but hb26)
   replace HX:=gh (zkeep (gf HX) hb26 neQ)
   replace HO16:=gh ((gf HO16).keep (Stays.but hb26 hr) (Nat.le_refl _))
   replace HS:=gh (Nat.le_trans (gf HS) hb26.size)
   replace HR:=gh hR26
   replace HL:=gh (And.intro (Nat.le_trans (gf HL).1 hle26) (Nat.le_trans (gf HL).2 hle26))
   clear hb26 hle26 hR26 hv26 HC26 hX26
   have HPT27:=HT26
   have HPS27:=HS
   obtain ⟨B27,eB27,hbB27,hsB27,hhB27⟩:=box_new w26 #[.int .i64 i26,.string s26,.string m26,.bool b26,.slice a26 n26 c26,.int .i64 0,.int .i64 j26] 36
   have hbu28:=But.of (r:=r) hbB27
   replace HR:=gh ((gf HR).keep hbB27)
   replace HB:=gh ((gf HB).but hbu28)
   replace HX:=gh (zkeep (gf HX) hbu28 neQ)
   replace HO16:=gh ((gf HO16).keep (Stays.but hbu28 hr) (Nat.le_refl _))
   replace HT26:=gh ((gf HT26).keep (Stays.but hbu28 hr) (Nat.le_refl _))
   replace HS:=gh (Nat.le_trans (gf HS) hbu28.size)
   have HEB27:=gh eB27
   clear eB27 hbB27 hhB27 hsB27
   have hone27:=one_ls (gf HPT27) (gf HEB27) (gf HPS27)
   have HO27:=gh hone27
   clear hone27 HPT27 HPS27
   have st29_0:=(blk (gf HX)).2.1 12 _ rfl
   have sz29_0:=(blk (gf HX)).2.2 12
   rw [←gf HEB27] at st29_0 sz29_0
   obtain ⟨V29,eV29⟩:∃ V,(B27.setCell ⟨Q,12,none⟩ (.slice (some ⟨w26.heap.size,0,none⟩) 1 1))=V:=⟨_,rfl⟩
   have eN29:setN B27 Q 12 [.slice (some ⟨w26.heap.size,0,none⟩) 1 1]=V29:=eV29
   replace HB:=gh (by rw [←eN29];exact Bu.setN [.slice (some ⟨w26.heap.size,0,none⟩) 1 1] B27 12 (gf HB):Bu Q r w V29)
   replace HR:=gh (by rw [←eN29];exact (gf HR).setN hrQ 12 [.slice (some ⟨w26.heap.size,0,none⟩) 1 1]:RD V29 r ts (q26) d)
   replace HX:=gh (by rw [←eN29];exact blk_setN [.slice (some ⟨w26.heap.size,0,none⟩) 1 1] B27 12 [x0,x1,x2,x3,x4,x5,x6,x7,x8,x9,.slice (some ⟨w15.heap.size,0,none⟩) 1 1,.string T23,.slice none 0 0,.slice none 0 0,x14,x15,x16,x17,x18,x19,x20,x21] (gf HX) (by simp):V29.heap[Q]?=some (.cells #[x0,x1,x2,x3,x4,x5,x6,x7,x8,x9,.slice (some ⟨w15.heap.size,0,none⟩) 1 1,.string T23,.slice (some ⟨w26.heap.size,0,none⟩) 1 1,.slice none 0 0,x14,x15,x16,x17,x18,x19,x20,x21] 56))
   replace HO16:=gh (eN29▸(gf HO16).keep (Stays.setN [.slice (some ⟨w26.heap.size,0,none⟩) 1 1] B27 12 (Stays.of (Below.refl _ _)) hQw) (Nat.le_refl _))
   replace HO27:=gh (eN29▸(gf HO27).keep (Stays.setN [.slice (some ⟨w26.heap.size,0,none⟩) 1 1] B27 12 (Stays.of (Below.refl _ _)) hQw) (Nat.le_refl _))
   have hsz29:V29.heap.size=B27.heap.size:=by rw [←eN29];exact size_setN [.slice (some ⟨w26.heap.size,0,none⟩) 1 1] B27 12
   replace HS:=gh (by rw [hsz29];exact gf HS:w.heap.size≤V29.heap.size)
   have HEV29:=gh eV29
   clear eV29 eN29 hsz29
   have HC30:=gh (takeIf_any (gf HR) (gf HT) (s:=⟨#[100,101,99,114,101,97,115,101,115]⟩) (by decide))
   obtain ⟨bo30,hbo30⟩:∃ b,sees ts (q26) ⟨#[100,101,99,114,101,97,115,101,115]⟩=b:=⟨_,rfl⟩
   rw [hbo30] at HC30
   have hY30:=gf HY
   rw [hbo30] at hY30
   replace HY:=gh hY30
   clear hY30 hbo30
   go_wp2_with fail
   rw [gf HEB27,gf HEV29]
   refine (gf HC30).mono ?_
   rintro e w30 ⟨rfl,hb30,hR30⟩
   replace HB:=gh ((gf HB).but hb30)
   replace HX:=gh (zkeep (gf HX) hb30 neQ)
   replace HO16:=gh ((gf HO16).keep (Stays.but hb30 hr) (Nat.le_refl _))
   replace HO27:=gh ((gf HO27).keep (Stays.but hb30 hr) (Nat.le_refl _))
   replace HS:=gh (Nat.le_trans (gf HS) hb30.size)
   replace HR:=gh hR30
   clear hb30 hR30 HC30
   rcases bo30 with _ | _
   ·have hY30:=gf HY
    simp only [Bool.false_eq_true,if_false,thenR] at hY30
    replace HY:=gh hY30
    have hRR:=gf HR
    rw [if_neg Bool.false_ne_true] at hRR
    replace HR:=gh hRR
    clear hY30 hRR
    go_wp2
    obtain rfl:=gf HY
    refine bodyPost_end (results_none rfl _ _ _) rfl ?_
    exact ⟨(gf HL).1,gf HB,gf HR,rfl,_,_,_,_,_,_,_,_,_,gf HX,gf HO16,gf HO27,lsn⟩
   ·have hY30:=gf HY
    simp only [if_true] at hY30
    replace HY:=gh hY30
    have hRR:=gf HR
    rw [if_pos rfl] at hRR
    replace HR:=gh hRR
    clear hY30 hRR
    replace HL:=gh (And.intro (Nat.le_succ_of_le (gf HL).1) (Nat.le_succ_of_le (gf HL).2))
    have HC31:=gh (exprs_of (gf HT) (gf hE) (by decide:65536≤1000000) (gf HL).2 (gf HR))
    go_wp2_with fail
    refine (gf HC31).mono ?_
    intro e w31 h31
    rcases hX31:exprsR ts (exR ts) 65536 (q26+1) with er | ⟨t31,q31⟩
    ·rw [hX31] at h31
     obtain ⟨ei,en⟩:=er
     have hYe:Y = .error (ei,en):=by have h:=gf HY;rw [hX31] at h;exact h.symm
     subst hYe
     obtain ⟨hb31,h31⟩:=h31
     obtain rfl:e=_:=h31
     have HP:=gh ((gf HB).but hb31)
     clear hb31 HC31 hX31
     go_wp2
     exact ⟨rfl,gf HP,rfl⟩
    rw [hX31] at h31
    obtain ⟨hb31,hle31,hR31,v31,rfl,hv31⟩:=h31
    have hY31:=gf HY
    rw [hX31] at hY31
    simp only [thenR] at hY31
    replace HY:=gh hY31
    clear hY31
    obtain ⟨a31,n31,c31,rfl⟩:=IsLs.form hv31
    have HT31:=gh (IsLs.keep hv31 (lo':=w.heap.size) (Stays.of (Below.refl _ _)) (gf HS))
    replace HB:=gh ((gf HB).but hb31)
    replace HX:=gh (zkeep (gf HX) hb31 neQ)
    replace HO16:=gh ((gf HO16).keep (Stays.but hb31 hr) (Nat.le_refl _))
    replace HO27:=gh ((gf HO27).keep (Stays.but hb31 hr) (Nat.le_refl _))
    replace HS:=gh (Nat.le_trans (gf HS) hb31.size)
    replace HR:=gh hR31
    replace HL:=gh (And.intro (Nat.le_trans (gf HL).1 hle31) (Nat.le_trans (gf HL).2 hle31))
    clear hb31 hle31 hR31 hv31 HC31 hX31
    have st32_0:=(blk (gf HX)).2.1 13 _ rfl
    have sz32_0:=(blk (gf HX)).2.2 13
    obtain ⟨V32,eV32⟩:∃ V,(w31.setCell ⟨Q,13,none⟩ (.slice a31 n31 c31))=V:=⟨_,rfl⟩
    have eN32:setN w31 Q 13 [.slice a31 n31 c31]=V32:=eV32
    replace HB:=gh (by rw [←eN32];exact Bu.setN [.slice a31 n31 c31] w31 13 (gf HB):Bu Q r w V32)
    replace HR:=gh (by rw [←eN32];exact (gf HR).setN hrQ 13 [.slice a31 n31 c31]:RD V32 r ts (q31) d)
    replace HX:=gh (by rw [←eN32];exact blk_setN [.slice a31 n31 c31] w31 13 [x0,x1,x2,x3,x4,x5,x6,x7,x8,x9,.slice (some ⟨w15.heap.size,0,none⟩) 1 1,.string T23,.slice (some ⟨w26.heap.size,0,none⟩) 1 1,.slice none 0 0,x14,x15,x16,x17,x18,x19,x20,x21] (gf HX) (by simp):V32.heap[Q]?=some (.cells #[x0,x1,x2,x3,x4,x5,x6,x7,x8,x9,.slice (some ⟨w15.heap.size,0,none⟩) 1 1,.string T23,.slice (some ⟨w26.heap.size,0,none⟩) 1 1,.slice a31 n31 c31,x14,x15,x16,x17,x18,x19,x20,x21] 56))
    replace HO16:=gh (eN32▸(gf HO16).keep (Stays.setN [.slice a31 n31 c31] w31 13 (Stays.of (Below.refl _ _)) hQw) (Nat.le_refl _))
    replace HO27:=gh (eN32▸(gf HO27).keep (Stays.setN [.slice a31 n31 c31] w31 13 (Stays.of (Below.refl _ _)) hQw) (Nat.le_refl _))
    replace HT31:=gh (eN32▸(gf HT31).keep (Stays.setN [.slice a31 n31 c31] w31 13 (Stays.of (Below.refl _ _)) hQw) (Nat.le_refl _))
    have hsz32:V32.heap.size=w31.heap.size:=by rw [←eN32];exact size_setN [.slice a31 n31 c31] w31 13
    replace HS:=gh (by rw [hsz32];exact gf HS:w.heap.size≤V32.heap.size)
    have HEV32:=gh eV32
    clear eV32 eN32 hsz32
    go_wp2
    rw [gf HEV32]
    obtain rfl:=gf HY
    refine bodyPost_end (results_none rfl _ _ _) rfl ?_
    exact ⟨(gf HL).1,gf HB,gf HR,rfl,_,_,_,_,_,_,_,_,_,gf HX,gf HO16,gf HO27,gf HT31⟩
end Go.Proofs.YtfkfnbehdcmgeaaGreatDoor
