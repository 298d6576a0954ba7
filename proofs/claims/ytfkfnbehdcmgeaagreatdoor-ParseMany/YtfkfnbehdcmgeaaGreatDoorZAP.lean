/- Package parse: a declaration. -/
import Derived.Test.YtfkfnbehdcmgeaaGreatDoorZAO
set_option linter.unusedVariables false
set_option linter.unusedSimpArgs false
namespace Go.Proofs.YtfkfnbehdcmgeaaGreatDoor
open Go Go.RowKit
theorem But.bu {q r:Nat} {w A B:World} (h:But r w A) (k:Bu q r A B) (hq:w.heap.size≤q):But r w B:=
 ⟨k.os.trans h.os,k.tape.trans h.tape,k.output.trans h.output,Nat.le_trans h.size k.size,fun j hj hr=>(k.block j (Nat.lt_of_lt_of_le hj h.size) hr (by omega)).trans (h.block j hj hr)⟩
theorem ld_de {ops:Array Oper} {rest:List Oper} {op:Oper} {a:Act} {w:World} {Q:Exit→Act→World→Prop} (l:List Value) (hgd:op.guard=none) {x:Operand} (ho:op.op = .load 56 x) {b:Nat} (hx:a.eval x = .pointer (some ⟨b,0,none⟩)) (ht:w.rangeAt b 0 l) (hl:l.length=22) (h:wpList Tryz.prog ops Q rest (a.put op.dst (.agg l.toArray)) w):wpList Tryz.prog ops Q (op::rest) a w:=
 wpList_load_mid hgd _ x ho b 0 hx l _ ht Tryz.underlying56 rfl (by rw [de_info,hl]) h
set_option maxRecDepth 100000 in
set_option maxHeartbeats 8000000 in
theorem definition_of {r d lo:Nat} {ts:List (Int×ByteArray×Int)} (hT:TsOk ts) (hE:RuC 59 r ts d lo (exR ts)) {w:World} {p:Nat} (hlo:lo≤p) (hR:RD w r ts p d):Calls Tryz.prog 68 #[.pointer (some ⟨r,0,none⟩)] w (RP (fun w' v t=>DeW w' w.heap.size v t) (defR ts p) r ts p d w):=by
 obtain ⟨Y,hY⟩:∃ Y,defR ts p=Y:=⟨_,rfl⟩
 rw [hY]
 unfold defR at hY
 have hr:=hR.rlt
 obtain ⟨A,eA,hbA,hsA,hzA⟩:=box_new w #[.bool false,.string ⟨#[]⟩,.string ⟨#[]⟩,.bool false,.slice none 0 0,.int .i64 0,.int .i64 0,.string ⟨#[]⟩,.slice none 0 0,.int .i64 0,.slice none 0 0,.string ⟨#[]⟩,.slice none 0 0,.slice none 0 0,.int .i64 0,.string ⟨#[]⟩,.string ⟨#[]⟩,.bool false,.slice none 0 0,.int .i64 0,.int .i64 0,.int .i64 0] 56
 have HB:=gh (But.of (r:=r) hbA)
 have HR:=gh (hR.keep hbA)
 have HZ:=gh hzA
 have HS:Hid (w.heap.size<A.heap.size):=by show _<_;omega
 have HL:Hid (p≤p∧lo≤p):=⟨Nat.le_refl _,hlo⟩
 have HSA:=gh hsA
 have HE:=gh eA
 have HT:=gh hT
 have HY:=gh hY
 have hrne:r≠w.heap.size:=by omega
 replace hE:=gh hE
 clear hlo hR hbA hzA hsA eA hT hY
 go_enter Tryz.func68,Tryz.ntmps68
 obtain ⟨B0,eB0,hbB0,hsB0,hhB0⟩:=box_new A #[.bool false,.string ⟨#[]⟩,.string ⟨#[]⟩,.bool false,.slice none 0 0,.int .i64 0,.int .i64 0,.string ⟨#[]⟩,.slice none 0 0,.int .i64 0,.slice none 0 0,.string ⟨#[]⟩,.slice none 0 0,.slice none 0 0,.int .i64 0,.string ⟨#[]⟩,.string ⟨#[]⟩,.bool false,.slice none 0 0,.int .i64 0,.int .i64 0,.int .i64 0] 56
 have ne0:r≠A.heap.size:=by have:=gf HS;omega
 have HQHX0:=HS
 have hbu1:=But.of (r:=r) hbB0
 replace HR:=gh ((gf HR).keep hbB0)
 replace HB:=gh ((gf HB).trans hbu1)
 replace HZ:=gh (zkeep (gf HZ) hbu1 hrne)
 replace HS:=gh (Nat.lt_of_lt_of_le (gf HS) hbu1.size)
 have HX0:=gh hhB0
 have HEB0:=gh eB0
 have HSB0:=gh hsB0
 clear eB0 hbB0 hhB0 hsB0
 have hwq0:w.heap.size<A.heap.size:=by have:=gf HQHX0;omega
 have HQ0:Hid (A.heap.size<B0.heap.size):=by show _<_;have:=gf HSB0;omega
 replace HX0:=gh (by rw [←gf HSA];exact gf HX0:B0.heap[(w.heap.size+1)]?=some (.cells #[.bool false,.string ⟨#[]⟩,.string ⟨#[]⟩,.bool false,.slice none 0 0,.int .i64 0,.int .i64 0,.string ⟨#[]⟩,.slice none 0 0,.int .i64 0,.slice none 0 0,.string ⟨#[]⟩,.slice none 0 0,.slice none 0 0,.int .i64 0,.string ⟨#[]⟩,.string ⟨#[]⟩,.bool false,.slice none 0 0,.int .i64 0,.int .i64 0,.int .i64 0] 56))
 replace HQ0:=gh (by rw [←gf HSA];exact gf HQ0:(w.heap.size+1)<B0.heap.size)
 replace ne0:r≠(w.heap.size+1):=by omega
 clear hwq0 HQHX0
 replace HSB0:Hid True:=trivial
 have HC2:=gh (takeIf_any (gf HR) (gf HT) (s:=⟨#[114,101,99]⟩) (by decide))
 obtain ⟨bor,hbo2⟩:∃ b,sees ts (p) ⟨#[114,101,99]⟩=b:=⟨_,rfl⟩
 rw [hbo2] at HC2
 obtain ⟨z2,hz2⟩:∃ z,(if bor=true then p+1 else p)=z:=⟨_,rfl⟩
 have hle2:p≤z2:=by rw [←hz2];split <;> omega
 have hY2:=gf HY
 rw [hbo2,hz2] at hY2
 replace HY:=gh hY2
 rw [hz2] at HC2
 clear hY2 hbo2 hz2
 go_wp2_with fail
 rw [gf HE,gf HEB0]
 refine (gf HC2).mono ?_
 rintro e w2 ⟨rfl,hb2,hR2⟩
 replace HB:=gh ((gf HB).trans hb2)
 replace HZ:=gh (zkeep (gf HZ) hb2 hrne)
 replace HX0:=gh (zkeep (gf HX0) hb2 ne0)
 replace HS:=gh (Nat.lt_of_lt_of_le (gf HS) hb2.size)
 replace HQ0:=gh (Nat.lt_of_lt_of_le (gf HQ0) hb2.size)
 replace HR:=gh hR2
 replace HL:=gh (And.intro (Nat.le_trans (gf HL).1 hle2) (Nat.le_trans (gf HL).2 hle2))
 clear hb2 hR2 HC2 hle2
 have st3_0:=(blk (gf HX0)).2.1 3 _ rfl
 have sz3_0:=(blk (gf HX0)).2.2 3
 obtain ⟨V3,eV3⟩:∃ V,(w2.setCell ⟨(w.heap.size+1),3,none⟩ (.bool bor))=V:=⟨_,rfl⟩
 have eN3:setN w2 (w.heap.size+1) 3 [.bool bor]=V3:=eV3
 replace HB:=gh (by rw [←eN3];exact But.setN [.bool bor] w2 3 (gf HB) (by omega):But r w V3)
 replace HR:=gh (by rw [←eN3];exact (gf HR).setN (by omega) 3 [.bool bor]:RD V3 r ts (z2) d)
 replace HZ:=gh (by rw [←eN3];exact (heap_setN (by omega) [.bool bor] w2 3).trans (gf HZ):V3.heap[w.heap.size]?=some (.cells #[.bool false,.string ⟨#[]⟩,.string ⟨#[]⟩,.bool false,.slice none 0 0,.int .i64 0,.int .i64 0,.string ⟨#[]⟩,.slice none 0 0,.int .i64 0,.slice none 0 0,.string ⟨#[]⟩,.slice none 0 0,.slice none 0 0,.int .i64 0,.string ⟨#[]⟩,.string ⟨#[]⟩,.bool false,.slice none 0 0,.int .i64 0,.int .i64 0,.int .i64 0] 56))
 replace HX0:=gh (by rw [←eN3];exact blk_setN [.bool bor] w2 3 [.bool false,.string ⟨#[]⟩,.string ⟨#[]⟩,.bool false,.slice none 0 0,.int .i64 0,.int .i64 0,.string ⟨#[]⟩,.slice none 0 0,.int .i64 0,.slice none 0 0,.string ⟨#[]⟩,.slice none 0 0,.slice none 0 0,.int .i64 0,.string ⟨#[]⟩,.string ⟨#[]⟩,.bool false,.slice none 0 0,.int .i64 0,.int .i64 0,.int .i64 0] (gf HX0) (by simp):V3.heap[(w.heap.size+1)]?=some (.cells #[.bool false,.string ⟨#[]⟩,.string ⟨#[]⟩,.bool bor,.slice none 0 0,.int .i64 0,.int .i64 0,.string ⟨#[]⟩,.slice none 0 0,.int .i64 0,.slice none 0 0,.string ⟨#[]⟩,.slice none 0 0,.slice none 0 0,.int .i64 0,.string ⟨#[]⟩,.string ⟨#[]⟩,.bool false,.slice none 0 0,.int .i64 0,.int .i64 0,.int .i64 0] 56))
 have hsz3:V3.heap.size=w2.heap.size:=by rw [←eN3];exact size_setN [.bool bor] w2 3
 replace HS:=gh (by rw [hsz3];exact gf HS:w.heap.size<V3.heap.size)
 replace HQ0:=gh (by rw [hsz3];exact gf HQ0:(w.heap.size+1)<V3.heap.size)
 have HEV3:=gh eV3
 replace hsz3:=gh hsz3
 clear eV3 eN3
 have HC4:=gh (mustBe_any (gf HR) (gf HT) (k:=1) (by decide))
 go_wp2_with fail
 rw [gf HEV3]
 refine (gf HC4).mono ?_
 intro e w4 h4
 rcases hX4:mustBeR ts 1 (z2) with er | ⟨t4,q4⟩
 ·rw [hX4] at h4
  obtain ⟨ei,en⟩:=er
  have hYe:Y = .error (ei,en):=by have h:=gf HY;rw [hX4] at h;exact h.symm
  subst hYe
  obtain ⟨hb4,h4⟩:=h4
  obtain rfl:e=_:=h4
  have HP:=gh ((gf HB).trans hb4)
  clear hb4 HC4 hX4
  go_wp2
  exact ⟨rfl,gf HP,rfl⟩
 rw [hX4] at h4
 obtain ⟨hb4,hle4,hR4,v4,rfl,hv4⟩:=h4
 have hY4:=gf HY
 rw [hX4] at hY4
 simp only [thenR] at hY4
 replace HY:=gh hY4
 clear hY4
 obtain ⟨kk4,T4,at4⟩:=t4
 obtain rfl:v4=_:=hv4
 have hf04:=fld0 (.int .i64 kk4) (.string T4) (.int .i64 at4)
 have hf14:=fld1 (.int .i64 kk4) (.string T4) (.int .i64 at4)
 unfold tkV
 replace HB:=gh ((gf HB).trans hb4)
 replace HZ:=gh (zkeep (gf HZ) hb4 hrne)
 replace HX0:=gh (zkeep (gf HX0) hb4 ne0)
 replace HS:=gh (Nat.lt_of_lt_of_le (gf HS) hb4.size)
 replace HQ0:=gh (Nat.lt_of_lt_of_le (gf HQ0) hb4.size)
 replace HR:=gh hR4
 replace HL:=gh (And.intro (Nat.le_trans (gf HL).1 hle4) (Nat.le_trans (gf HL).2 hle4))
 clear hb4 hle4 hR4 HC4 hX4
 have HPB:=HQ0
 obtain ⟨B5,eB5,hbB5,hsB5,hhB5⟩:=box_new w4 #[.int .i64 kk4,.string T4,.int .i64 at4] 74
 have ne5:r≠w4.heap.size:=by have:=gf HS;omega
 have HQHX5:=HS
 have hbu6:=But.of (r:=r) hbB5
 replace HR:=gh ((gf HR).keep hbB5)
 replace HB:=gh ((gf HB).trans hbu6)
 replace HZ:=gh (zkeep (gf HZ) hbu6 hrne)
 replace HX0:=gh (zkeep (gf HX0) hbu6 ne0)
 replace HS:=gh (Nat.lt_of_lt_of_le (gf HS) hbu6.size)
 replace HQ0:=gh (Nat.lt_of_lt_of_le (gf HQ0) hbu6.size)
 have HX5:=gh hhB5
 have HEB5:=gh eB5
 have HSB5:=gh hsB5
 clear eB5 hbB5 hhB5 hsB5
 go_wp2_with fail
 rw [gf HEB5]
 have tk1:=(blk (gf HX5)).2.1 1 _ rfl
 have tk2:=(blk (gf HX5)).2.1 2 _ rfl
 have oc1:=(blk (gf HX0)).2.1 1 _ rfl
 have oz1:=(blk (gf HX0)).2.2 1
 have oc21:=(blk (gf HX0)).2.1 21 _ rfl
 have oz21:=(blk (gf HX0)).2.2 21
 have tbne:¬ w4.heap.size=(w.heap.size+1):=by have:=gf HPB;omega
 have tbne2:¬ (w.heap.size+1)=w4.heap.size:=by have:=gf HPB;omega
 clear HPB
 go_region
 clear tk1 tk2 oc1 oc21 oz1 oz21 tbne tbne2
 have st7_0:=(blk (gf HX0)).2.1 1 _ rfl
 have sz7_0:=(blk (gf HX0)).2.2 1
 obtain ⟨V7,eV7⟩:∃ V,(B5.setCell ⟨(w.heap.size+1),1,none⟩ (.string T4))=V:=⟨_,rfl⟩
 have eN7:setN B5 (w.heap.size+1) 1 [.string T4]=V7:=eV7
 replace HB:=gh (by rw [←eN7];exact But.setN [.string T4] B5 1 (gf HB) (by omega):But r w V7)
 replace HR:=gh (by rw [←eN7];exact (gf HR).setN (by omega) 1 [.string T4]:RD V7 r ts (q4) d)
 replace HZ:=gh (by rw [←eN7];exact (heap_setN (by omega) [.string T4] B5 1).trans (gf HZ):V7.heap[w.heap.size]?=some (.cells #[.bool false,.string ⟨#[]⟩,.string ⟨#[]⟩,.bool false,.slice none 0 0,.int .i64 0,.int .i64 0,.string ⟨#[]⟩,.slice none 0 0,.int .i64 0,.slice none 0 0,.string ⟨#[]⟩,.slice none 0 0,.slice none 0 0,.int .i64 0,.string ⟨#[]⟩,.string ⟨#[]⟩,.bool false,.slice none 0 0,.int .i64 0,.int .i64 0,.int .i64 0] 56))
 replace HX0:=gh (by rw [←eN7];exact blk_setN [.string T4] B5 1 [.bool false,.string ⟨#[]⟩,.string ⟨#[]⟩,.bool bor,.slice none 0 0,.int .i64 0,.int .i64 0,.string ⟨#[]⟩,.slice none 0 0,.int .i64 0,.slice none 0 0,.string ⟨#[]⟩,.slice none 0 0,.slice none 0 0,.int .i64 0,.string ⟨#[]⟩,.string ⟨#[]⟩,.bool false,.slice none 0 0,.int .i64 0,.int .i64 0,.int .i64 0] (gf HX0) (by simp):V7.heap[(w.heap.size+1)]?=some (.cells #[.bool false,.string T4,.string ⟨#[]⟩,.bool bor,.slice none 0 0,.int .i64 0,.int .i64 0,.string ⟨#[]⟩,.slice none 0 0,.int .i64 0,.slice none 0 0,.string ⟨#[]⟩,.slice none 0 0,.slice none 0 0,.int .i64 0,.string ⟨#[]⟩,.string ⟨#[]⟩,.bool false,.slice none 0 0,.int .i64 0,.int .i64 0,.int .i64 0] 56))
 have hsz7:V7.heap.size=B5.heap.size:=by rw [←eN7];exact size_setN [.string T4] B5 1
 replace HS:=gh (by rw [hsz7];exact gf HS:w.heap.size<V7.heap.size)
 replace HQ0:=gh (by rw [hsz7];exact gf HQ0:(w.heap.size+1)<V7.heap.size)
 have HEV7:=gh eV7
 replace hsz7:=gh hsz7
 clear eV7 eN7
 have st8_0:=(blk (gf HX0)).2.1 21 _ rfl
 have sz8_0:=(blk (gf HX0)).2.2 21
 obtain ⟨V8,eV8⟩:∃ V,(V7.setCell ⟨(w.heap.size+1),21,none⟩ (.int .i64 at4))=V:=⟨_,rfl⟩
 have eN8:setN V7 (w.heap.size+1) 21 [.int .i64 at4]=V8:=eV8
 replace HB:=gh (by rw [←eN8];exact But.setN [.int .i64 at4] V7 21 (gf HB) (by omega):But r w V8)
 replace HR:=gh (by rw [←eN8];exact (gf HR).setN (by omega) 21 [.int .i64 at4]:RD V8 r ts (q4) d)
 replace HZ:=gh (by rw [←eN8];exact (heap_setN (by omega) [.int .i64 at4] V7 21).trans (gf HZ):V8.heap[w.heap.size]?=some (.cells #[.bool false,.string ⟨#[]⟩,.string ⟨#[]⟩,.bool false,.slice none 0 0,.int .i64 0,.int .i64 0,.string ⟨#[]⟩,.slice none 0 0,.int .i64 0,.slice none 0 0,.string ⟨#[]⟩,.slice none 0 0,.slice none 0 0,.int .i64 0,.string ⟨#[]⟩,.string ⟨#[]⟩,.bool false,.slice none 0 0,.int .i64 0,.int .i64 0,.int .i64 0] 56))
 replace HX0:=gh (by rw [←eN8];exact blk_setN [.int .i64 at4] V7 21 [.bool false,.string T4,.string ⟨#[]⟩,.bool bor,.slice none 0 0,.int .i64 0,.int .i64 0,.string ⟨#[]⟩,.slice none 0 0,.int .i64 0,.slice none 0 0,.string ⟨#[]⟩,.slice none 0 0,.slice none 0 0,.int .i64 0,.string ⟨#[]⟩,.string ⟨#[]⟩,.bool false,.slice none 0 0,.int .i64 0,.int .i64 0,.int .i64 0] (gf HX0) (by simp):V8.heap[(w.heap.size+1)]?=some (.cells #[.bool false,.string T4,.string ⟨#[]⟩,.bool bor,.slice none 0 0,.int .i64 0,.int .i64 0,.string ⟨#[]⟩,.slice none 0 0,.int .i64 0,.slice none 0 0,.string ⟨#[]⟩,.slice none 0 0,.slice none 0 0,.int .i64 0,.string ⟨#[]⟩,.string ⟨#[]⟩,.bool false,.slice none 0 0,.int .i64 0,.int .i64 0,.int .i64 at4] 56))
 have hsz8:V8.heap.size=V7.heap.size:=by rw [←eN8];exact size_setN [.int .i64 at4] V7 21
 replace HS:=gh (by rw [hsz8];exact gf HS:w.heap.size<V8.heap.size)
 replace HQ0:=gh (by rw [hsz8];exact gf HQ0:(w.heap.size+1)<V8.heap.size)
 have HEV8:=gh eV8
 replace hsz8:=gh hsz8
 clear eV8 eN8
 obtain ⟨D9,eD9⟩:∃ D,V8.drew=D:=⟨_,rfl⟩
 have hbD:Below V8.heap.size V8 D9:=by rw [←eD9];exact (Below.refl _ _).drew
 have hbu9:=But.of (r:=r) hbD
 replace HR:=gh ((gf HR).keep hbD)
 replace HB:=gh ((gf HB).trans hbu9)
 replace HZ:=gh (zkeep (gf HZ) hbu9 hrne)
 replace HX0:=gh (zkeep (gf HX0) hbu9 ne0)
 replace HS:=gh (Nat.lt_of_lt_of_le (gf HS) hbu9.size)
 replace HQ0:=gh (Nat.lt_of_lt_of_le (gf HQ0) hbu9.size)
 rw [gf HEV7,gf HEV8,eD9]
 clear eD9 hbD
 have HC10:=gh (params_of (gf HT) (gf hE) (gf HL).2 (gf HR))
 go_wp2_with fail
 refine (gf HC10).mono ?_
 intro e w10 h10
 rcases hX10:paramsR ts (q4) with er | ⟨t10,q10⟩
 ·rw [hX10] at h10
  obtain ⟨ei,en⟩:=er
  have hYe:Y = .error (ei,en):=by have h:=gf HY;rw [hX10] at h;exact h.symm
  subst hYe
  obtain ⟨hb10,h10⟩:=h10
  obtain rfl:e=_:=h10
  have HP:=gh ((gf HB).trans hb10)
  clear hb10 HC10 hX10
  go_wp2
  exact ⟨rfl,gf HP,rfl⟩
 rw [hX10] at h10
 obtain ⟨hb10,hle10,hR10,v10,rfl,hv10⟩:=h10
 have hY10:=gf HY
 rw [hX10] at hY10
 simp only [thenR] at hY10
 replace HY:=gh hY10
 clear hY10
 obtain ⟨a10,n10,c10,rfl⟩:=IsPs.form hv10
 have HT10:=gh (IsPs.keep hv10 (lo':=(w.heap.size+1)+1) (Stays.of (Below.refl _ _)) (gf HQ0))
 replace HB:=gh ((gf HB).trans hb10)
 replace HZ:=gh (zkeep (gf HZ) hb10 hrne)
 replace HX0:=gh (zkeep (gf HX0) hb10 ne0)
 replace HS:=gh (Nat.lt_of_lt_of_le (gf HS) hb10.size)
 replace HQ0:=gh (Nat.lt_of_lt_of_le (gf HQ0) hb10.size)
 replace HR:=gh hR10
 replace HL:=gh (And.intro (Nat.le_trans (gf HL).1 hle10) (Nat.le_trans (gf HL).2 hle10))
 clear hb10 hle10 hR10 hv10 HC10 hX10
 have st11_0:=(blk (gf HX0)).2.1 4 _ rfl
 have sz11_0:=(blk (gf HX0)).2.2 4
 obtain ⟨V11,eV11⟩:∃ V,(w10.setCell ⟨(w.heap.size+1),4,none⟩ (.slice a10 n10 c10))=V:=⟨_,rfl⟩
 have eN11:setN w10 (w.heap.size+1) 4 [.slice a10 n10 c10]=V11:=eV11
 replace HB:=gh (by rw [←eN11];exact But.setN [.slice a10 n10 c10] w10 4 (gf HB) (by omega):But r w V11)
 replace HR:=gh (by rw [←eN11];exact (gf HR).setN (by omega) 4 [.slice a10 n10 c10]:RD V11 r ts (q10) d)
 replace HZ:=gh (by rw [←eN11];exact (heap_setN (by omega) [.slice a10 n10 c10] w10 4).trans (gf HZ):V11.heap[w.heap.size]?=some (.cells #[.bool false,.string ⟨#[]⟩,.string ⟨#[]⟩,.bool false,.slice none 0 0,.int .i64 0,.int .i64 0,.string ⟨#[]⟩,.slice none 0 0,.int .i64 0,.slice none 0 0,.string ⟨#[]⟩,.slice none 0 0,.slice none 0 0,.int .i64 0,.string ⟨#[]⟩,.string ⟨#[]⟩,.bool false,.slice none 0 0,.int .i64 0,.int .i64 0,.int .i64 0] 56))
 replace HX0:=gh (by rw [←eN11];exact blk_setN [.slice a10 n10 c10] w10 4 [.bool false,.string T4,.string ⟨#[]⟩,.bool bor,.slice none 0 0,.int .i64 0,.int .i64 0,.string ⟨#[]⟩,.slice none 0 0,.int .i64 0,.slice none 0 0,.string ⟨#[]⟩,.slice none 0 0,.slice none 0 0,.int .i64 0,.string ⟨#[]⟩,.string ⟨#[]⟩,.bool false,.slice none 0 0,.int .i64 0,.int .i64 0,.int .i64 at4] (gf HX0) (by simp):V11.heap[(w.heap.size+1)]?=some (.cells #[.bool false,.string T4,.string ⟨#[]⟩,.bool bor,.slice a10 n10 c10,.int .i64 0,.int .i64 0,.string ⟨#[]⟩,.slice none 0 0,.int .i64 0,.slice none 0 0,.string ⟨#[]⟩,.slice none 0 0,.slice none 0 0,.int .i64 0,.string ⟨#[]⟩,.string ⟨#[]⟩,.bool false,.slice none 0 0,.int .i64 0,.int .i64 0,.int .i64 at4] 56))
 replace HT10:=gh (eN11▸(gf HT10).keep (Stays.setN [.slice a10 n10 c10] w10 4 (Stays.of (Below.refl _ _)) (by omega)) (Nat.le_refl _))
 have hsz11:V11.heap.size=w10.heap.size:=by rw [←eN11];exact size_setN [.slice a10 n10 c10] w10 4
 replace HS:=gh (by rw [hsz11];exact gf HS:w.heap.size<V11.heap.size)
 replace HQ0:=gh (by rw [hsz11];exact gf HQ0:(w.heap.size+1)<V11.heap.size)
 have HEV11:=gh eV11
 replace hsz11:=gh hsz11
 clear eV11 eN11
 have HC12:=gh (must_any (gf HR) (gf HT) (s:=⟨#[58]⟩) (by decide))
 go_wp2_with fail
 rw [gf HEV11]
 refine (gf HC12).mono ?_
 intro e w12 h12
 rcases hX12:mustR ts ⟨#[58]⟩ (q10) with er | ⟨t12,q12⟩
 ·rw [hX12] at h12
  obtain ⟨ei,en⟩:=er
  have hYe:Y = .error (ei,en):=by have h:=gf HY;rw [hX12] at h;exact h.symm
  subst hYe
  obtain ⟨hb12,h12⟩:=h12
  obtain rfl:e=_:=h12
  have HP:=gh ((gf HB).trans hb12)
  clear hb12 HC12 hX12
  go_wp2
  exact ⟨rfl,gf HP,rfl⟩
 rw [hX12] at h12
 obtain ⟨hb12,hle12,hR12,v12,rfl,hv12⟩:=h12
 have hY12:=gf HY
 rw [hX12] at hY12
 simp only [thenR] at hY12
 replace HY:=gh hY12
 clear hY12
 obtain rfl:v12=_:=hv12
 replace HB:=gh ((gf HB).trans hb12)
 replace HZ:=gh (zkeep (gf HZ) hb12 hrne)
 replace HX0:=gh (zkeep (gf HX0) hb12 ne0)
 replace HT10:=gh ((gf HT10).keep (Stays.but hb12 (by omega)) (Nat.le_refl _))
 replace HS:=gh (Nat.lt_of_lt_of_le (gf HS) hb12.size)
 replace HQ0:=gh (Nat.lt_of_lt_of_le (gf HQ0) hb12.size)
 replace HR:=gh hR12
 replace HL:=gh (And.intro (Nat.le_trans (gf HL).1 hle12) (Nat.le_trans (gf HL).2 hle12))
 clear hb12 hle12 hR12 HC12 hX12
 have HC13:=gh (effect_any (gf HR) (gf HT))
 go_wp2_with fail
 refine (gf HC13).mono ?_
 intro e w13 h13
 rcases hX13:effR ts (q12) with er | ⟨t13,q13⟩
 ·rw [hX13] at h13
  obtain ⟨ei,en⟩:=er
  have hYe:Y = .error (ei,en):=by have h:=gf HY;rw [hX13] at h;exact h.symm
  subst hYe
  obtain ⟨hb13,h13⟩:=h13
  obtain rfl:e=_:=h13
  have HP:=gh ((gf HB).trans hb13)
  clear hb13 HC13 hX13
  go_wp2
  exact ⟨rfl,gf HP,rfl⟩
 rw [hX13] at h13
 obtain ⟨hb13,hle13,hR13,v13,rfl,hv13⟩:=h13
 have hY13:=gf HY
 rw [hX13] at hY13
 simp only [thenR] at hY13
 replace HY:=gh hY13
 clear hY13
 obtain rfl:v13=_:=hv13
 replace HB:=gh ((gf HB).trans hb13)
 replace HZ:=gh (zkeep (gf HZ) hb13 hrne)
 replace HX0:=gh (zkeep (gf HX0) hb13 ne0)
 replace HT10:=gh ((gf HT10).keep (Stays.but hb13 (by omega)) (Nat.le_refl _))
 replace HS:=gh (Nat.lt_of_lt_of_le (gf HS) hb13.size)
 replace HQ0:=gh (Nat.lt_of_lt_of_le (gf HQ0) hb13.size)
 replace HR:=gh hR13
 replace HL:=gh (And.intro (Nat.le_trans (gf HL).1 hle13) (Nat.le_trans (gf HL).2 hle13))
 clear hb13 hle13 hR13 HC13 hX13
 have st14_0:=(blk (gf HX0)).2.1 5 _ rfl
 have sz14_0:=(blk (gf HX0)).2.2 5
 obtain ⟨V14,eV14⟩:∃ V,(w13.setCell ⟨(w.heap.size+1),5,none⟩ (.int .i64 t13))=V:=⟨_,rfl⟩
 have eN14:setN w13 (w.heap.size+1) 5 [.int .i64 t13]=V14:=eV14
 replace HB:=gh (by rw [←eN14];exact But.setN [.int .i64 t13] w13 5 (gf HB) (by omega):But r w V14)
 replace HR:=gh (by rw [←eN14];exact (gf HR).setN (by omega) 5 [.int .i64 t13]:RD V14 r ts (q13) d)
 replace HZ:=gh (by rw [←eN14];exact (heap_setN (by omega) [.int .i64 t13] w13 5).trans (gf HZ):V14.heap[w.heap.size]?=some (.cells #[.bool false,.string ⟨#[]⟩,.string ⟨#[]⟩,.bool false,.slice none 0 0,.int .i64 0,.int .i64 0,.string ⟨#[]⟩,.slice none 0 0,.int .i64 0,.slice none 0 0,.string ⟨#[]⟩,.slice none 0 0,.slice none 0 0,.int .i64 0,.string ⟨#[]⟩,.string ⟨#[]⟩,.bool false,.slice none 0 0,.int .i64 0,.int .i64 0,.int .i64 0] 56))
 replace HX0:=gh (by rw [←eN14];exact blk_setN [.int .i64 t13] w13 5 [.bool false,.string T4,.string ⟨#[]⟩,.bool bor,.slice a10 n10 c10,.int .i64 0,.int .i64 0,.string ⟨#[]⟩,.slice none 0 0,.int .i64 0,.slice none 0 0,.string ⟨#[]⟩,.slice none 0 0,.slice none 0 0,.int .i64 0,.string ⟨#[]⟩,.string ⟨#[]⟩,.bool false,.slice none 0 0,.int .i64 0,.int .i64 0,.int .i64 at4] (gf HX0) (by simp):V14.heap[(w.heap.size+1)]?=some (.cells #[.bool false,.string T4,.string ⟨#[]⟩,.bool bor,.slice a10 n10 c10,.int .i64 t13,.int .i64 0,.string ⟨#[]⟩,.slice none 0 0,.int .i64 0,.slice none 0 0,.string ⟨#[]⟩,.slice none 0 0,.slice none 0 0,.int .i64 0,.string ⟨#[]⟩,.string ⟨#[]⟩,.bool false,.slice none 0 0,.int .i64 0,.int .i64 0,.int .i64 at4] 56))
 replace HT10:=gh (eN14▸(gf HT10).keep (Stays.setN [.int .i64 t13] w13 5 (Stays.of (Below.refl _ _)) (by omega)) (Nat.le_refl _))
 have hsz14:V14.heap.size=w13.heap.size:=by rw [←eN14];exact size_setN [.int .i64 t13] w13 5
 replace HS:=gh (by rw [hsz14];exact gf HS:w.heap.size<V14.heap.size)
 replace HQ0:=gh (by rw [hsz14];exact gf HQ0:(w.heap.size+1)<V14.heap.size)
 have HEV14:=gh eV14
 replace hsz14:=gh hsz14
 clear eV14 eN14
 have HC15:=gh (typeOf_of (gf HT) (gf hE) (gf HL).2 (gf HR))
 go_wp2_with fail
 rw [gf HEV14]
 refine (gf HC15).mono ?_
 intro e w15 h15
 rcases hX15:typeR ts (q13) with er | ⟨t15,q15⟩
 ·rw [hX15] at h15
  obtain ⟨ei,en⟩:=er
  have hYe:Y = .error (ei,en):=by have h:=gf HY;rw [hX15] at h;exact h.symm
  subst hYe
  obtain ⟨hb15,h15⟩:=h15
  obtain rfl:e=_:=h15
  have HP:=gh ((gf HB).trans hb15)
  clear hb15 HC15 hX15
  go_wp2
  exact ⟨rfl,gf HP,rfl⟩
 rw [hX15] at h15
 obtain ⟨hb15,hle15,hR15,v15,rfl,hv15⟩:=h15
 have hY15:=gf HY
 rw [hX15] at hY15
 simp only [thenR] at hY15
 replace HY:=gh hY15
 clear hY15
 obtain ⟨a15,n15,c15,rfl,hv15⟩:=hv15
 have HT15:=gh (hv15.keep (lo':=(w.heap.size+1)+1) (Stays.of (Below.refl _ _)) (gf HQ0))
 replace HB:=gh ((gf HB).trans hb15)
 replace HZ:=gh (zkeep (gf HZ) hb15 hrne)
 replace HX0:=gh (zkeep (gf HX0) hb15 ne0)
 replace HT10:=gh ((gf HT10).keep (Stays.but hb15 (by omega)) (Nat.le_refl _))
 replace HS:=gh (Nat.lt_of_lt_of_le (gf HS) hb15.size)
 replace HQ0:=gh (Nat.lt_of_lt_of_le (gf HQ0) hb15.size)
 replace HR:=gh hR15
 replace HL:=gh (And.intro (Nat.le_trans (gf HL).1 hle15) (Nat.le_trans (gf HL).2 hle15))
 clear hb15 hle15 hR15 hv15 HC15 hX15
 have st16_0:=(blk (gf HX0)).2.1 6 _ rfl
 have sz16_0:=(blk (gf HX0)).2.2 6
 have st16_1:=(blk (gf HX0)).2.1 7 _ rfl
 have sz16_1:=(blk (gf HX0)).2.2 7
 have st16_2:=(blk (gf HX0)).2.1 8 _ rfl
 have sz16_2:=(blk (gf HX0)).2.2 8
 have st16_3:=(blk (gf HX0)).2.1 9 _ rfl
 have sz16_3:=(blk (gf HX0)).2.2 9
 obtain ⟨V16,eV16⟩:∃ V,((((w15.setCell ⟨(w.heap.size+1),6,none⟩ (.int .i64 t15.kind)).setCell ⟨(w.heap.size+1),7,none⟩ (.string t15.name)).setCell ⟨(w.heap.size+1),8,none⟩ (.slice a15 n15 c15)).setCell ⟨(w.heap.size+1),9,none⟩ (.int .i64 t15.at'))=V:=⟨_,rfl⟩
 have eN16:setN w15 (w.heap.size+1) 6 [.int .i64 t15.kind,.string t15.name,.slice a15 n15 c15,.int .i64 t15.at']=V16:=eV16
 replace HB:=gh (by rw [←eN16];exact But.setN [.int .i64 t15.kind,.string t15.name,.slice a15 n15 c15,.int .i64 t15.at'] w15 6 (gf HB) (by omega):But r w V16)
 replace HR:=gh (by rw [←eN16];exact (gf HR).setN (by omega) 6 [.int .i64 t15.kind,.string t15.name,.slice a15 n15 c15,.int .i64 t15.at']:RD V16 r ts (q15) d)
 replace HZ:=gh (by rw [←eN16];exact (heap_setN (by omega) [.int .i64 t15.kind,.string t15.name,.slice a15 n15 c15,.int .i64 t15.at'] w15 6).trans (gf HZ):V16.heap[w.heap.size]?=some (.cells #[.bool false,.string ⟨#[]⟩,.string ⟨#[]⟩,.bool false,.slice none 0 0,.int .i64 0,.int .i64 0,.string ⟨#[]⟩,.slice none 0 0,.int .i64 0,.slice none 0 0,.string ⟨#[]⟩,.slice none 0 0,.slice none 0 0,.int .i64 0,.string ⟨#[]⟩,.string ⟨#[]⟩,.bool false,.slice none 0 0,.int .i64 0,.int .i64 0,.int .i64 0] 56))
 replace HX0:=gh (by rw [←eN16];exact blk_setN [.int .i64 t15.kind,.string t15.name,.slice a15 n15 c15,.int .i64 t15.at'] w15 6 [.bool false,.string T4,.string ⟨#[]⟩,.bool bor,.slice a10 n10 c10,.int .i64 t13,.int .i64 0,.string ⟨#[]⟩,.slice none 0 0,.int .i64 0,.slice none 0 0,.string ⟨#[]⟩,.slice none 0 0,.slice none 0 0,.int .i64 0,.string ⟨#[]⟩,.string ⟨#[]⟩,.bool false,.slice none 0 0,.int .i64 0,.int .i64 0,.int .i64 at4] (gf HX0) (by simp):V16.heap[(w.heap.size+1)]?=some (.cells #[.bool false,.string T4,.string ⟨#[]⟩,.bool bor,.slice a10 n10 c10,.int .i64 t13,.int .i64 t15.kind,.string t15.name,.slice a15 n15 c15,.int .i64 t15.at',.slice none 0 0,.string ⟨#[]⟩,.slice none 0 0,.slice none 0 0,.int .i64 0,.string ⟨#[]⟩,.string ⟨#[]⟩,.bool false,.slice none 0 0,.int .i64 0,.int .i64 0,.int .i64 at4] 56))
 replace HT10:=gh (eN16▸(gf HT10).keep (Stays.setN [.int .i64 t15.kind,.string t15.name,.slice a15 n15 c15,.int .i64 t15.at'] w15 6 (Stays.of (Below.refl _ _)) (by omega)) (Nat.le_refl _))
 replace HT15:=gh (eN16▸(gf HT15).keep (Stays.setN [.int .i64 t15.kind,.string t15.name,.slice a15 n15 c15,.int .i64 t15.at'] w15 6 (Stays.of (Below.refl _ _)) (by omega)) (Nat.le_refl _))
 have hsz16:V16.heap.size=w15.heap.size:=by rw [←eN16];exact size_setN [.int .i64 t15.kind,.string t15.name,.slice a15 n15 c15,.int .i64 t15.at'] w15 6
 replace HS:=gh (by rw [hsz16];exact gf HS:w.heap.size<V16.heap.size)
 replace HQ0:=gh (by rw [hsz16];exact gf HQ0:(w.heap.size+1)<V16.heap.size)
 have HEV16:=gh eV16
 replace hsz16:=gh hsz16
 clear eV16 eN16
 have HC17:=gh (contract_of (gf HT) (gf hE) (Q:=(w.heap.size+1)) (gf HL).2 (by omega) (gf HQ0) (gf HX0) (gf HR))
 go_wp2_with fail
 rw [gf HEV16]
 refine (gf HC17).mono ?_
 intro e w17 h17
 rcases hX17:contR ts (q15) with er | ⟨⟨ta,tb,te,tm⟩,q17⟩
 ·rw [hX17] at h17
  obtain ⟨ei,en⟩:=er
  have hYe:Y = .error (ei,en):=by have h:=gf HY;rw [hX17] at h;exact h.symm
  subst hYe
  obtain ⟨hb17,h17⟩:=h17
  obtain rfl:e=_:=h17
  have HP:=gh ((gf HB).bu hb17 (by omega))
  clear hb17 HC17 hX17
  go_wp2
  exact ⟨rfl,gf HP,rfl⟩
 rw [hX17] at h17
 obtain ⟨hle17,hb17,hR17,rfl,ra,ea,ma,rn,rc,en,ec,mn,mc,hx17,hra,hea,hma⟩:=h17
 have hY17:=gf HY
 rw [hX17] at hY17
 simp only [thenR] at hY17
 replace HY:=gh hY17
 replace hra:=gh (IsLs.keep (lo':=(w.heap.size+1)+1) hra (Stays.of (Below.refl _ _)) (gf HQ0))
 replace hea:=gh (IsLs.keep (lo':=(w.heap.size+1)+1) hea (Stays.of (Below.refl _ _)) (gf HQ0))
 replace hma:=gh (IsLs.keep (lo':=(w.heap.size+1)+1) hma (Stays.of (Below.refl _ _)) (gf HQ0))
 replace HB:=gh ((gf HB).bu hb17 (by omega))
 replace HZ:=gh ((hb17.block _ (gf HS) (by omega) (by omega)).trans (gf HZ))
 replace HT10:=gh ((gf HT10).keep (⟨hb17.size,fun j hl hj=>hb17.block j hj (by omega) (by omega)⟩:Stays ((w.heap.size+1)+1) _ _) (Nat.le_refl _))
 replace HT15:=gh ((gf HT15).keep (⟨hb17.size,fun j hl hj=>hb17.block j hj (by omega) (by omega)⟩:Stays ((w.heap.size+1)+1) _ _) (Nat.le_refl _))
 replace HS:=gh (Nat.lt_of_lt_of_le (gf HS) hb17.size)
 replace HQ0:=gh (Nat.lt_of_lt_of_le (gf HQ0) hb17.size)
 replace HX0:Hid (w17.heap[(w.heap.size+1)]?=some (.cells #[.bool false,.string T4,.string ⟨#[]⟩,.bool bor,.slice a10 n10 c10,.int .i64 t13,.int .i64 t15.kind,.string t15.name,.slice a15 n15 c15,.int .i64 t15.at',.slice ra rn rc,.string tb,.slice ea en ec,.slice ma mn mc,.int .i64 0,.string ⟨#[]⟩,.string ⟨#[]⟩,.bool false,.slice none 0 0,.int .i64 0,.int .i64 0,.int .i64 at4] 56)):=hx17
 replace HR:=gh hR17
 replace HL:=gh (And.intro (Nat.le_trans (gf HL).1 hle17) (Nat.le_trans (gf HL).2 hle17))
 clear hY17 hb17 hle17 hR17 hx17 HC17 hX17
 have HC18:=gh (must_any (gf HR) (gf HT) (s:=⟨#[105,115]⟩) (by decide))
 go_wp2_with fail
 refine (gf HC18).mono ?_
 intro e w18 h18
 rcases hX18:mustR ts ⟨#[105,115]⟩ (q17) with er | ⟨t18,q18⟩
 ·rw [hX18] at h18
  obtain ⟨ei,en⟩:=er
  have hYe:Y = .error (ei,en):=by have h:=gf HY;rw [hX18] at h;exact h.symm
  subst hYe
  obtain ⟨hb18,h18⟩:=h18
  obtain rfl:e=_:=h18
  have HP:=gh ((gf HB).trans hb18)
  clear hb18 HC18 hX18
  go_wp2
  exact ⟨rfl,gf HP,rfl⟩
 rw [hX18] at h18
 obtain ⟨hb18,hle18,hR18,v18,rfl,hv18⟩:=h18
 have hY18:=gf HY
 rw [hX18] at hY18
 simp only [thenR] at hY18
 replace HY:=gh hY18
 clear hY18
 obtain rfl:v18=_:=hv18
 replace HB:=gh ((gf HB).trans hb18)
 replace HZ:=gh (zkeep (gf HZ) hb18 hrne)
 replace HX0:=gh (zkeep (gf HX0) hb18 ne0)
 replace HT10:=gh ((gf HT10).keep (Stays.but hb18 (by omega)) (Nat.le_refl _))
 replace HT15:=gh ((gf HT15).keep (Stays.but hb18 (by omega)) (Nat.le_refl _))
 replace hra:=gh ((gf hra).keep (Stays.but hb18 (by omega)) (Nat.le_refl _))
 replace hea:=gh ((gf hea).keep (Stays.but hb18 (by omega)) (Nat.le_refl _))
 replace hma:=gh ((gf hma).keep (Stays.but hb18 (by omega)) (Nat.le_refl _))
 replace HS:=gh (Nat.lt_of_lt_of_le (gf HS) hb18.size)
 replace HQ0:=gh (Nat.lt_of_lt_of_le (gf HQ0) hb18.size)
 replace HR:=gh hR18
 replace HL:=gh (And.intro (Nat.le_trans (gf HL).1 hle18) (Nat.le_trans (gf HL).2 hle18))
 clear hb18 hle18 hR18 HC18 hX18
 have HC19:=gh (gf hE w18 (q18) (by have:=(gf HL).2;omega) (gf HR))
 go_wp2_with fail
 refine (gf HC19).mono ?_
 intro e w19 h19
 rcases hX19:exR ts (q18) with er | ⟨t19,q19⟩
 ·rw [hX19] at h19
  obtain ⟨ei,en⟩:=er
  have hYe:Y = .error (ei,en):=by have h:=gf HY;rw [hX19] at h;exact h.symm
  subst hYe
  obtain ⟨hb19,h19⟩:=h19
  obtain rfl:e=_:=h19
  have HP:=gh ((gf HB).trans hb19)
  clear hb19 HC19 hX19
  go_wp2
  exact ⟨rfl,gf HP,rfl⟩
 rw [hX19] at h19
 obtain ⟨hb19,hle19,hR19,v19,rfl,hv19⟩:=h19
 have hY19:=gf HY
 rw [hX19] at hY19
 simp only [thenR] at hY19
 replace HY:=gh hY19
 clear hY19
 obtain ⟨i19,j19,s19,m19,b19,a19,n19,c19,rfl⟩:=hv19.form
 have HT19:=gh (hv19.keep (lo':=(w.heap.size+1)+1) (Stays.of (Below.refl _ _)) (gf HQ0))
 replace HB:=gh ((gf HB).trans hb19)
 replace HZ:=gh (zkeep (gf HZ) hb19 hrne)
 replace HX0:=gh (zkeep (gf HX0) hb19 ne0)
 replace HT10:=gh ((gf HT10).keep (Stays.but hb19 (by omega)) (Nat.le_refl _))
 replace HT15:=gh ((gf HT15).keep (Stays.but hb19 (by omega)) (Nat.le_refl _))
 replace hra:=gh ((gf hra).keep (Stays.but hb19 (by omega)) (Nat.le_refl _))
 replace hea:=gh ((gf hea).keep (Stays.but hb19 (by omega)) (Nat.le_refl _))
 replace hma:=gh ((gf hma).keep (Stays.but hb19 (by omega)) (Nat.le_refl _))
 replace HS:=gh (Nat.lt_of_lt_of_le (gf HS) hb19.size)
 replace HQ0:=gh (Nat.lt_of_lt_of_le (gf HQ0) hb19.size)
 replace HR:=gh hR19
 replace HL:=gh (And.intro (Nat.le_trans (gf HL).1 hle19) (Nat.le_trans (gf HL).2 hle19))
 clear hb19 hle19 hR19 hv19 HC19 hX19
 obtain ⟨rfl,rfl,rfl,rfl,rfl,hls9⟩:=IsE.ls (gf HT19)
 replace hls9:=gh hls9
 clear HT19
 have st20_0:=(blk (gf HX0)).2.1 14 _ rfl
 have sz20_0:=(blk (gf HX0)).2.2 14
 have st20_1:=(blk (gf HX0)).2.1 15 _ rfl
 have sz20_1:=(blk (gf HX0)).2.2 15
 have st20_2:=(blk (gf HX0)).2.1 16 _ rfl
 have sz20_2:=(blk (gf HX0)).2.2 16
 have st20_3:=(blk (gf HX0)).2.1 17 _ rfl
 have sz20_3:=(blk (gf HX0)).2.2 17
 have st20_4:=(blk (gf HX0)).2.1 18 _ rfl
 have sz20_4:=(blk (gf HX0)).2.2 18
 have st20_5:=(blk (gf HX0)).2.1 19 _ rfl
 have sz20_5:=(blk (gf HX0)).2.2 19
 have st20_6:=(blk (gf HX0)).2.1 20 _ rfl
 have sz20_6:=(blk (gf HX0)).2.2 20
 obtain ⟨V20,eV20⟩:∃ V,(((((((w19.setCell ⟨(w.heap.size+1),14,none⟩ (.int .i64 t19.op)).setCell ⟨(w.heap.size+1),15,none⟩ (.string t19.name)).setCell ⟨(w.heap.size+1),16,none⟩ (.string t19.num)).setCell ⟨(w.heap.size+1),17,none⟩ (.bool t19.b)).setCell ⟨(w.heap.size+1),18,none⟩ (.slice a19 n19 c19)).setCell ⟨(w.heap.size+1),19,none⟩ (.int .i64 0)).setCell ⟨(w.heap.size+1),20,none⟩ (.int .i64 t19.at'))=V:=⟨_,rfl⟩
 have eN20:setN w19 (w.heap.size+1) 14 [.int .i64 t19.op,.string t19.name,.string t19.num,.bool t19.b,.slice a19 n19 c19,.int .i64 0,.int .i64 t19.at']=V20:=eV20
 replace HB:=gh (by rw [←eN20];exact But.setN [.int .i64 t19.op,.string t19.name,.string t19.num,.bool t19.b,.slice a19 n19 c19,.int .i64 0,.int .i64 t19.at'] w19 14 (gf HB) (by omega):But r w V20)
 replace HR:=gh (by rw [←eN20];exact (gf HR).setN (by omega) 14 [.int .i64 t19.op,.string t19.name,.string t19.num,.bool t19.b,.slice a19 n19 c19,.int .i64 0,.int .i64 t19.at']:RD V20 r ts (q19) d)
 replace HZ:=gh (by rw [←eN20];exact (heap_setN (by omega) [.int .i64 t19.op,.string t19.name,.string t19.num,.bool t19.b,.slice a19 n19 c19,.int .i64 0,.int .i64 t19.at'] w19 14).trans (gf HZ):V20.heap[w.heap.size]?=some (.cells #[.bool false,.string ⟨#[]⟩,.string ⟨#[]⟩,.bool false,.slice none 0 0,.int .i64 0,.int .i64 0,.string ⟨#[]⟩,.slice none 0 0,.int .i64 0,.slice none 0 0,.string ⟨#[]⟩,.slice none 0 0,.slice none 0 0,.int .i64 0,.string ⟨#[]⟩,.string ⟨#[]⟩,.bool false,.slice none 0 0,.int .i64 0,.int .i64 0,.int .i64 0] 56))
 replace HX0:=gh (by rw [←eN20];exact blk_setN [.int .i64 t19.op,.string t19.name,.string t19.num,.bool t19.b,.slice a19 n19 c19,.int .i64 0,.int .i64 t19.at'] w19 14 [.bool false,.string T4,.string ⟨#[]⟩,.bool bor,.slice a10 n10 c10,.int .i64 t13,.int .i64 t15.kind,.string t15.name,.slice a15 n15 c15,.int .i64 t15.at',.slice ra rn rc,.string tb,.slice ea en ec,.slice ma mn mc,.int .i64 0,.string ⟨#[]⟩,.string ⟨#[]⟩,.bool false,.slice none 0 0,.int .i64 0,.int .i64 0,.int .i64 at4] (gf HX0) (by simp):V20.heap[(w.heap.size+1)]?=some (.cells #[.bool false,.string T4,.string ⟨#[]⟩,.bool bor,.slice a10 n10 c10,.int .i64 t13,.int .i64 t15.kind,.string t15.name,.slice a15 n15 c15,.int .i64 t15.at',.slice ra rn rc,.string tb,.slice ea en ec,.slice ma mn mc,.int .i64 t19.op,.string t19.name,.string t19.num,.bool t19.b,.slice a19 n19 c19,.int .i64 0,.int .i64 t19.at',.int .i64 at4] 56))
 replace HT10:=gh (eN20▸(gf HT10).keep (Stays.setN [.int .i64 t19.op,.string t19.name,.string t19.num,.bool t19.b,.slice a19 n19 c19,.int .i64 0,.int .i64 t19.at'] w19 14 (Stays.of (Below.refl _ _)) (by omega)) (Nat.le_refl _))
 replace HT15:=gh (eN20▸(gf HT15).keep (Stays.setN [.int .i64 t19.op,.string t19.name,.string t19.num,.bool t19.b,.slice a19 n19 c19,.int .i64 0,.int .i64 t19.at'] w19 14 (Stays.of (Below.refl _ _)) (by omega)) (Nat.le_refl _))
 replace hra:=gh (eN20▸(gf hra).keep (Stays.setN [.int .i64 t19.op,.string t19.name,.string t19.num,.bool t19.b,.slice a19 n19 c19,.int .i64 0,.int .i64 t19.at'] w19 14 (Stays.of (Below.refl _ _)) (by omega)) (Nat.le_refl _))
 replace hea:=gh (eN20▸(gf hea).keep (Stays.setN [.int .i64 t19.op,.string t19.name,.string t19.num,.bool t19.b,.slice a19 n19 c19,.int .i64 0,.int .i64 t19.at'] w19 14 (Stays.of (Below.refl _ _)) (by omega)) (Nat.le_refl _))
 replace hma:=gh (eN20▸(gf hma).keep (Stays.setN [.int .i64 t19.op,.string t19.name,.string t19.num,.bool t19.b,.slice a19 n19 c19,.int .i64 0,.int .i64 t19.at'] w19 14 (Stays.of (Below.refl _ _)) (by omega)) (Nat.le_refl _))
 replace hls9:=gh (eN20▸(gf hls9).keep (Stays.setN [.int .i64 t19.op,.string t19.name,.string t19.num,.bool t19.b,.slice a19 n19 c19,.int .i64 0,.int .i64 t19.at'] w19 14 (Stays.of (Below.refl _ _)) (by omega)) (Nat.le_refl _))
 have hsz20:V20.heap.size=w19.heap.size:=by rw [←eN20];exact size_setN [.int .i64 t19.op,.string t19.name,.string t19.num,.bool t19.b,.slice a19 n19 c19,.int .i64 0,.int .i64 t19.at'] w19 14
 replace HS:=gh (by rw [hsz20];exact gf HS:w.heap.size<V20.heap.size)
 replace HQ0:=gh (by rw [hsz20];exact gf HQ0:(w.heap.size+1)<V20.heap.size)
 have HEV20:=gh eV20
 replace hsz20:=gh hsz20
 clear eV20 eN20
 have HC21:=gh (must_any (gf HR) (gf HT) (s:=⟨#[59,59]⟩) (by decide))
 go_wp2_with fail
 rw [gf HEV20]
 refine (gf HC21).mono ?_
 intro e w21 h21
 rcases hX21:mustR ts ⟨#[59,59]⟩ (q19) with er | ⟨t21,q21⟩
 ·rw [hX21] at h21
  obtain ⟨ei,en⟩:=er
  have hYe:Y = .error (ei,en):=by have h:=gf HY;rw [hX21] at h;exact h.symm
  subst hYe
  obtain ⟨hb21,h21⟩:=h21
  obtain rfl:e=_:=h21
  have HP:=gh ((gf HB).trans hb21)
  clear hb21 HC21 hX21
  go_wp2
  exact ⟨rfl,gf HP,rfl⟩
 rw [hX21] at h21
 obtain ⟨hb21,hle21,hR21,v21,rfl,hv21⟩:=h21
 have hY21:=gf HY
 rw [hX21] at hY21
 simp only [thenR] at hY21
 replace HY:=gh hY21
 clear hY21
 obtain rfl:v21=_:=hv21
 replace HB:=gh ((gf HB).trans hb21)
 replace HZ:=gh (zkeep (gf HZ) hb21 hrne)
 replace HX0:=gh (zkeep (gf HX0) hb21 ne0)
 replace HT10:=gh ((gf HT10).keep (Stays.but hb21 (by omega)) (Nat.le_refl _))
 replace HT15:=gh ((gf HT15).keep (Stays.but hb21 (by omega)) (Nat.le_refl _))
 replace hra:=gh ((gf hra).keep (Stays.but hb21 (by omega)) (Nat.le_refl _))
 replace hea:=gh ((gf hea).keep (Stays.but hb21 (by omega)) (Nat.le_refl _))
 replace hma:=gh ((gf hma).keep (Stays.but hb21 (by omega)) (Nat.le_refl _))
 replace hls9:=gh ((gf hls9).keep (Stays.but hb21 (by omega)) (Nat.le_refl _))
 replace HS:=gh (Nat.lt_of_lt_of_le (gf HS) hb21.size)
 replace HQ0:=gh (Nat.lt_of_lt_of_le (gf HQ0) hb21.size)
 replace HR:=gh hR21
 replace HL:=gh (And.intro (Nat.le_trans (gf HL).1 hle21) (Nat.le_trans (gf HL).2 hle21))
 clear hb21 hle21 hR21 HC21 hX21
 have HLd:Hid (w21.rangeAt (w.heap.size+1) 0 [.bool false,.string T4,.string ⟨#[]⟩,.bool bor,.slice a10 n10 c10,.int .i64 t13,.int .i64 t15.kind,.string t15.name,.slice a15 n15 c15,.int .i64 t15.at',.slice ra rn rc,.string tb,.slice ea en ec,.slice ma mn mc,.int .i64 t19.op,.string t19.name,.string t19.num,.bool t19.b,.slice a19 n19 c19,.int .i64 0,.int .i64 t19.at',.int .i64 at4]):=range_block (gf HX0)
 have HF0:DeW w21 ((w.heap.size+1)+1) (.agg #[.bool false,.string T4,.string ⟨#[]⟩,.bool bor,.slice a10 n10 c10,.int .i64 t13,.int .i64 t15.kind,.string t15.name,.slice a15 n15 c15,.int .i64 t15.at',.slice ra rn rc,.string tb,.slice ea en ec,.slice ma mn mc,.int .i64 t19.op,.string t19.name,.string t19.num,.bool t19.b,.slice a19 n19 c19,.int .i64 0,.int .i64 t19.at',.int .i64 at4]) (.mk false T4 ⟨#[]⟩ bor t10 t13 t15 ta tb te tm t19 at4):=⟨⟨a10,n10,c10,a15,n15,c15,ra,rn,rc,ea,en,ec,ma,mn,mc,a19,n19,c19⟩,rfl,⟨gf HT10,gf HT15,gf hra,gf hea,gf hma,gf hls9⟩⟩
 have HF:=gh HF0
 clear HF0
 clear st3_0 sz3_0 st7_0 sz7_0 st8_0 sz8_0 st11_0 sz11_0 st14_0 sz14_0 st16_0 sz16_0 st16_1 sz16_1 st16_2 sz16_2 st16_3 sz16_3 st20_0 sz20_0 st20_1 sz20_1 st20_2 sz20_2 st20_3 sz20_3 st20_4 sz20_4 st20_5 sz20_5 st20_6 sz20_6
 have HTh:=gh (there_of (o:=0) (n:=22) (gf HZ) (by decide))
 go_wp2_with (first | ((with_reducible refine ld_de (x:=.tmp 3) (b:=(w.heap.size+1)) [.bool false,.string T4,.string ⟨#[]⟩,.bool bor,.slice a10 n10 c10,.int .i64 t13,.int .i64 t15.kind,.string t15.name,.slice a15 n15 c15,.int .i64 t15.at',.slice ra rn rc,.string tb,.slice ea en ec,.slice ma mn mc,.int .i64 t19.op,.string t19.name,.string t19.num,.bool t19.b,.slice a19 n19 c19,.int .i64 0,.int .i64 t19.at',.int .i64 at4] ?_ ?_ ?_ (gf HLd) ?_ ?_);exact rfl;exact rfl;exact rfl;exact rfl;clear HLd) | ((with_reducible refine st_de (x:=.tmp 2) (y:=.tmp 36) (b:=w.heap.size) [.bool false,.string T4,.string ⟨#[]⟩,.bool bor,.slice a10 n10 c10,.int .i64 t13,.int .i64 t15.kind,.string t15.name,.slice a15 n15 c15,.int .i64 t15.at',.slice ra rn rc,.string tb,.slice ea en ec,.slice ma mn mc,.int .i64 t19.op,.string t19.name,.string t19.num,.bool t19.b,.slice a19 n19 c19,.int .i64 0,.int .i64 t19.at',.int .i64 at4] ?_ ?_ ?_ ?_ (gf HTh) ?_ ?_ ?_);exact rfl;exact rfl;exact rfl;exact rfl;exact rfl;exact rfl;clear HTh;intro W9 eW9;refine ?roundEnd))
 case roundEnd =>
  refine wpList_nil ?_
  refine (‹∀ (a:Act) (w:World),Code.wp Tryz.prog Code.ret _ a w→_› : ∀ (a:Act) (w:World),Code.wp Tryz.prog Code.ret _ a w→_) _ _ (wp_ret ?_)
  have e9:=gf eW9
  clear eW9
  subst e9
  exact ret_row (cs:=[.bool false,.string T4,.string ⟨#[]⟩,.bool bor,.slice a10 n10 c10,.int .i64 t13,.int .i64 t15.kind,.string t15.name,.slice a15 n15 c15,.int .i64 t15.at',.slice ra rn rc,.string tb,.slice ea en ec,.slice ma mn mc,.int .i64 t19.op,.string t19.name,.string t19.num,.bool t19.b,.slice a19 n19 c19,.int .i64 0,.int .i64 t19.at',.int .i64 at4]) (xs:=[.bool false,.string ⟨#[]⟩,.string ⟨#[]⟩,.bool false,.slice none 0 0,.int .i64 0,.int .i64 0,.string ⟨#[]⟩,.slice none 0 0,.int .i64 0,.slice none 0 0,.string ⟨#[]⟩,.slice none 0 0,.slice none 0 0,.int .i64 0,.string ⟨#[]⟩,.string ⟨#[]⟩,.bool false,.slice none 0 0,.int .i64 0,.int .i64 0,.int .i64 0]) DeW.keep rfl rfl rfl (gf HB) hr (gf HZ) rfl Tryz.underlying56 rfl (by kernel_rfl) (by have h:=gf HY;exact h.symm) (gf HL).1 (gf HR) (lo:=(w.heap.size+1)+1) (by omega) (gf HF)
set_option maxRecDepth 100000 in
set_option maxHeartbeats 8000000 in
theorem decl_of {r d lo:Nat} {ts:List (Int×ByteArray×Int)} (hT:TsOk ts) (hE:RuC 59 r ts d lo (exR ts)) (hSz:∀ j,(txt ts j).size≤65536) {w:World} {p:Nat} (hlo:lo≤p) (hR:RD w r ts p d):Calls Tryz.prog 45 #[.pointer (some ⟨r,0,none⟩)] w (RP (fun w' v t=>DeW w' w.heap.size v t) (declR ts p) r ts p d w):=by
 obtain ⟨Y,hY⟩:∃ Y,declR ts p=Y:=⟨_,rfl⟩
 rw [hY]
 unfold declR at hY
 have hr:=hR.rlt
 obtain ⟨A,eA,hbA,hsA,hzA⟩:=box_new w #[.bool false,.string ⟨#[]⟩,.string ⟨#[]⟩,.bool false,.slice none 0 0,.int .i64 0,.int .i64 0,.string ⟨#[]⟩,.slice none 0 0,.int .i64 0,.slice none 0 0,.string ⟨#[]⟩,.slice none 0 0,.slice none 0 0,.int .i64 0,.string ⟨#[]⟩,.string ⟨#[]⟩,.bool false,.slice none 0 0,.int .i64 0,.int .i64 0,.int .i64 0] 56
 have HB:=gh (But.of (r:=r) hbA)
 have HR:=gh (hR.keep hbA)
 have HZ:=gh hzA
 have HS:Hid (w.heap.size<A.heap.size):=by show _<_;omega
 have HL:Hid (p≤p∧lo≤p):=⟨Nat.le_refl _,hlo⟩
 have HSA:=gh hsA
 have HE:=gh eA
 have HT:=gh hT
 have HY:=gh hY
 have hrne:r≠w.heap.size:=by omega
 replace hE:=gh hE
 replace hSz:=gh hSz
 clear hlo hR hbA hzA hsA eA hT hY
 go_enter Tryz.func45,Tryz.ntmps45
 have HC0:=gh (takeIf_any (gf HR) (gf HT) (s:=⟨#[114,101,102]⟩) (by decide))
 obtain ⟨bo0,hbo0⟩:∃ b,sees ts (p) ⟨#[114,101,102]⟩=b:=⟨_,rfl⟩
 rw [hbo0] at HC0
 have hY0:=gf HY
 rw [hbo0] at hY0
 replace HY:=gh hY0
 clear hY0 hbo0
 go_wp2_with fail
 rw [gf HE]
 refine (gf HC0).mono ?_
 rintro e w0 ⟨rfl,hb0,hR0⟩
 replace HB:=gh ((gf HB).trans hb0)
 replace HZ:=gh (zkeep (gf HZ) hb0 hrne)
 replace HS:=gh (Nat.lt_of_lt_of_le (gf HS) hb0.size)
 replace HR:=gh hR0
 clear hb0 hR0 HC0
 rcases bo0 with _ | _
 ·have hY0:=gf HY
  simp only [Bool.false_eq_true,if_false] at hY0
  replace HY:=gh hY0
  have hRR:=gf HR
  rw [if_neg Bool.false_ne_true] at hRR
  replace HR:=gh hRR
  clear hY0 hRR
  have HC1:=gh (must_any (gf HR) (gf HT) (s:=⟨#[108,101,116]⟩) (by decide))
  go_wp2_with fail
  refine (gf HC1).mono ?_
  intro e w1 h1
  rcases hX1:mustR ts ⟨#[108,101,116]⟩ (p) with er | ⟨t1,q1⟩
  ·rw [hX1] at h1
   obtain ⟨ei,en⟩:=er
   have hYe:Y = .error (ei,en):=by have h:=gf HY;rw [hX1] at h;exact h.symm
   subst hYe
   obtain ⟨hb1,h1⟩:=h1
   obtain rfl:e=_:=h1
   have HP:=gh ((gf HB).trans hb1)
   clear hb1 HC1 hX1
   go_wp2
   exact ⟨rfl,gf HP,rfl⟩
  rw [hX1] at h1
  obtain ⟨hb1,hle1,hR1,v1,rfl,hv1⟩:=h1
  have hY1:=gf HY
  rw [hX1] at hY1
  simp only [thenR] at hY1
  replace HY:=gh hY1
  clear hY1
  obtain rfl:v1=_:=hv1
  replace HB:=gh ((gf HB).trans hb1)
  replace HZ:=gh (zkeep (gf HZ) hb1 hrne)
  replace HS:=gh (Nat.lt_of_lt_of_le (gf HS) hb1.size)
  replace HR:=gh hR1
  replace HL:=gh (And.intro (Nat.le_trans (gf HL).1 hle1) (Nat.le_trans (gf HL).2 hle1))
  clear hb1 hle1 hR1 HC1 hX1
  have HC2:=gh (definition_of (gf HT) (gf hE) (gf HL).2 (gf HR))
  go_wp2_with fail
  refine (gf HC2).mono ?_
  intro e w2 h2
  rcases hX2:defR ts (q1) with er | ⟨t2,q2⟩
  ·rw [hX2] at h2
   obtain ⟨ei,en⟩:=er
   have hYe:Y = .error (ei,en):=by have h:=gf HY;rw [hX2] at h;exact h.symm
   subst hYe
   obtain ⟨hb2,h2⟩:=h2
   obtain rfl:e=_:=h2
   have HP:=gh ((gf HB).trans hb2)
   clear hb2 HC2 hX2
   go_wp2
   exact ⟨rfl,gf HP,rfl⟩
  rw [hX2] at h2
  obtain ⟨hb2,hle2,hR2,v2,rfl,hv2⟩:=h2
  have hY2:=gf HY
  rw [hX2] at hY2
  replace HY:=gh hY2
  clear hY2
  obtain ⟨x2,rfl,hv2⟩:=hv2
  have HT2:=gh (hv2.keep (lo':=w.heap.size+1) (Stays.of (Below.refl _ _)) (gf HS))
  replace HB:=gh ((gf HB).trans hb2)
  replace HZ:=gh (zkeep (gf HZ) hb2 hrne)
  replace HS:=gh (Nat.lt_of_lt_of_le (gf HS) hb2.size)
  replace HR:=gh hR2
  replace HL:=gh (And.intro (Nat.le_trans (gf HL).1 hle2) (Nat.le_trans (gf HL).2 hle2))
  clear hb2 hle2 hR2 hv2 HC2 hX2
  have HTh:=gh (there_of (o:=0) (n:=22) (gf HZ) (by decide))
  obtain ⟨LL,hLL⟩:∃ l,deCells t2 x2=l:=⟨_,rfl⟩
  have hl9:Hid (LL.length=22∧LL.all (·.oneCell')=true):=by rw [←hLL];exact ⟨rfl,rfl⟩
  rw [hLL]
  replace hLL:=gh hLL
  go_wp2_with ((with_reducible refine st_de (x:=.tmp 2) (y:=.tmp 10) (b:=w.heap.size) LL ?_ ?_ ?_ ?_ (gf HTh) (gf hl9).1 (gf hl9).2 ?_);exact rfl;exact rfl;exact rfl;exact rfl;clear HTh;intro W9 eW9;refine ?roundEnd)
  case roundEnd =>
   refine wpList_nil ?_
   refine (‹∀ (a:Act) (w:World),Code.wp Tryz.prog Code.ret _ a w→_› : ∀ (a:Act) (w:World),Code.wp Tryz.prog Code.ret _ a w→_) _ _ (wp_ret ?_)
   have e9:=gf eW9
   clear eW9
   subst e9
   obtain rfl:=gf hLL
   exact ret_row (cs:=(deCells t2 x2)) (xs:=[.bool false,.string ⟨#[]⟩,.string ⟨#[]⟩,.bool false,.slice none 0 0,.int .i64 0,.int .i64 0,.string ⟨#[]⟩,.slice none 0 0,.int .i64 0,.slice none 0 0,.string ⟨#[]⟩,.slice none 0 0,.slice none 0 0,.int .i64 0,.string ⟨#[]⟩,.string ⟨#[]⟩,.bool false,.slice none 0 0,.int .i64 0,.int .i64 0,.int .i64 0]) DeW.keep rfl rfl rfl (gf HB) hr (gf HZ) rfl Tryz.underlying56 rfl (by rw [de_info];rfl) (by have h:=gf HY;exact h.symm) (gf HL).1 (gf HR) (lo:=w.heap.size+1) (by omega) ⟨x2,rfl,gf HT2⟩
 ·have hY0:=gf HY
  simp only [if_true] at hY0
  replace HY:=gh hY0
  have hRR:=gf HR
  rw [if_pos rfl] at hRR
  replace HR:=gh hRR
  clear hY0 hRR
  replace HL:=gh (And.intro (Nat.le_succ_of_le (gf HL).1) (Nat.le_succ_of_le (gf HL).2))
  have HC3:=gh (cell_of (gf HT) (gf hSz) (gf HL).2 (gf HR))
  go_wp2_with fail
  refine (gf HC3).mono ?_
  intro e w3 h3
  rcases hX3:cellR ts (p+1) with er | ⟨t3,q3⟩
  ·rw [hX3] at h3
   obtain ⟨ei,en⟩:=er
   have hYe:Y = .error (ei,en):=by have h:=gf HY;rw [hX3] at h;exact h.symm
   subst hYe
   obtain ⟨hb3,h3⟩:=h3
   obtain rfl:e=_:=h3
   have HP:=gh ((gf HB).trans hb3)
   clear hb3 HC3 hX3
   go_wp2
   exact ⟨rfl,gf HP,rfl⟩
  rw [hX3] at h3
  obtain ⟨hb3,hle3,hR3,v3,rfl,hv3⟩:=h3
  have hY3:=gf HY
  rw [hX3] at hY3
  replace HY:=gh hY3
  clear hY3
  obtain ⟨x3,rfl,hv3⟩:=hv3
  have HT3:=gh (hv3.keep (lo':=w.heap.size+1) (Stays.of (Below.refl _ _)) (gf HS))
  replace HB:=gh ((gf HB).trans hb3)
  replace HZ:=gh (zkeep (gf HZ) hb3 hrne)
  replace HS:=gh (Nat.lt_of_lt_of_le (gf HS) hb3.size)
  replace HR:=gh hR3
  replace HL:=gh (And.intro (Nat.le_trans (gf HL).1 hle3) (Nat.le_trans (gf HL).2 hle3))
  clear hb3 hle3 hR3 hv3 HC3 hX3
  have HTh:=gh (there_of (o:=0) (n:=22) (gf HZ) (by decide))
  obtain ⟨LL,hLL⟩:∃ l,deCells t3 x3=l:=⟨_,rfl⟩
  have hl9:Hid (LL.length=22∧LL.all (·.oneCell')=true):=by rw [←hLL];exact ⟨rfl,rfl⟩
  rw [hLL]
  replace hLL:=gh hLL
  go_wp2_with ((with_reducible refine st_de (x:=.tmp 2) (y:=.tmp 6) (b:=w.heap.size) LL ?_ ?_ ?_ ?_ (gf HTh) (gf hl9).1 (gf hl9).2 ?_);exact rfl;exact rfl;exact rfl;exact rfl;clear HTh;intro W9 eW9;refine ?roundEnd)
  case roundEnd =>
   refine wpList_nil ?_
   refine (‹∀ (a:Act) (w:World),Code.wp Tryz.prog Code.ret _ a w→_› : ∀ (a:Act) (w:World),Code.wp Tryz.prog Code.ret _ a w→_) _ _ (wp_ret ?_)
   have e9:=gf eW9
   clear eW9
   subst e9
   obtain rfl:=gf hLL
   exact ret_row (cs:=(deCells t3 x3)) (xs:=[.bool false,.string ⟨#[]⟩,.string ⟨#[]⟩,.bool false,.slice none 0 0,.int .i64 0,.int .i64 0,.string ⟨#[]⟩,.slice none 0 0,.int .i64 0,.slice none 0 0,.string ⟨#[]⟩,.slice none 0 0,.slice none 0 0,.int .i64 0,.string ⟨#[]⟩,.string ⟨#[]⟩,.bool false,.slice none 0 0,.int .i64 0,.int .i64 0,.int .i64 0]) DeW.keep rfl rfl rfl (gf HB) hr (gf HZ) rfl Tryz.underlying56 rfl (by rw [de_info];rfl) (by have h:=gf HY;exact h.symm) (gf HL).1 (gf HR) (lo:=w.heap.size+1) (by omega) ⟨x3,rfl,gf HT3⟩
end Go.Proofs.YtfkfnbehdcmgeaaGreatDoor
