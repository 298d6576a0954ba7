/- Package parse: a parameter's drawn region. -/
import Derived.Test.YtfkfnbehdcmgeaaGreatDoorZAL
set_option linter.unusedVariables false
set_option linter.unusedSimpArgs false
namespace Go.Proofs.YtfkfnbehdcmgeaaGreatDoor
open Go Go.RowKit
def setN (W:World) (q:Nat):Nat→List Value→World
 |_,[]=>W
 |o,x::cs=>setN (W.setCell ⟨q,o,none⟩ x) q (o+1) cs
theorem But.setN {r q:Nat} {w:World}:∀ (cs:List Value) (A:World) (o:Nat),But r w A→w.heap.size≤q→But r w (setN A q o cs)
 |[],_,_,h,_=>h
 |x::cs,A,o,h,hq=>But.setN cs _ (o+1) (but_new h hq o x) hq
theorem Stays.setN {lo q:Nat} {w:World}:∀ (cs:List Value) (A:World) (o:Nat),Stays lo w A→q<lo→Stays lo w (setN A q o cs)
 |[],_,_,h,_=>h
 |x::cs,A,o,h,hq=>Stays.setN cs _ (o+1) (h.set hq o x) hq
theorem Bu.setN {q r:Nat} {w:World}:∀ (cs:List Value) (A:World) (o:Nat),Bu q r w A→Bu q r w (setN A q o cs)
 |[],_,_,h=>h
 |x::cs,A,o,h=>Bu.setN cs _ (o+1) (h.set o x)
theorem below_setN {B q:Nat} {w:World}:∀ (cs:List Value) (A:World) (o:Nat),Below B w A→B≤q→Below B w (setN A q o cs)
 |[],_,_,h,_=>h
 |x::cs,A,o,h,hq=>below_setN cs _ (o+1) (below_set h hq o x) hq
theorem heap_setN {q k:Nat} (h:k≠q):∀ (cs:List Value) (A:World) (o:Nat),(setN A q o cs).heap[k]?=A.heap[k]?
 |[],_,_=>rfl
 |x::cs,A,o=>(heap_setN h cs _ (o+1)).trans (heap_set o x h)
theorem blk_setN {q:Nat} {ty:TypeId}:∀ (cs:List Value) (A:World) (o:Nat) (xs:List Value),A.heap[q]?=some (.cells xs.toArray ty)→o+cs.length≤xs.length→(setN A q o cs).heap[q]?=some (.cells (xs.take o++cs++xs.drop (o+cs.length)).toArray ty)
 |[],A,o,xs,h,_=>by
  simp only [List.append_nil,List.length_nil,Nat.add_zero,List.take_append_drop]
  exact h
 |x::cs,A,o,xs,h,hl=>by
  have hl':o+1+cs.length≤xs.length:=by simpa [Nat.add_assoc,Nat.add_comm 1] using hl
  have h2:=blk_setN (ty:=ty) cs (A.setCell ⟨q,o,none⟩ x) (o+1) (xs.set o x) (by rw [set_block h x];simp) (by simpa using hl')
  rw [show setN A q o (x::cs)=setN (A.setCell ⟨q,o,none⟩ x) q (o+1) cs from rfl,h2]
  have ho:o<xs.length:=by omega
  have e1:(xs.set o x).take (o+1)=xs.take o++[x]:=by
   rw [List.take_add_one,List.take_set_of_le (Nat.le_refl _)]
   simp [ho]
  have e2:(xs.set o x).drop (o+1+cs.length)=xs.drop (o+1+cs.length):=by
   rw [List.drop_set_of_lt (by omega)]
  rw [e1,e2]
  simp [Nat.add_assoc,Nat.add_comm 1]
theorem blk_all {q:Nat} {ty:TypeId} {A:World} {cs xs:List Value} (h:A.heap[q]?=some (.cells xs.toArray ty)) (hl:cs.length=xs.length):(setN A q 0 cs).heap[q]?=some (.cells cs.toArray ty):=by
 rw [blk_setN cs A 0 xs h (by omega)]
 simp [hl]
theorem size_setN {q:Nat}:∀ (cs:List Value) (A:World) (o:Nat),(setN A q o cs).heap.size=A.heap.size
 |[],_,_=>rfl
 |x::cs,A,o=>(size_setN cs _ (o+1)).trans (by simp)
theorem RD.setN {r p d q:Nat} {ts:List (Int×ByteArray×Int)} {A:World} (hR:RD A r ts p d) (hq:r<q) (o:Nat) (cs:List Value):RD (setN A q o cs) r ts p d:=by
 obtain ⟨⟨g,c,h1,h2,h3,h4⟩,h5⟩:=hR
 exact ⟨⟨g,c,(heap_setN (by omega) cs A o).trans h1,h2,h3,fun j x hx=>range_same (h4 j x hx) (heap_setN (by omega) cs A o)⟩,h5⟩
theorem zkeep {w w':World} {q r:Nat} {cs:Array Value} {ty:TypeId} (h:w.heap[q]?=some (.cells cs ty)) (hb:But r w w') (hr:r≠q):w'.heap[q]?=some (.cells cs ty):=(hb.block q (blk h).1 (Ne.symm hr)).trans h
def IsRow (w:World) (k lo:Nat) (v:Value) (n:Nat) (p:Nat→List Value→Prop):Prop:=∃ a c,v = .slice a n c∧n≤c∧n≤1000000∧(n≠0→∃ b off,a=some ⟨b,off,none⟩∧lo≤b∧b<w.heap.size∧∀ j,j<n→∃ cs,w.rangeAt b (off+j * k) cs∧p j cs)
theorem IsRow.keep {w w':World} {k lo lo' n:Nat} {v:Value} {p q:Nat→List Value→Prop} (h:IsRow w k lo v n p) (hb:Stays lo w w') (hl:lo'≤lo) (hp:∀ j cs,p j cs→q j cs):IsRow w' k lo' v n q:=by
 obtain ⟨a,c,e,h1,h2,h3⟩:=h
 refine ⟨a,c,e,h1,h2,fun h0 => ?_⟩
 obtain ⟨b,off,e2,h4,h5,h6⟩:=h3 h0
 refine ⟨b,off,e2,Nat.le_trans hl h4,Nat.lt_of_lt_of_le h5 hb.1,fun j hj => ?_⟩
 obtain ⟨cs,h7,h8⟩:=h6 j hj
 exact ⟨cs,range_same h7 (hb.2 b h4 h5),hp j cs h8⟩
def IsTy (w:World) (lo:Nat) (cs:List Value) (t:Ty):Prop:=∃ a n c,cs=[.int .i64 t.kind,.string t.name,.slice a n c,.int .i64 t.at']∧IsLs w lo (.slice a n c) t.r
theorem IsTy.keep {w w':World} {lo lo':Nat} {cs:List Value} {t:Ty} (h:IsTy w lo cs t) (hb:Stays lo w w') (hl:lo'≤lo):IsTy w' lo' cs t:=by
 obtain ⟨a,n,c,e,h⟩:=h
 exact ⟨a,n,c,e,h.keep hb hl⟩
def TyV (w:World) (lo:Nat) (v:Value) (t:Ty):Prop:=∃ a n c,v = .agg #[.int .i64 t.kind,.string t.name,.slice a n c,.int .i64 t.at']∧IsLs w lo (.slice a n c) t.r
theorem TyV.keep (w w':World) (lo lo':Nat) (v:Value) (t:Ty) (h:TyV w lo v t) (hb:Stays lo w w') (hl:lo'≤lo):TyV w' lo' v t:=by
 obtain ⟨a,n,c,e,h⟩:=h
 exact ⟨a,n,c,e,h.keep hb hl⟩
def IsPm (w:World) (lo:Nat) (cs:List Value) (x:Pm):Prop:=∃ a n c,cs=[.string x.name,.int .i64 x.t.kind,.string x.t.name,.slice a n c,.int .i64 x.t.at',.int .i64 x.at']∧IsLs w lo (.slice a n c) x.t.r
theorem IsPm.keep {w w':World} {lo lo':Nat} {cs:List Value} {t:Pm} (h:IsPm w lo cs t) (hb:Stays lo w w') (hl:lo'≤lo):IsPm w' lo' cs t:=by
 obtain ⟨a,n,c,e,h⟩:=h
 exact ⟨a,n,c,e,h.keep hb hl⟩
def IsPs (w:World) (lo:Nat) (v:Value) (l:List Pm):Prop:=IsRow w 6 lo v l.length fun j cs=>∀ x,l[j]?=some x→IsPm w lo cs x
theorem IsPs.keep {w w':World} {lo lo':Nat} {v:Value} {l:List Pm} (h:IsPs w lo v l) (hb:Stays lo w w') (hl:lo'≤lo):IsPs w' lo' v l:=IsRow.keep h hb hl fun _ _ h x hx=>(h x hx).keep hb hl
structure DeV where
 pa:Option Addr
 pn:Nat
 pc:Nat
 ta:Option Addr
 tn:Nat
 tc:Nat
 ra:Option Addr
 rn:Nat
 rc:Nat
 ea:Option Addr
 en:Nat
 ec:Nat
 ma:Option Addr
 mn:Nat
 mc:Nat
 ba:Option Addr
 bn:Nat
 bc:Nat
def deCells (d:De) (x:DeV):List Value:=[.bool d.cell,.string d.name,.string d.num,.bool d.again,.slice x.pa x.pn x.pc,.int .i64 d.eff,.int .i64 d.t.kind,.string d.t.name,.slice x.ta x.tn x.tc,.int .i64 d.t.at',.slice x.ra x.rn x.rc,.string d.res,.slice x.ea x.en x.ec,.slice x.ma x.mn x.mc,.int .i64 d.body.op,.string d.body.name,.string d.body.num,.bool d.body.b,.slice x.ba x.bn x.bc,.int .i64 0,.int .i64 d.body.at',.int .i64 d.at']
structure DeIn (w:World) (lo:Nat) (d:De) (x:DeV):Prop where
 ps:IsPs w lo (.slice x.pa x.pn x.pc) d.ps
 ty:IsLs w lo (.slice x.ta x.tn x.tc) d.t.r
 req:IsLs w lo (.slice x.ra x.rn x.rc) d.req
 ens:IsLs w lo (.slice x.ea x.en x.ec) d.ens
 mea:IsLs w lo (.slice x.ma x.mn x.mc) d.mea
 body:IsLs w lo (.slice x.ba x.bn x.bc) d.body.l
theorem DeIn.keep {w w':World} {lo lo':Nat} {d:De} {x:DeV} (h:DeIn w lo d x) (hb:Stays lo w w') (hl:lo'≤lo):DeIn w' lo' d x:=⟨h.ps.keep hb hl,h.ty.keep hb hl,h.req.keep hb hl,h.ens.keep hb hl,h.mea.keep hb hl,h.body.keep hb hl⟩
def IsDe (w:World) (lo:Nat) (cs:List Value) (d:De):Prop:=∃ x,cs=deCells d x∧DeIn w lo d x
theorem IsDe.keep {w w':World} {lo lo':Nat} {cs:List Value} {d:De} (h:IsDe w lo cs d) (hb:Stays lo w w') (hl:lo'≤lo):IsDe w' lo' cs d:=by
 obtain ⟨x,e,h⟩:=h
 exact ⟨x,e,h.keep hb hl⟩
def IsDs (w:World) (lo:Nat) (v:Value) (l:List De):Prop:=IsRow w 22 lo v l.length fun j cs=>∀ x,l[j]?=some x→IsDe w lo cs x
theorem IsDs.keep {w w':World} {lo lo':Nat} {v:Value} {l:List De} (h:IsDs w lo v l) (hb:Stays lo w w') (hl:lo'≤lo):IsDs w' lo' v l:=IsRow.keep h hb hl fun _ _ h x hx=>(h x hx).keep hb hl
theorem lsn {w:World} {lo:Nat}:IsLs w lo (.slice none 0 0) []:=⟨0,none,0,rfl,Nat.le_refl _,by simp,fun h=>absurd rfl h⟩
theorem psn {w:World} {lo:Nat}:IsPs w lo (.slice none 0 0) []:=⟨none,0,rfl,Nat.le_refl _,by simp,fun h=>absurd rfl h⟩
theorem IsE.ls {w:World} {lo:Nat} {i0 i6:Int} {s1 s2:ByteArray} {b3:Bool} {a4:Option Addr} {n4 c4:Nat} {t:Ex} (h:IsE w lo (.agg #[.int .i64 i0,.string s1,.string s2,.bool b3,.slice a4 n4 c4,.int .i64 0,.int .i64 i6]) t):i0=t.op∧s1=t.name∧s2=t.num∧b3=t.b∧i6=t.at'∧IsLs w lo (.slice a4 n4 c4) t.l:=by
 obtain ⟨op,nm,nu,bl,l,i⟩:=t
 obtain ⟨k,a,c,e,h2⟩:=h
 obtain ⟨rfl,rfl,rfl,rfl,⟨rfl,rfl,rfl⟩,rfl⟩:i0=op∧s1=nm∧s2=nu∧b3=bl∧(a4=a∧n4=l.length∧c4=c)∧i6=i:=by simpa using e
 exact ⟨rfl,rfl,rfl,rfl,rfl,k,_,_,rfl,h2⟩
theorem one_ls {w W:World} {lo:Nat} {x0 x1 x2 x3 x4 x5 x6:Value} {t:Ex} (h:IsE w lo (.agg #[x0,x1,x2,x3,x4,x5,x6]) t) (eW:w.alloc (.cells #[x0,x1,x2,x3,x4,x5,x6] 36)=W) (hlo:lo≤w.heap.size):IsLs W lo (.slice (some ⟨w.heap.size,0,none⟩) 1 1) [t]:=
 (node (l:=[t]) (vs:=[[x0,x1,x2,x3,x4,x5,x6]]) 0 0 ⟨#[]⟩ ⟨#[]⟩ false eW rfl (by simp) rfl (by simp) hlo (fun j v t' hv ht=>by
  rcases j with _ | j
  ·obtain rfl:=Option.some.inj hv
   obtain rfl:=Option.some.inj ht
   exact h
  ·simp at hv)).ls.2.2.2.2.2
theorem ret_row {α:Type} {Φ:World→Nat→Value→α→Prop} (hΦ:∀ w w' lo lo' v t,Φ w lo v t→Stays lo w w'→lo'≤lo→Φ w' lo' v t) {fn:Func} {a:Act} {tt:Nat} {w w3:World} {r p q d lo:Nat} {ts:List (Int×ByteArray×Int)} {t:α} {Y:(Except (Int×Int) (α×Nat))} {xs cs:List Value} {ty:TypeId} {dd:TypeDesc} (hf:fn.results = #[.cell tt ty]) (ht:a.tmps[tt]?=some (.pointer (some ⟨w.heap.size,0,none⟩))) (hdf:a.defers=[]) (hbu:But r w w3) (hr:r<w.heap.size) (hz:w3.heap[w.heap.size]?=some (.cells xs.toArray ty)) (hl:cs.length=xs.length) (hu:Tryz.prog.underlying ty=some dd) (hd:dd.isRow=true) (hi:(Tryz.prog.info? ty).map (·.size)=some cs.length) (hY:Y = .ok (t,q)) (hpq:p≤q) (hR:RD w3 r ts q d) (hlo:w.heap.size<lo) (hv:Φ w3 lo (.agg cs.toArray) t) :
  bodyPost Tryz.prog fn (RP (fun w' v t=>Φ w' w.heap.size v t) Y r ts p d w) .ret a (setN w3 w.heap.size 0 cs):=by
 subst hY
 refine bodyPost_ret (res_row (cs:=cs) hf ht (range_block (blk_all hz hl)) hu hd hi) hdf ?_
 refine ⟨But.setN cs w3 0 hbu (Nat.le_refl _),hpq,?_,_,rfl,hΦ _ _ _ _ _ _ hv (Stays.setN cs w3 0 (Stays.of (Below.refl _ _)) hlo) (by omega)⟩
 obtain ⟨⟨g,c,h1,h2,h3,h4⟩,h5⟩:=hR
 refine ⟨⟨g,c,(heap_setN (by omega) cs w3 0).trans h1,h2,h3,fun j x hx=>range_same (h4 j x hx) (heap_setN (by omega) cs w3 0)⟩,h5⟩
end Go.Proofs.YtfkfnbehdcmgeaaGreatDoor
namespace Go.Proofs.YtfkfnbehdcmgeaaGreatDoor
open Go Go.RowKit
set_option maxRecDepth 100000 in
set_option maxHeartbeats 8000000 in
theorem refinement_of {r d lo:Nat} {ts:List (Int×ByteArray×Int)} (hT:TsOk ts) (hE:RuC 59 r ts d lo (exR ts)) {w:World} {p:Nat} (hlo:lo≤p) (hp1:p+1<ts.length) (hR:RD w r ts p d):Calls Tryz.prog 107 #[.pointer (some ⟨r,0,none⟩)] w (RP (fun w' v t=>TyV w' w.heap.size v t) (refR ts p) r ts p d w):=by
 obtain ⟨Y,hY⟩:∃ Y,refR ts p=Y:=⟨_,rfl⟩
 rw [hY]
 unfold refR at hY
 have hr:=hR.rlt
 obtain ⟨A,eA,hbA,hsA,hzA⟩:=box_new w #[.int .i64 0,.string ⟨#[]⟩,.slice none 0 0,.int .i64 0] 54
 have HB:=gh (But.of (r:=r) hbA)
 have HR:=gh (hR.keep hbA)
 have HZ:=gh hzA
 have HS:Hid (w.heap.size<A.heap.size):=by show _<_;omega
 have HL:Hid (p≤p∧lo≤p):=⟨Nat.le_refl _,hlo⟩
 have HSA:=gh hsA
 have HE:=gh eA
 have HT:=gh hT
 have HY:=gh hY
 have hrne:r≠w.heap.size:=by omega
 replace hE:=gh hE
 replace hp1:=gh hp1
 clear hlo hR hbA hzA hsA eA hT hY
 go_enter Tryz.func107,Tryz.ntmps107
 have HC0:=gh (take_any (gf HR) (gf HT) (gf hp1))
 unfold tkV at HC0
 obtain ⟨⟨kk0,T0,at0⟩,hN0⟩:∃ X,nx ts p=X:=⟨_,rfl⟩
 rw [hN0] at HC0
 have HN0:=gh hN0
 clear hN0
 go_wp2_with fail
 rw [gf HE]
 refine (gf HC0).mono ?_
 rintro e w0 ⟨rfl,hb0,hR0⟩
 replace HB:=gh ((gf HB).trans hb0)
 replace HZ:=gh (zkeep (gf HZ) hb0 hrne)
 replace HS:=gh (Nat.lt_of_lt_of_le (gf HS) hb0.size)
 replace HR:=gh hR0
 replace HL:Hid (p≤p+1∧lo+1≤p+1):=And.intro (Nat.le_succ_of_le (gf HL).1) (Nat.succ_le_succ (gf HL).2)
 clear hb0 hR0 HC0
 have hf2:=fld2 (.int .i64 kk0) (.string T0) (.int .i64 at0)
 obtain ⟨B1,eB1,hbB1,hsB1,hhB1⟩:=box_new w0 #[.int .i64 1,.string ⟨#[]⟩,.slice none 0 0,.int .i64 at0] 54
 have ne1:r≠w0.heap.size:=by have:=gf HS;omega
 have HQHX1:=HS
 have hbu2:=But.of (r:=r) hbB1
 replace HR:=gh ((gf HR).keep hbB1)
 replace HB:=gh ((gf HB).trans hbu2)
 replace HZ:=gh (zkeep (gf HZ) hbu2 hrne)
 replace HS:=gh (Nat.lt_of_lt_of_le (gf HS) hbu2.size)
 have HX1:=gh hhB1
 have HEB1:=gh eB1
 have HSB1:=gh hsB1
 clear eB1 hbB1 hhB1 hsB1
 have hwq1:w.heap.size<w0.heap.size:=by have:=gf HQHX1;omega
 have HQ1:Hid (w0.heap.size<B1.heap.size):=by show _<_;have:=gf HSB1;omega
 have HC3:=gh (mustBe_any (gf HR) (gf HT) (k:=1) (by decide))
 go_wp2_with fail
 rw [gf HEB1]
 refine (gf HC3).mono ?_
 intro e w3 h3
 rcases hX3:mustBeR ts 1 (p+1) with er | ⟨t3,q3⟩
 ·rw [hX3] at h3
  obtain ⟨ei,en⟩:=er
  have hYe:Y = .error (ei,en):=by have h:=gf HY;rw [hX3] at h;exact h.symm
  subst hYe
  obtain ⟨hb3,h3⟩:=h3
  obtain rfl:e=_:=h3
  have HP:=gh ((gf HB).trans hb3)
  clear hb3 HC3 hX3
  go_wp2
  exact ⟨rfl,gf HP,rfl⟩
 rw [hX3] at h3
 obtain ⟨hb3,hle3,hR3,v3,rfl,hv3⟩:=h3
 have hY3:=gf HY
 rw [hX3] at hY3
 simp only [thenR] at hY3
 replace HY:=gh hY3
 clear hY3
 obtain ⟨kk3,T3,at3⟩:=t3
 obtain rfl:v3=_:=hv3
 have hf03:=fld0 (.int .i64 kk3) (.string T3) (.int .i64 at3)
 have hf13:=fld1 (.int .i64 kk3) (.string T3) (.int .i64 at3)
 unfold tkV
 replace HB:=gh ((gf HB).trans hb3)
 replace HZ:=gh (zkeep (gf HZ) hb3 hrne)
 replace HX1:=gh (zkeep (gf HX1) hb3 ne1)
 replace HS:=gh (Nat.lt_of_lt_of_le (gf HS) hb3.size)
 replace HQ1:=gh (Nat.lt_of_lt_of_le (gf HQ1) hb3.size)
 replace HR:=gh hR3
 replace HL:=gh (And.intro (Nat.le_trans (gf HL).1 hle3) (Nat.le_trans (gf HL).2 hle3))
 clear hb3 hle3 hR3 HC3 hX3
 have st4_0:=(blk (gf HX1)).2.1 1 _ rfl
 have sz4_0:=(blk (gf HX1)).2.2 1
 obtain ⟨V4,eV4⟩:∃ V,(w3.setCell ⟨w0.heap.size,1,none⟩ (.string T3))=V:=⟨_,rfl⟩
 have eN4:setN w3 w0.heap.size 1 [.string T3]=V4:=eV4
 replace HB:=gh (by rw [←eN4];exact But.setN [.string T3] w3 1 (gf HB) (by omega):But r w V4)
 replace HR:=gh (by rw [←eN4];exact (gf HR).setN (by omega) 1 [.string T3]:RD V4 r ts (q3) d)
 replace HZ:=gh (by rw [←eN4];exact (heap_setN (by omega) [.string T3] w3 1).trans (gf HZ):V4.heap[w.heap.size]?=some (.cells #[.int .i64 0,.string ⟨#[]⟩,.slice none 0 0,.int .i64 0] 54))
 replace HX1:=gh (by rw [←eN4];exact blk_setN [.string T3] w3 1 [.int .i64 1,.string ⟨#[]⟩,.slice none 0 0,.int .i64 at0] (gf HX1) (by simp):V4.heap[w0.heap.size]?=some (.cells #[.int .i64 1,.string T3,.slice none 0 0,.int .i64 at0] 54))
 have hsz4:V4.heap.size=w3.heap.size:=by rw [←eN4];exact size_setN [.string T3] w3 1
 replace HS:=gh (by rw [hsz4];exact gf HS:w.heap.size<V4.heap.size)
 replace HQ1:=gh (by rw [hsz4];exact gf HQ1:w0.heap.size<V4.heap.size)
 have HEV4:=gh eV4
 replace hsz4:=gh hsz4
 clear eV4 eN4
 have HC5:=gh (must_any (gf HR) (gf HT) (s:=⟨#[58]⟩) (by decide))
 go_wp2_with fail
 rw [gf HEV4]
 refine (gf HC5).mono ?_
 intro e w5 h5
 rcases hX5:mustR ts ⟨#[58]⟩ (q3) with er | ⟨t5,q5⟩
 ·rw [hX5] at h5
  obtain ⟨ei,en⟩:=er
  have hYe:Y = .error (ei,en):=by have h:=gf HY;rw [hX5] at h;exact h.symm
  subst hYe
  obtain ⟨hb5,h5⟩:=h5
  obtain rfl:e=_:=h5
  have HP:=gh ((gf HB).trans hb5)
  clear hb5 HC5 hX5
  go_wp2
  exact ⟨rfl,gf HP,rfl⟩
 rw [hX5] at h5
 obtain ⟨hb5,hle5,hR5,v5,rfl,hv5⟩:=h5
 have hY5:=gf HY
 rw [hX5] at hY5
 simp only [thenR] at hY5
 replace HY:=gh hY5
 clear hY5
 obtain rfl:v5=_:=hv5
 replace HB:=gh ((gf HB).trans hb5)
 replace HZ:=gh (zkeep (gf HZ) hb5 hrne)
 replace HX1:=gh (zkeep (gf HX1) hb5 ne1)
 replace HS:=gh (Nat.lt_of_lt_of_le (gf HS) hb5.size)
 replace HQ1:=gh (Nat.lt_of_lt_of_le (gf HQ1) hb5.size)
 replace HR:=gh hR5
 replace HL:=gh (And.intro (Nat.le_trans (gf HL).1 hle5) (Nat.le_trans (gf HL).2 hle5))
 clear hb5 hle5 hR5 HC5 hX5
 have HC6:=gh (must_any (gf HR) (gf HT) (s:=⟨#[105,110,116]⟩) (by decide))
 go_wp2_with fail
 refine (gf HC6).mono ?_
 intro e w6 h6
 rcases hX6:mustR ts ⟨#[105,110,116]⟩ (q5) with er | ⟨t6,q6⟩
 ·rw [hX6] at h6
  obtain ⟨ei,en⟩:=er
  have hYe:Y = .error (ei,en):=by have h:=gf HY;rw [hX6] at h;exact h.symm
  subst hYe
  obtain ⟨hb6,h6⟩:=h6
  obtain rfl:e=_:=h6
  have HP:=gh ((gf HB).trans hb6)
  clear hb6 HC6 hX6
  go_wp2
  exact ⟨rfl,gf HP,rfl⟩
 rw [hX6] at h6
 obtain ⟨hb6,hle6,hR6,v6,rfl,hv6⟩:=h6
 have hY6:=gf HY
 rw [hX6] at hY6
 simp only [thenR] at hY6
 replace HY:=gh hY6
 clear hY6
 obtain rfl:v6=_:=hv6
 replace HB:=gh ((gf HB).trans hb6)
 replace HZ:=gh (zkeep (gf HZ) hb6 hrne)
 replace HX1:=gh (zkeep (gf HX1) hb6 ne1)
 replace HS:=gh (Nat.lt_of_lt_of_le (gf HS) hb6.size)
 replace HQ1:=gh (Nat.lt_of_lt_of_le (gf HQ1) hb6.size)
 replace HR:=gh hR6
 replace HL:=gh (And.intro (Nat.le_trans (gf HL).1 hle6) (Nat.le_trans (gf HL).2 hle6))
 clear hb6 hle6 hR6 HC6 hX6
 have HC7:=gh (must_any (gf HR) (gf HT) (s:=⟨#[124]⟩) (by decide))
 go_wp2_with fail
 refine (gf HC7).mono ?_
 intro e w7 h7
 rcases hX7:mustR ts ⟨#[124]⟩ (q6) with er | ⟨t7,q7⟩
 ·rw [hX7] at h7
  obtain ⟨ei,en⟩:=er
  have hYe:Y = .error (ei,en):=by have h:=gf HY;rw [hX7] at h;exact h.symm
  subst hYe
  obtain ⟨hb7,h7⟩:=h7
  obtain rfl:e=_:=h7
  have HP:=gh ((gf HB).trans hb7)
  clear hb7 HC7 hX7
  go_wp2
  exact ⟨rfl,gf HP,rfl⟩
 rw [hX7] at h7
 obtain ⟨hb7,hle7,hR7,v7,rfl,hv7⟩:=h7
 have hY7:=gf HY
 rw [hX7] at hY7
 simp only [thenR] at hY7
 replace HY:=gh hY7
 clear hY7
 obtain rfl:v7=_:=hv7
 replace HB:=gh ((gf HB).trans hb7)
 replace HZ:=gh (zkeep (gf HZ) hb7 hrne)
 replace HX1:=gh (zkeep (gf HX1) hb7 ne1)
 replace HS:=gh (Nat.lt_of_lt_of_le (gf HS) hb7.size)
 replace HQ1:=gh (Nat.lt_of_lt_of_le (gf HQ1) hb7.size)
 replace HR:=gh hR7
 replace HL:=gh (And.intro (Nat.le_trans (gf HL).1 hle7) (Nat.le_trans (gf HL).2 hle7))
 clear hb7 hle7 hR7 HC7 hX7
 have HC8:=gh (gf hE w7 (q7) (by have:=(gf HL).2;omega) (gf HR))
 go_wp2_with fail
 refine (gf HC8).mono ?_
 intro e w8 h8
 rcases hX8:exR ts (q7) with er | ⟨t8,q8⟩
 ·rw [hX8] at h8
  obtain ⟨ei,en⟩:=er
  have hYe:Y = .error (ei,en):=by have h:=gf HY;rw [hX8] at h;exact h.symm
  subst hYe
  obtain ⟨hb8,h8⟩:=h8
  obtain rfl:e=_:=h8
  have HP:=gh ((gf HB).trans hb8)
  clear hb8 HC8 hX8
  go_wp2
  exact ⟨rfl,gf HP,rfl⟩
 rw [hX8] at h8
 obtain ⟨hb8,hle8,hR8,v8,rfl,hv8⟩:=h8
 have hY8:=gf HY
 rw [hX8] at hY8
 simp only [thenR] at hY8
 replace HY:=gh hY8
 clear hY8
 obtain ⟨i8,j8,s8,m8,b8,a8,n8,c8,rfl⟩:=hv8.form
 have HT8:=gh (hv8.keep (lo':=w0.heap.size+1) (Stays.of (Below.refl _ _)) (gf HQ1))
 replace HB:=gh ((gf HB).trans hb8)
 replace HZ:=gh (zkeep (gf HZ) hb8 hrne)
 replace HX1:=gh (zkeep (gf HX1) hb8 ne1)
 replace HS:=gh (Nat.lt_of_lt_of_le (gf HS) hb8.size)
 replace HQ1:=gh (Nat.lt_of_lt_of_le (gf HQ1) hb8.size)
 replace HR:=gh hR8
 replace HL:=gh (And.intro (Nat.le_trans (gf HL).1 hle8) (Nat.le_trans (gf HL).2 hle8))
 clear hb8 hle8 hR8 hv8 HC8 hX8
 have HPT9:=HT8
 have HPQ9:=HQ1
 obtain ⟨B9,eB9,hbB9,hsB9,hhB9⟩:=box_new w8 #[.int .i64 i8,.string s8,.string m8,.bool b8,.slice a8 n8 c8,.int .i64 0,.int .i64 j8] 36
 have ne9:r≠w8.heap.size:=by have:=gf HS;omega
 have HQHX9:=HS
 have hbu10:=But.of (r:=r) hbB9
 replace HR:=gh ((gf HR).keep hbB9)
 replace HB:=gh ((gf HB).trans hbu10)
 replace HZ:=gh (zkeep (gf HZ) hbu10 hrne)
 replace HX1:=gh (zkeep (gf HX1) hbu10 ne1)
 replace HT8:=gh ((gf HT8).keep (Stays.but hbu10 (by omega)) (Nat.le_refl _))
 replace HS:=gh (Nat.lt_of_lt_of_le (gf HS) hbu10.size)
 replace HQ1:=gh (Nat.lt_of_lt_of_le (gf HQ1) hbu10.size)
 have HX9:=gh hhB9
 have HEB9:=gh eB9
 have HSB9:=gh hsB9
 clear eB9 hbB9 hhB9 hsB9
 have hone9:=one_ls (gf HPT9) (gf HEB9) (by have:=gf HPQ9;omega)
 have HO9:=gh hone9
 clear hone9 HPT9 HPQ9
 have st11_0:=(blk (gf HX1)).2.1 2 _ rfl
 have sz11_0:=(blk (gf HX1)).2.2 2
 rw [←gf HEB9] at st11_0 sz11_0
 obtain ⟨V11,eV11⟩:∃ V,(B9.setCell ⟨w0.heap.size,2,none⟩ (.slice (some ⟨w8.heap.size,0,none⟩) 1 1))=V:=⟨_,rfl⟩
 have eN11:setN B9 w0.heap.size 2 [.slice (some ⟨w8.heap.size,0,none⟩) 1 1]=V11:=eV11
 replace HB:=gh (by rw [←eN11];exact But.setN [.slice (some ⟨w8.heap.size,0,none⟩) 1 1] B9 2 (gf HB) (by omega):But r w V11)
 replace HR:=gh (by rw [←eN11];exact (gf HR).setN (by omega) 2 [.slice (some ⟨w8.heap.size,0,none⟩) 1 1]:RD V11 r ts (q8) d)
 replace HZ:=gh (by rw [←eN11];exact (heap_setN (by omega) [.slice (some ⟨w8.heap.size,0,none⟩) 1 1] B9 2).trans (gf HZ):V11.heap[w.heap.size]?=some (.cells #[.int .i64 0,.string ⟨#[]⟩,.slice none 0 0,.int .i64 0] 54))
 replace HX1:=gh (by rw [←eN11];exact blk_setN [.slice (some ⟨w8.heap.size,0,none⟩) 1 1] B9 2 [.int .i64 1,.string T3,.slice none 0 0,.int .i64 at0] (gf HX1) (by simp):V11.heap[w0.heap.size]?=some (.cells #[.int .i64 1,.string T3,.slice (some ⟨w8.heap.size,0,none⟩) 1 1,.int .i64 at0] 54))
 replace HO9:=gh (eN11▸(gf HO9).keep (Stays.setN [.slice (some ⟨w8.heap.size,0,none⟩) 1 1] B9 2 (Stays.of (Below.refl _ _)) (by omega)) (Nat.le_refl _))
 have hsz11:V11.heap.size=B9.heap.size:=by rw [←eN11];exact size_setN [.slice (some ⟨w8.heap.size,0,none⟩) 1 1] B9 2
 replace HS:=gh (by rw [hsz11];exact gf HS:w.heap.size<V11.heap.size)
 replace HQ1:=gh (by rw [hsz11];exact gf HQ1:w0.heap.size<V11.heap.size)
 have HEV11:=gh eV11
 replace hsz11:=gh hsz11
 clear eV11 eN11
 have HC12:=gh (must_any (gf HR) (gf HT) (s:=⟨#[125]⟩) (by decide))
 go_wp2_with fail
 rw [gf HEB9,gf HEV11]
 refine (gf HC12).mono ?_
 intro e w12 h12
 rcases hX12:mustR ts ⟨#[125]⟩ (q8) with er | ⟨t12,q12⟩
 ·rw [hX12] at h12
  obtain ⟨ei,en⟩:=er
  have hYe:Y = .error (ei,en):=by have h:=gf HY;rw [hX12] at h;exact h.symm
  subst hYe
  obtain ⟨hb12,h12⟩:=h12
  obtain rfl:e=_:=h12
  have HP:=gh ((gf HB).trans hb12)
  clear hb12 HC12 hX12
  go_wp2
  exact ⟨rfl,gf HP,rfl⟩
 rw [hX12] at h12
 obtain ⟨hb12,hle12,hR12,v12,rfl,hv12⟩:=h12
 have hY12:=gf HY
 rw [hX12] at hY12
 simp only [thenR] at hY12
 replace HY:=gh hY12
 clear hY12
 obtain rfl:v12=_:=hv12
 replace HB:=gh ((gf HB).trans hb12)
 replace HZ:=gh (zkeep (gf HZ) hb12 hrne)
 replace HX1:=gh (zkeep (gf HX1) hb12 ne1)
 replace HO9:=gh ((gf HO9).keep (Stays.but hb12 (by omega)) (Nat.le_refl _))
 replace HS:=gh (Nat.lt_of_lt_of_le (gf HS) hb12.size)
 replace HQ1:=gh (Nat.lt_of_lt_of_le (gf HQ1) hb12.size)
 replace HR:=gh hR12
 replace HL:=gh (And.intro (Nat.le_trans (gf HL).1 hle12) (Nat.le_trans (gf HL).2 hle12))
 clear hb12 hle12 hR12 HC12 hX12
 have x0:=(blk (gf HX1)).2.1 0 _ rfl
 have x1:=(blk (gf HX1)).2.1 1 _ rfl
 have x2:=(blk (gf HX1)).2.1 2 _ rfl
 have x3:=(blk (gf HX1)).2.1 3 _ rfl
 have HF0:TyV w12 (w0.heap.size+1) (.agg #[.int .i64 1,.string T3,.slice (some ⟨w8.heap.size,0,none⟩) 1 1,.int .i64 at0]) (.mk 1 T3 [t8] at0):=⟨_,_,_,rfl,gf HO9⟩
 have HF:=gh HF0
 clear HF0
 have y0:=(blk (gf HZ)).2.1 0 _ rfl
 have z0:=(blk (gf HZ)).2.2 0
 have y1:=(blk (gf HZ)).2.1 1 _ rfl
 have z1:=(blk (gf HZ)).2.2 1
 have y2:=(blk (gf HZ)).2.1 2 _ rfl
 have z2:=(blk (gf HZ)).2.2 2
 have y3:=(blk (gf HZ)).2.1 3 _ rfl
 have z3:=(blk (gf HZ)).2.2 3
 go_wp2
 exact ret_row (cs:=[.int .i64 1,.string T3,.slice (some ⟨w8.heap.size,0,none⟩) 1 1,.int .i64 at0]) (xs:=[.int .i64 0,.string ⟨#[]⟩,.slice none 0 0,.int .i64 0]) TyV.keep rfl rfl rfl (gf HB) hr (gf HZ) rfl Tryz.underlying54 rfl (by kernel_rfl) (by have h:=gf HY;rw [gf HN0] at h;exact h.symm) (gf HL).1 (gf HR) (lo:=w0.heap.size+1) (by omega) (gf HF)
end Go.Proofs.YtfkfnbehdcmgeaaGreatDoor
namespace Go.Proofs.YtfkfnbehdcmgeaaGreatDoor
open Go Go.RowKit
set_option maxRecDepth 100000 in
set_option maxHeartbeats 8000000 in
theorem typeOf_of {r d lo:Nat} {ts:List (Int×ByteArray×Int)} (hT:TsOk ts) (hE:RuC 59 r ts d lo (exR ts)) {w:World} {p:Nat} (hlo:lo≤p) (hR:RD w r ts p d):Calls Tryz.prog 91 #[.pointer (some ⟨r,0,none⟩)] w (RP (fun w' v t=>TyV w' w.heap.size v t) (typeR ts p) r ts p d w):=by
 obtain ⟨Y,hY⟩:∃ Y,typeR ts p=Y:=⟨_,rfl⟩
 rw [hY]
 unfold typeR at hY
 have hr:=hR.rlt
 obtain ⟨A,eA,hbA,hsA,hzA⟩:=box_new w #[.int .i64 0,.string ⟨#[]⟩,.slice none 0 0,.int .i64 0] 54
 have HB:=gh (But.of (r:=r) hbA)
 have HR:=gh (hR.keep hbA)
 have HZ:=gh hzA
 have HS:Hid (w.heap.size<A.heap.size):=by show _<_;omega
 have HL:Hid (p≤p∧lo≤p):=⟨Nat.le_refl _,hlo⟩
 have HSA:=gh hsA
 have HE:=gh eA
 have HT:=gh hT
 have HY:=gh hY
 have hrne:r≠w.heap.size:=by omega
 replace hE:=gh hE
 clear hlo hR hbA hzA hsA eA hT hY
 go_enter Tryz.func91,Tryz.ntmps91
 have HC0:=gh (sees_any (gf HR) (gf HT) ⟨#[123]⟩)
 obtain ⟨bo0,hbo0⟩:∃ b,sees ts (p) ⟨#[123]⟩=b:=⟨_,rfl⟩
 rw [hbo0] at HC0
 have hY0:=gf HY
 rw [hbo0] at hY0
 replace HY:=gh hY0
 have HO0:=gh hbo0
 clear hY0 hbo0
 go_wp2_with fail
 rw [gf HE]
 refine (gf HC0).mono ?_
 rintro e w0 ⟨rfl,hb0⟩
 have hbu1:=But.of (r:=r) hb0
 replace HR:=gh ((gf HR).keep hb0)
 replace HB:=gh ((gf HB).trans hbu1)
 replace HZ:=gh (zkeep (gf HZ) hbu1 hrne)
 replace HS:=gh (Nat.lt_of_lt_of_le (gf HS) hbu1.size)
 clear hb0 HC0
 rcases bo0 with _ | _
 ·have hY0:=gf HY
  simp only [Bool.false_eq_true,if_false] at hY0
  replace HY:=gh hY0
  clear hY0
  have HC2:=gh (next_any (gf HR) (gf HT))
  unfold tkV at HC2
  obtain ⟨⟨kk2,T2,at2⟩,hN2⟩:∃ X,nx ts p=X:=⟨_,rfl⟩
  rw [hN2] at HC2
  have HN2:=gh hN2
  clear hN2
  go_wp2_with fail
  refine (gf HC2).mono ?_
  rintro e w2 ⟨rfl,hb2⟩
  have hbu3:=But.of (r:=r) hb2
  replace HR:=gh ((gf HR).keep hb2)
  replace HB:=gh ((gf HB).trans hbu3)
  replace HZ:=gh (zkeep (gf HZ) hbu3 hrne)
  replace HS:=gh (Nat.lt_of_lt_of_le (gf HS) hbu3.size)
  clear hb2 HC2
  have hf1:=fld1 (.int .i64 kk2) (.string T2) (.int .i64 at2)
  have htx:txt ts p=T2:=by unfold txt;rw [gf HN2]
  obtain ⟨o,ho⟩:∃ o,kindD T2=o:=⟨_,rfl⟩
  have HK:=kindOf_any T2 w2
  rw [ho] at HK
  replace HK:=gh HK
  go_wp2_with fail
  refine (gf HK).mono ?_
  rintro e w90 ⟨rfl,hb90⟩
  have hbu4:=But.of (r:=r) hb90
  replace HR:=gh ((gf HR).keep hb90)
  replace HB:=gh ((gf HB).trans hbu4)
  replace HZ:=gh (zkeep (gf HZ) hbu4 hrne)
  replace HS:=gh (Nat.lt_of_lt_of_le (gf HS) hbu4.size)
  clear hb90 HK
  by_cases ho0:o=0
  ·subst ho0
   have hY5:=gf HY
   rw [if_pos (by rw [htx];exact ho)] at hY5
   replace HY:=gh hY5
   clear hY5
   clear htx ho
   have HC6:=gh (refused_any (gf HR) (gf HT) 150)
   go_wp2_with fail
   refine (gf HC6).mono ?_
   rintro e w6 ⟨rfl,hb6⟩
   have hbu7:=But.of (r:=r) hb6
   replace HR:=gh ((gf HR).keep hb6)
   replace HB:=gh ((gf HB).trans hbu7)
   replace HZ:=gh (zkeep (gf HZ) hbu7 hrne)
   replace HS:=gh (Nat.lt_of_lt_of_le (gf HS) hbu7.size)
   clear hb6 HC6
   go_wp2
   obtain rfl:=gf HY
   exact ⟨rfl,gf HB,rfl⟩
  ·have g0:(o == 0)=false:=by simpa using ho0
   have g1:decide (o=0)=false:=by simpa using ho0
   have hp1:p+1<ts.length:=nx_txt (gf HT) (gf HR).lt (by rw [htx];exact kindD_txt (by rw [ho];exact ho0))
   have hY8:=gf HY
   rw [if_neg (by rw [htx,ho];exact ho0),htx,ho] at hY8
   replace HY:=gh hY8
   clear hY8
   replace hp1:=gh hp1
   clear htx ho ho0
   have HC9:=gh (take_any (gf HR) (gf HT) (gf hp1))
   unfold tkV at HC9
   obtain ⟨⟨kk9,T9,at9⟩,hN9⟩:∃ X,nx ts p=X:=⟨_,rfl⟩
   rw [hN9] at HC9
   have HN9:=gh hN9
   clear hN9
   go_wp2_with fail
   refine (gf HC9).mono ?_
   rintro e w9 ⟨rfl,hb9,hR9⟩
   replace HB:=gh ((gf HB).trans hb9)
   replace HZ:=gh (zkeep (gf HZ) hb9 hrne)
   replace HS:=gh (Nat.lt_of_lt_of_le (gf HS) hb9.size)
   replace HR:=gh hR9
   replace HL:Hid (p≤p+1∧lo+1≤p+1):=And.intro (Nat.le_succ_of_le (gf HL).1) (Nat.succ_le_succ (gf HL).2)
   clear hb9 hR9 HC9
   have hf2:=fld2 (.int .i64 kk9) (.string T9) (.int .i64 at9)
   have HF9:Hid (o=o):=rfl
   have HF0:TyV w9 (w.heap.size+1) (.agg #[.int .i64 o,.string ⟨#[]⟩,.slice none 0 0,.int .i64 at9]) (.mk o ⟨#[]⟩ [] at9):=⟨none,0,0,rfl,lsn⟩
   have HF:=gh HF0
   clear HF0
   have y0:=(blk (gf HZ)).2.1 0 _ rfl
   have z0:=(blk (gf HZ)).2.2 0
   have y1:=(blk (gf HZ)).2.1 1 _ rfl
   have z1:=(blk (gf HZ)).2.2 1
   have y2:=(blk (gf HZ)).2.1 2 _ rfl
   have z2:=(blk (gf HZ)).2.2 2
   have y3:=(blk (gf HZ)).2.1 3 _ rfl
   have z3:=(blk (gf HZ)).2.2 3
   go_wp2
   exact ret_row (cs:=[.int .i64 o,.string ⟨#[]⟩,.slice none 0 0,.int .i64 at9]) (xs:=[.int .i64 0,.string ⟨#[]⟩,.slice none 0 0,.int .i64 0]) TyV.keep rfl rfl rfl (gf HB) hr (gf HZ) rfl Tryz.underlying54 rfl (by kernel_rfl) (by have h:=gf HY;rw [gf HN9] at h;exact h.symm) (gf HL).1 (gf HR) (lo:=w.heap.size+1) (by omega) (gf HF)
 have hY0:=gf HY
 simp only [if_true] at hY0
 replace HY:=gh hY0
 clear hY0
 have hp1:p+1<ts.length:=nx_txt (gf HT) (gf HR).lt (by rw [sees_txt (gf HO0)];decide)
 replace hp1:=gh hp1
 have HC10:=gh (refinement_of (gf HT) (gf hE) (gf HL).2 (gf hp1) (gf HR))
 go_wp2_with fail
 refine (gf HC10).mono ?_
 intro e w10 h10
 rcases hX10:refR ts (p) with er | ⟨t10,q10⟩
 ·rw [hX10] at h10
  obtain ⟨ei,en⟩:=er
  have hYe:Y = .error (ei,en):=by have h:=gf HY;rw [hX10] at h;exact h.symm
  subst hYe
  obtain ⟨hb10,h10⟩:=h10
  obtain rfl:e=_:=h10
  have HP:=gh ((gf HB).trans hb10)
  clear hb10 HC10 hX10
  go_wp2
  exact ⟨rfl,gf HP,rfl⟩
 rw [hX10] at h10
 obtain ⟨hb10,hle10,hR10,v10,rfl,hv10⟩:=h10
 have hY10:=gf HY
 rw [hX10] at hY10
 replace HY:=gh hY10
 clear hY10
 obtain ⟨a10,n10,c10,rfl,hv10⟩:=hv10
 have HT10:=gh (hv10.keep (lo':=w.heap.size+1) (Stays.of (Below.refl _ _)) (gf HS))
 replace HB:=gh ((gf HB).trans hb10)
 replace HZ:=gh (zkeep (gf HZ) hb10 hrne)
 replace HS:=gh (Nat.lt_of_lt_of_le (gf HS) hb10.size)
 replace HR:=gh hR10
 replace HL:=gh (And.intro (Nat.le_trans (gf HL).1 hle10) (Nat.le_trans (gf HL).2 hle10))
 clear hb10 hle10 hR10 hv10 HC10 hX10
 have HF0:TyV w10 (w.heap.size+1) (.agg #[.int .i64 t10.kind,.string t10.name,.slice a10 n10 c10,.int .i64 t10.at']) t10:=⟨_,_,_,rfl,gf HT10⟩
 have HF:=gh HF0
 clear HF0
 have y0:=(blk (gf HZ)).2.1 0 _ rfl
 have z0:=(blk (gf HZ)).2.2 0
 have y1:=(blk (gf HZ)).2.1 1 _ rfl
 have z1:=(blk (gf HZ)).2.2 1
 have y2:=(blk (gf HZ)).2.1 2 _ rfl
 have z2:=(blk (gf HZ)).2.2 2
 have y3:=(blk (gf HZ)).2.1 3 _ rfl
 have z3:=(blk (gf HZ)).2.2 3
 go_wp2
 exact ret_row (cs:=[.int .i64 t10.kind,.string t10.name,.slice a10 n10 c10,.int .i64 t10.at']) (xs:=[.int .i64 0,.string ⟨#[]⟩,.slice none 0 0,.int .i64 0]) TyV.keep rfl rfl rfl (gf HB) hr (gf HZ) rfl Tryz.underlying54 rfl (by kernel_rfl) (by have h:=gf HY;exact h.symm) (gf HL).1 (gf HR) (lo:=w.heap.size+1) (by omega) (gf HF)
end Go.Proofs.YtfkfnbehdcmgeaaGreatDoor
namespace Go.Proofs.YtfkfnbehdcmgeaaGreatDoor
open Go Go.RowKit
def LsP (w:World) (P:Nat→Prop) (v:Value) (l:List Ex):Prop:=∃ h a c,v = .slice a l.length c∧RowX w P a l.length c fun b o j=>∀ t,l[j]?=some t→ExAt w P h b o t
theorem LsP.keep {w w':World} {P P':Nat→Prop} {v:Value} {l:List Ex} (h:LsP w P v l) (hb:StaysP P w w') (hl:∀ b,P b→P' b):LsP w' P' v l:=by
 obtain ⟨k,a,c,e,h2⟩:=h
 exact ⟨k,a,c,e,h2.mono hb.1 hl fun b o j hr hbl hj t ht=>ExAt.keep hb hl k b o t hr hbl (hj t ht)⟩
theorem LsP.bnd {w:World} {P:Nat→Prop} {v:Value} {l:List Ex} (h:LsP w P v l):LsP w (fun b=>P b∧b<w.heap.size) v l:=by
 obtain ⟨k,a,c,e,h1,h2,h3⟩:=h
 refine ⟨k,a,c,e,h1,h2,fun h0 => ?_⟩
 obtain ⟨b,off,e,hr,hb,hj⟩:=h3 h0
 exact ⟨b,off,e,⟨hr,hb⟩,hb,fun j hjn t ht=>ExAt.bnd k _ _ t (hj j hjn t ht)⟩
def TyP (w:World) (P:Nat→Prop) (v:Value) (t:Ty):Prop:=∃ a n c,v = .agg #[.int .i64 t.kind,.string t.name,.slice a n c,.int .i64 t.at']∧LsP w P (.slice a n c) t.r
theorem TyP.keep {w w':World} {P P':Nat→Prop} {v:Value} {t:Ty} (h:TyP w P v t) (hb:StaysP P w w') (hl:∀ b,P b→P' b):TyP w' P' v t:=by
 obtain ⟨a,n,c,e,h⟩:=h
 exact ⟨a,n,c,e,h.keep hb hl⟩
theorem TyP.bnd {w:World} {P:Nat→Prop} {v:Value} {t:Ty} (h:TyP w P v t):TyP w (fun b=>P b∧b<w.heap.size) v t:=by
 obtain ⟨a,n,c,e,h⟩:=h
 exact ⟨a,n,c,e,h.bnd⟩
theorem TyV.toP {w:World} {lo:Nat} {v:Value} {t:Ty} (h:TyV w lo v t):TyP w (fun b=>lo≤b) v t:=h
section
variable {X:Exit→Act→World→Prop} {K:Act→World→Prop} {a0:Act} {w:World} {dst:Option Tmp} {ty:TypeId} {pos:String} {af:Array Edge} {gd:Option (Nat×Bool)}
set_option maxRecDepth 100000 in
set_option maxHeartbeats 4000000 in
theorem op_bldP {k1 k2 k3:Nat} {T n:ByteArray} {k i ai:Int} {a:Option Addr} {m c:Nat} (h1:a0.tmps.getD k1 undef = .string T) (h2:a0.tmps.getD k2 undef = .agg #[.int .i64 k,.string n,.slice a m c,.int .i64 i]) (h3:a0.tmps.getD k3 undef = .int .i64 ai) (h:K (a0.put dst (.agg #[.string T,.int .i64 k,.string n,.slice a m c,.int .i64 i,.int .i64 ai])) w):Oper.wp Tryz.prog ⟨dst,.build 81 #[(0,.tmp k1),(1,.tmp k2),(2,.tmp k3)],ty,pos,af,gd⟩ a0 w K X:=by
 have e1:a0.eval (.tmp k1) = .string T:=h1
 have e2:a0.eval (.tmp k2) = .agg #[.int .i64 k,.string n,.slice a m c,.int .i64 i]:=h2
 have e3:a0.eval (.tmp k3) = .int .i64 ai:=h3
 unfold Oper.wp
 simp only [execOp,List.map_toArray,List.map_cons,List.map_nil,e1,e2,e3]
 go_simp
 exact h
set_option maxRecDepth 100000 in
set_option maxHeartbeats 4000000 in
theorem op_alP (h:K (a0.put dst (.pointer (some ⟨w.heap.size,0,none⟩))) (w.alloc (.cells #[.string ⟨#[]⟩,.int .i64 0,.string ⟨#[]⟩,.slice none 0 0,.int .i64 0,.int .i64 0] 81))):Oper.wp Tryz.prog ⟨dst,.alloc 81,ty,pos,af,gd⟩ a0 w K X:=by
 unfold Oper.wp
 go_simp
 exact h
set_option maxRecDepth 100000 in
set_option maxHeartbeats 4000000 in
theorem op_stP {k1 k2 q:Nat} {T n:ByteArray} {k i ai:Int} {a:Option Addr} {m c:Nat} (h1:a0.tmps.getD k1 undef = .pointer (some ⟨q,0,none⟩)) (h2:a0.tmps.getD k2 undef = .agg #[.string T,.int .i64 k,.string n,.slice a m c,.int .i64 i,.int .i64 ai]) (hz:w.heap[q]?=some (.cells #[.string ⟨#[]⟩,.int .i64 0,.string ⟨#[]⟩,.slice none 0 0,.int .i64 0,.int .i64 0] 81)) (h:K a0 (setN w q 0 [.string T,.int .i64 k,.string n,.slice a m c,.int .i64 i,.int .i64 ai])):Oper.wp Tryz.prog ⟨none,.store 81 (.tmp k1) (.tmp k2),ty,pos,af,gd⟩ a0 w K X:=by
 have e1:a0.eval (.tmp k1) = .pointer (some ⟨q,0,none⟩):=h1
 have e2:a0.eval (.tmp k2) = .agg #[.string T,.int .i64 k,.string n,.slice a m c,.int .i64 i,.int .i64 ai]:=h2
 have y0:=(blk hz).2.1 0 _ rfl
 have z0:=(blk hz).2.2 0
 have y1:=(blk hz).2.1 1 _ rfl
 have z1:=(blk hz).2.2 1
 have y2:=(blk hz).2.1 2 _ rfl
 have z2:=(blk hz).2.2 2
 have y3:=(blk hz).2.1 3 _ rfl
 have z3:=(blk hz).2.2 3
 have y4:=(blk hz).2.1 4 _ rfl
 have z4:=(blk hz).2.2 4
 have y5:=(blk hz).2.1 5 _ rfl
 have z5:=(blk hz).2.2 5
 have h9:K a0 ((((((w.setCell ⟨q,0,none⟩ (.string T)).setCell ⟨q,1,none⟩ (.int .i64 k)).setCell ⟨q,2,none⟩ (.string n)).setCell ⟨q,3,none⟩ (.slice a m c)).setCell ⟨q,4,none⟩ (.int .i64 i)).setCell ⟨q,5,none⟩ (.int .i64 ai)):=h
 clear h
 unfold Oper.wp
 simp only [execOp,e1,e2]
 simp [go_sem,y0,y1,y2,y3,y4,y5,z0,z1,z2,z3,z4,z5]
 exact h9
end
def cTy (W:World) (r:Nat) (ts:List (Int×ByteArray×Int)) (p d:Nat) (X:(Except (Int×Int) (Ty×Nat))) (P:Nat→Prop) (v:Value) (w:World):Prop:=∃ t q,X = .ok (t,q)∧But r W w∧RD w r ts q d∧p≤q∧TyP w P v t
def stP (W:World) (r:Nat) (ts:List (Int×ByteArray×Int)) (p d:Nat) (X:(Except (Int×Int) (Ty×Nat))) (T:ByteArray) (ai:Int) (L:Nat→Bool) (s:Nat→Value) (w:World):Prop:=
 (L 6=true→∃ k n a m c i,s 3 = .agg #[.int .i64 k,.string n,.slice a m c,.int .i64 i]∧s 6 = .agg #[.string T,.int .i64 k,.string n,.slice a m c,.int .i64 i,.int .i64 ai]) ∧
 (L 8=true→∃ qb W2 k n a m c i,s 3 = .agg #[.int .i64 k,.string n,.slice a m c,.int .i64 i]∧s 7 = .pointer (some ⟨qb,0,none⟩)∧W.heap.size≤qb∧W2.heap[qb]?=some (.cells #[.string ⟨#[]⟩,.int .i64 0,.string ⟨#[]⟩,.slice none 0 0,.int .i64 0,.int .i64 0] 81)∧cTy W r ts p d X (fun b=>W.heap.size≤b∧b≠qb) (s 3) W2∧w=setN W2 qb 0 [.string T,.int .i64 k,.string n,.slice a m c,.int .i64 i,.int .i64 ai]) ∧
 (L 8=false→L 3=false→L 7=false→w=W.drew) ∧
 (L 8=false→L 3=false→L 7=true→s 7 = .pointer (some ⟨W.heap.size,0,none⟩)∧w=(W.drew.alloc (.cells #[.string ⟨#[]⟩,.int .i64 0,.string ⟨#[]⟩,.slice none 0 0,.int .i64 0,.int .i64 0] 81))) ∧
 (L 8=false→L 3=true→L 7=false→cTy W r ts p d X (fun b=>W.heap.size≤b) (s 3) w) ∧
 (L 8=false→L 3=true→L 7=true→∃ qb,s 7 = .pointer (some ⟨qb,0,none⟩)∧W.heap.size≤qb∧w.heap[qb]?=some (.cells #[.string ⟨#[]⟩,.int .i64 0,.string ⟨#[]⟩,.slice none 0 0,.int .i64 0,.int .i64 0] 81)∧cTy W r ts p d X (fun b=>W.heap.size≤b∧b≠qb) (s 3) w)
theorem cTy.at {W:World} {r:Nat} {ts:List (Int×ByteArray×Int)} {p d:Nat} {X:(Except (Int×Int) (Ty×Nat))} {P:Nat→Prop} {v:Value} {w:World} (h:cTy W r ts p d X P v w) {q:Nat} (hq:q<W.heap.size) (hr:r≠q):w.heap[q]?=W.heap[q]?:=by
 obtain ⟨t,z,-,hb,-⟩:=h
 exact hb.block q hq (Ne.symm hr)
theorem stP_at {W:World} {r:Nat} {ts:List (Int×ByteArray×Int)} {p d:Nat} {X:(Except (Int×Int) (Ty×Nat))} {T:ByteArray} {ai:Int} {L:Nat→Bool} {s:Nat→Value} {w:World} (h:stP W r ts p d X T ai L s w) {q:Nat} (hq:q<W.heap.size) (hr:r≠q):w.heap[q]?=W.heap[q]?:=by
 obtain ⟨-,h8,h1,h2,h3,h4⟩:=h
 have hA:Below W.heap.size W (W.drew.alloc (.cells #[.string ⟨#[]⟩,.int .i64 0,.string ⟨#[]⟩,.slice none 0 0,.int .i64 0,.int .i64 0] 81)):=((Below.refl _ W).drew).alloc (Nat.le_refl _) _
 cases e8:L 8 with
 |true =>
  obtain ⟨qb,W2,k,n,a,m,c,i,-,-,hqb,-,hc,rfl⟩:=h8 e8
  rw [heap_setN (by omega)]
  exact hc.at hq hr
 |false =>
  cases e3:L 3 with
  |false =>
   cases e7:L 7 with
   |false=>rw [h1 e8 e3 e7];rfl
   |true=>rw [(h2 e8 e3 e7).2];exact hA.block q hq
  |true =>
   cases e7:L 7 with
   |false=>exact (h3 e8 e3 e7).at hq hr
   |true =>
    obtain ⟨qb,-,-,-,hc⟩:=h4 e8 e3 e7
    exact hc.at hq hr
theorem enter_typeOf:Enters Tryz.prog 91:=⟨fun xs w=>by go_simp⟩
set_option maxRecDepth 100000 in
set_option maxHeartbeats 8000000 in
theorem param_r4 {Q:Exit→Act→World→Prop} {a0:Act} {W:World} {r p d q3:Nat} {ts:List (Int×ByteArray×Int)} {X:(Except (Int×Int) (Ty×Nat))} {kk ai:Int} {T:ByteArray} (hN:a0.tmps.size=21) (h0:a0.tmps[0]?=some (.pointer (some ⟨r,0,none⟩))) (h3:a0.tmps[3]?=some (.pointer (some ⟨q3,0,none⟩)))
  (b3:W.heap[q3]?=some (.cells #[.int .i64 kk,.string T,.int .i64 ai] 74)) (n1:r≠q3) (hr:r<W.heap.size) (hC:∀ W',Below W.heap.size W W'→Calls Tryz.prog 91 #[.pointer (some ⟨r,0,none⟩)] W' (RP (fun w' v t=>TyV w' W'.heap.size v t) X r ts p d W'))
  (herr:∀ (a:Act) (w:World) (ei en:Int),X = .error (ei,en)→a.defers=a0.defers→But r W w→Q (.panic [{ v:=.iface 89 (.agg #[.int .i64 ei,.int .i64 en]),recovered:=false }]) a w)
  (hend:∀ (a:Act) (W2:World) (t:Ty) (q qb:Nat) (k:Int) (n:ByteArray) (ad:Option Addr) (m c:Nat) (i:Int),X = .ok (t,q)→a.defers=a0.defers→(∀ k,k∈((List.range 21).filter fun i => !([11,12,13,14,15,16,17,4].contains i))→a.tmps[k]?=a0.tmps[k]?)→a.tmps[4]?=some (.pointer (some ⟨qb,0,none⟩))→a.tmps.size=21→W.heap.size≤qb→W2.heap[qb]?=some (.cells #[.string ⟨#[]⟩,.int .i64 0,.string ⟨#[]⟩,.slice none 0 0,.int .i64 0,.int .i64 0] 81)→But r W W2→RD W2 r ts q d→p≤q→TyP W2 (fun b=>W.heap.size≤b∧b≠qb) (.agg #[.int .i64 k,.string n,.slice ad m c,.int .i64 i]) t→Q .normal a (setN W2 qb 0 [.string T,.int .i64 k,.string n,.slice ad m c,.int .i64 i,.int .i64 ai])) :
  (Code.region 4 (regionOf Tryz.f105 4).toArray true).wp Tryz.prog Q a0 W:=by
 have hl:(regionOf Tryz.f105 4).length=9:=by kernel_rfl
 have hds:((List.range 8).all fun i=>((regionOf Tryz.f105 4).getD i default).dst.isSome)=true:=by kernel_rfl
 have hk3:3∈((List.range 21).filter fun i => !([11,12,13,14,15,16,17,4].contains i)):=by decide
 have hk0:0∈((List.range 21).filter fun i => !([11,12,13,14,15,16,17,4].contains i)):=by decide
 refine wp_region_any (by kernel_rfl) ?_
 refine seqP (l:=(regionOf Tryz.f105 4)) 21 ((List.range 21).filter fun i => !([11,12,13,14,15,16,17,4].contains i)) (fun j v=>(j=0→v = .pointer (some ⟨q3,1,none⟩))∧(j=1→v = .string T)∧(j=2→v = .pointer (some ⟨r,0,none⟩))∧(j=4→v = .pointer (some ⟨q3,2,none⟩))∧(j=5→v = .int .i64 ai)) (fun j=>j == 3 || j == 6 || j == 7 || j == 8) (stP W r ts p d X T ai) (by kernel_rfl) hN ?_ ?_ ?_ ?_ ?_ ?_ ?_
 ·intro i hi
  rw [hl]
  simp at hi
  omega
 ·refine ⟨fun h => ?_,fun h => ?_,fun _ _ _ => ?_,fun _ _ h => ?_,fun _ h => ?_,fun _ h => ?_⟩
  ·cases h
  ·cases h
  ·rfl
  ·cases h
  ·cases h
  ·cases h
 ·intro L L' s s' w h hs
  have l3:=(h 3 (by decide)).1
  have l6:=(h 6 (by decide)).1
  have l7:=(h 7 (by decide)).1
  have l8:=(h 8 (by decide)).1
  have s3:=(h 3 (by decide)).2 (by kernel_rfl)
  have s6:=(h 6 (by decide)).2 (by kernel_rfl)
  have s7:=(h 7 (by decide)).2 (by kernel_rfl)
  unfold stP at hs ⊢
  rw [←l3,←l6,←l7,←l8,←s3,←s6,←s7]
  exact hs
 ·intro i o ho hd
  have hi:i<9:=by rw [←hl];exact (List.getElem?_eq_some_iff.1 ho).1
  have he:(regionOf Tryz.f105 4).getD i default=o:=by simp [List.getD,ho]
  rcases Nat.lt_or_ge i 8 with h | h
  ·have:=List.all_eq_true.1 hds i (List.mem_range.2 h)
   rw [he,hd] at this
   cases this
  ·obtain rfl:i=8:=by omega
   exact ⟨by decide,fun v=>⟨(fun h=>absurd h (by decide)),(fun h=>absurd h (by decide)),(fun h=>absurd h (by decide)),(fun h=>absurd h (by decide)),(fun h=>absurd h (by decide))⟩⟩
 ·intro i hi hni a w L hd hsz hk hp hs
  rw [hl] at hi
  have hii:i=0∨i=1∨i=2∨i=4∨i=5:=by simp at hni;omega
  have ke3:a.eval (.tmp 3) = .pointer (some ⟨q3,0,none⟩):=getD_of ((hk 3 hk3).trans h3)
  have ke0:a.eval (.tmp 0) = .pointer (some ⟨r,0,none⟩):=getD_of ((hk 0 hk0).trans h0)
  have cc:=(stP_at hs (blk b3).1 n1).trans b3
  rcases hii with rfl | rfl | rfl | rfl | rfl
  ·exact st_want (wnone rfl) (op_fieldAddr ke3 (fa_tok q3 1 w (by omega)) ⟨_,rfl,rfl,⟨fun _=>rfl,(fun h=>absurd h (by decide)),(fun h=>absurd h (by decide)),(fun h=>absurd h (by decide)),(fun h=>absurd h (by decide))⟩⟩)
  ·have e1:a.eval (.tmp 11) = .pointer (some ⟨q3,1,none⟩):=(hp 0 (by kernel_rfl)).1 rfl
   exact st_want (wnone rfl) (op_load e1 (ld_str ((blk cc).2.1 1 _ rfl)) ⟨_,rfl,rfl,⟨(fun h=>absurd h (by decide)),fun _=>rfl,(fun h=>absurd h (by decide)),(fun h=>absurd h (by decide)),(fun h=>absurd h (by decide))⟩⟩)
  ·exact st_want (wnone rfl) (op_move ⟨_,rfl,rfl,⟨(fun h=>absurd h (by decide)),(fun h=>absurd h (by decide)),fun _=>ke0,(fun h=>absurd h (by decide)),(fun h=>absurd h (by decide))⟩⟩)
  ·exact st_want (wnone rfl) (op_fieldAddr ke3 (fa_tok q3 2 w (by omega)) ⟨_,rfl,rfl,⟨(fun h=>absurd h (by decide)),(fun h=>absurd h (by decide)),(fun h=>absurd h (by decide)),fun _=>rfl,(fun h=>absurd h (by decide))⟩⟩)
  ·have e1:a.eval (.tmp 15) = .pointer (some ⟨q3,2,none⟩):=(hp 4 (by kernel_rfl)).2.2.2.1 rfl
   exact st_want (wnone rfl) (op_load e1 (ld_int ((blk cc).2.1 2 _ rfl)) ⟨_,rfl,rfl,⟨(fun h=>absurd h (by decide)),(fun h=>absurd h (by decide)),(fun h=>absurd h (by decide)),(fun h=>absurd h (by decide)),fun _=>rfl⟩⟩)
 ·intro i hi a w L hd hsz hk hp hLi hdown hs
  have hi4:i=3∨i=6∨i=7∨i=8:=by simp at hi;omega
  obtain ⟨g6,g8,g1,g2,g3,g4⟩:=hs
  have dn:∀ j k,j<9→L j=true→(preds ((regionOf Tryz.f105 4).getD j default)).contains k=true→L k=true:=fun j k hj h1 h2=>hdown j (by rw [hl];exact hj) h1 k h2
  rcases hi4 with rfl | rfl | rfl | rfl
  ·have h8:L 8=false:=by
    cases e:L 8 with
    |false=>rfl
    |true=>have:=dn 8 3 (by omega) e (by kernel_rfl);rw [hLi] at this;cases this
   have h6:L 6=false:=by
    cases e:L 6 with
    |false=>rfl
    |true=>have:=dn 6 3 (by omega) e (by kernel_rfl);rw [hLi] at this;cases this
   have e1:a.tmps.getD 13 undef = .pointer (some ⟨r,0,none⟩):=(hp 2 (by kernel_rfl)).2.2.2.1 rfl
   have hargs:(#[Operand.tmp 13]).map a.eval = #[.pointer (some ⟨r,0,none⟩)]:=by
    simp only [List.map_toArray,List.map_cons,List.map_nil,Act.eval]
    rw [e1]
   have hB:Below W.heap.size W w:=by
    cases e7:L 7 with
    |false=>rw [g1 h8 hLi e7];exact (Below.refl _ W).drew
    |true=>rw [(g2 h8 hLi e7).2];exact ((Below.refl _ W).drew).alloc (Nat.le_refl _) _
   refine st_want (wnone rfl) (op_callP enter_typeOf ?_)
   rw [hargs]
   refine (hC w hB).mono ?_
   intro e w' h'
   rcases hX:X with er | ⟨t,q⟩
   ·rw [hX] at h'
    obtain ⟨ei,en⟩:=er
    obtain ⟨hb,h'⟩:=h'
    obtain rfl:e=_:=h'
    exact .inr ⟨_,rfl,herr a w' ei en hX hd ((But.of hB).trans hb)⟩
   ·rw [hX] at h'
    obtain ⟨hb,hle,hR,v,rfl,hv⟩:=h'
    refine .inl ⟨v,rfl,v,rfl,(fun _=>⟨(fun h=>absurd h (by decide)),(fun h=>absurd h (by decide)),(fun h=>absurd h (by decide)),(fun h=>absurd h (by decide)),(fun h=>absurd h (by decide))⟩),?_⟩
    have hu:∀ j,j≠3→upL L 3 j=L j:=fun j h=>upL_other h
    refine ⟨fun h => ?_,fun h => ?_,fun _ h => ?_,fun _ h => ?_,fun _ _ h => ?_,fun _ _ h => ?_⟩
    ·rw [hu 6 (by decide),h6] at h;cases h
    ·rw [hu 8 (by decide),h8] at h;cases h
    ·rw [upL_same] at h;cases h
    ·rw [upL_same] at h;cases h
    ·rw [upS_same]
     exact ⟨t,q,by first | rfl | exact hX,(But.of hB).trans hb,hR,hle,hv.toP.keep ⟨Nat.le_refl _,fun _ _ _=>rfl⟩ fun b h=>Nat.le_trans hB.size h⟩
    ·rw [hu 7 (by decide)] at h
     obtain ⟨h1,h2⟩:=g2 h8 hLi h
     have hsz2:w.heap.size=W.heap.size+1:=by rw [h2];simp
     refine ⟨W.heap.size,by rw [upS_other (by decide)];exact h1,Nat.le_refl _,?_,?_⟩
     ·refine (hb.block _ (by omega) (by omega)).trans ?_
      rw [h2]
      exact (MapKept.heap_alloc W.drew _).1
     ·rw [upS_same]
      exact ⟨t,q,by first | rfl | exact hX,(But.of hB).trans hb,hR,hle,hv.toP.keep ⟨Nat.le_refl _,fun _ _ _=>rfl⟩ fun b h=>⟨by omega,by omega⟩⟩
  ·have h3':=(hp 3 (by kernel_rfl)).1
   have h8:L 8=false:=by
    cases e:L 8 with
    |false=>rfl
    |true=>have:=dn 8 6 (by omega) e (by kernel_rfl);rw [hLi] at this;cases this
   have e1:a.tmps.getD 12 undef = .string T:=(hp 1 (by kernel_rfl)).2.2.1 rfl
   have e3:a.tmps.getD 16 undef = .int .i64 ai:=(hp 5 (by kernel_rfl)).2.2.2.2.2 rfl
   have hty:∃ k n ad m c i,slotOf (regionOf Tryz.f105 4).toArray a 3 = .agg #[.int .i64 k,.string n,.slice ad m c,.int .i64 i]:=by
    cases e7:L 7 with
    |false =>
     obtain ⟨t,q,-,-,-,-,ad,m,c,e,-⟩:=g3 h8 h3' e7
     exact ⟨_,_,_,_,_,_,e⟩
    |true =>
     obtain ⟨qb,-,-,-,t,q,-,-,-,-,ad,m,c,e,-⟩:=g4 h8 h3' e7
     exact ⟨_,_,_,_,_,_,e⟩
   obtain ⟨k,n,ad,m,c,i,e2⟩:=hty
   have e2':a.tmps.getD 14 undef = .agg #[.int .i64 k,.string n,.slice ad m c,.int .i64 i]:=e2
   refine st_want (wnone rfl) (op_bldP e1 e2' e3 ⟨_,rfl,(fun _=>⟨(fun h=>absurd h (by decide)),(fun h=>absurd h (by decide)),(fun h=>absurd h (by decide)),(fun h=>absurd h (by decide)),(fun h=>absurd h (by decide))⟩),?_⟩)
   have hu:∀ j,j≠6→upL L 6 j=L j:=fun j h=>upL_other h
   refine ⟨fun _=>⟨k,n,ad,m,c,i,by rw [upS_other (by decide)];exact e2,upS_same _ _ _⟩,?_⟩
   rw [hu 8 (by decide),hu 3 (by decide),hu 7 (by decide),upS_other (by decide),upS_other (by decide)]
   exact ⟨g8,g1,g2,g3,g4⟩
  ·have h8:L 8=false:=by
    cases e:L 8 with
    |false=>rfl
    |true=>have:=dn 8 7 (by omega) e (by kernel_rfl);rw [hLi] at this;cases this
   refine st_want (wnone rfl) (op_alP ⟨_,rfl,(fun _=>⟨(fun h=>absurd h (by decide)),(fun h=>absurd h (by decide)),(fun h=>absurd h (by decide)),(fun h=>absurd h (by decide)),(fun h=>absurd h (by decide))⟩),?_⟩)
   have hu:∀ j,j≠7→upL L 7 j=L j:=fun j h=>upL_other h
   refine ⟨fun h => ?_,fun h => ?_,fun _ _ h => ?_,fun _ h _ => ?_,fun _ _ h => ?_,fun _ h _ => ?_⟩
   ·rw [hu 6 (by decide)] at h
    rw [upS_other (by decide),upS_other (by decide)]
    exact g6 h
   ·rw [hu 8 (by decide),h8] at h;cases h
   ·rw [upL_same] at h;cases h
   ·rw [hu 3 (by decide)] at h
    have hw:=g1 h8 h hLi
    rw [upS_same,hw]
    exact ⟨rfl,rfl⟩
   ·rw [upL_same] at h;cases h
   ·rw [hu 3 (by decide)] at h
    obtain ⟨t,q,hX,hb,hR,hle,hv⟩:=g3 h8 h hLi
    have hB:Below w.heap.size w (w.alloc (.cells #[.string ⟨#[]⟩,.int .i64 0,.string ⟨#[]⟩,.slice none 0 0,.int .i64 0,.int .i64 0] 81)):=(Below.refl _ w).alloc (Nat.le_refl _) _
    rw [upS_same,upS_other (by decide)]
    exact ⟨w.heap.size,rfl,hb.size,(MapKept.heap_alloc w _).1,t,q,hX,hb.trans (But.of hB),hR.keep hB,hle,hv.bnd.keep ⟨hB.size,fun k hk hs=>hB.block k hs⟩ fun b h=>⟨h.1,by have:=h.2;omega⟩⟩
  ·have h3':=(hp 3 (by kernel_rfl)).1
   have h7':=(hp 7 (by kernel_rfl)).1
   have h6':=(hp 6 (by kernel_rfl)).1
   obtain ⟨k,n,ad,m,c,i,e2,e6⟩:=g6 h6'
   obtain ⟨qb,e7,hqb,hz,hc⟩:=g4 hLi h3' h7'
   have e7':a.tmps.getD 4 undef = .pointer (some ⟨qb,0,none⟩):=e7
   have e6':a.tmps.getD 17 undef = .agg #[.string T,.int .i64 k,.string n,.slice ad m c,.int .i64 i,.int .i64 ai]:=e6
   refine st_want (wnone rfl) (op_stP e7' e6' hz ⟨undef,rfl,(fun h=>absurd (show false=true from h) (by decide)),?_⟩)
   have hu:∀ j,j≠8→upL L 8 j=L j:=fun j h=>upL_other h
   refine ⟨fun _ => ?_,fun _ => ?_,fun h => ?_,fun h => ?_,fun h => ?_,fun h => ?_⟩
   ·rw [upS_other (by decide),upS_other (by decide)]
    exact ⟨k,n,ad,m,c,i,e2,e6⟩
   ·rw [upS_other (by decide),upS_other (by decide)]
    exact ⟨qb,w,k,n,ad,m,c,i,e2,e7,hqb,hz,hc,rfl⟩
   ·rw [upL_same] at h;cases h
   ·rw [upL_same] at h;cases h
   ·rw [upL_same] at h;cases h
   ·rw [upL_same] at h;cases h
 ·intro a w hd hsz hk hp hs
  obtain ⟨qb,W2,k,n,ad,m,c,i,e2,e7,hqb,hz,⟨t,q,hX,hb,hR,hle,hv⟩,rfl⟩:=hs.2.1 rfl
  have e7':a.tmps.getD 4 undef = .pointer (some ⟨qb,0,none⟩):=e7
  have hk4:a.tmps[4]?=some (.pointer (some ⟨qb,0,none⟩)):=by
   have h1:4<a.tmps.size:=by omega
   rw [Array.getD_eq_getD_getElem?,Array.getElem?_eq_getElem h1] at e7'
   rw [Array.getElem?_eq_getElem h1]
   exact congrArg some e7'
  rw [e2] at hv
  exact hend a W2 t q qb k n ad m c i hX hd hk hk4 hsz hqb hz hb hR hle hv
end Go.Proofs.YtfkfnbehdcmgeaaGreatDoor
