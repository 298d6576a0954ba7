/- Package parse: a cell. -/
import Derived.Test.YtfkfnbehdcmgeaaGreatDoorZAM
set_option linter.unusedVariables false
set_option linter.unusedSimpArgs false
namespace Go.Proofs.YtfkfnbehdcmgeaaGreatDoor
open Go Go.RowKit
def setAll (x:Nat→Value):List Nat→Array Value→Array Value
 |[],t=>t
 |k::ks,t=>setAll x ks (t.setIfInBounds k (x k))
theorem setAll_size (x:Nat→Value):∀ (ks:List Nat) (t:Array Value),(setAll x ks t).size=t.size
 |[],_=>rfl
 |k::ks,t=>by
  show (setAll x ks (t.setIfInBounds k (x k))).size=t.size
  rw [setAll_size x ks,Array.size_setIfInBounds]
theorem setAll_off (x:Nat→Value) {i:Nat}:∀ (ks:List Nat) (t:Array Value),i ∉ ks→(setAll x ks t)[i]?=t[i]?
 |[],_,_=>rfl
 |k::ks,t,h=>by
  show (setAll x ks (t.setIfInBounds k (x k)))[i]?=t[i]?
  rw [setAll_off x ks _ (fun e=>h (List.mem_cons_of_mem _ e)),Array.getElem?_setIfInBounds,if_neg fun e=>h (by rw [e];exact List.mem_cons_self)]
theorem setAll_on (x:Nat→Value) {i:Nat}:∀ (ks:List Nat) (t:Array Value),i∈ks→i<t.size→(setAll x ks t)[i]?=some (x i)
 |k::ks,t,h,hi=>by
  show (setAll x ks (t.setIfInBounds k (x k)))[i]?=some (x i)
  by_cases hm:i∈ks
  ·exact setAll_on x ks _ hm (by rw [Array.size_setIfInBounds];exact hi)
  ·obtain rfl:i=k:=(List.mem_cons.1 h).resolve_right hm
   rw [setAll_off x ks _ hm,Array.getElem?_setIfInBounds,if_pos rfl,if_pos hi]
theorem act_set {N:Nat} {kept:List Nat} (ks:List Nat) {a a0:Act} (hc:((List.range N).all fun i=>kept.contains i || ks.contains i)=true) (hd:a.defers=a0.defers) (hn:a.tmps.size=N) (hN:a0.tmps.size=N) (hk:∀ k,k∈kept→a.tmps[k]?=a0.tmps[k]?):∃ x:Nat→Value,a=⟨setAll x ks a0.tmps,a0.defers⟩∧∀ i,x i=a.tmps.getD i undef:=by
 refine ⟨fun i=>a.tmps.getD i undef,?_,fun _=>rfl⟩
 obtain ⟨tm,df⟩:=a
 simp only at hd hn hk ⊢
 rw [hd]
 congr 1
 refine Array.ext_getElem? fun i => ?_
 by_cases h:i<N
 ·by_cases hm:i∈ks
  ·rw [setAll_on _ ks _ hm (by omega)]
   simp [Array.getD_eq_getD_getElem?,hn,h]
  ·rw [setAll_off _ ks _ hm]
   refine hk i ?_
   have:=List.all_eq_true.1 hc i (List.mem_range.2 h)
   simpa [hm] using this
 ·rw [Array.getElem?_eq_none (by omega),Array.getElem?_eq_none (by rw [setAll_size];omega)]
def PmV (w:World) (lo:Nat) (v:Value) (x:Pm):Prop:=∃ a n c,v = .agg #[.string x.name,.int .i64 x.t.kind,.string x.t.name,.slice a n c,.int .i64 x.t.at',.int .i64 x.at']∧IsLs w lo (.slice a n c) x.t.r
theorem PmV.keep (w w':World) (lo lo':Nat) (v:Value) (t:Pm) (h:PmV w lo v t) (hb:Stays lo w w') (hl:lo'≤lo):PmV w' lo' v t:=by
 obtain ⟨a,n,c,e,h⟩:=h
 exact ⟨a,n,c,e,h.keep hb hl⟩
set_option maxRecDepth 100000 in
set_option maxHeartbeats 8000000 in
theorem param_of {r d lo:Nat} {ts:List (Int×ByteArray×Int)} (hT:TsOk ts) (hE:RuC 59 r ts d lo (exR ts)) {w:World} {p:Nat} (hlo:lo≤p) (hR:RD w r ts p d):Calls Tryz.prog 105 #[.pointer (some ⟨r,0,none⟩)] w (RP (fun w' v t=>PmV w' w.heap.size v t) (paramR ts p) r ts p d w):=by
 obtain ⟨Y,hY⟩:∃ Y,paramR ts p=Y:=⟨_,rfl⟩
 rw [hY]
 unfold paramR at hY
 have hr:=hR.rlt
 obtain ⟨A,eA,hbA,hsA,hzA⟩:=box_new w #[.string ⟨#[]⟩,.int .i64 0,.string ⟨#[]⟩,.slice none 0 0,.int .i64 0,.int .i64 0] 81
 have HB:=gh (But.of (r:=r) hbA)
 have HR:=gh (hR.keep hbA)
 have HZ:=gh hzA
 have HS:Hid (w.heap.size<A.heap.size):=by show _<_;omega
 have HL:Hid (p≤p∧lo≤p):=⟨Nat.le_refl _,hlo⟩
 have HSA:=gh hsA
 have HE:=gh eA
 have HT:=gh hT
 have HY:=gh hY
 have hrne:r≠w.heap.size:=by omega
 replace hE:=gh hE
 clear hlo hR hbA hzA hsA eA hT hY
 go_enter Tryz.func105,Tryz.ntmps105
 have HC0:=gh (must_any (gf HR) (gf HT) (s:=⟨#[40]⟩) (by decide))
 go_wp2_with fail
 rw [gf HE]
 refine (gf HC0).mono ?_
 intro e w0 h0
 rcases hX0:mustR ts ⟨#[40]⟩ (p) with er | ⟨t0,q0⟩
 ·rw [hX0] at h0
  obtain ⟨ei,en⟩:=er
  have hYe:Y = .error (ei,en):=by have h:=gf HY;rw [hX0] at h;exact h.symm
  subst hYe
  obtain ⟨hb0,h0⟩:=h0
  obtain rfl:e=_:=h0
  have HP:=gh ((gf HB).trans hb0)
  clear hb0 HC0 hX0
  go_wp2
  exact ⟨rfl,gf HP,rfl⟩
 rw [hX0] at h0
 obtain ⟨hb0,hle0,hR0,v0,rfl,hv0⟩:=h0
 have hY0:=gf HY
 rw [hX0] at hY0
 simp only [thenR] at hY0
 replace HY:=gh hY0
 clear hY0
 obtain rfl:v0=_:=hv0
 replace HB:=gh ((gf HB).trans hb0)
 replace HZ:=gh (zkeep (gf HZ) hb0 hrne)
 replace HS:=gh (Nat.lt_of_lt_of_le (gf HS) hb0.size)
 replace HR:=gh hR0
 replace HL:=gh (And.intro (Nat.le_trans (gf HL).1 hle0) (Nat.le_trans (gf HL).2 hle0))
 clear hb0 hle0 hR0 HC0 hX0
 have HC1:=gh (mustBe_any (gf HR) (gf HT) (k:=1) (by decide))
 go_wp2_with fail
 refine (gf HC1).mono ?_
 intro e w1 h1
 rcases hX1:mustBeR ts 1 (q0) with er | ⟨t1,q1⟩
 ·rw [hX1] at h1
  obtain ⟨ei,en⟩:=er
  have hYe:Y = .error (ei,en):=by have h:=gf HY;rw [hX1] at h;exact h.symm
  subst hYe
  obtain ⟨hb1,h1⟩:=h1
  obtain rfl:e=_:=h1
  have HP:=gh ((gf HB).trans hb1)
  clear hb1 HC1 hX1
  go_wp2
  exact ⟨rfl,gf HP,rfl⟩
 rw [hX1] at h1
 obtain ⟨hb1,hle1,hR1,v1,rfl,hv1⟩:=h1
 have hY1:=gf HY
 rw [hX1] at hY1
 simp only [thenR] at hY1
 replace HY:=gh hY1
 clear hY1
 obtain ⟨kk1,T1,at1⟩:=t1
 obtain rfl:v1=_:=hv1
 have hf01:=fld0 (.int .i64 kk1) (.string T1) (.int .i64 at1)
 have hf11:=fld1 (.int .i64 kk1) (.string T1) (.int .i64 at1)
 unfold tkV
 replace HB:=gh ((gf HB).trans hb1)
 replace HZ:=gh (zkeep (gf HZ) hb1 hrne)
 replace HS:=gh (Nat.lt_of_lt_of_le (gf HS) hb1.size)
 replace HR:=gh hR1
 replace HL:=gh (And.intro (Nat.le_trans (gf HL).1 hle1) (Nat.le_trans (gf HL).2 hle1))
 clear hb1 hle1 hR1 HC1 hX1
 obtain ⟨B2,eB2,hbB2,hsB2,hhB2⟩:=box_new w1 #[.int .i64 kk1,.string T1,.int .i64 at1] 74
 have ne2:r≠w1.heap.size:=by have:=gf HS;omega
 have HQHX2:=HS
 have hbu3:=But.of (r:=r) hbB2
 replace HR:=gh ((gf HR).keep hbB2)
 replace HB:=gh ((gf HB).trans hbu3)
 replace HZ:=gh (zkeep (gf HZ) hbu3 hrne)
 replace HS:=gh (Nat.lt_of_lt_of_le (gf HS) hbu3.size)
 have HX2:=gh hhB2
 have HEB2:=gh eB2
 have HSB2:=gh hsB2
 clear eB2 hbB2 hhB2 hsB2
 have HC4:=gh (must_any (gf HR) (gf HT) (s:=⟨#[58]⟩) (by decide))
 go_wp2_with fail
 rw [gf HEB2]
 refine (gf HC4).mono ?_
 intro e w4 h4
 rcases hX4:mustR ts ⟨#[58]⟩ (q1) with er | ⟨t4,q4⟩
 ·rw [hX4] at h4
  obtain ⟨ei,en⟩:=er
  have hYe:Y = .error (ei,en):=by have h:=gf HY;rw [hX4] at h;exact h.symm
  subst hYe
  obtain ⟨hb4,h4⟩:=h4
  obtain rfl:e=_:=h4
  have HP:=gh ((gf HB).trans hb4)
  clear hb4 HC4 hX4
  go_wp2
  exact ⟨rfl,gf HP,rfl⟩
 rw [hX4] at h4
 obtain ⟨hb4,hle4,hR4,v4,rfl,hv4⟩:=h4
 have hY4:=gf HY
 rw [hX4] at hY4
 simp only [thenR] at hY4
 replace HY:=gh hY4
 clear hY4
 obtain rfl:v4=_:=hv4
 replace HB:=gh ((gf HB).trans hb4)
 replace HZ:=gh (zkeep (gf HZ) hb4 hrne)
 replace HX2:=gh (zkeep (gf HX2) hb4 ne2)
 replace HS:=gh (Nat.lt_of_lt_of_le (gf HS) hb4.size)
 replace HR:=gh hR4
 replace HL:=gh (And.intro (Nat.le_trans (gf HL).1 hle4) (Nat.le_trans (gf HL).2 hle4))
 clear hb4 hle4 hR4 HC4 hX4
 go_wp2_with fail
 refine param_r4 (X:=typeR ts q4) rfl rfl rfl (gf HX2) ne2 (gf HR).rlt (fun W2 hb2=>typeOf_of (gf HT) (gf hE) (gf HL).2 ((gf HR).keep hb2)) ?_ ?_
 ·intro a w9 ei en hX hd hb
  have hYe:Y = .error (ei,en):=by have h:=gf HY;rw [hX] at h;exact h.symm
  subst hYe
  exact ⟨hd,(gf HB).trans hb,rfl⟩
 intro a W2 t q qb k n ad m c i hX hd hk h4 hsz hqb hz hb hR hle hv
 obtain ⟨x,hae,hx⟩:=act_set (N:=21) (kept:=((List.range 21).filter fun i => !([11,12,13,14,15,16,17,4].contains i))) [11,12,13,14,15,16,17,4] (by decide) hd hsz rfl hk
 have hx4:x 4 = .pointer (some ⟨qb,0,none⟩):=by rw [hx,Array.getD_eq_getD_getElem?,h4];rfl
 subst hae
 obtain ⟨ad2,m2,c2,e9,hls⟩:=hv
 obtain ⟨rfl,rfl,⟨rfl,rfl,rfl⟩,rfl⟩:k=t.kind∧n=t.name∧(ad=ad2∧m=m2∧c=c2)∧i=t.at':=by simpa using e9
 obtain ⟨V2,eV2⟩:∃ V2,setN W2 qb 0 [.string T1,.int .i64 t.kind,.string t.name,.slice ad m c,.int .i64 t.at',.int .i64 at1]=V2:=⟨_,rfl⟩
 rw [eV2]
 have hHS:=gf HS
 have hqn:w.heap.size<qb:=by omega
 have hY9:=gf HY
 rw [hX] at hY9
 simp only [thenR] at hY9
 replace HY:=gh hY9
 replace HB:=gh (by rw [←eV2];exact But.setN [.string T1,.int .i64 t.kind,.string t.name,.slice ad m c,.int .i64 t.at',.int .i64 at1] W2 0 ((gf HB).trans hb) (by omega):But r w V2)
 replace HR:=gh (by rw [←eV2];exact hR.setN (by omega) 0 [.string T1,.int .i64 t.kind,.string t.name,.slice ad m c,.int .i64 t.at',.int .i64 at1]:RD V2 r ts q d)
 replace HZ:=gh (by rw [←eV2];exact (heap_setN (by omega) [.string T1,.int .i64 t.kind,.string t.name,.slice ad m c,.int .i64 t.at',.int .i64 at1] W2 0).trans (zkeep (gf HZ) hb hrne):V2.heap[w.heap.size]?=some (.cells #[.string ⟨#[]⟩,.int .i64 0,.string ⟨#[]⟩,.slice none 0 0,.int .i64 0,.int .i64 0] 81))
 have HXq:=gh (by rw [←eV2];exact blk_all (xs:=[.string ⟨#[]⟩,.int .i64 0,.string ⟨#[]⟩,.slice none 0 0,.int .i64 0,.int .i64 0]) hz rfl:V2.heap[qb]?=some (.cells [.string T1,.int .i64 t.kind,.string t.name,.slice ad m c,.int .i64 t.at',.int .i64 at1].toArray 81))
 have hsV:V2.heap.size=W2.heap.size:=by rw [←eV2];exact size_setN [.string T1,.int .i64 t.kind,.string t.name,.slice ad m c,.int .i64 t.at',.int .i64 at1] W2 0
 have HTq:Hid (IsLs V2 (w.heap.size+1) (.slice ad m c) t.r):=(LsP.keep (P':=fun b=>w.heap.size+1≤b) hls ⟨by omega,fun k hk hs=>by rw [←eV2];exact heap_setN hk.2 [.string T1,.int .i64 t.kind,.string t.name,.slice ad m c,.int .i64 t.at',.int .i64 at1] W2 0⟩ fun b hb=>by have:=hb.1;omega:LsP V2 _ _ _)
 replace HS:=gh (by have:=hb.size;omega:w.heap.size<V2.heap.size)
 replace HL:=gh (And.intro (Nat.le_trans (gf HL).1 hle) (Nat.le_trans (gf HL).2 hle))
 have neq:r≠qb:=by omega
 have hdf:V2=V2:=rfl
 clear hdf hX hd hk h4 hsz hz hb hR hle e9 hls eV2 hHS hY9 hsV hx hqb
 simp only [setAll]
 rw [hx4]
 clear hx4
 have HC5:=gh (must_any (gf HR) (gf HT) (s:=⟨#[41]⟩) (by decide))
 go_wp2_with fail
 refine (gf HC5).mono ?_
 intro e w5 h5
 rcases hX5:mustR ts ⟨#[41]⟩ (q) with er | ⟨t5,q5⟩
 ·rw [hX5] at h5
  obtain ⟨ei,en⟩:=er
  have hYe:Y = .error (ei,en):=by have h:=gf HY;rw [hX5] at h;exact h.symm
  subst hYe
  obtain ⟨hb5,h5⟩:=h5
  obtain rfl:e=_:=h5
  have HP:=gh ((gf HB).trans hb5)
  clear hb5 HC5 hX5
  go_wp2
  exact ⟨rfl,gf HP,rfl⟩
 rw [hX5] at h5
 obtain ⟨hb5,hle5,hR5,v5,rfl,hv5⟩:=h5
 have hY5:=gf HY
 rw [hX5] at hY5
 simp only [thenR] at hY5
 replace HY:=gh hY5
 clear hY5
 obtain rfl:v5=_:=hv5
 replace HB:=gh ((gf HB).trans hb5)
 replace HZ:=gh (zkeep (gf HZ) hb5 hrne)
 replace HXq:=gh (zkeep (gf HXq) hb5 neq)
 replace HTq:=gh ((gf HTq).keep (Stays.but hb5 (by omega)) (Nat.le_refl _))
 replace HS:=gh (Nat.lt_of_lt_of_le (gf HS) hb5.size)
 replace HR:=gh hR5
 replace HL:=gh (And.intro (Nat.le_trans (gf HL).1 hle5) (Nat.le_trans (gf HL).2 hle5))
 clear hb5 hle5 hR5 HC5 hX5
 have x0:=(blk (gf HXq)).2.1 0 _ rfl
 have x1:=(blk (gf HXq)).2.1 1 _ rfl
 have x2:=(blk (gf HXq)).2.1 2 _ rfl
 have x3:=(blk (gf HXq)).2.1 3 _ rfl
 have x4:=(blk (gf HXq)).2.1 4 _ rfl
 have x5:=(blk (gf HXq)).2.1 5 _ rfl
 have HF0:PmV w5 (w.heap.size+1) (.agg #[.string T1,.int .i64 t.kind,.string t.name,.slice ad m c,.int .i64 t.at',.int .i64 at1]) (.mk T1 t at1):=⟨_,_,_,rfl,gf HTq⟩
 have HF:=gh HF0
 clear HF0
 have y0:=(blk (gf HZ)).2.1 0 _ rfl
 have z0:=(blk (gf HZ)).2.2 0
 have y1:=(blk (gf HZ)).2.1 1 _ rfl
 have z1:=(blk (gf HZ)).2.2 1
 have y2:=(blk (gf HZ)).2.1 2 _ rfl
 have z2:=(blk (gf HZ)).2.2 2
 have y3:=(blk (gf HZ)).2.1 3 _ rfl
 have z3:=(blk (gf HZ)).2.2 3
 have y4:=(blk (gf HZ)).2.1 4 _ rfl
 have z4:=(blk (gf HZ)).2.2 4
 have y5:=(blk (gf HZ)).2.1 5 _ rfl
 have z5:=(blk (gf HZ)).2.2 5
 go_wp2
 exact ret_row (cs:=[.string T1,.int .i64 t.kind,.string t.name,.slice ad m c,.int .i64 t.at',.int .i64 at1]) (xs:=[.string ⟨#[]⟩,.int .i64 0,.string ⟨#[]⟩,.slice none 0 0,.int .i64 0,.int .i64 0]) PmV.keep rfl rfl rfl (gf HB) hr (gf HZ) rfl Tryz.underlying81 rfl (by kernel_rfl) (by have h:=gf HY;exact h.symm) (gf HL).1 (gf HR) (lo:=w.heap.size+1) (by omega) (gf HF)
end Go.Proofs.YtfkfnbehdcmgeaaGreatDoor
namespace Go.Proofs.YtfkfnbehdcmgeaaGreatDoor
open Go Go.RowKit
def RowP (w:World) (k:Nat) (P:Nat→Prop) (v:Value) (n:Nat) (p:Nat→List Value→Prop):Prop:=∃ a c,v = .slice a n c∧n≤c∧n≤1000000∧(n≠0→∃ b off,a=some ⟨b,off,none⟩∧P b∧b<w.heap.size∧∀ j,j<n→∃ cs,w.rangeAt b (off+j * k) cs∧p j cs)
theorem RowP.keep {w w':World} {k n:Nat} {P P':Nat→Prop} {v:Value} {p q:Nat→List Value→Prop} (h:RowP w k P v n p) (hb:StaysP P w w') (hl:∀ b,P b→P' b) (hp:∀ j cs,p j cs→q j cs):RowP w' k P' v n q:=by
 obtain ⟨a,c,e,h1,h2,h3⟩:=h
 refine ⟨a,c,e,h1,h2,fun h0 => ?_⟩
 obtain ⟨b,off,e2,h4,h5,h6⟩:=h3 h0
 refine ⟨b,off,e2,hl b h4,Nat.lt_of_lt_of_le h5 hb.1,fun j hj => ?_⟩
 obtain ⟨cs,h7,h8⟩:=h6 j hj
 exact ⟨cs,range_same h7 (hb.2 b h4 h5),hp j cs h8⟩
theorem RowP.bnd {w:World} {k n:Nat} {P:Nat→Prop} {v:Value} {p q:Nat→List Value→Prop} (h:RowP w k P v n p) (hp:∀ j cs,p j cs→q j cs):RowP w k (fun b=>P b∧b<w.heap.size) v n q:=by
 obtain ⟨a,c,e,h1,h2,h3⟩:=h
 refine ⟨a,c,e,h1,h2,fun h0 => ?_⟩
 obtain ⟨b,off,e2,h4,h5,h6⟩:=h3 h0
 refine ⟨b,off,e2,⟨h4,h5⟩,h5,fun j hj => ?_⟩
 obtain ⟨cs,h7,h8⟩:=h6 j hj
 exact ⟨cs,h7,hp j cs h8⟩
def PmP (w:World) (P:Nat→Prop) (cs:List Value) (x:Pm):Prop:=∃ a n c,cs=[.string x.name,.int .i64 x.t.kind,.string x.t.name,.slice a n c,.int .i64 x.t.at',.int .i64 x.at']∧LsP w P (.slice a n c) x.t.r
theorem PmP.keep {w w':World} {P P':Nat→Prop} {cs:List Value} {x:Pm} (h:PmP w P cs x) (hb:StaysP P w w') (hl:∀ b,P b→P' b):PmP w' P' cs x:=by
 obtain ⟨a,n,c,e,h⟩:=h
 exact ⟨a,n,c,e,h.keep hb hl⟩
theorem PmP.bnd {w:World} {P:Nat→Prop} {cs:List Value} {x:Pm} (h:PmP w P cs x):PmP w (fun b=>P b∧b<w.heap.size) cs x:=by
 obtain ⟨a,n,c,e,h⟩:=h
 exact ⟨a,n,c,e,h.bnd⟩
def PsP (w:World) (P:Nat→Prop) (v:Value) (l:List Pm):Prop:=RowP w 6 P v l.length fun j cs=>∀ x,l[j]?=some x→PmP w P cs x
theorem PsP.keep {w w':World} {P P':Nat→Prop} {v:Value} {l:List Pm} (h:PsP w P v l) (hb:StaysP P w w') (hl:∀ b,P b→P' b):PsP w' P' v l:=RowP.keep h hb hl fun _ _ h x hx=>(h x hx).keep hb hl
theorem PsP.bnd {w:World} {P:Nat→Prop} {v:Value} {l:List Pm} (h:PsP w P v l):PsP w (fun b=>P b∧b<w.heap.size) v l:=RowP.bnd h fun _ _ h x hx=>(h x hx).bnd
theorem IsPs.form {w:World} {lo:Nat} {v:Value} {l:List Pm} (h:IsPs w lo v l):∃ (a:Option Addr) (n c:Nat),v = .slice a n c:=by
 obtain ⟨a,c,e,-⟩:=h
 exact ⟨_,_,_,e⟩
structure DeInP (w:World) (P:Nat→Prop) (d:De) (x:DeV):Prop where
 ps:PsP w P (.slice x.pa x.pn x.pc) d.ps
 ty:LsP w P (.slice x.ta x.tn x.tc) d.t.r
 req:LsP w P (.slice x.ra x.rn x.rc) d.req
 ens:LsP w P (.slice x.ea x.en x.ec) d.ens
 mea:LsP w P (.slice x.ma x.mn x.mc) d.mea
 body:LsP w P (.slice x.ba x.bn x.bc) d.body.l
theorem DeInP.keep {w w':World} {P P':Nat→Prop} {d:De} {x:DeV} (h:DeInP w P d x) (hb:StaysP P w w') (hl:∀ b,P b→P' b):DeInP w' P' d x:=⟨h.ps.keep hb hl,h.ty.keep hb hl,h.req.keep hb hl,h.ens.keep hb hl,h.mea.keep hb hl,h.body.keep hb hl⟩
theorem DeInP.bnd {w:World} {P:Nat→Prop} {d:De} {x:DeV} (h:DeInP w P d x):DeInP w (fun b=>P b∧b<w.heap.size) d x:=⟨h.ps.bnd,h.ty.bnd,h.req.bnd,h.ens.bnd,h.mea.bnd,h.body.bnd⟩
theorem DeIn.toP {w:World} {lo:Nat} {d:De} {x:DeV} (h:DeIn w lo d x):DeInP w (fun b=>lo≤b) d x:=⟨h.ps,h.ty,h.req,h.ens,h.mea,h.body⟩
theorem DeInP.toN {w:World} {lo:Nat} {d:De} {x:DeV} (h:DeInP w (fun b=>lo≤b) d x):DeIn w lo d x:=⟨h.ps,h.ty,h.req,h.ens,h.mea,h.body⟩
def DeP (w:World) (P:Nat→Prop) (cs:List Value) (d:De):Prop:=∃ x,cs=deCells d x∧DeInP w P d x
theorem DeP.keep {w w':World} {P P':Nat→Prop} {cs:List Value} {d:De} (h:DeP w P cs d) (hb:StaysP P w w') (hl:∀ b,P b→P' b):DeP w' P' cs d:=by
 obtain ⟨x,e,h⟩:=h
 exact ⟨x,e,h.keep hb hl⟩
theorem DeP.bnd {w:World} {P:Nat→Prop} {cs:List Value} {d:De} (h:DeP w P cs d):DeP w (fun b=>P b∧b<w.heap.size) cs d:=by
 obtain ⟨x,e,h⟩:=h
 exact ⟨x,e,h.bnd⟩
theorem flat_k {k:Nat}:∀ (vs:List (List Value)) (j:Nat) (v:List Value),(∀ v∈vs,v.length=k)→vs[j]?=some v→∀ (i:Nat) u,v[i]?=some u→vs.flatten[j * k+i]?=some u
 |[],j,v,_,h=>by simp at h
 |x::vs,0,v,hl,h=>fun i u hu=>by
  obtain rfl:x=v:=by simpa using h
  rw [List.flatten_cons,Nat.zero_mul,Nat.zero_add,List.getElem?_append_left (List.getElem?_eq_some_iff.1 hu).1]
  exact hu
 |x::vs,j+1,v,hl,h=>fun i u hu=>by
  have h7:x.length=k:=hl x (by simp)
  have:=flat_k vs j v (fun v hv=>hl v (by simp [hv])) (by simpa using h) i u hu
  have e1:(j+1) * k+i=x.length+(j * k+i):=by rw [h7,Nat.succ_mul];omega
  rw [List.flatten_cons,e1,List.getElem?_append_right (by omega),Nat.add_sub_cancel_left]
  exact this
structure RI {α:Type} (El:World→(Nat→Prop)→List Value→α→Prop) (ty:TypeId) (k:Nat) (w:World) (r:Nat) (ts:List (Int×ByteArray×Int)) (p d lo:Nat) (C:Nat→List α→Nat→(Except (Int×Int) ((List α)×Nat))) (Y:(Except (Int×Int) ((List α)×Nat))) (v:Value) (l:List α) (vs:List (List Value)) (q n:Nat) (V:World):Prop where
 but:But r w V
 rd:RD V r ts q d
 own:V.ownsRow w.heap.size ty k v l.length vs.flatten
 len:vs.length=l.length
 all:∀ x∈vs,x.length=k
 tr:∀ (j:Nat) x t,vs[j]?=some x→l[j]?=some t→El V (fun b=>w.heap.size≤b∧v.ownBlock≠some b) x t
 le:p≤q∧lo≤q
 fu:ts.length≤q+n
 ch:C n l q=Y
 sm:l.length≤q
section
variable {α:Type} {El:World→(Nat→Prop)→List Value→α→Prop} {ty:TypeId} {k:Nat} {w V V':World} {r:Nat} {ts:List (Int×ByteArray×Int)} {p d lo q n:Nat} {C:Nat→List α→Nat→(Except (Int×Int) ((List α)×Nat))} {Y:(Except (Int×Int) ((List α)×Nat))} {v:Value} {l:List α} {vs:List (List Value)}
theorem RI.row (hk:∀ (w w':World) (P P':Nat→Prop) cs t,El w P cs t→StaysP P w w'→(∀ b,P b→P' b)→El w' P' cs t) (h:RI El ty k w r ts p d lo C Y v l vs q n V) (hl:l.length≤1000000):RowP V k (fun b=>w.heap.size≤b) v l.length fun j cs=>∀ t,l[j]?=some t→El V (fun b=>w.heap.size≤b) cs t:=by
 rcases Nat.eq_zero_or_pos l.length with h0 | hp
 ·obtain ⟨h1,h2 | ⟨g,cap,cur,e,hB,hc,hle,hm,hsz,htk⟩⟩:=h.own
  ·rw [h2.1,h0]
   exact ⟨none,0,rfl,Nat.le_refl _,by omega,fun h=>absurd rfl h⟩
  ·rw [e,h0]
   exact ⟨_,cap,rfl,by omega,by omega,fun h=>absurd rfl h⟩
 ·obtain ⟨g,cap,e,hg1,hg2⟩:=h.own.form hp
  have hc:=h.own.cells (g:=g) (by rw [e];rfl)
  have hcap:l.length≤cap:=by
   obtain ⟨-,h1 | ⟨g',c',cur,e2,-,-,h2,-⟩⟩:=h.own
   ·exact absurd h1.2 (by omega)
   ·rw [e] at e2
    obtain ⟨-,rfl⟩:g=g'∧cap=c':=by simpa using e2
    exact h2
  refine ⟨some ⟨g,0,none⟩,cap,e,hcap,hl,fun _=>⟨g,0,rfl,hg1,hg2,fun j hj => ?_⟩⟩
  obtain ⟨x,hx⟩:∃ x,vs[j]?=some x:=⟨_,List.getElem?_eq_getElem (by rw [h.len];exact hj)⟩
  refine ⟨x,fun m u hu => ?_,fun t ht=>hk _ _ _ _ _ _ (h.tr j x t hx ht) ⟨Nat.le_refl _,fun _ _ _=>rfl⟩ fun b hb=>hb.1⟩
  have:=hc (j * k+m) u (flat_k vs j x h.all hx m u hu)
  rw [Nat.zero_add]
  rw [addr0] at this
  exact this
theorem RI.grow (hk:∀ (w w':World) (P P':Nat→Prop) cs t,El w P cs t→StaysP P w w'→(∀ b,P b→P' b)→El w' P' cs t) (h:RI El ty k w r ts p d lo C Y v l vs q n V) (hb:Below V.heap.size V V'):RI El ty k w r ts p d lo C Y v l vs q n V':=
 ⟨h.but.trans (But.of hb),h.rd.keep hb,own_same h.own hb,h.len,h.all,fun j x t hx ht=>hk _ _ _ _ _ _ (h.tr j x t hx ht) ⟨hb.size,fun k _ hk=>hb.block k hk⟩ fun _ h=>h,h.le,h.fu,h.ch,h.sm⟩
theorem RI.more {m cap g q7:Nat} {a:Option Addr} {c:Nat} {w7 w9 wa:World} {t7:α} {cs:List Value} (hk:∀ (w w':World) (P P':Nat→Prop) cs t,El w P cs t→StaysP P w w'→(∀ b,P b→P' b)→El w' P' cs t) (hbd:∀ (w:World) (P:Nat→Prop) cs t,El w P cs t→El w (fun b=>P b∧b<w.heap.size) cs t)
  (hr:r<w.heap.size) (h:RI El ty k w r ts p d lo C Y (.slice a m c) l vs q (n+1) w9) (hb97:But r w9 w7) (hle7:q+1≤q7) (hR7:RD w7 r ts q7 d) (hcs:cs.length=k) (hv7:El w7 (fun b=>w9.heap.size≤b) cs t7) (hch:C n (l++[t7]) q7=Y) (hoa:wa.ownsRow w.heap.size ty k (.slice (some ⟨g,0,none⟩) (l.length+1) cap) (l.length+1) (vs.flatten++cs)) {o:Obj} (hga:(w7.alloc o).grownBy wa (Value.slice a m c).ownBlock) (hwa:(Value.slice a m c).ownBlock=some g∨g=w7.heap.size+1) :
  RI El ty k w r ts p d lo C Y (.slice (some ⟨g,0,none⟩) (l.length+1) cap) (l++[t7]) (vs++[cs]) q7 n wa:=by
 have hs97:=hb97.size
 have hlt9:=h.own.lt
 have hblk:∀ k,k<w7.heap.size→(Value.slice a m c).ownBlock≠some k→wa.heap[k]?=w7.heap[k]?:=fun k hk hne=>by
  rw [hga.block k (by simp;omega) (fun e=>hne e.symm)]
  exact ((Below.refl _ w7).alloc (Nat.le_refl _) _).block k hk
 have hsa:w7.heap.size≤wa.heap.size:=by have:=hga.size;simp at this;omega
 have hbw7:But r w w7:=h.but.trans hb97
 have hown_lo:∀ k,k<w.heap.size→(Value.slice a m c).ownBlock≠some k:=fun k hk e=>by have:=(hlt9 k e).1;omega
 have hbwa:But r w wa:=⟨hga.os.trans hbw7.os,hga.tape.trans hbw7.tape,hga.output.trans hbw7.output,Nat.le_trans hbw7.size hsa,fun k hk hne=>(hblk k (Nat.lt_of_lt_of_le hk hbw7.size) (hown_lo k hk)).trans (hbw7.block k hk hne)⟩
 have hRa:RD wa r ts q7 d:=by
  obtain ⟨⟨g0,c0,h1,h2,h3,h4⟩,h5⟩:=hR7
  refine ⟨⟨g0,c0,(hblk r (blk h1).1 (hown_lo r hr)).trans h1,h2,h3,fun j x hx=>range_same (h4 j x hx) (hblk g0 (by have:=(blk h1).1;omega) (hown_lo g0 (by omega)))⟩,h5⟩
 have hgne:∀ b,b<w7.heap.size→(Value.slice a m c).ownBlock≠some b→(Value.slice (some ⟨g,0,none⟩) (l.length+1) cap).ownBlock≠some b:=fun b hb hne e=>by
  have e2:g=b:=by simpa [Value.ownBlock] using e
  rcases hwa with hw | hw
  ·exact hne (by rw [hw,e2])
  ·omega
 refine ⟨hbwa,hRa,?_,by simp [h.len],?_,?_,⟨by have:=h.le;omega,by have:=h.le;omega⟩,by have:=h.fu;omega,hch,by simp;have:=h.sm;omega⟩
 ·simpa using hoa
 ·intro x hx
  rcases List.mem_append.1 hx with hx | hx
  ·exact h.all x hx
  ·obtain rfl:=List.mem_singleton.1 hx
   exact hcs
 ·intro j x t' hx ht
  rcases Nat.lt_or_ge j l.length with hj | hj
  ·rw [List.getElem?_append_left (by rw [h.len];exact hj)] at hx
   rw [List.getElem?_append_left hj] at ht
   have k1:=hbd _ _ _ _ (h.tr j x t' hx ht)
   have k2:=hk _ w7 _ (fun b=>(w.heap.size≤b∧(Value.slice a m c).ownBlock≠some b)∧b<w7.heap.size) _ _ k1 ⟨hs97,fun k hk hs=>hb97.block k hs (by omega)⟩ fun b hb=>⟨hb.1,by omega⟩
   exact hk _ _ _ _ _ _ k2 ⟨hsa,fun k hk hs=>hblk k hs hk.1.2⟩ fun b hb=>⟨hb.1.1,hgne b hb.2 hb.1.2⟩
  ·have hjl:j=l.length:=by
    have:=(List.getElem?_eq_some_iff.1 ht).1
    simp at this
    omega
   subst hjl
   rw [List.getElem?_append_right (by rw [h.len];exact Nat.le_refl _),h.len,Nat.sub_self] at hx
   rw [List.getElem?_append_right (Nat.le_refl _),Nat.sub_self] at ht
   obtain rfl:=Option.some.inj hx
   obtain rfl:=Option.some.inj ht
   have hne8:∀ b,w9.heap.size≤b→(Value.slice a m c).ownBlock≠some b:=fun b hb e=>by have:=(hlt9 b e).2;omega
   exact hk _ _ _ _ _ _ (hbd _ _ _ _ hv7) ⟨hsa,fun k hk hs=>hblk k hs (hne8 k hk.1)⟩ fun b hb=>⟨by have:=hb.1;have:=h.but.size;omega,hgne b hb.2 (hne8 b hb.1)⟩
end
end Go.Proofs.YtfkfnbehdcmgeaaGreatDoor
namespace Go.Proofs.YtfkfnbehdcmgeaaGreatDoor
open Go Go.RowKit
theorem app_pm {w:World} {B n:Nat} {v:Value} {xs:List Value} (x1 x3:ByteArray) (x2 x5 x6:Int) (xa:Option Addr) (xn xc:Nat) (hown:w.ownsRow B 81 6 v n xs) (hn:n≤100000) (hB:B≤w.heap.size) :
  ∃ g cap w',(Builtin.append_ #[52,52] 52 #[v,.slice (some ⟨w.heap.size,0,none⟩) 1 1]).run Tryz.prog (w.alloc (.cells #[.string x1,.int .i64 x2,.string x3,.slice xa xn xc,.int .i64 x5,.int .i64 x6] 81)) = .ok (.slice (some ⟨g,0,none⟩) (n+1) cap) w'∧w'.ownsRow B 81 6 (.slice (some ⟨g,0,none⟩) (n+1) cap) (n+1) (xs++[.string x1,.int .i64 x2,.string x3,.slice xa xn xc,.int .i64 x5,.int .i64 x6])∧(w.alloc (.cells #[.string x1,.int .i64 x2,.string x3,.slice xa xn xc,.int .i64 x5,.int .i64 x6] 81)).grownBy w' v.ownBlock∧(v.ownBlock=some g∨g=w.heap.size+1):=by
 have hb:=(MapKept.heap_alloc w (.cells #[.string x1,.int .i64 x2,.string x3,.slice xa xn xc,.int .i64 x5,.int .i64 x6] 81)).1
 obtain ⟨g,cap,w',hr,ho,hg,hw,-⟩:=run_append_lies (P:=Tryz.prog) (w.alloc (.cells #[.string x1,.int .i64 x2,.string x3,.slice xa xn xc,.int .i64 x5,.int .i64 x6] 81)) 52 52 B 81 Tryz.t81 (.agg #[.string ⟨#[]⟩,.int .i64 0,.string ⟨#[]⟩,.slice none 0 0,.int .i64 0,.int .i64 0]) 6 80 Tryz.underlying52 (by kernel_rfl) (by kernel_rfl) (by kernel_rfl) (by kernel_rfl) rfl (by decide) v n xs (hown.alloc _) ⟨w.heap.size,0,none⟩ 1 1 [.string x1,.int .i64 x2,.string x3,.slice xa xn xc,.int .i64 x5,.int .i64 x6] rfl (fun j u hj=>by
   have h:=(blk hb).2.1 j u (by simpa using hj)
   rw [addr0]
   exact h) (fun u hu=>by
   simp at hu
   rcases hu with rfl | rfl | rfl | rfl | rfl | rfl <;> rfl) (by omega) (by unfold maxLen;omega) (by omega) (by simp;omega) _ rfl
 exact ⟨g,cap,w',hr,ho,hg,by simpa using hw⟩
theorem paramsL_no {ts:List (Int×ByteArray×Int)} {n q:Nat} {l:List Pm} (h:sees ts q ⟨#[40]⟩=false):paramsL ts n l q = .ok (l,q):=by
 cases n with
 |zero=>rfl
 |succ n=>rw [paramsL,h];rfl
theorem paramsL_many {ts:List (Int×ByteArray×Int)} {n q:Nat} {l:List Pm} (h:sees ts q ⟨#[40]⟩=true) (hl:l.length=8):paramsL ts (n+1) l q=bad ts q 152:=by
 rw [paramsL,h,if_pos rfl,if_pos hl]
theorem paramsL_yes {ts:List (Int×ByteArray×Int)} {n q:Nat} {l:List Pm} (h:sees ts q ⟨#[40]⟩=true) (hl:l.length≠8):paramsL ts (n+1) l q=thenR (paramR ts q) fun x q=>paramsL ts n (l++[x]) q:=by
 rw [paramsL,h,if_pos rfl,if_neg hl]
theorem pm_keep (w w':World) (P P':Nat→Prop) (cs:List Value) (t:Pm) (h:PmP w P cs t) (hb:StaysP P w w') (hl:∀ b,P b→P' b):PmP w' P' cs t:=h.keep hb hl
theorem pm_bnd (w:World) (P:Nat→Prop) (cs:List Value) (t:Pm) (h:PmP w P cs t):PmP w (fun b=>P b∧b<w.heap.size) cs t:=h.bnd
theorem calls_some {P:Program} {f:FuncId} {args:Array Value} {w:World} {R:Ending→World→Prop} (h:Calls P f args w R):∃ e w',R e w':=by
 obtain ⟨e,w',_,h,_⟩:=h []
 exact ⟨e,w',h⟩
theorem rd_at {w:World} {r p d q:Nat} {ts:List (Int×ByteArray×Int)} (h:RD w r ts p d) (hq:q<ts.length):∃ W,RD W r ts q d:=
 ⟨w.setCell ⟨r,1,none⟩ (.int .i64 q),h.set ((But.refl r w).set 1 _) hq fun g c h=>set_block h _⟩
theorem typeR_le {r d lo p z:Nat} {ts:List (Int×ByteArray×Int)} {t:Ty} {w:World} (hT:TsOk ts) (hE:RuC 59 r ts d lo (exR ts)) (hlo:lo≤p) (hR:RD w r ts p d) (hX:typeR ts p = .ok (t,z)):p≤z:=by
 obtain ⟨e,w',hb,h⟩:=calls_some (typeOf_of hT hE hlo hR)
 rw [hX] at h
 exact h.1
theorem mustR_lt {ts:List (Int×ByteArray×Int)} {s:ByteArray} {q z:Nat} {u:Unit} (h:mustR ts s q = .ok (u,z)):z=q+1:=by
 unfold mustR at h
 split at h
 ·simp at h;exact h.symm
 ·cases h
theorem mustBeR_lt {ts:List (Int×ByteArray×Int)} {k:Int} {q z:Nat} {t:(Int×ByteArray×Int)} (h:mustBeR ts k q = .ok (t,z)):z=q+1:=by
 unfold mustBeR at h
 split at h
 ·simp at h;exact h.2.symm
 ·cases h
theorem thenR_ok {α β:Type} {x:(Except (Int×Int) (α×Nat))} {f:α→Nat→(Except (Int×Int) (β×Nat))} {b:β} {z:Nat} (h:thenR x f = .ok (b,z)):∃ a q,x = .ok (a,q)∧f a q = .ok (b,z):=by
 unfold thenR at h
 split at h
 ·cases h
 ·exact ⟨_,_,rfl,h⟩
theorem paramR_lt {r d lo p z:Nat} {ts:List (Int×ByteArray×Int)} {t:Pm} {w:World} (hT:TsOk ts) (hE:RuC 59 r ts d lo (exR ts)) (hlo:lo≤p) (hR:RD w r ts p d) (hX:paramR ts p = .ok (t,z)):p+1≤z:=by
 unfold paramR at hX
 obtain ⟨_,q1,h1,hX⟩:=thenR_ok hX
 obtain ⟨_,q2,h2,hX⟩:=thenR_ok hX
 obtain ⟨_,q3,h3,hX⟩:=thenR_ok hX
 obtain ⟨_,q4,h4,hX⟩:=thenR_ok hX
 obtain ⟨_,q5,h5,hX⟩:=thenR_ok hX
 have e5:=mustR_lt h5
 have e:q5=z:=by simpa using congrArg (fun x:(Except (Int×Int) (Pm×Nat))=>match x with | .ok (_,z)=>z | .error _=>0) hX
 have e1:=mustR_lt h1
 have e2:=mustBeR_lt h2
 have e3:=mustR_lt h3
 have h3':sees ts q2 ⟨#[58]⟩=true:=by
  unfold mustR at h3
  split at h3
  ·assumption
  ·cases h3
 have hq2:q2<ts.length:=by
  rcases Nat.lt_or_ge q2 ts.length with h | h
  ·exact h
  ·exfalso
   have:=sees_txt h3'
   unfold txt nx at this
   rw [List.getD_eq_getElem?_getD,List.getElem?_eq_none h] at this
   exact absurd this (by decide)
 have hq3:=nx_txt hT hq2 (by rw [sees_txt h3'];decide)
 obtain ⟨W,hW⟩:=rd_at (q:=q3) hR (by omega)
 have:=typeR_le hT hE (by omega) hW h4
 omega
set_option maxRecDepth 100000 in
set_option maxHeartbeats 8000000 in
theorem params_of {r d lo:Nat} {ts:List (Int×ByteArray×Int)} (hT:TsOk ts) (hE:RuC 59 r ts d lo (exR ts)) {w:World} {p:Nat} (hlo:lo≤p) (hR:RD w r ts p d):Calls Tryz.prog 89 #[.pointer (some ⟨r,0,none⟩)] w (RP (fun w' v l=>IsPs w' w.heap.size v l) (paramsR ts p) r ts p d w):=by
 obtain ⟨Y,hY⟩:∃ Y,paramsR ts p=Y:=⟨_,rfl⟩
 rw [hY]
 unfold paramsR at hY
 have hr:=hR.rlt
 have HI:Hid (RI PmP 81 6 w r ts p d lo (paramsL ts) Y (.slice none 0 0) [] [] p ts.length w):=⟨But.refl _ _,hR,own_nil _ _ _ _,rfl,(by simp),(fun j x t hx=>by simp at hx),⟨Nat.le_refl _,hlo⟩,by omega,hY,Nat.zero_le _⟩
 have HT:=gh hT
 replace hE:=gh hE
 clear hY hT hlo hR
 go_enter Tryz.func89,Tryz.ntmps89
 go_wp2_with fail
 go_loopw [3] (fun v wr=>∃ l vs q n a m c,v = .slice a m c∧m=l.length∧Hid (RI PmP 81 6 w r ts p d lo (paramsL ts) Y v l vs q n wr)) (fun _ wr=>ts.length - (intOf ((wr.cell? ⟨r,1,none⟩).getD undef)).toNat)
 case atStart=>exact ⟨_,_,_,_,_,_,_,rfl,rfl,HI⟩
 case round =>
  obtain ⟨l,vs,q,n,a,m,c,rfl,hml,hEI⟩:=hrel
  obtain ⟨bo,hbo⟩:∃ b,sees ts q ⟨#[40]⟩=b:=⟨_,rfl⟩
  have HC:=gh (sees_any (gf hEI).rd (gf HT) ⟨#[40]⟩)
  rw [hbo] at HC
  have HO:=gh hbo
  replace hml:=gh hml
  clear hbo
  go_wp2_with fail
  refine (gf HC).mono ?_
  rintro e w9 ⟨rfl,hb9⟩
  have h9:=(gf hEI).grow pm_keep hb9
  have hqo:(wr.cell? ⟨r,1,none⟩)=some (.int .i64 (q:Int)):=by
   obtain ⟨g',c',p0,p1,-⟩:=(gf hEI).rd.facts (Below.refl _ _)
   exact p1
  replace hqo:=gh hqo
  have H9:=gh h9
  clear hEI hb9 h9 HC
  rcases bo with _ | _
  ·go_wp2
   have h:=gf H9
   refine bodyPost_ret (results_tmp rfl _ _ _) rfl ?_
   have hYe:Y = .ok (l,q):=h.ch.symm.trans (paramsL_no (gf HO))
   subst hYe
   refine ⟨h.but,h.le.1,h.rd,_,rfl,h.row pm_keep ?_⟩
   have:=h.sm
   have:=h.rd.lt
   have:=(gf HT).len
   omega
  ·have h:=gf H9
   have hp1:q+1<ts.length:=nx_txt (gf HT) h.rd.lt (by rw [sees_txt (gf HO)];decide)
   obtain ⟨n,rfl⟩:∃ m,n=m+1:=⟨n - 1,by have:=h.fu;omega⟩
   have hlb:l.length≤1000000:=by
    have:=h.sm
    have:=h.rd.lt
    have:=(gf HT).len
    omega
   have hm':=gf hml
   by_cases hlm:m=8
   ·have hch:=h.ch
    rw [paramsL_many (gf HO) (by omega)] at hch
    have HRf:=gh (refused_any h.rd (gf HT) 152)
    have HCh:=gh hch
    subst hlm
    clear h hch hp1 hlb hm'
    go_wp2_with fail
    refine (gf HRf).mono ?_
    rintro e w8 ⟨rfl,hb8⟩
    have HB8:=gh hb8
    clear hb8 HRf
    go_wp2
    obtain rfl:=gf HCh
    exact ⟨rfl,(gf H9).but.trans (But.of (gf HB8)),rfl⟩
   ·have hch:=h.ch
    rw [paramsL_yes (gf HO) (by omega)] at hch
    have HCh:=gh hch
    have g1:¬ (m:Int)=(8:Int):=by omega
    have g2:((m:Int) == (8:Int))=false:=by simpa using g1
    have g3:decide ((m:Int)=(8:Int))=false:=by simpa using g1
    have HC2:=gh (param_of (gf HT) (gf hE) h.le.2 h.rd)
    replace hlb:=gh hlb
    replace hp1:=gh hp1
    clear h hch hm' hlm
    go_wp2_with fail
    refine (gf HC2).mono ?_
    intro e w7 h7
    rcases hX:paramR ts q with er | ⟨t7,q7⟩
    ·rw [hX] at h7
     obtain ⟨ei,en⟩:=er
     have hYe:Y = .error (ei,en):=by have h:=gf HCh;rw [hX] at h;exact h.symm
     subst hYe
     obtain ⟨hb7,h7⟩:=h7
     obtain rfl:e=_:=h7
     have HP:=gh ((gf H9).but.trans hb7)
     clear hb7 HC2 hX
     go_wp2
     exact ⟨rfl,gf HP,rfl⟩
    ·rw [hX] at h7
     obtain ⟨hb7,hle7,hR7,v7,rfl,xa,xn,xc,rfl,hv7⟩:=h7
     have hch:=gf HCh
     rw [hX] at hch
     simp only [thenR] at hch
     have h:=gf H9
     have hlt:q+1≤q7:=paramR_lt (gf HT) (gf hE) h.le.2 h.rd hX
     have hown7:w7.ownsRow w.heap.size 81 6 (.slice a m c) l.length vs.flatten:=by
      obtain ⟨k1,k2 | ⟨g,cap,cur,k3,k4,k5,k6⟩⟩:=h.own
      ·exact ⟨k1,.inl k2⟩
      ·exact ⟨k1,.inr ⟨g,cap,cur,k3,k4,(hb7.block g (blk k5).1 (by omega)).trans k5,k6⟩⟩
     have hs97:=hb7.size
     have hsw:=h.but.size
     obtain ⟨g,cap,wa,hrun,hoa,hga,hwa⟩:=app_pm t7.name t7.t.name t7.t.kind t7.t.at' t7.at' xa xn xc hown7 (by have:=h.sm;have:=h.rd.lt;have:=(gf HT).len;omega) (by omega)
     have R1:=gh hrun
     have HQ:=gh (And.intro hb7 (And.intro hlt (And.intro hR7 (And.intro hv7 (And.intro hch (And.intro hoa (And.intro hga hwa)))))))
     clear hb7 hle7 hR7 hv7 hch h hown7 hs97 hsw hrun hoa hga hwa HC2 hX hlt
     go_wp2_with (at_builtin;refine app_run _ _ _ rfl rfl rfl rfl (gf R1) ?_;clear R1)
     obtain ⟨hb7,hlt,hR7,hv7,hch,hoa,hga,hwa⟩:=gf HQ
     have h:=gf H9
     have hnew:=h.more pm_keep pm_bnd hr hb7 hlt hR7 rfl ⟨_,_,_,rfl,hv7⟩ hch hoa hga hwa
     refine ⟨⟨l++[t7],_,q7,n,_,_,_,rfl,by simp,hnew⟩,?_⟩
     have hqn:wa.cell? ⟨r,1,none⟩=some (.int .i64 (q7:Int)):=by
      obtain ⟨g',c',p0,p1,-⟩:=hnew.rd.facts (Below.refl _ _)
      exact p1
     have e1:intOf ((wa.cell? ⟨r,1,none⟩).getD undef)=(q7:Int):=by rw [hqn];rfl
     have e2:intOf ((wr.cell? ⟨r,1,none⟩).getD undef)=(q:Int):=by rw [gf hqo];rfl
     have hlt9:=h.rd.lt
     rw [e1,e2]
     omega
end Go.Proofs.YtfkfnbehdcmgeaaGreatDoor
namespace Go.Proofs.YtfkfnbehdcmgeaaGreatDoor
open Go Go.RowKit
theorem setCells_eq {b:Nat}:∀ (l:List Value) (w:World) (o:Nat),w.setCells b o l=setN w b o l
 |[],_,_=>rfl
 |x::l,w,o=>setCells_eq l _ (o+1)
theorem all_one (l:List Value) (h:l.all (·.oneCell')=true):l.toArray.all (·.oneCell')=true:=by simpa using h
theorem de_info:(Tryz.prog.info? 56).map (·.size)=some 22:=by kernel_rfl
theorem st_de {ops:Array Oper} {rest:List Oper} {op:Oper} {a:Act} {w:World} {Q:Exit→Act→World→Prop} (l:List Value) (hgd:op.guard=none) {x y:Operand} (ho:op.op = .store 56 x y) {b:Nat} (hx:a.eval x = .pointer (some ⟨b,0,none⟩)) (hy:a.eval y = .agg l.toArray) (ht:w.there b 0 22) (hl:l.length=22) (h1:l.all (·.oneCell')=true) (h:∀ W9,Hid (W9=setN w b 0 l)→wpList Tryz.prog ops Q rest (a.put op.dst undef) W9):wpList Tryz.prog ops Q (op::rest) a w:=
 wpList_store_mid hgd _ x y ho b 0 l.toArray hx hy (by simpa [hl] using ht) (by rw [de_info];simp [hl]) (all_one l h1) (by rw [setCells_eq];simpa using h _ rfl)
theorem there_of {w:World} {q o n:Nat} {cs:Array Value} {ty:TypeId} (h:w.heap[q]?=some (.cells cs ty)) (hn:o+n≤cs.size):w.there q o n:=fun j hj=>by
 have h1:o+j<cs.size:=by omega
 exact ⟨by rw [(blk h).2.1 (o+j) _ (Array.getElem?_eq_getElem h1)];rfl,(blk h).2.2 _⟩
theorem sz_of {ts:List (Int×ByteArray×Int)} {k:Int} {q z:Nat} {kk at':Int} {T:ByteArray} (h:∀ j,(txt ts j).size≤65536) (hm:mustBeR ts k q = .ok ((kk,T,at'),z)):T.size≤65536:=by
 unfold mustBeR at hm
 split at hm
 ·have e:nx ts q=(kk,T,at'):=by simpa using congrArg (fun x:(Except (Int×Int) ((Int×ByteArray×Int)×Nat))=>match x with | .ok (a,_)=>a | .error _=>nx ts q) hm
  have:=h q
  unfold txt at this
  rw [e] at this
  exact this
 ·cases hm
def DeW (w:World) (lo:Nat) (v:Value) (d:De):Prop:=∃ x,v = .agg (deCells d x).toArray∧DeIn w lo d x
theorem DeW.keep (w w':World) (lo lo':Nat) (v:Value) (t:De) (h:DeW w lo v t) (hb:Stays lo w w') (hl:lo'≤lo):DeW w' lo' v t:=by
 obtain ⟨x,e,h⟩:=h
 exact ⟨x,e,h.keep hb hl⟩
end Go.Proofs.YtfkfnbehdcmgeaaGreatDoor
namespace Go.Proofs.YtfkfnbehdcmgeaaGreatDoor
open Go Go.RowKit
set_option maxRecDepth 100000 in
set_option maxHeartbeats 8000000 in
theorem cell_of {r d lo:Nat} {ts:List (Int×ByteArray×Int)} (hT:TsOk ts) (hSz:∀ j,(txt ts j).size≤65536) {w:World} {p:Nat} (hlo:lo≤p) (hR:RD w r ts p d):Calls Tryz.prog 66 #[.pointer (some ⟨r,0,none⟩)] w (RP (fun w' v t=>DeW w' w.heap.size v t) (cellR ts p) r ts p d w):=by
 obtain ⟨Y,hY⟩:∃ Y,cellR ts p=Y:=⟨_,rfl⟩
 rw [hY]
 unfold cellR at hY
 have hr:=hR.rlt
 obtain ⟨A,eA,hbA,hsA,hzA⟩:=box_new w #[.bool false,.string ⟨#[]⟩,.string ⟨#[]⟩,.bool false,.slice none 0 0,.int .i64 0,.int .i64 0,.string ⟨#[]⟩,.slice none 0 0,.int .i64 0,.slice none 0 0,.string ⟨#[]⟩,.slice none 0 0,.slice none 0 0,.int .i64 0,.string ⟨#[]⟩,.string ⟨#[]⟩,.bool false,.slice none 0 0,.int .i64 0,.int .i64 0,.int .i64 0] 56
 have HB:=gh (But.of (r:=r) hbA)
 have HR:=gh (hR.keep hbA)
 have HZ:=gh hzA
 have HS:Hid (w.heap.size<A.heap.size):=by show _<_;omega
 have HL:Hid (p≤p∧lo≤p):=⟨Nat.le_refl _,hlo⟩
 have HSA:=gh hsA
 have HE:=gh eA
 have HT:=gh hT
 have HY:=gh hY
 have hrne:r≠w.heap.size:=by omega
 replace hSz:=gh hSz
 clear hlo hR hbA hzA hsA eA hT hY
 go_enter Tryz.func66,Tryz.ntmps66
 have HC0:=gh (mustBe_any (gf HR) (gf HT) (k:=1) (by decide))
 go_wp2_with fail
 rw [gf HE]
 refine (gf HC0).mono ?_
 intro e w0 h0
 rcases hX0:mustBeR ts 1 (p) with er | ⟨t0,q0⟩
 ·rw [hX0] at h0
  obtain ⟨ei,en⟩:=er
  have hYe:Y = .error (ei,en):=by have h:=gf HY;rw [hX0] at h;exact h.symm
  subst hYe
  obtain ⟨hb0,h0⟩:=h0
  obtain rfl:e=_:=h0
  have HP:=gh ((gf HB).trans hb0)
  clear hb0 HC0 hX0
  go_wp2
  exact ⟨rfl,gf HP,rfl⟩
 rw [hX0] at h0
 obtain ⟨hb0,hle0,hR0,v0,rfl,hv0⟩:=h0
 have hY0:=gf HY
 rw [hX0] at hY0
 simp only [thenR] at hY0
 replace HY:=gh hY0
 clear hY0
 obtain ⟨kk0,T0,at0⟩:=t0
 obtain rfl:v0=_:=hv0
 have hf00:=fld0 (.int .i64 kk0) (.string T0) (.int .i64 at0)
 have hf10:=fld1 (.int .i64 kk0) (.string T0) (.int .i64 at0)
 unfold tkV
 replace HB:=gh ((gf HB).trans hb0)
 replace HZ:=gh (zkeep (gf HZ) hb0 hrne)
 replace HS:=gh (Nat.lt_of_lt_of_le (gf HS) hb0.size)
 replace HR:=gh hR0
 replace HL:=gh (And.intro (Nat.le_trans (gf HL).1 hle0) (Nat.le_trans (gf HL).2 hle0))
 clear hb0 hle0 hR0 HC0 hX0
 obtain ⟨B1,eB1,hbB1,hsB1,hhB1⟩:=box_new w0 #[.int .i64 kk0,.string T0,.int .i64 at0] 74
 have ne1:r≠w0.heap.size:=by have:=gf HS;omega
 have HQHX1:=HS
 have hbu2:=But.of (r:=r) hbB1
 replace HR:=gh ((gf HR).keep hbB1)
 replace HB:=gh ((gf HB).trans hbu2)
 replace HZ:=gh (zkeep (gf HZ) hbu2 hrne)
 replace HS:=gh (Nat.lt_of_lt_of_le (gf HS) hbu2.size)
 have HX1:=gh hhB1
 have HEB1:=gh eB1
 have HSB1:=gh hsB1
 clear eB1 hbB1 hhB1 hsB1
 have HC3:=gh (must_any (gf HR) (gf HT) (s:=⟨#[58,61]⟩) (by decide))
 go_wp2_with fail
 rw [gf HEB1]
 refine (gf HC3).mono ?_
 intro e w3 h3
 rcases hX3:mustR ts ⟨#[58,61]⟩ (q0) with er | ⟨t3,q3⟩
 ·rw [hX3] at h3
  obtain ⟨ei,en⟩:=er
  have hYe:Y = .error (ei,en):=by have h:=gf HY;rw [hX3] at h;exact h.symm
  subst hYe
  obtain ⟨hb3,h3⟩:=h3
  obtain rfl:e=_:=h3
  have HP:=gh ((gf HB).trans hb3)
  clear hb3 HC3 hX3
  go_wp2
  exact ⟨rfl,gf HP,rfl⟩
 rw [hX3] at h3
 obtain ⟨hb3,hle3,hR3,v3,rfl,hv3⟩:=h3
 have hY3:=gf HY
 rw [hX3] at hY3
 simp only [thenR] at hY3
 replace HY:=gh hY3
 clear hY3
 obtain rfl:v3=_:=hv3
 replace HB:=gh ((gf HB).trans hb3)
 replace HZ:=gh (zkeep (gf HZ) hb3 hrne)
 replace HX1:=gh (zkeep (gf HX1) hb3 ne1)
 replace HS:=gh (Nat.lt_of_lt_of_le (gf HS) hb3.size)
 replace HR:=gh hR3
 replace HL:=gh (And.intro (Nat.le_trans (gf HL).1 hle3) (Nat.le_trans (gf HL).2 hle3))
 clear hb3 hle3 hR3 HC3 hX3
 have HC4:=gh (takeIf_any (gf HR) (gf HT) (s:=⟨#[45]⟩) (by decide))
 obtain ⟨bom,hbo4⟩:∃ b,sees ts (q3) ⟨#[45]⟩=b:=⟨_,rfl⟩
 rw [hbo4] at HC4
 obtain ⟨z4,hz4⟩:∃ z,(if bom=true then q3+1 else q3)=z:=⟨_,rfl⟩
 have hle4:q3≤z4:=by rw [←hz4];split <;> omega
 have hY4:=gf HY
 rw [hbo4,hz4] at hY4
 replace HY:=gh hY4
 rw [hz4] at HC4
 clear hY4 hbo4 hz4
 go_wp2_with fail
 refine (gf HC4).mono ?_
 rintro e w4 ⟨rfl,hb4,hR4⟩
 replace HB:=gh ((gf HB).trans hb4)
 replace HZ:=gh (zkeep (gf HZ) hb4 hrne)
 replace HX1:=gh (zkeep (gf HX1) hb4 ne1)
 replace HS:=gh (Nat.lt_of_lt_of_le (gf HS) hb4.size)
 replace HR:=gh hR4
 replace HL:=gh (And.intro (Nat.le_trans (gf HL).1 hle4) (Nat.le_trans (gf HL).2 hle4))
 clear hb4 hR4 HC4 hle4
 have HC5:=gh (mustBe_any (gf HR) (gf HT) (k:=3) (by decide))
 go_wp2_with fail
 refine (gf HC5).mono ?_
 intro e w5 h5
 rcases hX5:mustBeR ts 3 (z4) with er | ⟨t5,q5⟩
 ·rw [hX5] at h5
  obtain ⟨ei,en⟩:=er
  have hYe:Y = .error (ei,en):=by have h:=gf HY;rw [hX5] at h;exact h.symm
  subst hYe
  obtain ⟨hb5,h5⟩:=h5
  obtain rfl:e=_:=h5
  have HP:=gh ((gf HB).trans hb5)
  clear hb5 HC5 hX5
  go_wp2
  exact ⟨rfl,gf HP,rfl⟩
 rw [hX5] at h5
 obtain ⟨hb5,hle5,hR5,v5,rfl,hv5⟩:=h5
 have hY5:=gf HY
 rw [hX5] at hY5
 simp only [thenR] at hY5
 replace HY:=gh hY5
 clear hY5
 obtain ⟨kk5,T5,at5⟩:=t5
 obtain rfl:v5=_:=hv5
 have hf05:=fld0 (.int .i64 kk5) (.string T5) (.int .i64 at5)
 have hf15:=fld1 (.int .i64 kk5) (.string T5) (.int .i64 at5)
 unfold tkV
 replace HB:=gh ((gf HB).trans hb5)
 replace HZ:=gh (zkeep (gf HZ) hb5 hrne)
 replace HX1:=gh (zkeep (gf HX1) hb5 ne1)
 replace HS:=gh (Nat.lt_of_lt_of_le (gf HS) hb5.size)
 replace HR:=gh hR5
 replace HL:=gh (And.intro (Nat.le_trans (gf HL).1 hle5) (Nat.le_trans (gf HL).2 hle5))
 have HXX5:=gh hX5
 clear hb5 hle5 hR5 HC5 hX5
 rcases bom with _ | _
 ·have hY6:=gf HY
  rw [show cellN false T5=T5 from rfl] at hY6
  replace HY:=gh hY6
  clear hY6
  have HC7:=gh (must_any (gf HR) (gf HT) (s:=⟨#[59,59]⟩) (by decide))
  go_wp2_with fail
  refine (gf HC7).mono ?_
  intro e w7 h7
  rcases hX7:mustR ts ⟨#[59,59]⟩ (q5) with er | ⟨t7,q7⟩
  ·rw [hX7] at h7
   obtain ⟨ei,en⟩:=er
   have hYe:Y = .error (ei,en):=by have h:=gf HY;rw [hX7] at h;exact h.symm
   subst hYe
   obtain ⟨hb7,h7⟩:=h7
   obtain rfl:e=_:=h7
   have HP:=gh ((gf HB).trans hb7)
   clear hb7 HC7 hX7
   go_wp2
   exact ⟨rfl,gf HP,rfl⟩
  rw [hX7] at h7
  obtain ⟨hb7,hle7,hR7,v7,rfl,hv7⟩:=h7
  have hY7:=gf HY
  rw [hX7] at hY7
  simp only [thenR] at hY7
  replace HY:=gh hY7
  clear hY7
  obtain rfl:v7=_:=hv7
  replace HB:=gh ((gf HB).trans hb7)
  replace HZ:=gh (zkeep (gf HZ) hb7 hrne)
  replace HX1:=gh (zkeep (gf HX1) hb7 ne1)
  replace HS:=gh (Nat.lt_of_lt_of_le (gf HS) hb7.size)
  replace HR:=gh hR7
  replace HL:=gh (And.intro (Nat.le_trans (gf HL).1 hle7) (Nat.le_trans (gf HL).2 hle7))
  clear hb7 hle7 hR7 HC7 hX7
  have u01:=(blk (gf HX1)).2.1 0 _ rfl
  have u11:=(blk (gf HX1)).2.1 1 _ rfl
  have u21:=(blk (gf HX1)).2.1 2 _ rfl
  have HF0:DeW w7 (w.heap.size+1) (.agg #[.bool true,.string T0,.string T5,.bool false,.slice none 0 0,.int .i64 0,.int .i64 0,.string ⟨#[]⟩,.slice none 0 0,.int .i64 0,.slice none 0 0,.string ⟨#[]⟩,.slice none 0 0,.slice none 0 0,.int .i64 0,.string ⟨#[]⟩,.string ⟨#[]⟩,.bool false,.slice none 0 0,.int .i64 0,.int .i64 0,.int .i64 at0]) (.mk true T0 T5 false [] 0 zTy [] ⟨#[]⟩ [] [] zEx at0):=⟨⟨none,0,0,none,0,0,none,0,0,none,0,0,none,0,0,none,0,0⟩,rfl,⟨psn,lsn,lsn,lsn,lsn,lsn⟩⟩
  have HF:=gh HF0
  clear HF0
  have HTh:=gh (there_of (o:=0) (n:=22) (gf HZ) (by decide))
  go_wp2_with ((with_reducible refine st_de (x:=.tmp 2) (y:=.tmp 29) (b:=w.heap.size) [.bool true,.string T0,.string T5,.bool false,.slice none 0 0,.int .i64 0,.int .i64 0,.string ⟨#[]⟩,.slice none 0 0,.int .i64 0,.slice none 0 0,.string ⟨#[]⟩,.slice none 0 0,.slice none 0 0,.int .i64 0,.string ⟨#[]⟩,.string ⟨#[]⟩,.bool false,.slice none 0 0,.int .i64 0,.int .i64 0,.int .i64 at0] ?_ ?_ ?_ ?_ (gf HTh) ?_ ?_ ?_);exact rfl;exact rfl;exact rfl;exact rfl;exact rfl;exact rfl;clear HTh;intro W9 eW9)
  have e9:=gf eW9
  clear eW9
  try go_wp2
  subst e9
  exact ret_row (cs:=[.bool true,.string T0,.string T5,.bool false,.slice none 0 0,.int .i64 0,.int .i64 0,.string ⟨#[]⟩,.slice none 0 0,.int .i64 0,.slice none 0 0,.string ⟨#[]⟩,.slice none 0 0,.slice none 0 0,.int .i64 0,.string ⟨#[]⟩,.string ⟨#[]⟩,.bool false,.slice none 0 0,.int .i64 0,.int .i64 0,.int .i64 at0]) (xs:=[.bool false,.string ⟨#[]⟩,.string ⟨#[]⟩,.bool false,.slice none 0 0,.int .i64 0,.int .i64 0,.string ⟨#[]⟩,.slice none 0 0,.int .i64 0,.slice none 0 0,.string ⟨#[]⟩,.slice none 0 0,.slice none 0 0,.int .i64 0,.string ⟨#[]⟩,.string ⟨#[]⟩,.bool false,.slice none 0 0,.int .i64 0,.int .i64 0,.int .i64 0]) DeW.keep rfl rfl rfl (gf HB) hr (gf HZ) rfl Tryz.underlying56 rfl (by kernel_rfl) (by have h:=gf HY;exact h.symm) (gf HL).1 (gf HR) (lo:=w.heap.size+1) (by omega) (gf HF)
 by_cases h0:T5=⟨#[48]⟩
 ·have e0:(T5.toList == [48])=true:=(eqb T5 ⟨#[48]⟩ [48] rfl).mp h0
  have e1:(!(T5.toList == [48]))=false:=by rw [e0];rfl
  have hY8:=gf HY
  rw [show cellN true T5=T5 from if_neg (fun h=>h.2 h0)] at hY8
  replace HY:=gh hY8
  clear hY8
  clear h0
  have HC9:=gh (must_any (gf HR) (gf HT) (s:=⟨#[59,59]⟩) (by decide))
  go_wp2_with fail
  refine (gf HC9).mono ?_
  intro e w9 h9
  rcases hX9:mustR ts ⟨#[59,59]⟩ (q5) with er | ⟨t9,q9⟩
  ·rw [hX9] at h9
   obtain ⟨ei,en⟩:=er
   have hYe:Y = .error (ei,en):=by have h:=gf HY;rw [hX9] at h;exact h.symm
   subst hYe
   obtain ⟨hb9,h9⟩:=h9
   obtain rfl:e=_:=h9
   have HP:=gh ((gf HB).trans hb9)
   clear hb9 HC9 hX9
   go_wp2
   exact ⟨rfl,gf HP,rfl⟩
  rw [hX9] at h9
  obtain ⟨hb9,hle9,hR9,v9,rfl,hv9⟩:=h9
  have hY9:=gf HY
  rw [hX9] at hY9
  simp only [thenR] at hY9
  replace HY:=gh hY9
  clear hY9
  obtain rfl:v9=_:=hv9
  replace HB:=gh ((gf HB).trans hb9)
  replace HZ:=gh (zkeep (gf HZ) hb9 hrne)
  replace HX1:=gh (zkeep (gf HX1) hb9 ne1)
  replace HS:=gh (Nat.lt_of_lt_of_le (gf HS) hb9.size)
  replace HR:=gh hR9
  replace HL:=gh (And.intro (Nat.le_trans (gf HL).1 hle9) (Nat.le_trans (gf HL).2 hle9))
  clear hb9 hle9 hR9 HC9 hX9
  have u01:=(blk (gf HX1)).2.1 0 _ rfl
  have u11:=(blk (gf HX1)).2.1 1 _ rfl
  have u21:=(blk (gf HX1)).2.1 2 _ rfl
  have HF0:DeW w9 (w.heap.size+1) (.agg #[.bool true,.string T0,.string T5,.bool false,.slice none 0 0,.int .i64 0,.int .i64 0,.string ⟨#[]⟩,.slice none 0 0,.int .i64 0,.slice none 0 0,.string ⟨#[]⟩,.slice none 0 0,.slice none 0 0,.int .i64 0,.string ⟨#[]⟩,.string ⟨#[]⟩,.bool false,.slice none 0 0,.int .i64 0,.int .i64 0,.int .i64 at0]) (.mk true T0 T5 false [] 0 zTy [] ⟨#[]⟩ [] [] zEx at0):=⟨⟨none,0,0,none,0,0,none,0,0,none,0,0,none,0,0,none,0,0⟩,rfl,⟨psn,lsn,lsn,lsn,lsn,lsn⟩⟩
  have HF:=gh HF0
  clear HF0
  have HTh:=gh (there_of (o:=0) (n:=22) (gf HZ) (by decide))
  go_wp2_with ((with_reducible refine st_de (x:=.tmp 2) (y:=.tmp 29) (b:=w.heap.size) [.bool true,.string T0,.string T5,.bool false,.slice none 0 0,.int .i64 0,.int .i64 0,.string ⟨#[]⟩,.slice none 0 0,.int .i64 0,.slice none 0 0,.string ⟨#[]⟩,.slice none 0 0,.slice none 0 0,.int .i64 0,.string ⟨#[]⟩,.string ⟨#[]⟩,.bool false,.slice none 0 0,.int .i64 0,.int .i64 0,.int .i64 at0] ?_ ?_ ?_ ?_ (gf HTh) ?_ ?_ ?_);exact rfl;exact rfl;exact rfl;exact rfl;exact rfl;exact rfl;clear HTh;intro W9 eW9)
  have e9:=gf eW9
  clear eW9
  try go_wp2
  subst e9
  exact ret_row (cs:=[.bool true,.string T0,.string T5,.bool false,.slice none 0 0,.int .i64 0,.int .i64 0,.string ⟨#[]⟩,.slice none 0 0,.int .i64 0,.slice none 0 0,.string ⟨#[]⟩,.slice none 0 0,.slice none 0 0,.int .i64 0,.string ⟨#[]⟩,.string ⟨#[]⟩,.bool false,.slice none 0 0,.int .i64 0,.int .i64 0,.int .i64 at0]) (xs:=[.bool false,.string ⟨#[]⟩,.string ⟨#[]⟩,.bool false,.slice none 0 0,.int .i64 0,.int .i64 0,.string ⟨#[]⟩,.slice none 0 0,.int .i64 0,.slice none 0 0,.string ⟨#[]⟩,.slice none 0 0,.slice none 0 0,.int .i64 0,.string ⟨#[]⟩,.string ⟨#[]⟩,.bool false,.slice none 0 0,.int .i64 0,.int .i64 0,.int .i64 0]) DeW.keep rfl rfl rfl (gf HB) hr (gf HZ) rfl Tryz.underlying56 rfl (by kernel_rfl) (by have h:=gf HY;exact h.symm) (gf HL).1 (gf HR) (lo:=w.heap.size+1) (by omega) (gf HF)
 have e0:(T5.toList == [48])=false:=by have h:=h0;rw [eqb T5 ⟨#[48]⟩ [48] rfl] at h;simpa using h
 have hsz9:T5.size≤65536:=sz_of (gf hSz) (gf HXX5)
 have hov:(9223372036854775807<1+T5.size)=False:=by simp;omega
 have hov2:(9223372036854775807<T5.size+1)=False:=by simp;omega
 have hY10:=gf HY
 rw [show cellN true T5=⟨#[45]⟩++T5 from if_pos ⟨rfl,h0⟩] at hY10
 replace HY:=gh hY10
 clear hY10
 clear h0 hsz9
 obtain ⟨NN,hNN⟩:∃ x:ByteArray,(⟨#[45]⟩:ByteArray)++T5=x:=⟨_,rfl⟩
 have hY11:=gf HY
 rw [hNN] at hY11
 replace HY:=gh hY11
 clear hY11
 have HC12:=gh (must_any (gf HR) (gf HT) (s:=⟨#[59,59]⟩) (by decide))
 go_wp2_with fail
 refine (gf HC12).mono ?_
 intro e w12 h12
 rcases hX12:mustR ts ⟨#[59,59]⟩ (q5) with er | ⟨t12,q12⟩
 ·rw [hX12] at h12
  obtain ⟨ei,en⟩:=er
  have hYe:Y = .error (ei,en):=by have h:=gf HY;rw [hX12] at h;exact h.symm
  subst hYe
  obtain ⟨hb12,h12⟩:=h12
  obtain rfl:e=_:=h12
  have HP:=gh ((gf HB).trans hb12)
  clear hb12 HC12 hX12
  go_wp2
  exact ⟨rfl,gf HP,rfl⟩
 rw [hX12] at h12
 obtain ⟨hb12,hle12,hR12,v12,rfl,hv12⟩:=h12
 have hY12:=gf HY
 rw [hX12] at hY12
 simp only [thenR] at hY12
 replace HY:=gh hY12
 clear hY12
 obtain rfl:v12=_:=hv12
 replace HB:=gh ((gf HB).trans hb12)
 replace HZ:=gh (zkeep (gf HZ) hb12 hrne)
 replace HX1:=gh (zkeep (gf HX1) hb12 ne1)
 replace HS:=gh (Nat.lt_of_lt_of_le (gf HS) hb12.size)
 replace HR:=gh hR12
 replace HL:=gh (And.intro (Nat.le_trans (gf HL).1 hle12) (Nat.le_trans (gf HL).2 hle12))
 clear hb12 hle12 hR12 HC12 hX12
 have u01:=(blk (gf HX1)).2.1 0 _ rfl
 have u11:=(blk (gf HX1)).2.1 1 _ rfl
 have u21:=(blk (gf HX1)).2.1 2 _ rfl
 have HF0:DeW w12 (w.heap.size+1) (.agg #[.bool true,.string T0,.string NN,.bool false,.slice none 0 0,.int .i64 0,.int .i64 0,.string ⟨#[]⟩,.slice none 0 0,.int .i64 0,.slice none 0 0,.string ⟨#[]⟩,.slice none 0 0,.slice none 0 0,.int .i64 0,.string ⟨#[]⟩,.string ⟨#[]⟩,.bool false,.slice none 0 0,.int .i64 0,.int .i64 0,.int .i64 at0]) (.mk true T0 NN false [] 0 zTy [] ⟨#[]⟩ [] [] zEx at0):=⟨⟨none,0,0,none,0,0,none,0,0,none,0,0,none,0,0,none,0,0⟩,rfl,⟨psn,lsn,lsn,lsn,lsn,lsn⟩⟩
 have HF:=gh HF0
 clear HF0
 have HTh:=gh (there_of (o:=0) (n:=22) (gf HZ) (by decide))
 go_wp2_with ((with_reducible refine st_de (x:=.tmp 2) (y:=.tmp 29) (b:=w.heap.size) [.bool true,.string T0,.string NN,.bool false,.slice none 0 0,.int .i64 0,.int .i64 0,.string ⟨#[]⟩,.slice none 0 0,.int .i64 0,.slice none 0 0,.string ⟨#[]⟩,.slice none 0 0,.slice none 0 0,.int .i64 0,.string ⟨#[]⟩,.string ⟨#[]⟩,.bool false,.slice none 0 0,.int .i64 0,.int .i64 0,.int .i64 at0] ?_ ?_ ?_ ?_ (gf HTh) ?_ ?_ ?_);exact rfl;exact rfl;exact rfl;exact rfl;exact rfl;exact rfl;clear HTh;intro W9 eW9)
 have e9:=gf eW9
 clear eW9
 try go_wp2
 subst e9
 exact ret_row (cs:=[.bool true,.string T0,.string NN,.bool false,.slice none 0 0,.int .i64 0,.int .i64 0,.string ⟨#[]⟩,.slice none 0 0,.int .i64 0,.slice none 0 0,.string ⟨#[]⟩,.slice none 0 0,.slice none 0 0,.int .i64 0,.string ⟨#[]⟩,.string ⟨#[]⟩,.bool false,.slice none 0 0,.int .i64 0,.int .i64 0,.int .i64 at0]) (xs:=[.bool false,.string ⟨#[]⟩,.string ⟨#[]⟩,.bool false,.slice none 0 0,.int .i64 0,.int .i64 0,.string ⟨#[]⟩,.slice none 0 0,.int .i64 0,.slice none 0 0,.string ⟨#[]⟩,.slice none 0 0,.slice none 0 0,.int .i64 0,.string ⟨#[]⟩,.string ⟨#[]⟩,.bool false,.slice none 0 0,.int .i64 0,.int .i64 0,.int .i64 0]) DeW.keep rfl rfl rfl (gf HB) hr (gf HZ) rfl Tryz.underlying56 rfl (by kernel_rfl) (by have h:=gf HY;exact h.symm) (gf HL).1 (gf HR) (lo:=w.heap.size+1) (by omega) (gf HF)
end Go.Proofs.YtfkfnbehdcmgeaaGreatDoor
