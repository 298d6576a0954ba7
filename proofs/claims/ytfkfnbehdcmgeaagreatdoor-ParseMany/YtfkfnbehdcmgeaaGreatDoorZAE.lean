/- Package parse: joined. -/
import Derived.Test.YtfkfnbehdcmgeaaGreatDoorZAD
set_option linter.unusedVariables false
set_option linter.unusedSimpArgs false
namespace Go.Proofs.YtfkfnbehdcmgeaaGreatDoor
open Go Go.RowKit
def upL (L:Nat→Bool) (i:Nat):Nat→Bool:=fun j=>if j=i then true else L j
def upS (s:Nat→Value) (i:Nat) (v:Value):Nat→Value:=fun j=>if j=i then v else s j
theorem upL_same (L:Nat→Bool) (i:Nat):upL L i i=true:=if_pos rfl
theorem upL_other {L:Nat→Bool} {i j:Nat} (h:j≠i):upL L i j=L j:=if_neg h
theorem upS_same (s:Nat→Value) (i:Nat) (v:Value):upS s i v i=v:=if_pos rfl
theorem upS_other {s:Nat→Value} {i j:Nat} {v:Value} (h:j≠i):upS s i v j=s j:=if_neg h
section
variable {P:Program} {X:Exit→Act→World→Prop}
theorem seqP {l:List Oper} {a0:Act} {w0:World} (N:Nat) (kept:List Nat) (Φ:Nat→Value→Prop) (chn:Nat→Bool) (Q:(Nat→Bool)→(Nat→Value)→World→Prop)
  (hg:fitF N 0 kept l=true) (hN:a0.tmps.size=N)
  (hlt:∀ i,chn i=true→i<l.length)
  (h0:Q (fun _=>false) (slotOf l.toArray a0) w0)
  (hloc:∀ (L L':Nat→Bool) (s s':Nat→Value) (w:World),(∀ i,chn i=true→L i=L' i∧((l.getD i default).dst.isSome=true→s i=s' i))→Q L s w→Q L' s' w)
  (hsome:∀ i o,l[i]?=some o→o.dst=none→chn i=true∧∀ v,Φ i v)
  (hpure:∀ i,i<l.length→chn i=false→∀ (a:Act) (w:World) (L:Nat→Bool),a.defers=a0.defers→a.tmps.size=N→(∀ k,k∈kept→a.tmps[k]?=a0.tmps[k]?)→(∀ j,(preds (l.getD i default)).contains j=true→Φ j (slotOf l.toArray a j))→Q L (slotOf l.toArray a) w →
   if Region.wanted (l.getD i default) (yielded l.toArray a.tmps) then (l.getD i default).wp P a w (fun a' w'=>∃ v,a'=a.put (l.getD i default).dst v∧w'=w∧Φ i v) X else Φ i undef)
  (hch:∀ i,chn i=true→∀ (a:Act) (w:World) (L:Nat→Bool),a.defers=a0.defers→a.tmps.size=N→(∀ k,k∈kept→a.tmps[k]?=a0.tmps[k]?)→(∀ j,(preds (l.getD i default)).contains j=true→L j=true∧Φ j (slotOf l.toArray a j))→L i=false→(∀ j,j<l.length→L j=true→∀ k,(preds (l.getD j default)).contains k=true→L k=true)→Q L (slotOf l.toArray a) w →
   if Region.wanted (l.getD i default) (yielded l.toArray a.tmps) then (l.getD i default).wp P a w (fun a' w'=>∃ v,a'=a.put (l.getD i default).dst v∧((l.getD i default).dst.isSome=true→Φ i v)∧Q (upL L i) (upS (slotOf l.toArray a) i v) w') X else ((l.getD i default).dst.isSome=true→Φ i undef)∧Q (upL L i) (upS (slotOf l.toArray a) i undef) w)
  (hend:∀ (a:Act) (w:World),a.defers=a0.defers→a.tmps.size=N→(∀ k,k∈kept→a.tmps[k]?=a0.tmps[k]?)→(∀ i,i<l.length→Φ i (slotOf l.toArray a i))→Q (fun _=>true) (slotOf l.toArray a) w→X .normal a w) :
  wpAny P .any l.toArray X l.toArray.size (Array.replicate l.toArray.size false) a0 w0:=by
 have hgd:∀ (i:Nat) (o:Oper),l[i]?=some o→l.getD i default=o:=fun i o ho=>by simp [List.getD_eq_getElem?_getD,ho]
 have hspec:=fitF_spec l 0 kept hg
 have hslot:∀ (i:Nat) (o:Oper) (k:Nat) (ok:Oper) (a:Act) (v:Value),l[i]?=some o→l[k]?=some ok→ok.dst.isSome=true→k≠i→slotOf l.toArray (a.put o.dst v) k=slotOf l.toArray a k:=fun i o k ok a v ho hk hks hne=>by
  obtain ⟨dk,hdk⟩:=Option.isSome_iff_exists.1 hks
  have hk':l.toArray[k]?=some ok:=by simpa using hk
  cases hd:o.dst with
  |none=>rfl
  |some d =>
   refine slot_put_other hk' hdk fun e => ?_
   subst e
   rcases Nat.lt_or_gt_of_ne hne with h | h
   ·exact ((hspec i o ho).2 d hd).2.2 k ok h hk hdk
   ·exact ((hspec k ok hk).2 d hdk).2.2 i o h ho hd
 have hself:∀ (i:Nat) (o:Oper) (a:Act) (v:Value),l[i]?=some o→o.dst.isSome=true→a.tmps.size=N→slotOf l.toArray (a.put o.dst v) i=v:=fun i o a v ho hs hn=>by
  obtain ⟨d,hd⟩:=Option.isSome_iff_exists.1 hs
  have ho':l.toArray[i]?=some o:=by simpa using ho
  exact slot_put_same (a:=a) (v:=v) ho' hd (by have:=((hspec i o ho).2 d hd).2.1;omega)
 have hget:∀ (listed:Array Bool) (i j:Nat),i≠j→(listed.setIfInBounds i true).getD j false=listed.getD j false:=fun listed i j e=>getD_set_ne false e
 refine stepsF N kept Φ (fun listed a w=>Q (fun j=>listed.getD j false) (slotOf l.toArray a) w) hg hN ?_ ?_ ?_ ?_
 ·have hrep:∀ i,(Array.replicate l.length false).getD i false=false:=fun i=>by
   simp only [Array.getD_eq_getD_getElem?,Array.getElem?_replicate]
   split <;> rfl
  exact hloc _ _ _ _ w0 (fun i _=>⟨(hrep i).symm,fun _=>rfl⟩) h0
 ·intro i o ho listed a w hsz hun hdown hdf hn hk hpr hQ
  have hi:=(List.getElem?_eq_some_iff.1 ho).1
  have hun':listed.getD i false=false:=by
   have h1:i<listed.size:=by omega
   simpa [h1] using hun
  have hset:(listed.setIfInBounds i true).getD i false=true:=by
   have h1:i<listed.size:=by omega
   simp [h1]
  have ed:=hgd i o ho
  cases hc:chn i with
  |false =>
   have hkeep:∀ v,Q (fun j=>(listed.setIfInBounds i true).getD j false) (slotOf l.toArray (a.put o.dst v)) w:=fun v=>hloc _ _ _ _ w (fun j hj=>by
    have hne:i≠j:=fun e=>by rw [←e,hc] at hj;cases hj
    have hj2:=List.getElem?_eq_getElem (hlt j hj)
    exact ⟨(hget listed i j hne).symm,fun hs=>(hslot i o j _ a v ho hj2 (by rw [hgd j _ hj2] at hs;exact hs) (Ne.symm hne)).symm⟩) hQ
   have h:=hpure i hi hc a w (fun j=>listed.getD j false) hdf hn hk (fun j hj=>(hpr j (by rw [ed] at hj;exact hj)).2) hQ
   rw [ed] at h
   split at h
   ·rename_i hw
    rw [if_pos hw]
    refine Oper.wp_mono ?_ h
    rintro a' w' ⟨v,rfl,rfl,hv⟩
    exact ⟨v,rfl,fun _=>hv,hkeep v⟩
   ·rename_i hw
    rw [if_neg hw]
    exact ⟨fun _=>h,hkeep undef⟩
  |true =>
   have hkeep:∀ v w',Q (upL (fun j=>listed.getD j false) i) (upS (slotOf l.toArray a) i v) w'→Q (fun j=>(listed.setIfInBounds i true).getD j false) (slotOf l.toArray (a.put o.dst v)) w':=fun v w' hQ'=>hloc _ _ _ _ w' (fun j hj=>by
    by_cases ej:j=i
    ·subst ej
     rw [upL_same,upS_same]
     exact ⟨hset.symm,fun hs=>(hself j o a v ho (by rw [ed] at hs;exact hs) hn).symm⟩
    ·rw [upL_other ej,upS_other ej]
     have hj2:=List.getElem?_eq_getElem (hlt j hj)
     exact ⟨(hget listed i j (Ne.symm ej)).symm,fun hs=>(hslot i o j _ a v ho hj2 (by rw [hgd j _ hj2] at hs;exact hs) ej).symm⟩) hQ'
   have h:=hch i hc a w (fun j=>listed.getD j false) hdf hn hk (fun j hj=>hpr j (by rw [ed] at hj;exact hj)) hun' (fun j hj h2 k h3=>hdown j _ (List.getElem?_eq_getElem hj) h2 k (by rw [hgd j _ (List.getElem?_eq_getElem hj)] at h3;exact h3)) hQ
   rw [ed] at h
   split at h
   ·rename_i hw
    rw [if_pos hw]
    refine Oper.wp_mono ?_ h
    rintro a' w' ⟨v,rfl,hv,hQ'⟩
    exact ⟨v,rfl,hv,hkeep v w' hQ'⟩
   ·rename_i hw
    rw [if_neg hw]
    exact ⟨h.1,hkeep undef w h.2⟩
 ·exact fun i o ho hd v=>(hsome i o ho hd).2 v
 ·intro listed a w hsz hall hdf hn hk hΦ hJ
  exact hend a w hdf hn hk hΦ (hloc _ _ _ _ w (fun i hi=>⟨hall i (hlt i hi),fun _=>rfl⟩) hJ)
end
end Go.Proofs.YtfkfnbehdcmgeaaGreatDoor
namespace Go.Proofs.YtfkfnbehdcmgeaaGreatDoor
open Go Go.RowKit
section
variable {P:Program} {X:Exit→Act→World→Prop}
theorem seqN {l:List Oper} {a0:Act} {w0:World} (N:Nat) (kept cs:List Nat) (Φ:Nat→Value→Prop) (St:Nat→(Nat→Value)→World→Prop)
  (hg:fitF N 0 kept l=true) (hN:a0.tmps.size=N) (hnd:cs.Nodup) (hlt:∀ i∈cs,i<l.length)
  (hpred:∀ k,k+1<cs.length→(preds (l.getD (cs.getD (k+1) 0) default)).contains (cs.getD k 0)=true)
  (hsome:∀ i o,l[i]?=some o→o.dst=none→i∈cs∧∀ v,Φ i v)
  (hloc:∀ (n:Nat) (s s':Nat→Value) (w:World),(∀ k,k<cs.length→(l.getD (cs.getD k 0) default).dst.isSome=true→s (cs.getD k 0)=s' (cs.getD k 0))→St n s w→St n s' w)
  (h0:St 0 (slotOf l.toArray a0) w0)
  (hpure:∀ i,i<l.length→i ∉ cs→∀ (a:Act) (w:World) (n:Nat) (s:Nat→Value),a.defers=a0.defers→a.tmps.size=N→(∀ k,k∈kept→a.tmps[k]?=a0.tmps[k]?)→(∀ j,(preds (l.getD i default)).contains j=true→Φ j (slotOf l.toArray a j))→n≤cs.length→St n s w →
   if Region.wanted (l.getD i default) (yielded l.toArray a.tmps) then (l.getD i default).wp P a w (fun a' w'=>∃ v,a'=a.put (l.getD i default).dst v∧w'=w∧Φ i v) X else Φ i undef)
  (hch:∀ k,k<cs.length→∀ (a:Act) (w:World),a.defers=a0.defers→a.tmps.size=N→(∀ j,j∈kept→a.tmps[j]?=a0.tmps[j]?)→(∀ j,(preds (l.getD (cs.getD k 0) default)).contains j=true→Φ j (slotOf l.toArray a j))→St k (slotOf l.toArray a) w →
   if Region.wanted (l.getD (cs.getD k 0) default) (yielded l.toArray a.tmps) then (l.getD (cs.getD k 0) default).wp P a w (fun a' w'=>∃ v,a'=a.put (l.getD (cs.getD k 0) default).dst v∧((l.getD (cs.getD k 0) default).dst.isSome=true→Φ (cs.getD k 0) v)∧St (k+1) (upS (slotOf l.toArray a) (cs.getD k 0) v) w') X else ((l.getD (cs.getD k 0) default).dst.isSome=true→Φ (cs.getD k 0) undef)∧St (k+1) (upS (slotOf l.toArray a) (cs.getD k 0) undef) w)
  (hend:∀ (a:Act) (w:World),a.defers=a0.defers→a.tmps.size=N→(∀ k,k∈kept→a.tmps[k]?=a0.tmps[k]?)→(∀ i,i<l.length→Φ i (slotOf l.toArray a i))→St cs.length (slotOf l.toArray a) w→X .normal a w) :
  wpAny P .any l.toArray X l.toArray.size (Array.replicate l.toArray.size false) a0 w0:=by
 have hget:∀ k,k<cs.length→cs.getD k 0∈cs∧cs[k]?=some (cs.getD k 0):=fun k hk=>by
  rw [List.getD_eq_getElem?_getD,List.getElem?_eq_getElem hk]
  exact ⟨List.getElem_mem _,rfl⟩
 have hinj:∀ j k,j<cs.length→k<cs.length→cs.getD j 0=cs.getD k 0→j=k:=fun j k hj hk h=>by
  have e1:=(hget j hj).2
  have e2:=(hget k hk).2
  rw [h] at e1
  rw [List.getElem?_eq_getElem hj] at e1
  rw [List.getElem?_eq_getElem hk] at e2
  have e:cs[j]=cs[k]:=Option.some.inj (e1.trans e2.symm)
  have hp:=List.pairwise_iff_getElem.1 hnd
  rcases Nat.lt_trichotomy j k with h | h | h
  ·exact absurd e (hp j k hj hk h)
  ·exact h
  ·exact absurd e.symm (hp k j hk hj h)
 have hpos:∀ i∈cs,∃ k,k<cs.length∧cs.getD k 0=i:=fun i hi=>by
  obtain ⟨k,hk,e⟩:=List.mem_iff_getElem.1 hi
  refine ⟨k,hk,?_⟩
  rw [List.getD_eq_getElem?_getD,List.getElem?_eq_getElem hk]
  exact e
 refine seqP N kept Φ (fun i=>decide (i∈cs)) (fun L s w=>∃ n,n≤cs.length∧(∀ k,k<cs.length→L (cs.getD k 0)=decide (k<n))∧St n s w) hg hN (fun i hi=>hlt i (of_decide_eq_true hi)) ⟨0,Nat.zero_le _,fun k _=>by simp,h0⟩ ?_ ?_ ?_ ?_ ?_
 ·rintro L L' s s' w h ⟨n,hn,h1,h2⟩
  refine ⟨n,hn,fun k hk => ?_,hloc n s s' w (fun k hk hd=>(h _ (decide_eq_true (hget k hk).1)).2 hd) h2⟩
  rw [←(h _ (decide_eq_true (hget k hk).1)).1]
  exact h1 k hk
 ·exact fun i o ho hd=>⟨decide_eq_true (hsome i o ho hd).1,(hsome i o ho hd).2⟩
 ·rintro i hi hc a w L hdf hsz hk hp ⟨n,hn,h1,h2⟩
  exact hpure i hi (of_decide_eq_false hc) a w n _ hdf hsz hk hp hn h2
 ·rintro i hc a w L hdf hsz hk hp hL hdown ⟨n,hn,h1,h2⟩
  obtain ⟨k,hkl,rfl⟩:=hpos i (of_decide_eq_true hc)
  have hnk:n≤k:=by
   have:=h1 k hkl
   rw [hL] at this
   have:=of_decide_eq_false this.symm
   omega
  have hkn:k≤n:=by
   cases k with
   |zero=>omega
   |succ k =>
    have h3:=(hp (cs.getD k 0) (hpred k hkl)).1
    rw [h1 k (by omega)] at h3
    have:=of_decide_eq_true h3
    omega
  obtain rfl:n=k:=by omega
  have h:=hch n hkl a w hdf hsz hk (fun j hj=>(hp j hj).2) h2
  have hup:∀ s' w',St (n+1) s' w'→∃ n',n'≤cs.length∧(∀ j,j<cs.length→upL L (cs.getD n 0) (cs.getD j 0)=decide (j<n'))∧St n' s' w':=fun s' w' hs=>⟨n+1,hkl,fun j hj=>by
   by_cases e:j=n
   ·subst e
    rw [upL_same]
    simp
   ·rw [upL_other (fun h=>e (hinj j n hj hkl h)),h1 j hj]
    have:(j<n)=(j<n+1):=propext ⟨fun h=>by omega,fun h=>by omega⟩
    rw [decide_eq_decide]
    omega,hs⟩
  split at h
  ·rename_i hw
   rw [if_pos hw]
   refine Oper.wp_mono ?_ h
   rintro a' w' ⟨v,e,hv,hs⟩
   exact ⟨v,e,hv,hup _ _ hs⟩
  ·rename_i hw
   rw [if_neg hw]
   exact ⟨h.1,hup _ _ h.2⟩
 ·rintro a w hdf hsz hk hp ⟨n,hn,h1,h2⟩
  refine hend a w hdf hsz hk hp ?_
  have:n=cs.length:=by
   rcases Nat.lt_or_ge n cs.length with h | h
   ·have:=h1 n h
    simp at this
   ·omega
  rw [this] at h2
  exact h2
end
end Go.Proofs.YtfkfnbehdcmgeaaGreatDoor
namespace Go.Proofs.YtfkfnbehdcmgeaaGreatDoor
open Go Go.RowKit
def JoC (k r:Nat) (ts:List (Int×ByteArray×Int)) (d lo:Nat) (O:Nat→(Except (Int×Int) (Ex×Nat))):Prop:=∀ (w:World) (p:Nat) (P:Nat→Prop) (t:Ex) (i0 i6:Int) (s1 s2:ByteArray) (b3:Bool) (a4:Option Addr) (n4 c4:Nat),lo≤p→p+1<ts.length→RD w r ts p d→IsEP w P (.agg #[.int .i64 i0,.string s1,.string s2,.bool b3,.slice a4 n4 c4,.int .i64 0,.int .i64 i6]) t→¬ P r→(∀ b,w.heap.size≤b→P b)→Calls Tryz.prog 121 #[.pointer (some ⟨r,0,none⟩),.agg #[.int .i64 i0,.string s1,.string s2,.bool b3,.slice a4 n4 c4,.int .i64 0,.int .i64 i6],.func (.func k) #[.pointer (some ⟨r,0,none⟩)] #[]] w (RP (fun w' v t=>IsEP w' P v t) (joinR ts O t p) r ts (p+1) d w)
theorem chainL_no {ts:List (Int×ByteArray×Int)} {O:Nat→(Except (Int×Int) (Ex×Nat))} {signs:List ByteArray} {n q:Nat} {t:Ex} (h:signs.any (sees ts q)=false):chainL ts O signs n t q = .ok (t,q):=by
 cases n with
 |zero=>rfl
 |succ n=>unfold chainL;rw [h];rfl
theorem chainL_yes {ts:List (Int×ByteArray×Int)} {O:Nat→(Except (Int×Int) (Ex×Nat))} {signs:List ByteArray} {n q:Nat} {t:Ex} (h:signs.any (sees ts q)=true):chainL ts O signs (n+1) t q=thenR (joinR ts O t q) fun y q=>chainL ts O signs n y q:=by
 rw [chainL,h]
 rfl
theorem ExAt.bnd {w:World} {P:Nat→Prop}:∀ (h b o:Nat) (t:Ex),ExAt w P h b o t→ExAt w (fun b=>P b∧b<w.heap.size) h b o t
 |0,_,_,_,h=>h
 |h+1,b,o,.mk op nm nu bl l i,hx=>by
  obtain ⟨a,c,h1,h2,h3,h4⟩:=hx
  refine ⟨a,c,h1,h2,h3,fun h0 => ?_⟩
  obtain ⟨b,off,e,hr,hb,hj⟩:=h4 h0
  exact ⟨b,off,e,⟨hr,hb⟩,hb,fun j hjn t ht=>ExAt.bnd h _ _ t (hj j hjn t ht)⟩
theorem IsEP.bnd {w:World} {P:Nat→Prop} {v:Value} {t:Ex} (h:IsEP w P v t):IsEP w (fun b=>P b∧b<w.heap.size) v t:=by
 obtain ⟨op,nm,nu,bl,l,i⟩:=t
 obtain ⟨k,a,c,e,h2,h3,h4⟩:=h
 refine ⟨k,a,c,e,h2,h3,fun h0 => ?_⟩
 obtain ⟨b,off,e,hr,hb,hj⟩:=h4 h0
 exact ⟨b,off,e,⟨hr,hb⟩,hb,fun j hjn t ht=>ExAt.bnd k _ _ t (hj j hjn t ht)⟩
structure CI (w:World) (r:Nat) (ts:List (Int×ByteArray×Int)) (p d lo b7 g0:Nat) (O:Nat→(Except (Int×Int) (Ex×Nat))) (signs:List ByteArray) (Y:(Except (Int×Int) (Ex×Nat))) (i0 i6:Int) (s1 s2:ByteArray) (b3:Bool) (a4:Option Addr) (n4 c4:Nat) (t:Ex) (q n:Nat) (V:World):Prop where
 but:But r w V
 rd:RD V r ts q d
 zb:ZB V w.heap.size
 bx:V.heap[b7]?=some (.cells #[.int .i64 i0,.string s1,.string s2,.bool b3,.slice a4 n4 c4,.int .i64 0,.int .i64 i6] 36)
 tr:IsEP V (fun b=>w.heap.size<b∧b≠b7) (.agg #[.int .i64 i0,.string s1,.string s2,.bool b3,.slice a4 n4 c4,.int .i64 0,.int .i64 i6]) t
 le:p≤q∧lo≤q
 fu:ts.length≤q+n
 ch:chainL ts O signs n t q=Y
 sg:∀ (j:Nat) s,signs[j]?=some s→V.cell? ⟨g0,j,none⟩=some (.string s)
 gs:g0<V.heap.size∧r≠g0∧g0<w.heap.size
 sz:w.heap.size<V.heap.size
set_option maxRecDepth 100000 in
set_option maxHeartbeats 8000000 in
theorem chain_of {r d lo k g0 nn0 cc0:Nat} {ts:List (Int×ByteArray×Int)} {O:Nat→(Except (Int×Int) (Ex×Nat))} {signs:List ByteArray} (hT:TsOk ts) (hEn:Enters Tryz.prog k) (hO:RuC k r ts d lo O) (hJ:JoC k r ts d lo O) {w:World} {p:Nat} (hlo:lo≤p) (hR:RD w r ts p d) (hn0:nn0=signs.length) (hne:∀ s∈signs,s≠⟨#[]⟩) (hnl:signs.length≤100) (hg0:g0<w.heap.size∧r≠g0) (hsg:∀ (j:Nat) s,signs[j]?=some s→w.cell? ⟨g0,j,none⟩=some (.string s)):Calls Tryz.prog 119 #[.pointer (some ⟨r,0,none⟩),.func (.func k) #[.pointer (some ⟨r,0,none⟩)] #[],.slice (some ⟨g0,0,none⟩) nn0 cc0] w (PE (chainR ts O signs p) r ts p d w):=by
 obtain ⟨Y,hY⟩:∃ Y,chainR ts O signs p=Y:=⟨_,rfl⟩
 rw [hY]
 unfold chainR at hY
 have hr:=hR.rlt
 obtain ⟨A,eA,hbA,hzA,hsA⟩:=zb_new w
 have HB:=gh (But.of (r:=r) hbA)
 have HR:=gh (hR.keep hbA)
 have HZ:=gh hzA
 have HS:Hid (w.heap.size<A.heap.size):=by show _<_;omega
 have HL:Hid (p≤p∧lo≤p):=⟨Nat.le_refl _,hlo⟩
 have HE:=gh eA
 have HT:=gh hT
 have HY:=gh hY
 have hrne:r≠w.heap.size:=by omega
 have hmf:∀ (fn:Fn) (first cap:Array Value) (w:World),(Instr.makeFunc fn first cap).run Tryz.prog w = .ok (.func fn first cap) w:=fun _ _ _ _=>rfl
 replace hEn:=gh hEn
 replace hO:=gh hO
 replace hJ:=gh hJ
 clear hlo hR hbA hzA hsA eA hT hY
 have HSg:=gh (And.intro hn0 (And.intro hnl (And.intro hg0 hsg)))
 have HNe:=gh hne
 clear hn0 hnl hg0 hsg hne
 go_enter Tryz.func119,Tryz.ntmps119
 have HC0:=gh (gf hO A (p) (gf HL).2 (gf HR))
 go_wp2_with fail
 rw [(gf hEn).run,gf HE]
 refine Calls.mono (gf HC0) ?_
 intro e w0 h0
 rcases hX0:O (p) with er | ⟨t0,q0⟩
 ·rw [hX0] at h0
  obtain ⟨ei,en⟩:=er
  have hYe:Y = .error (ei,en):=by have h:=gf HY;rw [hX0] at h;exact h.symm
  subst hYe
  obtain ⟨hb0,h0⟩:=h0
  obtain rfl:e=_:=h0
  have HP:=gh ((gf HB).trans hb0)
  clear hb0 HC0 hX0
  go_wp2
  exact ⟨rfl,gf HP,rfl⟩
 rw [hX0] at h0
 obtain ⟨hb0,hle0,hR0,v0,rfl,hv0⟩:=h0
 have hY0:=gf HY
 rw [hX0] at hY0
 simp only [thenR] at hY0
 replace HY:=gh hY0
 clear hY0
 obtain ⟨i0,j0,s0,m0,b0,a0,n0,c0,rfl⟩:=hv0.form
 have HT0:=gh (hv0.keep (lo':=w.heap.size+1) (Stays.of (Below.refl _ _)) (gf HS))
 replace HB:=gh ((gf HB).trans hb0)
 replace HZ:=gh ((gf HZ).but hb0 hrne)
 replace HS:=gh (Nat.lt_of_lt_of_le (gf HS) hb0.size)
 replace HR:=gh hR0
 replace HL:=gh (And.intro (Nat.le_trans (gf HL).1 hle0) (Nat.le_trans (gf HL).2 hle0))
 clear hb0 hle0 hR0 hv0 HC0 hX0
 have HSo:=HS
 have HTP:=gh (IsEP.bnd (gf HT0))
 obtain ⟨B1,eB1,hbB1,hsB1,hhB1⟩:=box_new w0 #[.int .i64 i0,.string s0,.string m0,.bool b0,.slice a0 n0 c0,.int .i64 0,.int .i64 j0] 36
 have ne1:r≠w0.heap.size:=by have:=gf HS;omega
 have hbu2:=But.of (r:=r) hbB1
 replace HR:=gh ((gf HR).keep hbB1)
 replace HB:=gh ((gf HB).trans hbu2)
 replace HZ:=gh ((gf HZ).but hbu2 hrne)
 replace HT0:=gh ((gf HT0).keep (Stays.but hbu2 (Nat.lt_succ_of_lt hr)) (Nat.le_refl _))
 replace HS:=gh (Nat.lt_of_lt_of_le (gf HS) hbu2.size)
 have HX1:=gh hhB1
 have HEB1:=gh eB1
 have HSB1:=gh hsB1
 clear eB1 hbB1 hhB1 hsB1
 obtain ⟨b7,hb7⟩:∃ b7,w0.heap.size=b7:=⟨_,rfl⟩
 have h70:w.heap.size<b7:=by have:=gf HSo;omega
 have HI:Hid (CI w r ts p d lo b7 g0 O signs Y i0 j0 s0 m0 b0 a0 n0 c0 t0 q0 ts.length B1):=by
  obtain ⟨hn0,hnl,hg0,hsg⟩:=gf HSg
  have hbx:=gf HX1
  rw [hb7] at hbx
  have hbt:=gf HB
  refine ⟨hbt,gf HR,gf HZ,hbx,(gf HTP).keep ⟨hbu2.size,fun k hk hs=>hbu2.block k hs (by omega)⟩ (fun b hb=>⟨hb.1,by omega⟩),gf HL,by omega,gf HY,fun j s hs => ?_,⟨Nat.lt_of_lt_of_le hg0.1 hbt.size,hg0.2,hg0.1⟩,gf HS⟩
  rw [World.cell?_of_block (w:=w) (a:=⟨g0,j,none⟩) (hbt.block g0 hg0.1 (Ne.symm hg0.2))]
  exact hsg j s hs
 have hn0:=(gf HSg).1
 subst hn0
 have hr7:r≠b7:=by omega
 have h7w:w.heap.size≠b7:=by omega
 go_wp2_with fail
 rw [gf HEB1]
 clear hb7 HB HZ HS HL HY HR HSo HTP HT0 HX1 HSB1 HEB1
 go_loopw [10] (fun _ wr=>∃ i0 i6 s1 s2 b3 a4 n4 c4 t q n,Hid (CI w r ts p d lo b7 g0 O signs Y i0 i6 s1 s2 b3 a4 n4 c4 t q n wr)) (fun _ wr=>ts.length - (intOf ((wr.cell? ⟨r,1,none⟩).getD undef)).toNat)
 case atStart=>exact ⟨_,_,_,_,_,_,_,_,_,_,_,HI⟩
 case round =>
  obtain ⟨i0,i6,s1,s2,b3,a4,n4,c4,t,q,n,hCI⟩:=hrel
  have h:=gf hCI
  obtain ⟨bo,hbo⟩:∃ b,signs.any (sees ts q)=b:=⟨_,rfl⟩
  have HC:=gh (one_any (c:=cc0) h.rd (gf HT) h.gs.1 (gf HSg).2.1 h.sg)
  rw [hbo] at HC
  have HO:=gh hbo
  clear hbo h
  go_wp2_with fail
  refine (gf HC).mono ?_
  rintro e w9 ⟨rfl,hb9⟩
  have h:=gf hCI
  have hbu9:=But.of (r:=r) hb9
  have h9:CI w r ts p d lo b7 g0 O signs Y i0 i6 s1 s2 b3 a4 n4 c4 t q n w9:=⟨h.but.trans hbu9,h.rd.keep hb9,h.zb.but hbu9 hrne,(hb9.block b7 (blk h.bx).1).trans h.bx,h.tr.keep ⟨hb9.size,fun k _ hk=>hb9.block k hk⟩ (fun _ h=>h),h.le,h.fu,h.ch,(fun j s hs=>by rw [hb9.cell (p:=⟨g0,j,none⟩) h.gs.1];exact h.sg j s hs),⟨Nat.lt_of_lt_of_le h.gs.1 hb9.size,h.gs.2⟩,Nat.lt_of_lt_of_le h.sz hb9.size⟩
  obtain ⟨x0,x1,x2,x3,x4,x5,x6⟩:=blk7 h9.bx
  have H9:=gh h9
  have hqo:(wr.cell? ⟨r,1,none⟩)=some (.int .i64 (q:Int)):=by
   obtain ⟨g',c',p0,p1,-⟩:=h.rd.facts (Below.refl _ _)
   exact p1
  replace hqo:=gh hqo
  clear hCI h hb9 hbu9 h9 HC
  rcases bo with _ | _
  ·obtain ⟨y0,y1,y2,y3,y4,y5,y6⟩:=blk7 (gf H9).zb
   obtain ⟨z0,z1,z2,z3,z4,z5,z6⟩:=frz7 (gf H9).zb
   go_wp2
   have h:=gf H9
   exact ret_put rfl rfl rfl h.but hr h.zb (h.ch.symm.trans (chainL_no (gf HO))) h.le.1 h.rd (Nat.lt_succ_self _) (h.tr.keep (P':=fun b=>w.heap.size+1≤b) ⟨Nat.le_refl _,fun _ _ _=>rfl⟩ (fun b hb=>hb.1))
  ·have h:=gf H9
   have hp1:q+1<ts.length:=by
    obtain ⟨s,hs,hs2⟩:=List.any_eq_true.1 (gf HO)
    exact nx_txt (gf HT) h.rd.lt (by rw [sees_txt hs2];exact gf HNe s hs)
   obtain ⟨n,rfl⟩:∃ m,n=m+1:=⟨n - 1,by have:=h.fu;omega⟩
   have hch:=h.ch
   rw [chainL_yes (gf HO)] at hch
   have HCh:=gh hch
   have HC:=gh (gf hJ w9 q _ t i0 i6 s1 s2 b3 a4 n4 c4 h.le.2 hp1 h.rd h.tr (fun hP=>by omega) (fun b hb=>⟨Nat.lt_of_lt_of_le h.sz hb,by have:=(blk h.bx).1;omega⟩))
   have hsz9:w.heap.size<w9.heap.size:=h.sz
   replace hsz9:=gh hsz9
   clear hch h hp1
   go_wp2_with fail
   refine (gf HC).mono ?_
   intro e w8 h8
   rcases hX:joinR ts O t q with er | ⟨t2,q2⟩
   ·rw [hX] at h8
    obtain ⟨ei,en⟩:=er
    have hYe:Y = .error (ei,en):=by have h:=gf HCh;rw [hX] at h;exact h.symm
    subst hYe
    obtain ⟨hb8,h8⟩:=h8
    obtain rfl:e=_:=h8
    have HP:=gh ((gf H9).but.trans hb8)
    clear hb8 HC hX
    go_wp2
    exact ⟨rfl,gf HP,rfl⟩
   ·rw [hX] at h8
    obtain ⟨hb8,hle8,hR8,v8,rfl,hv8⟩:=h8
    obtain ⟨i8,j8,s8,m8,b8,a8,n8,c8,rfl⟩:=hv8.form
    have h:=gf H9
    have hbx8:=(hb8.block b7 (blk h.bx).1 (Ne.symm hr7)).trans h.bx
    obtain ⟨y0,y1,y2,y3,y4,y5,y6⟩:=blk7 hbx8
    obtain ⟨z0,z1,z2,z3,z4,z5,z6⟩:=frz7 hbx8
    have hch:=gf HCh
    rw [hX] at hch
    simp only [thenR] at hch
    have H8:=gh (And.intro hb8 (And.intro hle8 (And.intro hR8 (And.intro hv8 (And.intro hbx8 hch)))))
    clear x0 x1 x2 x3 x4 x5 x6 hb8 hle8 hR8 hv8 hbx8 hch h HC hX
    go_wp2
    obtain ⟨hb8,hle8,hR8,hv8,hbx8,hch⟩:=gf H8
    have h:=gf H9
    have hRn:=hR8.put (q:=b7) (by omega) (.int .i64 i8) (.string s8) (.string m8) (.bool b8) (.slice a8 n8 c8) (.int .i64 0) (.int .i64 j8)
    have hqn:(set7 w8 b7 (.int .i64 i8) (.string s8) (.string m8) (.bool b8) (.slice a8 n8 c8) (.int .i64 0) (.int .i64 j8)).cell? ⟨r,1,none⟩=some (.int .i64 (q2:Int)):=by
     obtain ⟨g',c',p0,p1,-⟩:=hRn.facts (Below.refl _ _)
     exact p1
    refine ⟨⟨i8,j8,s8,m8,b8,a8,n8,c8,t2,q2,n,⟨but7 (h.but.trans hb8) (by omega) _ _ _ _ _ _ _,hRn,?_,fill7 hbx8,?_,⟨by have:=h.le;omega,by have:=h.le;omega⟩,by have:=h.fu;omega,hch,?_,⟨?_,h.gs.2⟩,?_⟩⟩,?_⟩
    ·show (set7 w8 b7 _ _ _ _ _ _ _).heap[w.heap.size]?=_
     unfold set7
     rw [same7 h7w]
     exact h.zb.but hb8 hrne
    ·refine hv8.keep ⟨?_,fun k hk hs => ?_⟩ (fun _ h=>h)
     ·simp
     ·exact same7 hk.2 _ _ _ _ _ _ _
    ·intro j s hs
     have hg:=h.gs
     have hc:=h.sg j s hs
     rw [←hc]
     refine World.cell?_of_block (a:=⟨g0,j,none⟩) ?_
     exact (same7 (show g0≠b7 by omega) _ _ _ _ _ _ _).trans (hb8.block g0 hg.1 (Ne.symm hg.2.1))
    ·have:=hb8.size
     have:=h.gs.1
     simp
     omega
    ·have:=hb8.size
     have:=h.sz
     simp
     omega
    ·have e1:intOf (((set7 w8 b7 (.int .i64 i8) (.string s8) (.string m8) (.bool b8) (.slice a8 n8 c8) (.int .i64 0) (.int .i64 j8)).cell? ⟨r,1,none⟩).getD undef)=(q2:Int):=by rw [hqn];rfl
     have e2:intOf ((wr.cell? ⟨r,1,none⟩).getD undef)=(q:Int):=by rw [gf hqo];rfl
     have hlt:=h.rd.lt
     show ts.length - (intOf (((set7 w8 b7 (.int .i64 i8) (.string s8) (.string m8) (.bool b8) (.slice a8 n8 c8) (.int .i64 0) (.int .i64 j8)).cell? ⟨r,1,none⟩).getD undef)).toNat<_
     rw [e1,e2]
     omega
end Go.Proofs.YtfkfnbehdcmgeaaGreatDoor
namespace Go.Proofs.YtfkfnbehdcmgeaaGreatDoor
open Go Go.RowKit
def regionsOf:Code→List (Nat×List Oper)
 |.region id ops _=>[(id,ops.toList)]
 |.seq a b=>regionsOf a++regionsOf b
 |.cond _ a b=>regionsOf a++regionsOf b
 |.block _ c=>regionsOf c
 |.loop c=>regionsOf c
 |_=>[]
def regionOf (f:Func) (k:Nat):List Oper:=((f.body.map regionsOf).getD []).findSome? (fun p=>if p.1 == k then some p.2 else none) |>.getD []
theorem wnone {o:Oper} {y:Nat→Option Bool} (h:o.guard=none):Region.wanted o y=true:=by simp [Region.wanted,h]
section
variable {X:Exit→Act→World→Prop} {K:Act→World→Prop} {a:Act} {w:World} {dst:Option Tmp} {ty:TypeId} {pos:String} {af:Array Edge} {gd:Option (Nat×Bool)}
set_option maxRecDepth 100000 in
set_option maxHeartbeats 4000000 in
theorem op_bs2E {k1 k2:Nat} {x0 x1 x2 x3 x4 x5 x6 y0 y1 y2 y3 y4 y5 y6:Value} (h1:a.tmps.getD k1 undef = .agg #[x0,x1,x2,x3,x4,x5,x6]) (h2:a.tmps.getD k2 undef = .agg #[y0,y1,y2,y3,y4,y5,y6]) (h:K (a.put dst (.slice (some ⟨w.heap.size,0,none⟩) 2 2)) (w.alloc (.cells #[x0,x1,x2,x3,x4,x5,x6,y0,y1,y2,y3,y4,y5,y6] 36))):Oper.wp Tryz.prog ⟨dst,.buildSlice 34 2 #[(0,.tmp k1),(1,.tmp k2)],ty,pos,af,gd⟩ a w K X:=by
 have e1:a.eval (.tmp k1) = .agg #[x0,x1,x2,x3,x4,x5,x6]:=h1
 have e2:a.eval (.tmp k2) = .agg #[y0,y1,y2,y3,y4,y5,y6]:=h2
 unfold Oper.wp
 simp only [execOp,List.map_toArray,List.map_cons,List.map_nil,e1,e2]
 go_simp
 exact h
set_option maxRecDepth 100000 in
set_option maxHeartbeats 4000000 in
theorem op_bs1E {k1:Nat} {x0 x1 x2 x3 x4 x5 x6:Value} (h1:a.tmps.getD k1 undef = .agg #[x0,x1,x2,x3,x4,x5,x6]) (h:K (a.put dst (.slice (some ⟨w.heap.size,0,none⟩) 1 1)) (w.alloc (.cells #[x0,x1,x2,x3,x4,x5,x6] 36))):Oper.wp Tryz.prog ⟨dst,.buildSlice 34 1 #[(0,.tmp k1)],ty,pos,af,gd⟩ a w K X:=by
 have e1:a.eval (.tmp k1) = .agg #[x0,x1,x2,x3,x4,x5,x6]:=h1
 unfold Oper.wp
 simp only [execOp,List.map_toArray,List.map_cons,List.map_nil,e1]
 go_simp
 exact h
set_option maxRecDepth 100000 in
set_option maxHeartbeats 4000000 in
theorem op_stE {k1 k2 q:Nat} {i0 i6:Int} {s1 s2:ByteArray} {b3:Bool} {a4:Option Addr} {n4 c4:Nat} (h1:a.tmps.getD k1 undef = .pointer (some ⟨q,0,none⟩)) (h2:a.tmps.getD k2 undef = .agg #[.int .i64 i0,.string s1,.string s2,.bool b3,.slice a4 n4 c4,.int .i64 0,.int .i64 i6]) (hz:ZB w q) (h:K a (set7 w q (.int .i64 i0) (.string s1) (.string s2) (.bool b3) (.slice a4 n4 c4) (.int .i64 0) (.int .i64 i6))):Oper.wp Tryz.prog ⟨none,.store 36 (.tmp k1) (.tmp k2),ty,pos,af,gd⟩ a w K X:=by
 have e1:a.eval (.tmp k1) = .pointer (some ⟨q,0,none⟩):=h1
 have e2:a.eval (.tmp k2) = .agg #[.int .i64 i0,.string s1,.string s2,.bool b3,.slice a4 n4 c4,.int .i64 0,.int .i64 i6]:=h2
 obtain ⟨y0,y1,y2,y3,y4,y5,y6⟩:=blk7 hz
 obtain ⟨z0,z1,z2,z3,z4,z5,z6⟩:=frz7 hz
 unfold Oper.wp
 simp only [execOp,e1,e2]
 simp [go_sem,y0,y1,y2,y3,y4,y5,y6,z0,z1,z2,z3,z4,z5,z6]
 exact h
end
theorem op_callP {P:Program} {X:Exit→Act→World→Prop} {K:Act→World→Prop} {a:Act} {w:World} {dst:Option Tmp} {ty:TypeId} {pos:String} {af:Array Edge} {gd:Option (Nat×Bool)} {f:FuncId} {args:Array Operand} {tys:Array TypeId} (hf:Enters P f)
  (hc:Calls P f (args.map a.eval) w fun e w'=>(∃ v,e = .returned v∧K (a.put dst v) w')∨∃ c,e = .panicked c∧X (.panic c) a w'):Oper.wp P ⟨dst,.call ⟨.value (.func f),args,tys⟩,ty,pos,af,gd⟩ a w K X:=by
 unfold Oper.wp
 simp [go_sem]
 rw [hf.run]
 refine Calls.mono hc ?_
 rintro e w' (⟨v,rfl,h⟩ | ⟨c,rfl,h⟩)
 ·exact h
 ·exact h
set_option maxRecDepth 100000 in
theorem ld_Tok {q:Nat} {x y z:Value} {w:World} (h:w.heap[q]?=some (.cells #[x,y,z] 74)):(Instr.loadAt 74 (.pointer (some ⟨q,0,none⟩))).run Tryz.prog w = .ok (.agg #[x,y,z]) w:=run_loadAt_mid (P:=Tryz.prog) w q 0 74 [x,y,z] _ (range_block h) rfl rfl rfl
set_option maxRecDepth 100000 in
theorem ld_Ex {q:Nat} {x0 x1 x2 x3 x4 x5 x6:Value} {w:World} (h:w.heap[q]?=some (.cells #[x0,x1,x2,x3,x4,x5,x6] 36)):(Instr.loadAt 36 (.pointer (some ⟨q,0,none⟩))).run Tryz.prog w = .ok (.agg #[x0,x1,x2,x3,x4,x5,x6]) w:=run_loadAt_mid (P:=Tryz.prog) w q 0 36 [x0,x1,x2,x3,x4,x5,x6] _ (range_block h) rfl rfl rfl
set_option maxRecDepth 100000 in
theorem fa_tok (q:Nat) (j:Nat) (w:World) (hj:j<3):(Instr.fieldAt 74 (.pointer (some ⟨q,0,none⟩)) j).run Tryz.prog w = .ok (.pointer (some ⟨q,j,none⟩)) w:=by
 rcases j with _ | _ | _ | j
 ·go_simp
 ·go_simp
 ·go_simp
 ·omega
set_option maxRecDepth 100000 in
theorem ld_str {q o:Nat} {s:ByteArray} {w:World} (h:w.cell? ⟨q,o,none⟩=some (.string s)):(Instr.loadAt 9 (.pointer (some ⟨q,o,none⟩))).run Tryz.prog w = .ok (.string s) w:=by go_simp
set_option maxRecDepth 100000 in
theorem ld_int {q o:Nat} {i:Int} {w:World} (h:w.cell? ⟨q,o,none⟩=some (.int .i64 i)):(Instr.loadAt 3 (.pointer (some ⟨q,o,none⟩))).run Tryz.prog w = .ok (.int .i64 i) w:=by go_simp
theorem enter_made:Enters Tryz.prog 110:=⟨fun xs w=>by go_simp⟩
theorem enter_named:Enters Tryz.prog 111:=⟨fun xs w=>by go_simp⟩
theorem enter_opOf:Enters Tryz.prog 123:=⟨fun xs w=>by go_simp⟩
theorem enter_unb:Enters Tryz.prog 127:=⟨fun xs w=>by go_simp⟩
theorem enter_imp:Enters Tryz.prog 115:=⟨fun xs w=>by go_simp⟩
theorem enter_mustBe:Enters Tryz.prog 88:=⟨fun xs w=>by go_simp⟩
theorem enter_take:Enters Tryz.prog 87:=⟨fun xs w=>by go_simp⟩
end Go.Proofs.YtfkfnbehdcmgeaaGreatDoor
namespace Go.Proofs.YtfkfnbehdcmgeaaGreatDoor
open Go Go.RowKit
def stJ (W:World) (q6:Nat) (ai:Int) (T:ByteArray) (i0 i6 j0 j6:Int) (s1 s2 u1 u2:ByteArray) (b3 d3:Bool) (a4 e4:Option Addr) (n4 c4 m4 k4:Nat) (n:Nat) (s:Nat→Value) (w:World):Prop:=match n with
 |0=>w=W.drew
 |1=>s 6 = .slice (some ⟨W.heap.size,0,none⟩) 2 2∧w=(W.drew.alloc (.cells #[.int .i64 i0,.string s1,.string s2,.bool b3,.slice a4 n4 c4,.int .i64 0,.int .i64 i6,.int .i64 j0,.string u1,.string u2,.bool d3,.slice e4 m4 k4,.int .i64 0,.int .i64 j6] 36))
 |2=>s 7 = .agg #[.int .i64 (opOf T),.string ⟨#[]⟩,.string ⟨#[]⟩,.bool false,.slice (some ⟨W.heap.size,0,none⟩) 2 2,.int .i64 0,.int .i64 ai]∧Below (W.drew.alloc (.cells #[.int .i64 i0,.string s1,.string s2,.bool b3,.slice a4 n4 c4,.int .i64 0,.int .i64 i6,.int .i64 j0,.string u1,.string u2,.bool d3,.slice e4 m4 k4,.int .i64 0,.int .i64 j6] 36)).heap.size (W.drew.alloc (.cells #[.int .i64 i0,.string s1,.string s2,.bool b3,.slice a4 n4 c4,.int .i64 0,.int .i64 i6,.int .i64 j0,.string u1,.string u2,.bool d3,.slice e4 m4 k4,.int .i64 0,.int .i64 j6] 36)) w
 |_=>∃ W2,Below (W.drew.alloc (.cells #[.int .i64 i0,.string s1,.string s2,.bool b3,.slice a4 n4 c4,.int .i64 0,.int .i64 i6,.int .i64 j0,.string u1,.string u2,.bool d3,.slice e4 m4 k4,.int .i64 0,.int .i64 j6] 36)).heap.size (W.drew.alloc (.cells #[.int .i64 i0,.string s1,.string s2,.bool b3,.slice a4 n4 c4,.int .i64 0,.int .i64 i6,.int .i64 j0,.string u1,.string u2,.bool d3,.slice e4 m4 k4,.int .i64 0,.int .i64 j6] 36)) W2∧w=set7 W2 q6 (.int .i64 (opOf T)) (.string ⟨#[]⟩) (.string ⟨#[]⟩) (.bool false) (.slice (some ⟨W.heap.size,0,none⟩) 2 2) (.int .i64 0) (.int .i64 ai)
theorem stJ_at {W:World} {q6:Nat} {ai:Int} {T:ByteArray} {i0 i6 j0 j6:Int} {s1 s2 u1 u2:ByteArray} {b3 d3:Bool} {a4 e4:Option Addr} {n4 c4 m4 k4:Nat} {n:Nat} {s:Nat→Value} {w:World} (h:stJ W q6 ai T i0 i6 j0 j6 s1 s2 u1 u2 b3 d3 a4 e4 n4 c4 m4 k4 n s w):∀ q,q<W.heap.size→q≠q6→w.heap[q]?=W.heap[q]?:=by
 intro q hq hne
 have hC:Below W.heap.size W (W.drew.alloc (.cells #[.int .i64 i0,.string s1,.string s2,.bool b3,.slice a4 n4 c4,.int .i64 0,.int .i64 i6,.int .i64 j0,.string u1,.string u2,.bool d3,.slice e4 m4 k4,.int .i64 0,.int .i64 j6] 36)):=((Below.refl _ W).drew).alloc (Nat.le_refl _) _
 rcases n with _ | _ | _ | n
 ·obtain rfl:w=W.drew:=h
  rfl
 ·obtain ⟨-,rfl⟩:=h
  exact hC.block q hq
 ·obtain ⟨-,hb⟩:=h
  exact (hb.block q (Nat.lt_of_lt_of_le hq hC.size)).trans (hC.block q hq)
 ·obtain ⟨W2,hb,rfl⟩:=h
  unfold set7
  rw [same7 hne]
  exact (hb.block q (Nat.lt_of_lt_of_le hq hC.size)).trans (hC.block q hq)
def spJ (q7:Nat) (kk ai:Int) (T:ByteArray) (x y:Value):List Value:=[.pointer (some ⟨q7,1,none⟩),.string T,.int .i64 (opOf T),.agg #[.int .i64 kk,.string T,.int .i64 ai],x,y]
set_option maxRecDepth 100000 in
set_option maxHeartbeats 4000000 in
theorem joined_r3 {Q:Exit→Act→World→Prop} {a0:Act} {W:World} {q4 q6 q7 q8:Nat} {kk ai:Int} {T:ByteArray} {i0 i6 j0 j6:Int} {s1 s2 u1 u2:ByteArray} {b3 d3:Bool} {a4 e4:Option Addr} {n4 c4 m4 k4:Nat} (hN:a0.tmps.size=21) (h4:a0.tmps[4]?=some (.pointer (some ⟨q4,0,none⟩))) (h6:a0.tmps[6]?=some (.pointer (some ⟨q6,0,none⟩))) (h7:a0.tmps[7]?=some (.pointer (some ⟨q7,0,none⟩))) (h8:a0.tmps[8]?=some (.pointer (some ⟨q8,0,none⟩)))
  (b4:W.heap[q4]?=some (.cells #[.int .i64 i0,.string s1,.string s2,.bool b3,.slice a4 n4 c4,.int .i64 0,.int .i64 i6] 36)) (b8:W.heap[q8]?=some (.cells #[.int .i64 j0,.string u1,.string u2,.bool d3,.slice e4 m4 k4,.int .i64 0,.int .i64 j6] 36)) (b7:W.heap[q7]?=some (.cells #[.int .i64 kk,.string T,.int .i64 ai] 74)) (z6:ZB W q6) (n4':q4≠q6) (n7':q7≠q6) (n8':q8≠q6)
  (hend:∀ (a:Act) (W2:World),a.defers=a0.defers→(∀ k,k∈List.range 13→a.tmps[k]?=a0.tmps[k]?)→Below (W.drew.alloc (.cells #[.int .i64 i0,.string s1,.string s2,.bool b3,.slice a4 n4 c4,.int .i64 0,.int .i64 i6,.int .i64 j0,.string u1,.string u2,.bool d3,.slice e4 m4 k4,.int .i64 0,.int .i64 j6] 36)).heap.size (W.drew.alloc (.cells #[.int .i64 i0,.string s1,.string s2,.bool b3,.slice a4 n4 c4,.int .i64 0,.int .i64 i6,.int .i64 j0,.string u1,.string u2,.bool d3,.slice e4 m4 k4,.int .i64 0,.int .i64 j6] 36)) W2→Q .normal a (set7 W2 q6 (.int .i64 (opOf T)) (.string ⟨#[]⟩) (.string ⟨#[]⟩) (.bool false) (.slice (some ⟨W.heap.size,0,none⟩) 2 2) (.int .i64 0) (.int .i64 ai))) :
  (Code.region 3 (regionOf Tryz.f121 3).toArray true).wp Tryz.prog Q a0 W:=by
 have hl:(regionOf Tryz.f121 3).length=9:=by kernel_rfl
 have hds:((List.range 8).all fun i=>((regionOf Tryz.f121 3).getD i default).dst.isSome)=true:=by kernel_rfl
 have bx:∀ {n:Nat} {s:Nat→Value} {w:World},stJ W q6 ai T i0 i6 j0 j6 s1 s2 u1 u2 b3 d3 a4 e4 n4 c4 m4 k4 n s w→w.heap[q4]?=some (.cells #[.int .i64 i0,.string s1,.string s2,.bool b3,.slice a4 n4 c4,.int .i64 0,.int .i64 i6] 36)∧w.heap[q8]?=some (.cells #[.int .i64 j0,.string u1,.string u2,.bool d3,.slice e4 m4 k4,.int .i64 0,.int .i64 j6] 36)∧w.heap[q7]?=some (.cells #[.int .i64 kk,.string T,.int .i64 ai] 74):=fun h=>⟨(stJ_at h q4 (blk b4).1 n4').trans b4,(stJ_at h q8 (blk b8).1 n8').trans b8,(stJ_at h q7 (blk b7).1 n7').trans b7⟩
 refine wp_region_any (by kernel_rfl) ?_
 refine seqN (l:=(regionOf Tryz.f121 3)) 21 (List.range 13) [6,7,8] (fun j v=>j<6→v=(spJ q7 kk ai T (.agg #[.int .i64 i0,.string s1,.string s2,.bool b3,.slice a4 n4 c4,.int .i64 0,.int .i64 i6]) (.agg #[.int .i64 j0,.string u1,.string u2,.bool d3,.slice e4 m4 k4,.int .i64 0,.int .i64 j6])).getD j undef) (stJ W q6 ai T i0 i6 j0 j6 s1 s2 u1 u2 b3 d3 a4 e4 n4 c4 m4 k4) (by kernel_rfl) hN (by decide) (by rw [hl];decide) ?_ ?_ ?_ rfl ?_ ?_ ?_
 ·intro k hk
  have hk2:k=0∨k=1:=by simp at hk;omega
  rcases hk2 with rfl | rfl
  ·show (preds ((regionOf Tryz.f121 3).getD 7 default)).contains 6=true
   kernel_rfl
  ·show (preds ((regionOf Tryz.f121 3).getD 8 default)).contains 7=true
   kernel_rfl
 ·intro i o ho hd
  have hi:i<9:=by rw [←hl];exact (List.getElem?_eq_some_iff.1 ho).1
  have he:(regionOf Tryz.f121 3).getD i default=o:=by simp [List.getD,ho]
  rcases Nat.lt_or_ge i 8 with h | h
  ·have:=List.all_eq_true.1 hds i (List.mem_range.2 h)
   rw [he,hd] at this
   cases this
  ·obtain rfl:i=8:=by omega
   exact ⟨by decide,fun v h=>by omega⟩
 ·intro n s s' w h hs
  have e6:=h 0 (by decide) (by kernel_rfl)
  have e7:=h 1 (by decide) (by kernel_rfl)
  have e6':s 6=s' 6:=e6
  have e7':s 7=s' 7:=e7
  rcases n with _ | _ | _ | n
  ·exact hs
  ·exact ⟨e6'▸hs.1,hs.2⟩
  ·exact ⟨e7'▸hs.1,hs.2⟩
  ·exact hs
 ·intro i hi hni a w n s hd hsz hk hp hn hs
  rw [hl] at hi
  have hi6:i=0∨i=1∨i=2∨i=3∨i=4∨i=5:=by simp at hni;omega
  have ke4:a.eval (.tmp 4) = .pointer (some ⟨q4,0,none⟩):=getD_of ((hk 4 (by decide)).trans h4)
  have ke7:a.eval (.tmp 7) = .pointer (some ⟨q7,0,none⟩):=getD_of ((hk 7 (by decide)).trans h7)
  have ke8:a.eval (.tmp 8) = .pointer (some ⟨q8,0,none⟩):=getD_of ((hk 8 (by decide)).trans h8)
  obtain ⟨cc4,cc8,cc7⟩:=bx hs
  rcases hi6 with rfl | rfl | rfl | rfl | rfl | rfl
  ·exact st_want (wnone rfl) (op_fieldAddr ke7 (fa_tok q7 1 w (by omega)) ⟨_,rfl,rfl,fun _=>rfl⟩)
  ·have e1:a.eval (.tmp 13) = .pointer (some ⟨q7,1,none⟩):=hp 0 (by kernel_rfl) (by omega)
   exact st_want (wnone rfl) (op_load e1 (ld_str ((blk cc7).2.1 1 _ rfl)) ⟨_,rfl,rfl,fun _=>rfl⟩)
  ·have e1:a.tmps.getD 14 undef = .string T:=hp 1 (by kernel_rfl) (by omega)
   refine st_want (wnone rfl) (op_call enter_opOf ?_)
   have hargs:(#[Operand.tmp 14]).map a.eval = #[.string T]:=by
    simp only [List.map_toArray,List.map_cons,List.map_nil,Act.eval]
    rw [e1]
   rw [hargs]
   refine (opOf_eq T w).mono ?_
   rintro ex w' ⟨rfl,rfl⟩
   exact ⟨_,rfl,_,rfl,rfl,fun _=>rfl⟩
  ·exact st_want (wnone rfl) (op_load ke7 (ld_Tok cc7) ⟨_,rfl,rfl,fun _=>rfl⟩)
  ·exact st_want (wnone rfl) (op_load ke4 (ld_Ex cc4) ⟨_,rfl,rfl,fun _=>rfl⟩)
  ·exact st_want (wnone rfl) (op_load ke8 (ld_Ex cc8) ⟨_,rfl,rfl,fun _=>rfl⟩)
 ·intro k hk a w hd hsz hkp hp hs
  have hk3:k=0∨k=1∨k=2:=by simp at hk;omega
  have k6:a.tmps.getD 6 undef = .pointer (some ⟨q6,0,none⟩):=getD_of ((hkp 6 (by decide)).trans h6)
  rcases hk3 with rfl | rfl | rfl
  ·obtain rfl:w=W.drew:=hs
   have e1:a.tmps.getD 17 undef = .agg #[.int .i64 i0,.string s1,.string s2,.bool b3,.slice a4 n4 c4,.int .i64 0,.int .i64 i6]:=hp 4 (by kernel_rfl) (by omega)
   have e2:a.tmps.getD 18 undef = .agg #[.int .i64 j0,.string u1,.string u2,.bool d3,.slice e4 m4 k4,.int .i64 0,.int .i64 j6]:=hp 5 (by kernel_rfl) (by omega)
   exact st_want (wnone rfl) (op_bs2E e1 e2 ⟨_,rfl,(fun _ h=>absurd (show (6:Nat)<6 from h) (by decide)),rfl,rfl⟩)
  ·obtain ⟨hs6,rfl⟩:=hs
   have e0:a.tmps.getD 15 undef = .int .i64 (opOf T):=hp 2 (by kernel_rfl) (by omega)
   have e1:a.tmps.getD 16 undef = .agg #[.int .i64 kk,.string T,.int .i64 ai]:=hp 3 (by kernel_rfl) (by omega)
   have e2:a.tmps.getD 19 undef = .slice (some ⟨W.heap.size,0,none⟩) 2 2:=hs6
   refine st_want (wnone rfl) (op_call enter_made ?_)
   have hargs:(#[Operand.tmp 15,.tmp 16,.tmp 19]).map a.eval = #[.int .i64 (opOf T),.agg #[.int .i64 kk,.string T,.int .i64 ai],.slice (some ⟨W.heap.size,0,none⟩) 2 2]:=by
    simp only [List.map_toArray,List.map_cons,List.map_nil,Act.eval]
    rw [e0,e1,e2]
   rw [hargs]
   refine (made_any _ _ _ _ _ _ _ _).mono ?_
   rintro ex w' ⟨rfl,hb⟩
   exact ⟨_,rfl,_,rfl,(fun _ h=>absurd (show (7:Nat)<6 from h) (by decide)),rfl,hb⟩
  ·obtain ⟨hs7,hb⟩:=hs
   have e2:a.tmps.getD 20 undef = .agg #[.int .i64 (opOf T),.string ⟨#[]⟩,.string ⟨#[]⟩,.bool false,.slice (some ⟨W.heap.size,0,none⟩) 2 2,.int .i64 0,.int .i64 ai]:=hs7
   have hC:Below W.heap.size W (W.drew.alloc (.cells #[.int .i64 i0,.string s1,.string s2,.bool b3,.slice a4 n4 c4,.int .i64 0,.int .i64 i6,.int .i64 j0,.string u1,.string u2,.bool d3,.slice e4 m4 k4,.int .i64 0,.int .i64 j6] 36)):=((Below.refl _ W).drew).alloc (Nat.le_refl _) _
   have hz:ZB w q6:=(hb.block q6 (Nat.lt_of_lt_of_le (blk z6).1 hC.size)).trans ((hC.block q6 (blk z6).1).trans z6)
   exact st_want (wnone rfl) (op_stE k6 e2 hz ⟨undef,rfl,(fun h=>absurd (show false=true from h) (by decide)),w,hb,rfl⟩)
 ·intro a w hd hsz hk hp hs
  obtain ⟨W2,hb,rfl⟩:=hs
  exact hend a W2 hd hk hb
end Go.Proofs.YtfkfnbehdcmgeaaGreatDoor
namespace Go.Proofs.YtfkfnbehdcmgeaaGreatDoor
open Go Go.RowKit
theorem ret_putP {fn:Func} {a:Act} {tt:Nat} {w w3:World} {r p q d q6:Nat} {P:Nat→Prop} {ts:List (Int×ByteArray×Int)} {t:Ex} {Y:(Except (Int×Int) (Ex×Nat))} {x0 x1 x2 x3 x4 x5 x6:Value} (hf:fn.results = #[.cell tt 36]) (ht:a.tmps[tt]?=some (.pointer (some ⟨q6,0,none⟩))) (hdf:a.defers=[]) (hbu:But r w w3) (hr:r<q6) (hq6:w.heap.size≤q6) (hz:ZB w3 q6) (hY:Y = .ok (t,q)) (hpq:p≤q) (hR:RD w3 r ts q d) (hv:IsEP w3 (fun b=>P b∧b≠q6) (.agg #[x0,x1,x2,x3,x4,x5,x6]) t) :
  bodyPost Tryz.prog fn (RP (fun w' v t=>IsEP w' P v t) Y r ts p d w) .ret a (set7 w3 q6 x0 x1 x2 x3 x4 x5 x6):=by
 subst hY
 refine bodyPost_ret (res_row (cs:=[x0,x1,x2,x3,x4,x5,x6]) hf ht (range_block (fill7 hz)) Tryz.underlying36 rfl (by kernel_rfl)) hdf ?_
 refine ⟨but7 hbu hq6 _ _ _ _ _ _ _,hpq,hR.put hr _ _ _ _ _ _ _,_,rfl,hv.keep ⟨by unfold set7;simp,fun k hk hs=>same7 hk.2 _ _ _ _ _ _ _⟩ fun b hb=>hb.1⟩
set_option maxRecDepth 100000 in
set_option maxHeartbeats 8000000 in
theorem joined_of {k r d lo:Nat} {ts:List (Int×ByteArray×Int)} {O:Nat→(Except (Int×Int) (Ex×Nat))} (hT:TsOk ts) (hEn:Enters Tryz.prog k) (hO:RuC k r ts d lo O):JoC k r ts d lo O:=by
 intro w p P t i0 i6 s1 s2 b3 a4 n4 c4 hlo hp1 hR hv hPr hPn
 obtain ⟨Y,hY⟩:∃ Y,joinR ts O t p=Y:=⟨_,rfl⟩
 rw [hY]
 unfold joinR at hY
 have hr:=hR.rlt
 obtain ⟨A,eA,hbA,hsA,hhA⟩:=box_new w #[.int .i64 i0,.string s1,.string s2,.bool b3,.slice a4 n4 c4,.int .i64 0,.int .i64 i6] 36
 obtain ⟨B,eB,hbB,hzB,hsB⟩:=zb_new A
 rw [hsA] at hzB
 have hbAB:Below w.heap.size w B:=hbA.trans (hbB.mono hbA.size)
 have hx4:=(hbB.block w.heap.size (blk hhA).1).trans hhA
 have hRB:=hR.keep hbAB
 have HC:=gh (take_any hRB hT hp1)
 unfold tkV at HC
 obtain ⟨⟨kk,T,ai⟩,hN⟩:∃ X,nx ts p=X:=⟨_,rfl⟩
 rw [hN] at HC
 have HA:=gh (And.intro hY (And.intro hN (And.intro hv (And.intro hPr (And.intro hPn (And.intro hlo (And.intro hT (And.intro hO hEn))))))))
 have HM:=gh (And.intro hbAB (And.intro hx4 (And.intro hzB (And.intro hsA hsB))))
 have HE:=gh (And.intro eA eB)
 clear hY hN hv hPr hPn hlo hT hO hEn hR hp1 hRB eA hbA hsA hhA eB hbB hzB hsB hbAB hx4
 go_enter Tryz.func121,Tryz.ntmps121
 go_wp2_with fail
 rw [(gf HE).1,(gf HE).2]
 refine (gf HC).mono ?_
 rintro e w2 ⟨rfl,hb2,hR2⟩
 obtain ⟨hY,hN,hv,hPr,hPn,hlo,hT,hO,hEn⟩:=gf HA
 obtain ⟨hbAB,hx4,hzB,hsA,hsB⟩:=gf HM
 have hs2:=hb2.size
 have hbw2:But r w w2:=(But.of hbAB).trans hb2
 have hx42:=(hb2.block w.heap.size (blk hx4).1 (by omega)).trans hx4
 have hz2:ZB w2 (w.heap.size+1):=hzB.but hb2 (by omega)
 obtain ⟨C,eC,hbC,hsC,hhC⟩:=box_new w2 #[.int .i64 kk,.string T,.int .i64 ai] 74
 have hRC:=hR2.keep hbC
 have HC2:=gh (hO C (p+1) (by omega) hRC)
 have hx4C:=(hbC.block w.heap.size (blk hx42).1).trans hx42
 have hzC:ZB C (w.heap.size+1):=(hbC.block _ (blk hz2).1).trans hz2
 have hlt2:w.heap.size+1<w2.heap.size:=(blk hz2).1
 have HM2:=gh (And.intro (hbw2.trans (But.of hbC)) (And.intro hx4C (And.intro hzC (And.intro hhC (And.intro hlt2 hsC)))))
 have HEC:=gh eC
 have hEn':=gh hEn
 clear hY hN hv hPr hPn hlo hT hO hEn hbAB hx4 hzB hsA hsB hs2 hbw2 hx42 hz2 eC hbC hsC hhC hRC hx4C hzC hlt2 hb2 hR2 HC HM HE
 go_wp2_with fail
 rw [(gf hEn').run,gf HEC]
 refine Calls.mono (gf HC2) ?_
 intro e w4 h4
 obtain ⟨hY,hN,hv,hPr,hPn,hlo,hT,hO,hEn⟩:=gf HA
 obtain ⟨hbC,hx4,hzC,hx7,hlt2,hsC⟩:=gf HM2
 rcases hX:O (p+1) with er | ⟨ty,q⟩
 ·rw [hX] at h4 hY
  obtain ⟨ei,en⟩:=er
  have hYe:Y = .error (ei,en):=hY.symm
  subst hYe
  obtain ⟨hb4,h4⟩:=h4
  obtain rfl:e=_:=h4
  have HP:=gh (hbC.trans hb4)
  clear hY hN hv hPr hPn hlo hT hO hEn hbC hx4 hzC hx7 hlt2 hsC hb4 HC2 hX
  go_wp2
  exact ⟨rfl,gf HP,rfl⟩
 ·rw [hX] at h4 hY
  obtain ⟨hb4,hle4,hR4,v4,rfl,hv4⟩:=h4
  obtain ⟨j0,j6,u1,u2,d3,e4,m4,k4,rfl⟩:=hv4.form
  simp only [thenR] at hY
  have hs4:=hb4.size
  have hx44:=(hb4.block w.heap.size (blk hx4).1 (by omega)).trans hx4
  have hz4:ZB w4 (w.heap.size+1):=hzC.but hb4 (by omega)
  have hx74:=(hb4.block w2.heap.size (blk hx7).1 (by omega)).trans hx7
  obtain ⟨D,eD,hbD,hsD,hhD⟩:=box_new w4 #[.int .i64 j0,.string u1,.string u2,.bool d3,.slice e4 m4 k4,.int .i64 0,.int .i64 j6] 36
  have hbwD:But r w D:=(hbC.trans hb4).trans (But.of hbD)
  have hx4D:=(hbD.block w.heap.size (blk hx44).1).trans hx44
  have hzD:ZB D (w.heap.size+1):=(hbD.block _ (blk hz4).1).trans hz4
  have hx7D:=(hbD.block w2.heap.size (blk hx74).1).trans hx74
  have hRD:=hR4.keep hbD
  have hlD:IsEP D (fun b=>P b∧b≠w.heap.size+1) (.agg #[.int .i64 i0,.string s1,.string s2,.bool b3,.slice a4 n4 c4,.int .i64 0,.int .i64 i6]) t:=hv.bnd.keep ⟨hbwD.size,fun k hk hs=>hbwD.block k hs (fun e=>hPr (e▸hk.1))⟩ fun b hb=>⟨hb.1,by have:=hb.2;omega⟩
  have hrD:IsEP D (fun b=>P b∧b≠w.heap.size+1) (.agg #[.int .i64 j0,.string u1,.string u2,.bool d3,.slice e4 m4 k4,.int .i64 0,.int .i64 j6]) ty:=IsEP.keep hv4 ⟨hbD.size,fun k _ hs=>hbD.block k hs⟩ fun b hb=>⟨hPn b (by omega),by omega⟩
  have hsz4:w2.heap.size<w4.heap.size:=by omega
  have HF:=gh (And.intro hbwD (And.intro hx4D (And.intro hzD (And.intro hx7D (And.intro hhD (And.intro hRD (And.intro hlD (And.intro hrD (And.intro hle4 hsD)))))))))
  have HG:=gh (And.intro hY (And.intro hN (And.intro hPn (And.intro hlt2 hsz4))))
  have HED:=gh eD
  clear hY hN hv hPr hPn hlo hT hO hEn hbC hx4 hzC hx7 hsC hb4 HC2 hX hle4 hR4 hv4 hs4 hx44 hz4 hx74 eD hbD hhD hsD hbwD hx4D hzD hx7D hRD hlD hrD hlt2 hsz4
  go_wp2_with fail
  rw [gf HED]
  obtain ⟨hbwD,hx4D,hzD,hx7D,hhD,hRD,hlD,hrD,hle4,hsD⟩:=gf HF
  obtain ⟨hY,hN,hPn,hlt2,hsz4⟩:=gf HG
  refine joined_r3 rfl rfl rfl rfl rfl hx4D hhD hx7D hzD (by omega) (by omega) (by omega) ?_
  intro a W2 hd hk hb
  have h6:a.tmps[6]?=some (.pointer (some ⟨w.heap.size+1,0,none⟩)):=(hk 6 (by decide)).trans rfl
  have hDD:Below D.heap.size D (D.drew.alloc (.cells #[.int .i64 i0,.string s1,.string s2,.bool b3,.slice a4 n4 c4,.int .i64 0,.int .i64 i6,.int .i64 j0,.string u1,.string u2,.bool d3,.slice e4 m4 k4,.int .i64 0,.int .i64 j6] 36)):=((Below.refl _ D).drew).alloc (Nat.le_refl _) _
  have hD2:Below D.heap.size D W2:=hDD.trans (hb.mono hDD.size)
  have hnode:=nodeP (w:=D.drew) (P:=fun b=>P b∧b≠w.heap.size+1) (l:=[t,ty]) (vs:=[[.int .i64 i0,.string s1,.string s2,.bool b3,.slice a4 n4 c4,.int .i64 0,.int .i64 i6],[.int .i64 j0,.string u1,.string u2,.bool d3,.slice e4 m4 k4,.int .i64 0,.int .i64 j6]]) (cs:=#[.int .i64 i0,.string s1,.string s2,.bool b3,.slice a4 n4 c4,.int .i64 0,.int .i64 i6,.int .i64 j0,.string u1,.string u2,.bool d3,.slice e4 m4 k4,.int .i64 0,.int .i64 j6]) (ty:=36) (opOf T) ai ⟨#[]⟩ ⟨#[]⟩ false rfl rfl (by simp) rfl (by simp) (show P D.heap.size∧D.heap.size≠w.heap.size+1 from ⟨hPn _ hbwD.size,by omega⟩) (fun j v t' hv ht=>by
   rcases j with _ | _ | j
   ·obtain rfl:=Option.some.inj hv
    obtain rfl:=Option.some.inj ht
    exact hlD.keep ⟨Nat.le_refl _,fun _ _ _=>rfl⟩ fun _ h=>h
   ·obtain rfl:=Option.some.inj hv
    obtain rfl:=Option.some.inj ht
    exact hrD.keep ⟨Nat.le_refl _,fun _ _ _=>rfl⟩ fun _ h=>h
   ·simp at hv)
  have hn2:=IsEP.keep (w':=W2) hnode ⟨hb.size,fun k _ hs=>hb.block k hs⟩ fun _ h=>h
  have hz2:ZB W2 (w.heap.size+1):=(hD2.block _ (blk hzD).1).trans hzD
  have hYe:Y = .ok (madeR (opOf T) [t,ty] ai,q):=by
   rw [←hY]
   unfold txt
   rw [hN]
  have HQ:=gh (And.intro hd (And.intro h6 (And.intro (hbwD.trans (But.of hD2)) (And.intro hz2 (And.intro hYe (And.intro hle4 (And.intro (hRD.keep hD2) hn2)))))))
  clear hd hk hb h6 hDD hD2 hnode hn2 hz2 hYe hbwD hx4D hzD hx7D hhD hRD hlD hrD hle4 hsD hY hN hPn hlt2 hsz4
  go_wp2
  obtain ⟨hd,h6,h1,h2,h3,h4,h5,h7⟩:=gf HQ
  exact ret_putP rfl h6 hd h1 (by omega) (Nat.le_succ _) h2 h3 h4 h5 h7
end Go.Proofs.YtfkfnbehdcmgeaaGreatDoor
