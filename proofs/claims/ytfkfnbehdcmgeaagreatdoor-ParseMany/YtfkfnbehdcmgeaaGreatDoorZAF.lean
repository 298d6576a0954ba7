/- Package parse: if. -/
import Derived.Test.YtfkfnbehdcmgeaaGreatDoorZAE
import Derived.Deep.AppendLies
import Derived.Deep.RegionHeld3
import Derived.Test.YtfkfnbehdcmgeaaGreatDoorZAD
set_option linter.unusedVariables false
set_option linter.unusedSimpArgs false
namespace Go.Proofs.YtfkfnbehdcmgeaaGreatDoor
open Go Go.RowKit
def IsLs (w:World) (lo:Nat) (v:Value) (l:List Ex):Prop:=∃ h a c,v = .slice a l.length c∧RowX w (fun b=>lo≤b) a l.length c fun b o j=>∀ t,l[j]?=some t→ExAt w (fun b=>lo≤b) h b o t
theorem IsLs.keep {w w':World} {lo lo':Nat} {v:Value} {l:List Ex} (h:IsLs w lo v l) (hb:Stays lo w w') (hl:lo'≤lo):IsLs w' lo' v l:=by
 obtain ⟨k,a,c,e,h2⟩:=h
 exact ⟨k,a,c,e,h2.mono hb.1 (fun _ hb=>Nat.le_trans hl hb) fun b o j hr hbl hj t ht=>ExAt.keep hb (fun _ hb=>Nat.le_trans hl hb) k b o t hr hbl (hj t ht)⟩
theorem IsLs.node {w:World} {lo:Nat} {v:Value} {l:List Ex} (h:IsLs w lo v l) (op i:Int) (nm nu:ByteArray) (bl:Bool):IsE w lo (.agg #[.int .i64 op,.string nm,.string nu,.bool bl,v,.int .i64 0,.int .i64 i]) (.mk op nm nu bl l i):=by
 obtain ⟨k,a,c,rfl,h2⟩:=h
 exact ⟨k,a,c,rfl,h2⟩
theorem addr_add (b off j:Nat):(⟨b,off,none⟩:Addr).add j=⟨b,off+j,none⟩:=by simp [Addr.add]
theorem addr0 (b j:Nat):(⟨b,0,none⟩:Addr).add j=⟨b,j,none⟩:=by rw [addr_add,Nat.zero_add]
theorem ex_app {w:World} {B n:Nat} {v:Value} {xs:List Value} (i0 i6:Int) (s1 s2:ByteArray) (b3:Bool) (a4:Option Addr) (n4 c4:Nat) (hown:w.ownsRow B 36 7 v n xs) (hn:n≤100000) (hB:B≤w.heap.size) :
  ∃ g cap w',(Builtin.append_ #[34,34] 34 #[v,.slice (some ⟨w.heap.size,0,none⟩) 1 1]).run Tryz.prog (w.alloc (.cells #[.int .i64 i0,.string s1,.string s2,.bool b3,.slice a4 n4 c4,.int .i64 0,.int .i64 i6] 36)) = .ok (.slice (some ⟨g,0,none⟩) (n+1) cap) w'∧w'.ownsRow B 36 7 (.slice (some ⟨g,0,none⟩) (n+1) cap) (n+1) (xs++[.int .i64 i0,.string s1,.string s2,.bool b3,.slice a4 n4 c4,.int .i64 0,.int .i64 i6])∧(w.alloc (.cells #[.int .i64 i0,.string s1,.string s2,.bool b3,.slice a4 n4 c4,.int .i64 0,.int .i64 i6] 36)).grownBy w' v.ownBlock∧(v.ownBlock=some g∨g=w.heap.size+1):=by
 have hb:=(MapKept.heap_alloc w (.cells #[.int .i64 i0,.string s1,.string s2,.bool b3,.slice a4 n4 c4,.int .i64 0,.int .i64 i6] 36)).1
 obtain ⟨g,cap,w',hr,ho,hg,hw,-⟩:=run_append_lies (P:=Tryz.prog) (w.alloc (.cells #[.int .i64 i0,.string s1,.string s2,.bool b3,.slice a4 n4 c4,.int .i64 0,.int .i64 i6] 36)) 34 34 B 36 Tryz.t36 (.agg #[.int .i64 0,.string ⟨#[]⟩,.string ⟨#[]⟩,.bool false,.slice none 0 0,.int .i64 0,.int .i64 0]) 7 88 Tryz.underlying34 (by kernel_rfl) (by kernel_rfl) (by kernel_rfl) (by kernel_rfl) rfl (by decide) v n xs (hown.alloc _) ⟨w.heap.size,0,none⟩ 1 1 [.int .i64 i0,.string s1,.string s2,.bool b3,.slice a4 n4 c4,.int .i64 0,.int .i64 i6] rfl (fun j u hj=>by
   have h:=(blk hb).2.1 j u (by simpa using hj)
   rw [addr0]
   exact h) (fun u hu=>by
   simp at hu
   rcases hu with rfl | rfl | rfl | rfl | rfl | rfl | rfl <;> rfl) (by omega) (by unfold maxLen;omega) (by omega) (by simp;omega) _ rfl
 exact ⟨g,cap,w',hr,ho,hg,by simpa using hw⟩
structure EI (w:World) (r:Nat) (ts:List (Int×ByteArray×Int)) (p d lo most:Nat) (E:Nat→(Except (Int×Int) (Ex×Nat))) (Y:(Except (Int×Int) ((List Ex)×Nat))) (v:Value) (l:List Ex) (vs:List (List Value)) (q n:Nat) (V:World):Prop where
 but:But r w V
 rd:RD V r ts q d
 own:V.ownsRow w.heap.size 36 7 v l.length vs.flatten
 len:vs.length=l.length
 seven:∀ x∈vs,x.length=7
 tr:∀ (j:Nat) x t,vs[j]?=some x→l[j]?=some t→IsEP V (fun b=>w.heap.size≤b∧v.ownBlock≠some b) (.agg x.toArray) t
 le:p≤q∧lo≤q
 fu:ts.length≤q+n
 ch:exprsL ts E most n l q=Y
 sm:l.length≤q+1∧0<l.length
theorem EI.ls {w V:World} {r p d lo most q n:Nat} {ts:List (Int×ByteArray×Int)} {E:Nat→(Except (Int×Int) (Ex×Nat))} {Y:(Except (Int×Int) ((List Ex)×Nat))} {v:Value} {l:List Ex} {vs:List (List Value)} (h:EI w r ts p d lo most E Y v l vs q n V) (hl:l.length≤1000000):IsLs V w.heap.size v l:=by
 obtain ⟨g,cap,rfl,hg1,hg2⟩:=h.own.form h.sm.2
 have hc:=h.own.cells (g:=g) rfl
 obtain ⟨k,hk⟩:=all_high (W:=V) (P:=fun b=>w.heap.size≤b) (b:=g) l 0 fun j t ht=>by
  obtain ⟨x,hx⟩:∃ x,vs[j]?=some x:=⟨_,List.getElem?_eq_getElem (by rw [h.len];exact (List.getElem?_eq_some_iff.1 ht).1)⟩
  refine ((h.tr j x t hx ht).keep (P':=fun b=>w.heap.size≤b) ⟨Nat.le_refl _,fun _ _ _=>rfl⟩ fun b hb=>hb.1).at ⟨Nat.le_refl _,fun _ _ _=>rfl⟩ fun m u hu => ?_
  have:=hc (j * 7+m) u (flat_at vs j x h.seven hx m u hu)
  rw [Nat.zero_add]
  rw [addr0] at this
  exact this
 have hcap:l.length≤cap:=by
  obtain ⟨-,h1 | ⟨g',c',cur,e,-,-,h2,-⟩⟩:=h.own
  ·exact absurd h1.2 (by have:=h.sm.2;omega)
  ·obtain ⟨-,rfl⟩:g=g'∧cap=c':=by simpa using e
   exact h2
 exact ⟨k,_,_,rfl,hcap,by omega,fun _=>⟨g,0,rfl,hg1,hg2,fun j _ t ht=>hk j t ht⟩⟩
theorem exprsL_no {ts:List (Int×ByteArray×Int)} {E:Nat→(Except (Int×Int) (Ex×Nat))} {most n q:Nat} {l:List Ex} (h:sees ts q ⟨#[44]⟩=false):exprsL ts E most n l q = .ok (l,q):=by
 cases n with
 |zero=>rfl
 |succ n=>rw [exprsL,h];rfl
theorem exprsL_many {ts:List (Int×ByteArray×Int)} {E:Nat→(Except (Int×Int) (Ex×Nat))} {most n q:Nat} {l:List Ex} (h:sees ts q ⟨#[44]⟩=true) (hl:l.length=most):exprsL ts E most (n+1) l q=bad ts q 152:=by
 rw [exprsL,h,if_pos rfl,if_pos hl]
theorem exprsL_yes {ts:List (Int×ByteArray×Int)} {E:Nat→(Except (Int×Int) (Ex×Nat))} {most n q:Nat} {l:List Ex} (h:sees ts q ⟨#[44]⟩=true) (hl:l.length≠most):exprsL ts E most (n+1) l q=thenR (E (q+1)) fun x q=>exprsL ts E most n (l++[x]) q:=by
 rw [exprsL,h,if_pos rfl,if_neg hl]
theorem EI.grow {w V V':World} {r p d lo most q n:Nat} {ts:List (Int×ByteArray×Int)} {E:Nat→(Except (Int×Int) (Ex×Nat))} {Y:(Except (Int×Int) ((List Ex)×Nat))} {v:Value} {l:List Ex} {vs:List (List Value)} (h:EI w r ts p d lo most E Y v l vs q n V) (hb:Below V.heap.size V V'):EI w r ts p d lo most E Y v l vs q n V':=
 ⟨h.but.trans (But.of hb),h.rd.keep hb,own_same h.own hb,h.len,h.seven,fun j x t hx ht=>(h.tr j x t hx ht).keep ⟨hb.size,fun k _ hk=>hb.block k hk⟩ fun _ h=>h,h.le,h.fu,h.ch,h.sm⟩
set_option maxRecDepth 100000 in
set_option maxHeartbeats 8000000 in
theorem exprs_of {r d lo most:Nat} {ts:List (Int×ByteArray×Int)} {E:Nat→(Except (Int×Int) (Ex×Nat))} (hT:TsOk ts) (hE:RuC 59 r ts d lo E) (hm:most≤1000000) {w:World} {p:Nat} (hlo:lo≤p) (hR:RD w r ts p d):Calls Tryz.prog 109 #[.pointer (some ⟨r,0,none⟩),.int .i64 most] w (RP (fun w' v l=>IsLs w' w.heap.size v l) (exprsR ts E most p) r ts p d w):=by
 obtain ⟨Y,hY⟩:∃ Y,exprsR ts E most p=Y:=⟨_,rfl⟩
 rw [hY]
 unfold exprsR at hY
 have hr:=hR.rlt
 have HC:=gh (hE w p hlo hR)
 have HA:=gh (And.intro hY (And.intro hT (And.intro hE (And.intro hlo hm))))
 clear hY hT hE hlo hm hR
 go_enter Tryz.func109,Tryz.ntmps109
 go_wp2_with fail
 refine (gf HC).mono ?_
 intro e w1 h1
 obtain ⟨hY,hT,hE,hlo,hm⟩:=gf HA
 rcases hX:E p with er | ⟨t,q⟩
 ·rw [hX] at h1 hY
  obtain ⟨ei,en⟩:=er
  have hYe:Y = .error (ei,en):=hY.symm
  subst hYe
  obtain ⟨hb1,h1⟩:=h1
  obtain rfl:e=_:=h1
  have HP:=gh hb1
  clear hY hT hE hlo hm hb1 HC hX
  go_wp2
  exact ⟨rfl,gf HP,rfl⟩
 ·rw [hX] at h1 hY
  obtain ⟨hb1,hle1,hR1,v1,rfl,hv1⟩:=h1
  obtain ⟨i0,i6,s1,s2,b3,a4,n4,c4,rfl⟩:=hv1.form
  simp only [thenR] at hY
  obtain ⟨B,eB,hbB,hsB,hhB⟩:=box_new w1 #[.int .i64 i0,.string s1,.string s2,.bool b3,.slice a4 n4 c4,.int .i64 0,.int .i64 i6] 36
  have hlen:=hT.len
  have HI:Hid (EI w r ts p d lo most E Y (.slice (some ⟨w1.heap.size,0,none⟩) 1 1) [t] [[.int .i64 i0,.string s1,.string s2,.bool b3,.slice a4 n4 c4,.int .i64 0,.int .i64 i6]] q ts.length B):=by
   refine ⟨hb1.trans (But.of hbB),hR1.keep hbB,?_,rfl,(by simp),fun j x t' hx ht => ?_,⟨hle1,by omega⟩,by omega,hY,by simp,by simp⟩
   ·refine ⟨by simp,.inr ⟨w1.heap.size,1,#[.int .i64 i0,.string s1,.string s2,.bool b3,.slice a4 n4 c4,.int .i64 0,.int .i64 i6],rfl,hb1.size,hhB,Nat.le_refl _,by unfold maxLen;omega,rfl,rfl⟩⟩
   ·rcases j with _ | j
    ·obtain rfl:=Option.some.inj hx
     obtain rfl:=Option.some.inj ht
     refine (IsEP.bnd hv1).keep ⟨hbB.size,fun k _ hk=>hbB.block k hk⟩ fun b hb=>⟨hb.1,fun e => ?_⟩
     have e2:w1.heap.size=b:=by simpa [Value.ownBlock] using e
     have:=hb.2
     omega
    ·simp at hx
  have HEB:=gh eB
  have HT:=gh hT
  have HEx:=gh (And.intro hE (And.intro hlo hm))
  have hmost:(most:Int)≤1000000:=by omega
  clear hY hT hE hlo hm hb1 hle1 hR1 hv1 HC hX eB hbB hsB hhB hlen HA
  go_wp2_with fail
  rw [gf HEB]
  go_loopw [5] (fun v wr=>∃ l vs q n a m c,v = .slice a m c∧m=l.length∧Hid (EI w r ts p d lo most E Y v l vs q n wr)) (fun _ wr=>ts.length - (intOf ((wr.cell? ⟨r,1,none⟩).getD undef)).toNat)
  case atStart=>exact ⟨_,_,_,_,_,_,_,rfl,rfl,HI⟩
  case round =>
   obtain ⟨l,vs,q,n,a,m,c,rfl,hml,hEI⟩:=hrel
   obtain ⟨bo,hbo⟩:∃ b,sees ts q ⟨#[44]⟩=b:=⟨_,rfl⟩
   have HC:=gh (sees_any (gf hEI).rd (gf HT) ⟨#[44]⟩)
   rw [hbo] at HC
   have HO:=gh hbo
   replace hml:=gh hml
   clear hbo
   go_wp2_with fail
   refine (gf HC).mono ?_
   rintro e w9 ⟨rfl,hb9⟩
   have h9:=(gf hEI).grow hb9
   have hqo:(wr.cell? ⟨r,1,none⟩)=some (.int .i64 (q:Int)):=by
    obtain ⟨g',c',p0,p1,-⟩:=(gf hEI).rd.facts (Below.refl _ _)
    exact p1
   replace hqo:=gh hqo
   have H9:=gh h9
   clear hEI hb9 h9 HC
   rcases bo with _ | _
   ·go_wp2
    have h:=gf H9
    refine bodyPost_ret (results_tmp rfl _ _ _) rfl ?_
    have hYe:Y = .ok (l,q):=h.ch.symm.trans (exprsL_no (gf HO))
    subst hYe
    refine ⟨h.but,h.le.1,h.rd,_,rfl,h.ls ?_⟩
    have:=h.sm.1
    have:=h.rd.lt
    have:=(gf HT).len
    omega
   ·have h:=gf H9
    have hp1:q+1<ts.length:=nx_txt (gf HT) h.rd.lt (by rw [sees_txt (gf HO)];decide)
    obtain ⟨n,rfl⟩:∃ m,n=m+1:=⟨n - 1,by have:=h.fu;omega⟩
    have hlb:l.length≤1000000:=by
     have:=h.sm.1
     have:=h.rd.lt
     have:=(gf HT).len
     omega
    have hm':=gf hml
    by_cases hlm:m=most
    ·have hch:=h.ch
     rw [exprsL_many (gf HO) (by omega)] at hch
     have HRf:=gh (refused_any h.rd (gf HT) 152)
     have HCh:=gh hch
     have g1:(m:Int)=(most:Int):=by omega
     subst hlm
     clear h hch hp1 hlb hm' g1
     go_wp2_with fail
     refine (gf HRf).mono ?_
     rintro e w8 ⟨rfl,hb8⟩
     have HB8:=gh hb8
     clear hb8 HRf
     go_wp2
     obtain rfl:=gf HCh
     exact ⟨rfl,(gf H9).but.trans (But.of (gf HB8)),rfl⟩
    ·have hch:=h.ch
     rw [exprsL_yes (gf HO) (by omega)] at hch
     have HCh:=gh hch
     have g1:¬ (m:Int)=(most:Int):=by omega
     have g2:((m:Int) == (most:Int))=false:=by simpa using g1
     have g3:decide ((m:Int)=(most:Int))=false:=by simpa using g1
     have HTk:=gh (take_any h.rd (gf HT) hp1)
     unfold tkV at HTk
     replace hlb:=gh hlb
     clear h hch hp1 hm' hlm
     go_wp2_with fail
     refine (gf HTk).mono ?_
     rintro e w8 ⟨rfl,hb8,hR8⟩
     have HC2:=gh ((gf HEx).1 w8 (q+1) (Nat.le_succ_of_le (gf H9).le.2) hR8)
     have H8:=gh (And.intro hb8 hR8)
     clear hb8 hR8 HTk
     go_wp2_with fail
     refine (gf HC2).mono ?_
     intro e w7 h7
     rcases hX:E (q+1) with er | ⟨t7,q7⟩
     ·rw [hX] at h7
      obtain ⟨ei,en⟩:=er
      have hYe:Y = .error (ei,en):=by have h:=gf HCh;rw [hX] at h;exact h.symm
      subst hYe
      obtain ⟨hb7,h7⟩:=h7
      obtain rfl:e=_:=h7
      have HP:=gh ((gf H9).but.trans ((gf H8).1.trans hb7))
      clear hb7 HC2 hX
      go_wp2
      exact ⟨rfl,gf HP,rfl⟩
     ·rw [hX] at h7
      obtain ⟨hb7,hle7,hR7,v7,rfl,hv7⟩:=h7
      obtain ⟨j0,j6,u1,u2,d3,e4,m4,k4,rfl⟩:=hv7.form
      have hch:=gf HCh
      rw [hX] at hch
      simp only [thenR] at hch
      have h:=gf H9
      have hb97:But r w9 w7:=(gf H8).1.trans hb7
      have hown7:w7.ownsRow w.heap.size 36 7 (.slice a m c) l.length vs.flatten:=by
       obtain ⟨k1,k2 | ⟨g,cap,cur,k3,k4,k5,k6⟩⟩:=h.own
       ·exact ⟨k1,.inl k2⟩
       ·exact ⟨k1,.inr ⟨g,cap,cur,k3,k4,(hb97.block g (blk k5).1 (by omega)).trans k5,k6⟩⟩
      have hs97:=hb97.size
      have hsw:=h.but.size
      obtain ⟨g,cap,wa,hrun,hoa,hga,hwa⟩:=ex_app j0 j6 u1 u2 d3 e4 m4 k4 hown7 (by have:=h.sm.1;have:=h.rd.lt;have:=(gf HT).len;omega) (by omega)
      have R1:=gh hrun
      have HQ:=gh (And.intro hb97 (And.intro hle7 (And.intro hR7 (And.intro hv7 (And.intro hch (And.intro hoa (And.intro hga (And.intro hwa hown7))))))))
      clear hb7 hle7 hR7 hv7 hch h hb97 hown7 hs97 hsw hrun hoa hga hwa HC2 hX
      go_wp2_with (at_builtin;refine app_run _ _ _ rfl rfl rfl rfl (gf R1) ?_;clear R1)
      obtain ⟨hb97,hle7,hR7,hv7,hch,hoa,hga,hwa,hown7⟩:=gf HQ
      have h:=gf H9
      have hs8:=(gf H8).1.size
      have hs97:=hb97.size
      have hlt9:=h.own.lt
      have hblk:∀ k,k<w7.heap.size→(Value.slice a m c).ownBlock≠some k→wa.heap[k]?=w7.heap[k]?:=fun k hk hne=>by
       rw [hga.block k (by simp;omega) (fun e=>hne e.symm)]
       exact ((Below.refl _ w7).alloc (Nat.le_refl _) _).block k hk
      have hsa:w7.heap.size≤wa.heap.size:=by have:=hga.size;simp at this;omega
      have hbw7:But r w w7:=h.but.trans hb97
      have hown_lo:∀ k,k<w.heap.size→(Value.slice a m c).ownBlock≠some k:=fun k hk e=>by have:=(hlt9 k e).1;omega
      have hbwa:But r w wa:=⟨hga.os.trans hbw7.os,hga.tape.trans hbw7.tape,hga.output.trans hbw7.output,Nat.le_trans hbw7.size hsa,fun k hk hne=>(hblk k (Nat.lt_of_lt_of_le hk hbw7.size) (hown_lo k hk)).trans (hbw7.block k hk hne)⟩
      have hRa:RD wa r ts q7 d:=by
       obtain ⟨⟨g0,c0,h1,h2,h3,h4⟩,h5⟩:=hR7
       refine ⟨⟨g0,c0,(hblk r (blk h1).1 (hown_lo r hr)).trans h1,h2,h3,fun j x hx=>range_same (h4 j x hx) (hblk g0 (by have:=(blk h1).1;omega) (hown_lo g0 (by omega)))⟩,h5⟩
      have hgne:∀ b,b<w7.heap.size→(Value.slice a m c).ownBlock≠some b→(Value.slice (some ⟨g,0,none⟩) (l.length+1) cap).ownBlock≠some b:=fun b hb hne e=>by
       have e2:g=b:=by simpa [Value.ownBlock] using e
       rcases hwa with hw | hw
       ·exact hne (by rw [hw,e2])
       ·omega
      refine ⟨⟨l++[t7],vs++[[.int .i64 j0,.string u1,.string u2,.bool d3,.slice e4 m4 k4,.int .i64 0,.int .i64 j6]],q7,n,_,_,_,rfl,by simp,?_⟩,?_⟩
      ·refine ⟨hbwa,hRa,?_,by simp [h.len],?_,?_,⟨by have:=h.le;omega,by have:=h.le;omega⟩,by have:=h.fu;omega,hch,by simp;have:=h.sm.1;omega,by simp⟩
       ·simpa using hoa
       ·intro x hx
        rcases List.mem_append.1 hx with hx | hx
        ·exact h.seven x hx
        ·obtain rfl:=List.mem_singleton.1 hx
         rfl
       ·intro j x t' hx ht
        rcases Nat.lt_or_ge j l.length with hj | hj
        ·rw [List.getElem?_append_left (by rw [h.len];exact hj)] at hx
         rw [List.getElem?_append_left hj] at ht
         have k1:=(h.tr j x t' hx ht).bnd
         have k2:=k1.keep (w':=w7) (P':=fun b=>(w.heap.size≤b∧(Value.slice a m c).ownBlock≠some b)∧b<w7.heap.size) ⟨hs97,fun k hk hs=>hb97.block k hs (by omega)⟩ fun b hb=>⟨hb.1,by omega⟩
         exact k2.keep ⟨hsa,fun k hk hs=>hblk k hs hk.1.2⟩ fun b hb=>⟨hb.1.1,hgne b hb.2 hb.1.2⟩
        ·have hjl:j=l.length:=by
          have:=(List.getElem?_eq_some_iff.1 ht).1
          simp at this
          omega
         subst hjl
         rw [List.getElem?_append_right (by rw [h.len];exact Nat.le_refl _),h.len,Nat.sub_self] at hx
         rw [List.getElem?_append_right (Nat.le_refl _),Nat.sub_self] at ht
         obtain rfl:=Option.some.inj hx
         obtain rfl:=Option.some.inj ht
         have hne8:∀ b,w8.heap.size≤b→(Value.slice a m c).ownBlock≠some b:=fun b hb e=>by have:=(hlt9 b e).2;omega
         exact (IsEP.bnd hv7).keep ⟨hsa,fun k hk hs=>hblk k hs (hne8 k hk.1)⟩ fun b hb=>⟨by have:=hb.1;have:=h.but.size;omega,hgne b hb.2 (hne8 b hb.1)⟩
      ·have hqn:wa.cell? ⟨r,1,none⟩=some (.int .i64 (q7:Int)):=by
        obtain ⟨g',c',p0,p1,-⟩:=hRa.facts (Below.refl _ _)
        exact p1
       have e1:intOf ((wa.cell? ⟨r,1,none⟩).getD undef)=(q7:Int):=by rw [hqn];rfl
       have e2:intOf ((wr.cell? ⟨r,1,none⟩).getD undef)=(q:Int):=by rw [gf hqo];rfl
       have hlt:=h.rd.lt
       rw [e1,e2]
       omega
def ExV (w:World) (P:Nat→Prop) (h:Nat) (v:Value):Ex→Prop
 |.mk op nm nu bl l i=>∃ a c,v = .agg #[.int .i64 op,.string nm,.string nu,.bool bl,.slice a l.length c,.int .i64 0,.int .i64 i]∧RowX w P a l.length c fun b o j=>∀ t,l[j]?=some t→ExAt w P h b o t
def LsV (w:World) (P:Nat→Prop) (h:Nat) (v:Value) (l:List Ex):Prop:=∃ a c,v = .slice a l.length c∧RowX w P a l.length c fun b o j=>∀ t,l[j]?=some t→ExAt w P h b o t
theorem ExV.keep {w w':World} {P:Nat→Prop} {h:Nat} {v:Value} {t:Ex} (hx:ExV w P h v t) (hb:Below w.heap.size w w'):ExV w' P h v t:=by
 obtain ⟨op,nm,nu,bl,l,i⟩:=t
 obtain ⟨a,c,e,h2⟩:=hx
 exact ⟨a,c,e,h2.mono hb.size (fun _ h=>h) fun b o j hr hbl hj t ht=>ExAt.keep ⟨hb.size,fun k _ hk=>hb.block k hk⟩ (fun _ h=>h) h b o t hr hbl (hj t ht)⟩
theorem LsV.keep {w w':World} {P:Nat→Prop} {h:Nat} {v:Value} {l:List Ex} (hx:LsV w P h v l) (hb:Below w.heap.size w w'):LsV w' P h v l:=by
 obtain ⟨a,c,e,h2⟩:=hx
 exact ⟨a,c,e,h2.mono hb.size (fun _ h=>h) fun b o j hr hbl hj t ht=>ExAt.keep ⟨hb.size,fun k _ hk=>hb.block k hk⟩ (fun _ h=>h) h b o t hr hbl (hj t ht)⟩
theorem ExV.up {w:World} {P:Nat→Prop} {h k:Nat} {v:Value} {t:Ex} (hx:ExV w P h v t) (hk:h≤k):ExV w P k v t:=by
 obtain ⟨op,nm,nu,bl,l,i⟩:=t
 obtain ⟨a,c,e,h2⟩:=hx
 exact ⟨a,c,e,h2.mono (Nat.le_refl _) (fun _ h=>h) fun b o j _ _ hj t ht=>ExAt.up h k b o t (hj t ht) hk⟩
theorem IsEP.exv {w:World} {P:Nat→Prop} {v:Value} {t:Ex} (h:IsEP w P v t):∃ k,ExV w P k v t:=by
 obtain ⟨op,nm,nu,bl,l,i⟩:=t
 obtain ⟨k,a,c,e,h2⟩:=h
 exact ⟨k,a,c,e,h2⟩
theorem ExV.ls {w:World} {P:Nat→Prop} {h:Nat} {v:Value} {t:Ex} (hx:ExV w P h v t):∃ x4,v = .agg #[.int .i64 t.op,.string t.name,.string t.num,.bool t.b,x4,.int .i64 0,.int .i64 t.at']∧LsV w P h x4 t.l:=by
 obtain ⟨op,nm,nu,bl,l,i⟩:=t
 obtain ⟨a,c,e,h2⟩:=hx
 exact ⟨_,e,a,c,rfl,h2⟩
theorem LsV.at {w:World} {P:Nat→Prop} {h:Nat} {a:Option Addr} {n c:Nat} {l:List Ex} (hx:LsV w P (h+1) (.slice a n c) l) {j:Nat} {t:Ex} (ht:l[j]?=some t):n=l.length∧n≤c∧∃ b off x4,a=some ⟨b,off,none⟩∧b<w.heap.size∧w.rangeAt b (off+j * 7) [.int .i64 t.op,.string t.name,.string t.num,.bool t.b,x4,.int .i64 0,.int .i64 t.at']∧ExV w P h (.agg #[.int .i64 t.op,.string t.name,.string t.num,.bool t.b,x4,.int .i64 0,.int .i64 t.at']) t:=by
 obtain ⟨a',c',e,h1,h2,h3⟩:=hx
 obtain ⟨rfl,rfl,rfl⟩:a=a'∧n=l.length∧c=c':=by simpa using e
 have hj:=(List.getElem?_eq_some_iff.1 ht).1
 obtain ⟨b,off,rfl,hP,hb,hc⟩:=h3 (by omega)
 have hx:=hc j hj t ht
 obtain ⟨op,nm,nu,bl,l',i⟩:=t
 obtain ⟨a2,c2,hr,hrow⟩:=hx
 exact ⟨rfl,h1,b,off,_,rfl,hb,hr,a2,c2,rfl,hrow⟩
theorem LsV.nil {w:World} {P:Nat→Prop} {v:Value} {l:List Ex} (hx:LsV w P 0 v l):l=[]:=by
 obtain ⟨a,c,e,h1,h2,h3⟩:=hx
 cases l with
 |nil=>rfl
 |cons t l =>
  obtain ⟨b,off,-,-,-,hc⟩:=h3 (by simp)
  exact (hc 0 (by simp) t rfl).elim
def SmL (h:Nat):Prop:=∀ (w:World) (va vb:Value) (l:List Ex) (P P':Nat→Prop),LsV w P h va l→LsV w P' h vb l→Calls Tryz.prog 34 #[va,vb] w (VP (.bool true) w)
def SmE (h:Nat):Prop:=∀ (w:World) (va vb:Value) (t:Ex) (P P':Nat→Prop),ExV w P h va t→ExV w P' h vb t→Calls Tryz.prog 19 #[va,vb] w (VP (.bool true) w)
set_option maxRecDepth 100000 in
set_option maxHeartbeats 8000000 in
theorem sme_of {h:Nat} (hL:SmL h):SmE h:=by
 intro w va vb t P P' ha hb
 obtain ⟨xa,rfl,hla⟩:=ha.ls
 obtain ⟨xb,rfl,hlb⟩:=hb.ls
 obtain ⟨op,nm,nu,bl,l,i⟩:=t
 obtain ⟨a1,c1,rfl,hra⟩:=hla
 obtain ⟨a2,c2,rfl,hrb⟩:=hlb
 obtain ⟨n,hn⟩:∃ n,l.length=n:=⟨_,rfl⟩
 show Calls _ _ #[.agg #[.int .i64 op,.string nm,.string nu,.bool bl,.slice a1 l.length c1,.int .i64 0,.int .i64 i],.agg #[.int .i64 op,.string nm,.string nu,.bool bl,.slice a2 l.length c2,.int .i64 0,.int .i64 i]] w _
 have hla:=fun B hb=>hL B _ _ l P P' (LsV.keep (w':=B) ⟨a1,c1,rfl,hra⟩ hb) (LsV.keep (w':=B) ⟨a2,c2,rfl,hrb⟩ hb)
 rw [hn] at hla ⊢
 obtain ⟨A,eA,hbA,hsA,hhA⟩:=box_new w #[.int .i64 op,.string nm,.string nu,.bool bl,.slice a1 n c1,.int .i64 0,.int .i64 i] 36
 obtain ⟨B,eB,hbB,hsB,hhB⟩:=box_new A #[.int .i64 op,.string nm,.string nu,.bool bl,.slice a2 n c2,.int .i64 0,.int .i64 i] 36
 have hhA2:=(hbB.block _ (blk hhA).1).trans hhA
 have hwB:Below w.heap.size w B:=hbA.trans (hbB.mono hbA.size)
 have HC:=gh (hla B hwB)
 obtain ⟨y0,y1,y2,y3,y4,y5,y6⟩:=blk7 hhA2
 obtain ⟨q0,q1,q2,q3,q4,q5,q6⟩:=blk7 hhB
 rw [hsA] at q0 q1 q2 q3 q4 q5 q6
 have HB:=gh hwB
 have HEA:=gh eA
 have HEB:=gh eB
 rw [←eB,←eA] at y0 y1 y2 y3 y4 y5 y6 q0 q1 q2 q3 q4 q5 q6
 unfold VP
 clear ha hb hra hrb eA hbA hsA hhA eB hbB hsB hhB hhA2 hwB hn hL hla
 go_enter Tryz.func19,Tryz.ntmps19
 go_wp2_with fail
 rw [gf HEA,gf HEB]
 refine (gf HC).mono ?_
 rintro e w2 ⟨rfl,hb2⟩
 have H2:=gh ((gf HB).trans (hb2.mono (gf HB).size))
 clear HC hb2
 go_wp2
 go_ret
 exact ⟨rfl,gf H2⟩
theorem keep0h (w:World):Below w.heap.size w w.drew:=(Below.refl _ w).drew
theorem keepCh {W v v1:World} {X:Prop} (h:Below W.heap.size W v∧X) (h1:Below v.heap.size v v1):Below W.heap.size W v1:=h.1.trans (h1.mono h.1.size)
set_option maxRecDepth 100000 in
set_option maxHeartbeats 8000000 in
theorem sml_nil (w:World) (a1 a2:Option Addr) (c1 c2:Nat):Calls Tryz.prog 34 #[.slice a1 0 c1,.slice a2 0 c2] w (VP (.bool true) w):=by
 unfold VP
 go_enter Tryz.func34,Tryz.ntmps34
 go_wp2_with fail
 go_loopw [5] (fun iv wr=>iv = .int .i64 (0:Nat)∧Below w.heap.size w wr) (fun iv _=>0)
 case atStart=>exact ⟨rfl,Below.refl _ _⟩
 case round =>
  obtain ⟨rfl,hb⟩:=hrel
  have HB:=gh hb
  clear hb
  go_wp2
  go_ret
  exact ⟨rfl,gf HB⟩
set_option maxRecDepth 100000 in
set_option maxHeartbeats 8000000 in
theorem sml_of {h:Nat} (hE:SmE h):SmL (h+1):=by
 intro w va vb l P P' ha hb
 obtain ⟨a1,c1,rfl,hra⟩:=ha
 obtain ⟨a2,c2,rfl,hrb⟩:=hb
 have hla:LsV w P (h+1) (.slice a1 l.length c1) l:=⟨a1,c1,rfl,hra⟩
 have hlb:LsV w P' (h+1) (.slice a2 l.length c2) l:=⟨a2,c2,rfl,hrb⟩
 have hlen:=hra.2.1
 obtain ⟨n,hn⟩:∃ n,l.length=n:=⟨_,rfl⟩
 rw [hn] at hla hlb hlen ⊢
 by_cases h0:n=0
 ·subst h0
  exact sml_nil w a1 a2 c1 c2
 obtain ⟨t0,ht0⟩:∃ t,l[0]?=some t:=⟨_,List.getElem?_eq_getElem (by omega)⟩
 obtain ⟨-,hc1,b1,o1,-,rfl,hb1,-,-⟩:=hla.at ht0
 obtain ⟨-,hc2,b2,o2,-,rfl,hb2,-,-⟩:=hlb.at ht0
 have g4:(n:Int)≤281474976710656:=by omega
 have HL:=gh (And.intro hla (And.intro hlb (And.intro hE (And.intro hb1 hb2))))
 have HN:=gh hn
 unfold VP
 clear hra hrb hla hlb hlen h0 ht0 hE hn hb1 hb2
 go_enter Tryz.func34,Tryz.ntmps34
 go_wp2_with fail
 go_loopw [5] (fun iv wr=>∃ j:Nat,j≤n∧iv = .int .i64 j∧Hid (Below w.heap.size w wr)) (fun iv _=>n - (intOf iv).toNat)
 case atStart=>exact ⟨0,Nat.zero_le _,rfl,Below.refl _ _⟩
 case round =>
  obtain ⟨j,hj,rfl,HB⟩:=hrel
  by_cases hjn:j<n
  ·obtain ⟨t,ht⟩:∃ t,l[j]?=some t:=⟨_,List.getElem?_eq_getElem (by rw [gf HN];exact hjn)⟩
   obtain ⟨hla,hlb,hE,hb1,hb2⟩:=gf HL
   obtain ⟨-,-,b1',o1',x4,e1,-,hr1,he1⟩:=hla.at ht
   obtain ⟨-,-,b2',o2',x5,e2,-,hr2,he2⟩:=hlb.at ht
   obtain ⟨rfl,rfl⟩:b1=b1'∧o1=o1':=by simpa using e1
   obtain ⟨rfl,rfl⟩:b2=b2'∧o2=o2':=by simpa using e2
   have hbw:=gf HB
   have hw1:b1<wr.heap.size:=Nat.lt_of_lt_of_le hb1 hbw.size
   have hw2:b2<wr.heap.size:=Nat.lt_of_lt_of_le hb2 hbw.size
   have hq1:=range_same hr1 (hbw.block _ hb1)
   have hq2:=range_same hr2 (hbw.block _ hb2)
   have HCa:Hid (∀ W,Below wr.heap.size wr W→Calls Tryz.prog 19 #[.agg #[.int .i64 t.op,.string t.name,.string t.num,.bool t.b,x4,.int .i64 0,.int .i64 t.at'],.agg #[.int .i64 t.op,.string t.name,.string t.num,.bool t.b,x5,.int .i64 0,.int .i64 t.at']] W (VP (.bool true) W)):=fun W hW=>hE W _ _ t P P' (he1.keep (hbw.trans (hW.mono hbw.size))) (he2.keep (hbw.trans (hW.mono hbw.size)))
   obtain ⟨a4,n4,c4,rfl⟩:∃ a n c,x4 = .slice a n c:=by
    obtain ⟨y,e,a,c,rfl,-⟩:=he1.ls
    exact ⟨a,_,c,by simpa using e⟩
   obtain ⟨a5,n5,c5,rfl⟩:∃ a n c,x5 = .slice a n c:=by
    obtain ⟨y,e,a,c,rfl,-⟩:=he2.ls
    exact ⟨a,_,c,by simpa using e⟩
   have HSS:Hid (∀ w',Below wr.heap.size wr w'→(Below wr.heap.size wr w'∧(w'.cell? ⟨b1,o1+j * 7,none⟩=some (.int .i64 t.op)∧w'.cell? ⟨b1,o1+j * 7+1,none⟩=some (.string t.name)∧w'.cell? ⟨b1,o1+j * 7+2,none⟩=some (.string t.num)∧w'.cell? ⟨b1,o1+j * 7+3,none⟩=some (.bool t.b)∧w'.cell? ⟨b1,o1+j * 7+4,none⟩=some (.slice a4 n4 c4)∧w'.cell? ⟨b1,o1+j * 7+5,none⟩=some (.int .i64 0)∧w'.cell? ⟨b1,o1+j * 7+6,none⟩=some (.int .i64 t.at'))∧(w'.cell? ⟨b2,o2+j * 7,none⟩=some (.int .i64 t.op)∧w'.cell? ⟨b2,o2+j * 7+1,none⟩=some (.string t.name)∧w'.cell? ⟨b2,o2+j * 7+2,none⟩=some (.string t.num)∧w'.cell? ⟨b2,o2+j * 7+3,none⟩=some (.bool t.b)∧w'.cell? ⟨b2,o2+j * 7+4,none⟩=some (.slice a5 n5 c5)∧w'.cell? ⟨b2,o2+j * 7+5,none⟩=some (.int .i64 0)∧w'.cell? ⟨b2,o2+j * 7+6,none⟩=some (.int .i64 t.at')))):=fun w' hW=>⟨hW,⟨(hW.cell (p:=⟨b1,o1+j * 7,none⟩) hw1).trans (hq1 0 _ rfl),(hW.cell (p:=⟨b1,o1+j * 7+1,none⟩) hw1).trans (hq1 1 _ rfl),(hW.cell (p:=⟨b1,o1+j * 7+2,none⟩) hw1).trans (hq1 2 _ rfl),(hW.cell (p:=⟨b1,o1+j * 7+3,none⟩) hw1).trans (hq1 3 _ rfl),(hW.cell (p:=⟨b1,o1+j * 7+4,none⟩) hw1).trans (hq1 4 _ rfl),(hW.cell (p:=⟨b1,o1+j * 7+5,none⟩) hw1).trans (hq1 5 _ rfl),(hW.cell (p:=⟨b1,o1+j * 7+6,none⟩) hw1).trans (hq1 6 _ rfl)⟩,(hW.cell (p:=⟨b2,o2+j * 7,none⟩) hw2).trans (hq2 0 _ rfl),(hW.cell (p:=⟨b2,o2+j * 7+1,none⟩) hw2).trans (hq2 1 _ rfl),(hW.cell (p:=⟨b2,o2+j * 7+2,none⟩) hw2).trans (hq2 2 _ rfl),(hW.cell (p:=⟨b2,o2+j * 7+3,none⟩) hw2).trans (hq2 3 _ rfl),(hW.cell (p:=⟨b2,o2+j * 7+4,none⟩) hw2).trans (hq2 4 _ rfl),(hW.cell (p:=⟨b2,o2+j * 7+5,none⟩) hw2).trans (hq2 5 _ rfl),(hW.cell (p:=⟨b2,o2+j * 7+6,none⟩) hw2).trans (hq2 6 _ rfl)⟩
   have g1:(j:Int)<(n:Int):=by omega
   have g3:(0:Int)≤(j:Int):=by omega
   have hst:=gf HSS wr (Below.refl _ _)
   unfold VP at HCa
   clear hla hlb hE hb1 hb2 e1 e2 hr1 hr2 he1 he2 hbw hw1 hw2 hq1 hq2 ht
   go_wp2_with fail
   go_region_held3 (fun w'=>Below wr.heap.size wr w'∧(w'.cell? ⟨b1,o1+j * 7,none⟩=some (.int .i64 t.op)∧w'.cell? ⟨b1,o1+j * 7+1,none⟩=some (.string t.name)∧w'.cell? ⟨b1,o1+j * 7+2,none⟩=some (.string t.num)∧w'.cell? ⟨b1,o1+j * 7+3,none⟩=some (.bool t.b)∧w'.cell? ⟨b1,o1+j * 7+4,none⟩=some (.slice a4 n4 c4)∧w'.cell? ⟨b1,o1+j * 7+5,none⟩=some (.int .i64 0)∧w'.cell? ⟨b1,o1+j * 7+6,none⟩=some (.int .i64 t.at'))∧(w'.cell? ⟨b2,o2+j * 7,none⟩=some (.int .i64 t.op)∧w'.cell? ⟨b2,o2+j * 7+1,none⟩=some (.string t.name)∧w'.cell? ⟨b2,o2+j * 7+2,none⟩=some (.string t.num)∧w'.cell? ⟨b2,o2+j * 7+3,none⟩=some (.bool t.b)∧w'.cell? ⟨b2,o2+j * 7+4,none⟩=some (.slice a5 n5 c5)∧w'.cell? ⟨b2,o2+j * 7+5,none⟩=some (.int .i64 0)∧w'.cell? ⟨b2,o2+j * 7+6,none⟩=some (.int .i64 t.at'))) (first | assumption | exact gf HSS _ hT1 | exact gf HSS _ (by assumption) | exact gf HSS _ (keep0h _) | exact gf HSS _ (keepCh (by assumption) (by assumption))) (first
    |(go_at_call 19;refine (gf HCa _ (And.left (by assumption))).mono ?_;rintro e v1 ⟨rfl,hv1⟩;have hT1:Below wr.heap.size wr v1:=keepCh (by assumption) hv1)
    |(go_at_call 19;refine (gf HCa _ (keep0h _)).mono ?_;rintro e v1 ⟨rfl,hv1⟩;have hT1:Below wr.heap.size wr v1:=(keep0h _).trans (hv1.mono (keep0h _).size)))
   all_goals
    have HT1:=gh hT1
    clear hT1
    go_wp2
    exact ⟨⟨j+1,by omega,by simp,(gf HB).trans ((gf HT1).mono (gf HB).size)⟩,by simp [intOf];omega⟩
  ·have gi:decide ((j:Int)<(n:Int))=false:=by simp;omega
   have g1:¬ ((j:Int)<(n:Int)):=by omega
   obtain rfl:j=n:=by omega
   clear hj hjn
   go_wp2
   go_ret
   exact ⟨rfl,gf HB⟩
theorem sm_all:∀ h,SmL h
 |0=>fun w va vb l P P' ha hb=>by
  obtain rfl:=ha.nil
  obtain ⟨a1,c1,rfl,-⟩:=ha
  obtain ⟨a2,c2,rfl,-⟩:=hb
  exact sml_nil w a1 a2 c1 c2
 |h+1=>sml_of (sme_of (sm_all h))
theorem help_same {w:World} {va vb:Value} {t:Ex} {P P':Nat→Prop} (ha:IsEP w P va t) (hb:IsEP w P' vb t):Calls Tryz.prog 19 #[va,vb] w (VP (.bool true) w):=by
 obtain ⟨h,ha⟩:=ha.exv
 obtain ⟨k,hb⟩:=hb.exv
 exact sme_of (sm_all (max h k)) w va vb t P P' (ha.up (Nat.le_max_left _ _)) (hb.up (Nat.le_max_right _ _))
set_option maxRecDepth 100000 in
set_option maxHeartbeats 8000000 in
theorem branch_of {r d lo:Nat} {ts:List (Int×ByteArray×Int)} {g:Ru→Nat→Nat→(Except (Int×Int) (Ex×Nat))} (hT:TsOk ts) (hE:RuC 59 r ts d (lo+1) (g .rE d)) {w:World} {p:Nat} (hlo:lo≤p) (hp1:p+1<ts.length) (hR:RD w r ts p d):Calls Tryz.prog 95 #[.pointer (some ⟨r,0,none⟩)] w (PE (branchR ts g d p) r ts p d w):=by
 obtain ⟨Y,hY⟩:∃ Y,branchR ts g d p=Y:=⟨_,rfl⟩
 rw [hY]
 unfold branchR at hY
 have hr:=hR.rlt
 obtain ⟨A,eA,hbA,hzA,hsA⟩:=zb_new w
 have HB:=gh (But.of (r:=r) hbA)
 have HR:=gh (hR.keep hbA)
 have HZ:=gh hzA
 have HS:Hid (w.heap.size<A.heap.size):=by show _<_;omega
 have HL:Hid (p≤p∧lo≤p):=⟨Nat.le_refl _,hlo⟩
 have HSA:=gh hsA
 have HE:=gh eA
 have HT:=gh hT
 have HY:=gh hY
 have hrne:r≠w.heap.size:=by omega
 have hmf:∀ (fn:Fn) (first cap:Array Value) (w:World),(Instr.makeFunc fn first cap).run Tryz.prog w = .ok (.func fn first cap) w:=fun _ _ _ _=>rfl
 replace hE:=gh hE
 replace hp1:=gh hp1
 clear hlo hR hbA hzA hsA eA hT hY
 go_enter Tryz.func95,Tryz.ntmps95
 have HC0:=gh (take_any (gf HR) (gf HT) (gf hp1))
 unfold tkV at HC0
 obtain ⟨⟨kk0,T0,at0⟩,hN0⟩:∃ X,nx ts p=X:=⟨_,rfl⟩
 rw [hN0] at HC0
 have HN0:=gh hN0
 clear hN0
 go_wp2_with fail
 rw [gf HE]
 refine (gf HC0).mono ?_
 rintro e w0 ⟨rfl,hb0,hR0⟩
 replace HB:=gh ((gf HB).trans hb0)
 replace HZ:=gh ((gf HZ).but hb0 hrne)
 replace HS:=gh (Nat.lt_of_lt_of_le (gf HS) hb0.size)
 replace HR:=gh hR0
 replace HL:Hid (p≤p+1∧lo+1≤p+1):=And.intro (Nat.le_succ_of_le (gf HL).1) (Nat.succ_le_succ (gf HL).2)
 clear hb0 hR0 HC0
 obtain ⟨B1,eB1,hbB1,hsB1,hhB1⟩:=box_new w0 #[.int .i64 kk0,.string T0,.int .i64 at0] 74
 have ne1:r≠w0.heap.size:=by have:=gf HS;omega
 have HQHX1:=HS
 have hbu2:=But.of (r:=r) hbB1
 replace HR:=gh ((gf HR).keep hbB1)
 replace HB:=gh ((gf HB).trans hbu2)
 replace HZ:=gh ((gf HZ).but hbu2 hrne)
 replace HS:=gh (Nat.lt_of_lt_of_le (gf HS) hbu2.size)
 have HX1:=gh hhB1
 have HEB1:=gh eB1
 have HSB1:=gh hsB1
 clear eB1 hbB1 hhB1 hsB1
 have HC3:=gh (gf hE B1 (p+1) (gf HL).2 (gf HR))
 go_wp2_with fail
 rw [gf HEB1]
 refine (gf HC3).mono ?_
 intro e w3 h3
 rcases hX3:g .rE d (p+1) with er | ⟨t3,q3⟩
 ·rw [hX3] at h3
  obtain ⟨ei,en⟩:=er
  have hYe:Y = .error (ei,en):=by have h:=gf HY;rw [hX3] at h;exact h.symm
  subst hYe
  obtain ⟨hb3,h3⟩:=h3
  obtain rfl:e=_:=h3
  have HP:=gh ((gf HB).trans hb3)
  clear hb3 HC3 hX3
  go_wp2
  exact ⟨rfl,gf HP,rfl⟩
 rw [hX3] at h3
 obtain ⟨hb3,hle3,hR3,v3,rfl,hv3⟩:=h3
 have hY3:=gf HY
 rw [hX3] at hY3
 simp only [thenR] at hY3
 replace HY:=gh hY3
 clear hY3
 obtain ⟨i3,j3,s3,m3,b3,a3,n3,c3,rfl⟩:=hv3.form
 have HT3:=gh (hv3.keep (lo':=w.heap.size+1) (Stays.of (Below.refl _ _)) (gf HS))
 replace HB:=gh ((gf HB).trans hb3)
 replace HZ:=gh ((gf HZ).but hb3 hrne)
 replace HX1:=gh ((hb3.block _ (blk (gf HX1)).1 (Ne.symm ne1)).trans (gf HX1))
 replace HS:=gh (Nat.lt_of_lt_of_le (gf HS) hb3.size)
 replace HR:=gh hR3
 replace HL:=gh (And.intro (Nat.le_trans (gf HL).1 hle3) (Nat.le_trans (gf HL).2 hle3))
 clear hb3 hle3 hR3 hv3 HC3 hX3
 obtain ⟨B4,eB4,hbB4,hsB4,hhB4⟩:=box_new w3 #[.int .i64 i3,.string s3,.string m3,.bool b3,.slice a3 n3 c3,.int .i64 0,.int .i64 j3] 36
 have ne4:r≠w3.heap.size:=by have:=gf HS;omega
 have HQHX4:=HS
 have hbu5:=But.of (r:=r) hbB4
 replace HR:=gh ((gf HR).keep hbB4)
 replace HB:=gh ((gf HB).trans hbu5)
 replace HZ:=gh ((gf HZ).but hbu5 hrne)
 replace HX1:=gh ((hbu5.block _ (blk (gf HX1)).1 (Ne.symm ne1)).trans (gf HX1))
 replace HT3:=gh ((gf HT3).keep (Stays.but hbu5 (Nat.lt_succ_of_lt hr)) (Nat.le_refl _))
 replace HS:=gh (Nat.lt_of_lt_of_le (gf HS) hbu5.size)
 have HX4:=gh hhB4
 have HEB4:=gh eB4
 have HSB4:=gh hsB4
 clear eB4 hbB4 hhB4 hsB4
 have HC6:=gh (must_any (gf HR) (gf HT) (s:=⟨#[116,104,101,110]⟩) (by decide))
 go_wp2_with fail
 rw [gf HEB4]
 refine (gf HC6).mono ?_
 intro e w6 h6
 rcases hX6:mustR ts ⟨#[116,104,101,110]⟩ (q3) with er | ⟨t6,q6⟩
 ·rw [hX6] at h6
  obtain ⟨ei,en⟩:=er
  have hYe:Y = .error (ei,en):=by have h:=gf HY;rw [hX6] at h;exact h.symm
  subst hYe
  obtain ⟨hb6,h6⟩:=h6
  obtain rfl:e=_:=h6
  have HP:=gh ((gf HB).trans hb6)
  clear hb6 HC6 hX6
  go_wp2
  exact ⟨rfl,gf HP,rfl⟩
 rw [hX6] at h6
 obtain ⟨hb6,hle6,hR6,v6,rfl,hv6⟩:=h6
 have hY6:=gf HY
 rw [hX6] at hY6
 simp only [thenR] at hY6
 replace HY:=gh hY6
 clear hY6
 obtain rfl:v6=_:=hv6
 replace HB:=gh ((gf HB).trans hb6)
 replace HZ:=gh ((gf HZ).but hb6 hrne)
 replace HX1:=gh ((hb6.block _ (blk (gf HX1)).1 (Ne.symm ne1)).trans (gf HX1))
 replace HX4:=gh ((hb6.block _ (blk (gf HX4)).1 (Ne.symm ne4)).trans (gf HX4))
 replace HT3:=gh ((gf HT3).keep (Stays.but hb6 (Nat.lt_succ_of_lt hr)) (Nat.le_refl _))
 replace HS:=gh (Nat.lt_of_lt_of_le (gf HS) hb6.size)
 replace HR:=gh hR6
 replace HL:=gh (And.intro (Nat.le_trans (gf HL).1 hle6) (Nat.le_trans (gf HL).2 hle6))
 clear hb6 hle6 hR6 HC6 hX6
 have HC7:=gh (gf hE w6 (q6) (gf HL).2 (gf HR))
 go_wp2_with fail
 refine (gf HC7).mono ?_
 intro e w7 h7
 rcases hX7:g .rE d (q6) with er | ⟨t7,q7⟩
 ·rw [hX7] at h7
  obtain ⟨ei,en⟩:=er
  have hYe:Y = .error (ei,en):=by have h:=gf HY;rw [hX7] at h;exact h.symm
  subst hYe
  obtain ⟨hb7,h7⟩:=h7
  obtain rfl:e=_:=h7
  have HP:=gh ((gf HB).trans hb7)
  clear hb7 HC7 hX7
  go_wp2
  exact ⟨rfl,gf HP,rfl⟩
 rw [hX7] at h7
 obtain ⟨hb7,hle7,hR7,v7,rfl,hv7⟩:=h7
 have hY7:=gf HY
 rw [hX7] at hY7
 simp only [thenR] at hY7
 replace HY:=gh hY7
 clear hY7
 obtain ⟨i7,j7,s7,m7,b7,a7,n7,c7,rfl⟩:=hv7.form
 have HT7:=gh (hv7.keep (lo':=w.heap.size+1) (Stays.of (Below.refl _ _)) (gf HS))
 replace HB:=gh ((gf HB).trans hb7)
 replace HZ:=gh ((gf HZ).but hb7 hrne)
 replace HX1:=gh ((hb7.block _ (blk (gf HX1)).1 (Ne.symm ne1)).trans (gf HX1))
 replace HX4:=gh ((hb7.block _ (blk (gf HX4)).1 (Ne.symm ne4)).trans (gf HX4))
 replace HT3:=gh ((gf HT3).keep (Stays.but hb7 (Nat.lt_succ_of_lt hr)) (Nat.le_refl _))
 replace HS:=gh (Nat.lt_of_lt_of_le (gf HS) hb7.size)
 replace HR:=gh hR7
 replace HL:=gh (And.intro (Nat.le_trans (gf HL).1 hle7) (Nat.le_trans (gf HL).2 hle7))
 clear hb7 hle7 hR7 hv7 HC7 hX7
 obtain ⟨B8,eB8,hbB8,hsB8,hhB8⟩:=box_new w7 #[.int .i64 i7,.string s7,.string m7,.bool b7,.slice a7 n7 c7,.int .i64 0,.int .i64 j7] 36
 have ne8:r≠w7.heap.size:=by have:=gf HS;omega
 have HQHX8:=HS
 have hbu9:=But.of (r:=r) hbB8
 replace HR:=gh ((gf HR).keep hbB8)
 replace HB:=gh ((gf HB).trans hbu9)
 replace HZ:=gh ((gf HZ).but hbu9 hrne)
 replace HX1:=gh ((hbu9.block _ (blk (gf HX1)).1 (Ne.symm ne1)).trans (gf HX1))
 replace HX4:=gh ((hbu9.block _ (blk (gf HX4)).1 (Ne.symm ne4)).trans (gf HX4))
 replace HT3:=gh ((gf HT3).keep (Stays.but hbu9 (Nat.lt_succ_of_lt hr)) (Nat.le_refl _))
 replace HT7:=gh ((gf HT7).keep (Stays.but hbu9 (Nat.lt_succ_of_lt hr)) (Nat.le_refl _))
 replace HS:=gh (Nat.lt_of_lt_of_le (gf HS) hbu9.size)
 have HX8:=gh hhB8
 have HEB8:=gh eB8
 have HSB8:=gh hsB8
 clear eB8 hbB8 hhB8 hsB8
 have HC10:=gh (must_any (gf HR) (gf HT) (s:=⟨#[101,108,115,101]⟩) (by decide))
 go_wp2_with fail
 rw [gf HEB8]
 refine (gf HC10).mono ?_
 intro e w10 h10
 rcases hX10:mustR ts ⟨#[101,108,115,101]⟩ (q7) with er | ⟨t10,q10⟩
 ·rw [hX10] at h10
  obtain ⟨ei,en⟩:=er
  have hYe:Y = .error (ei,en):=by have h:=gf HY;rw [hX10] at h;exact h.symm
  subst hYe
  obtain ⟨hb10,h10⟩:=h10
  obtain rfl:e=_:=h10
  have HP:=gh ((gf HB).trans hb10)
  clear hb10 HC10 hX10
  go_wp2
  exact ⟨rfl,gf HP,rfl⟩
 rw [hX10] at h10
 obtain ⟨hb10,hle10,hR10,v10,rfl,hv10⟩:=h10
 have hY10:=gf HY
 rw [hX10] at hY10
 simp only [thenR] at hY10
 replace HY:=gh hY10
 clear hY10
 obtain rfl:v10=_:=hv10
 replace HB:=gh ((gf HB).trans hb10)
 replace HZ:=gh ((gf HZ).but hb10 hrne)
 replace HX1:=gh ((hb10.block _ (blk (gf HX1)).1 (Ne.symm ne1)).trans (gf HX1))
 replace HX4:=gh ((hb10.block _ (blk (gf HX4)).1 (Ne.symm ne4)).trans (gf HX4))
 replace HX8:=gh ((hb10.block _ (blk (gf HX8)).1 (Ne.symm ne8)).trans (gf HX8))
 replace HT3:=gh ((gf HT3).keep (Stays.but hb10 (Nat.lt_succ_of_lt hr)) (Nat.le_refl _))
 replace HT7:=gh ((gf HT7).keep (Stays.but hb10 (Nat.lt_succ_of_lt hr)) (Nat.le_refl _))
 replace HS:=gh (Nat.lt_of_lt_of_le (gf HS) hb10.size)
 replace HR:=gh hR10
 replace HL:=gh (And.intro (Nat.le_trans (gf HL).1 hle10) (Nat.le_trans (gf HL).2 hle10))
 clear hb10 hle10 hR10 HC10 hX10
 have HC11:=gh (gf hE w10 (q10) (gf HL).2 (gf HR))
 go_wp2_with fail
 refine (gf HC11).mono ?_
 intro e w11 h11
 rcases hX11:g .rE d (q10) with er | ⟨t11,q11⟩
 ·rw [hX11] at h11
  obtain ⟨ei,en⟩:=er
  have hYe:Y = .error (ei,en):=by have h:=gf HY;rw [hX11] at h;exact h.symm
  subst hYe
  obtain ⟨hb11,h11⟩:=h11
  obtain rfl:e=_:=h11
  have HP:=gh ((gf HB).trans hb11)
  clear hb11 HC11 hX11
  go_wp2
  exact ⟨rfl,gf HP,rfl⟩
 rw [hX11] at h11
 obtain ⟨hb11,hle11,hR11,v11,rfl,hv11⟩:=h11
 have hY11:=gf HY
 rw [hX11] at hY11
 simp only [thenR] at hY11
 replace HY:=gh hY11
 clear hY11
 obtain ⟨i11,j11,s11,m11,b11,a11,n11,c11,rfl⟩:=hv11.form
 have HT11:=gh (hv11.keep (lo':=w.heap.size+1) (Stays.of (Below.refl _ _)) (gf HS))
 replace HB:=gh ((gf HB).trans hb11)
 replace HZ:=gh ((gf HZ).but hb11 hrne)
 replace HX1:=gh ((hb11.block _ (blk (gf HX1)).1 (Ne.symm ne1)).trans (gf HX1))
 replace HX4:=gh ((hb11.block _ (blk (gf HX4)).1 (Ne.symm ne4)).trans (gf HX4))
 replace HX8:=gh ((hb11.block _ (blk (gf HX8)).1 (Ne.symm ne8)).trans (gf HX8))
 replace HT3:=gh ((gf HT3).keep (Stays.but hb11 (Nat.lt_succ_of_lt hr)) (Nat.le_refl _))
 replace HT7:=gh ((gf HT7).keep (Stays.but hb11 (Nat.lt_succ_of_lt hr)) (Nat.le_refl _))
 replace HS:=gh (Nat.lt_of_lt_of_le (gf HS) hb11.size)
 replace HR:=gh hR11
 replace HL:=gh (And.intro (Nat.le_trans (gf HL).1 hle11) (Nat.le_trans (gf HL).2 hle11))
 clear hb11 hle11 hR11 hv11 HC11 hX11
 obtain ⟨B12,eB12,hbB12,hsB12,hhB12⟩:=box_new w11 #[.int .i64 i11,.string s11,.string m11,.bool b11,.slice a11 n11 c11,.int .i64 0,.int .i64 j11] 36
 have ne12:r≠w11.heap.size:=by have:=gf HS;omega
 have HQHX12:=HS
 have hbu13:=But.of (r:=r) hbB12
 replace HR:=gh ((gf HR).keep hbB12)
 replace HB:=gh ((gf HB).trans hbu13)
 replace HZ:=gh ((gf HZ).but hbu13 hrne)
 replace HX1:=gh ((hbu13.block _ (blk (gf HX1)).1 (Ne.symm ne1)).trans (gf HX1))
 replace HX4:=gh ((hbu13.block _ (blk (gf HX4)).1 (Ne.symm ne4)).trans (gf HX4))
 replace HX8:=gh ((hbu13.block _ (blk (gf HX8)).1 (Ne.symm ne8)).trans (gf HX8))
 replace HT3:=gh ((gf HT3).keep (Stays.but hbu13 (Nat.lt_succ_of_lt hr)) (Nat.le_refl _))
 replace HT7:=gh ((gf HT7).keep (Stays.but hbu13 (Nat.lt_succ_of_lt hr)) (Nat.le_refl _))
 replace HT11:=gh ((gf HT11).keep (Stays.but hbu13 (Nat.lt_succ_of_lt hr)) (Nat.le_refl _))
 replace HS:=gh (Nat.lt_of_lt_of_le (gf HS) hbu13.size)
 have HX12:=gh hhB12
 have HEB12:=gh eB12
 have HSB12:=gh hsB12
 clear eB12 hbB12 hhB12 hsB12
 have u01:=(blk (gf HX1)).2.1 0 _ rfl
 have u11:=(blk (gf HX1)).2.1 1 _ rfl
 have u21:=(blk (gf HX1)).2.1 2 _ rfl
 obtain ⟨y04,y14,y24,y34,y44,y54,y64⟩:=blk7 (gf HX4)
 obtain ⟨y08,y18,y28,y38,y48,y58,y68⟩:=blk7 (gf HX8)
 obtain ⟨y012,y112,y212,y312,y412,y512,y612⟩:=blk7 (gf HX12)
 rw [←gf HEB12] at u01 u11 u21 y04 y14 y24 y34 y44 y54 y64 y08 y18 y28 y38 y48 y58 y68 y012 y112 y212 y312 y412 y512 y612
 go_wp2_with fail
 rw [gf HEB12]
 clear u01 u11 u21 y04 y14 y24 y34 y44 y54 y64 y08 y18 y28 y38 y48 y58 y68 y012 y112 y212 y312 y412 y512 y612
 refine (made_any _ _ _ _ _ _ _ _).mono ?_
 rintro e w14 ⟨rfl,hb14⟩
 obtain ⟨C14,eC14,hbC14,hsC14,hhC14⟩:=box_new B12 #[.int .i64 i3,.string s3,.string m3,.bool b3,.slice a3 n3 c3,.int .i64 0,.int .i64 j3,.int .i64 i7,.string s7,.string m7,.bool b7,.slice a7 n7 c7,.int .i64 0,.int .i64 j7,.int .i64 i11,.string s11,.string m11,.bool b11,.slice a11 n11 c11,.int .i64 0,.int .i64 j11] 36
 rw [eC14] at hb14
 have hnode:=node (l:=[t3,t7,t11]) (vs:=[[.int .i64 i3,.string s3,.string m3,.bool b3,.slice a3 n3 c3,.int .i64 0,.int .i64 j3],[.int .i64 i7,.string s7,.string m7,.bool b7,.slice a7 n7 c7,.int .i64 0,.int .i64 j7],[.int .i64 i11,.string s11,.string m11,.bool b11,.slice a11 n11 c11,.int .i64 0,.int .i64 j11]]) 22 at0 ⟨#[]⟩ ⟨#[]⟩ false eC14 rfl (by simp) rfl (by simp) (gf HS) (fun j v t hv ht=>by
  rcases j with _ | _ | _ | j
  ·obtain rfl:=Option.some.inj hv
   obtain rfl:=Option.some.inj ht
   exact gf HT3
  ·obtain rfl:=Option.some.inj hv
   obtain rfl:=Option.some.inj ht
   exact gf HT7
  ·obtain rfl:=Option.some.inj hv
   obtain rfl:=Option.some.inj ht
   exact gf HT11
  ·simp at hv)
 rw [gf HSB12] at hnode
 have hbCb:=hbC14.trans (hb14.mono hbC14.size)
 replace hnode:=hnode.keep (Stays.of hb14) (Nat.le_refl _)
 have hbu15:=But.of (r:=r) hbCb
 replace HR:=gh ((gf HR).keep hbCb)
 replace HB:=gh ((gf HB).trans hbu15)
 replace HZ:=gh ((gf HZ).but hbu15 hrne)
 replace HX1:=gh ((hbu15.block _ (blk (gf HX1)).1 (Ne.symm ne1)).trans (gf HX1))
 replace HX4:=gh ((hbu15.block _ (blk (gf HX4)).1 (Ne.symm ne4)).trans (gf HX4))
 replace HX8:=gh ((hbu15.block _ (blk (gf HX8)).1 (Ne.symm ne8)).trans (gf HX8))
 replace HX12:=gh ((hbu15.block _ (blk (gf HX12)).1 (Ne.symm ne12)).trans (gf HX12))
 replace HS:=gh (Nat.lt_of_lt_of_le (gf HS) hbu15.size)
 obtain ⟨y0,y1,y2,y3,y4,y5,y6⟩:=blk7 (gf HZ)
 obtain ⟨z0,z1,z2,z3,z4,z5,z6⟩:=frz7 (gf HZ)
 have HNode:=gh hnode
 go_wp2
 exact ret_put rfl rfl rfl (gf HB) hr (gf HZ) (by have h:=gf HY;rw [gf HN0] at h;exact h.symm) (gf HL).1 (gf HR) (Nat.lt_succ_self _) (gf HNode)
end Go.Proofs.YtfkfnbehdcmgeaaGreatDoor
