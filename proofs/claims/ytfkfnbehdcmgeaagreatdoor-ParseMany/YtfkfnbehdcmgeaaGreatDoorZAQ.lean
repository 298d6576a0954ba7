/- The document's parser: eat, must, name, down, next. -/
import Derived.Test.YtfkfnbehdcmgeaaGreatDoorZAP
import Derived.Test.YtfkfnbehdcmgeaaGreatDoorZAL
import Derived.Test.YtfkfnbehdcmgeaaGreatDoorZAD
set_option linter.unusedVariables false
set_option linter.unusedSimpArgs false
namespace Go.Proofs.YtfkfnbehdcmgeaaGreatDoor
open Go Go.RowKit
theorem app_de {w:World} {B n:Nat} {v:Value} {xs l:List Value} (hl:l.length=22) (h1:∀ u∈l,u.oneCell'=true) (hown:w.ownsRow B 56 22 v n xs) (hn:n≤100000) (hB:B≤w.heap.size) :
  ∃ g cap w',(Builtin.append_ #[23,23] 23 #[v,.slice (some ⟨w.heap.size,0,none⟩) 1 1]).run Tryz.prog (w.alloc (.cells l.toArray 56)) = .ok (.slice (some ⟨g,0,none⟩) (n+1) cap) w'∧w'.ownsRow B 56 22 (.slice (some ⟨g,0,none⟩) (n+1) cap) (n+1) (xs++l)∧(w.alloc (.cells l.toArray 56)).grownBy w' v.ownBlock∧(v.ownBlock=some g∨g=w.heap.size+1):=by
 have hb:=(MapKept.heap_alloc w (.cells l.toArray 56)).1
 obtain ⟨g,cap,w',hr,ho,hg,hw,-⟩:=run_append_lies (P:=Tryz.prog) (w.alloc (.cells l.toArray 56)) 23 23 B 56 Tryz.t56 (.agg #[.bool false,.string ⟨#[]⟩,.string ⟨#[]⟩,.bool false,.slice none 0 0,.int .i64 0,.int .i64 0,.string ⟨#[]⟩,.slice none 0 0,.int .i64 0,.slice none 0 0,.string ⟨#[]⟩,.slice none 0 0,.slice none 0 0,.int .i64 0,.string ⟨#[]⟩,.string ⟨#[]⟩,.bool false,.slice none 0 0,.int .i64 0,.int .i64 0,.int .i64 0]) 22 320 Tryz.underlying23 (by kernel_rfl) (by kernel_rfl) (by kernel_rfl) (by kernel_rfl) rfl (by decide) v n xs (hown.alloc _) ⟨w.heap.size,0,none⟩ 1 1 l (by omega) (fun j u hj=>by
   have h:=(blk hb).2.1 j u (by simpa using hj)
   rw [addr0]
   exact h) h1 (by omega) (by unfold maxLen;omega) (by omega) (by simp;omega) _ rfl
 exact ⟨g,cap,w',hr,ho,hg,by simpa using hw⟩
theorem de_keep (w w':World) (P P':Nat→Prop) (cs:List Value) (t:De) (h:DeP w P cs t) (hb:StaysP P w w') (hl:∀ b,P b→P' b):DeP w' P' cs t:=h.keep hb hl
theorem de_bnd (w:World) (P:Nat→Prop) (cs:List Value) (t:De) (h:DeP w P cs t):DeP w (fun b=>P b∧b<w.heap.size) cs t:=h.bnd
theorem progL_no {ts:List (Int×ByteArray×Int)} {n q:Nat} {l:List De} (h:([⟨#[114,101,102]⟩,⟨#[108,101,116]⟩]:List ByteArray).any (sees ts q)=false):progL ts n l q = .ok (l,q):=by
 cases n with
 |zero=>rfl
 |succ n=>rw [progL,h];rfl
theorem progL_many {ts:List (Int×ByteArray×Int)} {n q:Nat} {l:List De} (h:([⟨#[114,101,102]⟩,⟨#[108,101,116]⟩]:List ByteArray).any (sees ts q)=true) (hl:l.length=100):progL ts (n+1) l q=bad ts q 152:=by
 rw [progL,h,if_pos rfl,if_pos hl]
theorem progL_yes {ts:List (Int×ByteArray×Int)} {n q:Nat} {l:List De} (h:([⟨#[114,101,102]⟩,⟨#[108,101,116]⟩]:List ByteArray).any (sees ts q)=true) (hl:l.length≠100):progL ts (n+1) l q=thenR (declR ts q) fun x q=>progL ts n (l++[x]) q:=by
 rw [progL,h,if_pos rfl,if_neg hl]
theorem declR_lt {r d lo p z:Nat} {ts:List (Int×ByteArray×Int)} {t:De} {w:World} (hT:TsOk ts) (hE:RuC 59 r ts d lo (exR ts)) (hSz:∀ j,(txt ts j).size≤65536) (hlo:lo≤p) (hR:RD w r ts p d) (hp:p+1<ts.length) (hX:declR ts p = .ok (t,z)):p+1≤z:=by
 obtain ⟨W,hW⟩:=rd_at (q:=p+1) hR hp
 unfold declR at hX
 split at hX
 ·obtain ⟨e,w',hb,h⟩:=calls_some (cell_of hT hSz (Nat.le_succ_of_le hlo) hW)
  rw [hX] at h
  exact h.1
 ·obtain ⟨_,q1,h1,hX⟩:=thenR_ok hX
  obtain rfl:=mustR_lt h1
  obtain ⟨e,w',hb,h⟩:=calls_some (definition_of hT hE (Nat.le_succ_of_le hlo) hW)
  rw [hX] at h
  exact h.1
theorem any_two {ts:List (Int×ByteArray×Int)} {q:Nat} (h:([⟨#[114,101,102]⟩,⟨#[108,101,116]⟩]:List ByteArray).any (sees ts q)=true):txt ts q≠⟨#[]⟩:=by
 simp only [List.any_cons,List.any_nil,Bool.or_false,Bool.or_eq_true] at h
 rcases h with h | h
 ·rw [sees_txt h];decide
 ·rw [sees_txt h];decide
set_option maxRecDepth 100000 in
set_option maxHeartbeats 8000000 in
theorem program_of {r d lo:Nat} {ts:List (Int×ByteArray×Int)} (hT:TsOk ts) (hE:RuC 59 r ts d lo (exR ts)) (hSz:∀ j,(txt ts j).size≤65536) {w:World} {p:Nat} (hlo:lo≤p) (hR:RD w r ts p d):Calls Tryz.prog 26 #[.pointer (some ⟨r,0,none⟩)] w (RP (fun w' v l=>IsDs w' w.heap.size v l) (progR ts p) r ts p d w):=by
 obtain ⟨Y,hY⟩:∃ Y,progR ts p=Y:=⟨_,rfl⟩
 rw [hY]
 unfold progR at hY
 obtain ⟨Z,hZ⟩:∃ Z,progL ts ts.length [] p=Z:=⟨_,rfl⟩
 rw [hZ] at hY
 have hr:=hR.rlt
 have HI:Hid (RI DeP 56 22 w r ts p d lo (progL ts) Z (.slice none 0 0) [] [] p ts.length w):=⟨But.refl _ _,hR,own_nil _ _ _ _,rfl,(by simp),(fun j x t hx=>by simp at hx),⟨Nat.le_refl _,hlo⟩,by omega,hZ,Nat.zero_le _⟩
 have HT:=gh hT
 have HY:=gh hY
 replace hE:=gh hE
 replace hSz:=gh hSz
 clear hY hT hlo hR hZ
 go_enter Tryz.func26,Tryz.ntmps26
 go_wp2_with fail
 go_loopw [3] (fun v wr=>∃ l vs q n a m c,v = .slice a m c∧m=l.length∧Hid (RI DeP 56 22 w r ts p d lo (progL ts) Z v l vs q n wr)) (fun _ wr=>ts.length - (intOf ((wr.cell? ⟨r,1,none⟩).getD undef)).toNat)
 case atStart=>exact ⟨_,_,_,_,_,_,_,rfl,rfl,HI⟩
 case round =>
  obtain ⟨l,vs,q,n,a,m,c,rfl,hml,hEI⟩:=hrel
  obtain ⟨S,eS,hbS,hsS,hhS⟩:=box_new wr #[.string ⟨#[114,101,102]⟩,.string ⟨#[108,101,116]⟩] 9
  have h0:=(gf hEI).grow de_keep hbS
  obtain ⟨bo,hbo⟩:∃ b,([⟨#[114,101,102]⟩,⟨#[108,101,116]⟩]:List ByteArray).any (sees ts q)=b:=⟨_,rfl⟩
  have HC:Hid (Calls Tryz.prog 43 #[.pointer (some ⟨r,0,none⟩),.slice (some ⟨wr.heap.size,0,none⟩) 2 2] S (VP (.bool (([⟨#[114,101,102]⟩,⟨#[108,101,116]⟩]:List ByteArray).any (sees ts q))) S)):=one_any (c:=2) (l:=[⟨#[114,101,102]⟩,⟨#[108,101,116]⟩]) h0.rd (gf HT) (by omega) (by decide) (fun j s hs=>by
   rcases j with _ | _ | j
   ·obtain rfl:=Option.some.inj hs
    exact (blk hhS).2.1 0 _ rfl
   ·obtain rfl:=Option.some.inj hs
    exact (blk hhS).2.1 1 _ rfl
   ·simp at hs)
  rw [hbo] at HC
  have HO:=gh hbo
  have hqo:(wr.cell? ⟨r,1,none⟩)=some (.int .i64 (q:Int)):=by
   obtain ⟨g',c',p0,p1,-⟩:=(gf hEI).rd.facts (Below.refl _ _)
   exact p1
  replace hqo:=gh hqo
  replace hml:=gh hml
  have H0:=gh h0
  have HES:=gh eS
  clear hbo h0 hbS hsS hhS eS hEI
  go_wp2_with fail
  rw [gf HES]
  refine (gf HC).mono ?_
  rintro e w9 ⟨rfl,hb9⟩
  have h9:=(gf H0).grow de_keep hb9
  have H9:=gh h9
  clear hb9 h9 HC H0
  rcases bo with _ | _
  ·have h:=gf H9
   have hZe:Z = .ok (l,q):=h.ch.symm.trans (progL_no (gf HO))
   have hYe:=gf HY
   rw [hZe] at hYe
   simp only [thenR] at hYe
   have HM:=gh (mustEnd_any h.rd (gf HT))
   replace HY:=gh hYe
   have HLr:Hid (RowP w9 22 (fun b=>w.heap.size≤b) (.slice a m c) l.length fun j cs=>∀ t,l[j]?=some t→DeP w9 (fun b=>w.heap.size≤b) cs t):=h.row de_keep (by
    have:=h.sm
    have:=h.rd.lt
    have:=(gf HT).len
    omega)
   clear h hZe hYe
   go_wp2_with fail
   refine (gf HM).mono ?_
   intro e w8 h8
   rcases hX:endR ts q with ⟨ei,en⟩ | ⟨u,z⟩
   ·rw [hX] at h8
    have hYe:Y = .error (ei,en):=by have h:=gf HY;rw [hX] at h;exact h.symm
    subst hYe
    obtain ⟨hb8,h8⟩:=h8
    obtain rfl:e=_:=h8
    have HP:=gh ((gf H9).but.trans hb8)
    clear hb8 HM hX
    go_wp2
    exact ⟨rfl,gf HP,rfl⟩
   ·rw [hX] at h8
    obtain ⟨hb8,hle8,hR8,v8,rfl,hv8⟩:=h8
    obtain rfl:v8=_:=hv8
    have hYe:Y = .ok (l,z):=by have h:=gf HY;rw [hX] at h;exact h.symm
    subst hYe
    have HP:=gh (And.intro hb8 (And.intro hle8 hR8))
    clear hb8 hle8 hR8 HM hX
    go_wp2
    have h:=gf H9
    obtain ⟨hb8,hle8,hR8⟩:=gf HP
    refine bodyPost_ret (results_tmp rfl _ _ _) rfl ?_
    refine ⟨h.but.trans hb8,Nat.le_trans h.le.1 hle8,hR8,_,rfl,?_⟩
    refine RowP.keep (P':=fun b=>w.heap.size≤b) (gf HLr) ⟨hb8.size,fun k hk hs=>hb8.block k hs (by omega)⟩ (fun _ h=>h) fun j cs hx t ht => ?_
    obtain ⟨x,e1,e2⟩:=(hx t ht).keep (P':=fun b=>w.heap.size≤b) ⟨hb8.size,fun k hk hs=>hb8.block k hs (by omega)⟩ (fun _ h=>h)
    exact ⟨x,e1,e2.toN⟩
  ·have h:=gf H9
   have hp1:q+1<ts.length:=nx_txt (gf HT) h.rd.lt (any_two (gf HO))
   obtain ⟨n,rfl⟩:∃ m,n=m+1:=⟨n - 1,by have:=h.fu;omega⟩
   have hlb:l.length≤1000000:=by
    have:=h.sm
    have:=h.rd.lt
    have:=(gf HT).len
    omega
   have hm':=gf hml
   by_cases hlm:m=100
   ·have hch:=h.ch
    rw [progL_many (gf HO) (by omega)] at hch
    have hYe:=gf HY
    rw [←hch] at hYe
    replace hch : .error _=Y:=hYe
    clear hYe
    have HRf:=gh (refused_any h.rd (gf HT) 152)
    have HCh:=gh hch
    subst hlm
    clear h hch hp1 hlb hm'
    go_wp2_with fail
    refine (gf HRf).mono ?_
    rintro e w8 ⟨rfl,hb8⟩
    have HB8:=gh hb8
    clear hb8 HRf
    go_wp2
    obtain rfl:=gf HCh
    exact ⟨rfl,(gf H9).but.trans (But.of (gf HB8)),rfl⟩
   ·have hch:=h.ch
    rw [progL_yes (gf HO) (by omega)] at hch
    have HCh:=gh hch
    have g1:¬ (m:Int)=(100:Int):=by omega
    have g2:((m:Int) == (100:Int))=false:=by simpa using g1
    have g3:decide ((m:Int)=(100:Int))=false:=by simpa using g1
    have HC2:=gh (decl_of (gf HT) (gf hE) (gf hSz) h.le.2 h.rd)
    replace hlb:=gh hlb
    replace hp1:=gh hp1
    clear h hch hm' hlm
    go_wp2_with fail
    refine (gf HC2).mono ?_
    intro e w7 h7
    rcases hX:declR ts q with er | ⟨t7,q7⟩
    ·rw [hX] at h7
     obtain ⟨ei,en⟩:=er
     have hYe:Y = .error (ei,en):=by have h:=gf HCh;rw [hX] at h;have h2:=gf HY;rw [←h] at h2;exact h2.symm
     subst hYe
     obtain ⟨hb7,h7⟩:=h7
     obtain rfl:e=_:=h7
     have HP:=gh ((gf H9).but.trans hb7)
     clear hb7 HC2 hX
     go_wp2
     exact ⟨rfl,gf HP,rfl⟩
    ·rw [hX] at h7
     obtain ⟨hb7,hle7,hR7,v7,rfl,x7,rfl,hv7⟩:=h7
     have hLL:deCells t7 x7=[.bool t7.cell,.string t7.name,.string t7.num,.bool t7.again,.slice x7.pa x7.pn x7.pc,.int .i64 t7.eff,.int .i64 t7.t.kind,.string t7.t.name,.slice x7.ta x7.tn x7.tc,.int .i64 t7.t.at',.slice x7.ra x7.rn x7.rc,.string t7.res,.slice x7.ea x7.en x7.ec,.slice x7.ma x7.mn x7.mc,.int .i64 t7.body.op,.string t7.body.name,.string t7.body.num,.bool t7.body.b,.slice x7.ba x7.bn x7.bc,.int .i64 0,.int .i64 t7.body.at',.int .i64 t7.at']:=rfl
     rw [hLL]
     have hch:=gf HCh
     rw [hX] at hch
     simp only [thenR] at hch
     have h:=gf H9
     have hlt:q+1≤q7:=declR_lt (gf HT) (gf hE) (gf hSz) h.le.2 h.rd (gf hp1) hX
     have hown7:w7.ownsRow w.heap.size 56 22 (.slice a m c) l.length vs.flatten:=by
      obtain ⟨k1,k2 | ⟨g,cap,cur,k3,k4,k5,k6⟩⟩:=h.own
      ·exact ⟨k1,.inl k2⟩
      ·exact ⟨k1,.inr ⟨g,cap,cur,k3,k4,(hb7.block g (blk k5).1 (by omega)).trans k5,k6⟩⟩
     have hs97:=hb7.size
     have hsw:=h.but.size
     obtain ⟨g,cap,wa,hrun,hoa,hga,hwa⟩:=app_de (l:=[.bool t7.cell,.string t7.name,.string t7.num,.bool t7.again,.slice x7.pa x7.pn x7.pc,.int .i64 t7.eff,.int .i64 t7.t.kind,.string t7.t.name,.slice x7.ta x7.tn x7.tc,.int .i64 t7.t.at',.slice x7.ra x7.rn x7.rc,.string t7.res,.slice x7.ea x7.en x7.ec,.slice x7.ma x7.mn x7.mc,.int .i64 t7.body.op,.string t7.body.name,.string t7.body.num,.bool t7.body.b,.slice x7.ba x7.bn x7.bc,.int .i64 0,.int .i64 t7.body.at',.int .i64 t7.at']) rfl (List.all_eq_true.1 rfl) hown7 (by have:=h.sm;have:=h.rd.lt;have:=(gf HT).len;omega) (by omega)
     have R1:=gh hrun
     have HQ:=gh (And.intro hb7 (And.intro hlt (And.intro hR7 (And.intro hv7 (And.intro hch (And.intro hoa (And.intro hga (And.intro hwa hLL))))))))
     clear hb7 hle7 hR7 hv7 hch h hown7 hs97 hsw hrun hoa hga hwa HC2 hX hlt hLL
     go_wp2_with (at_builtin;refine app_run _ _ _ rfl rfl rfl rfl (gf R1) ?_;clear R1)
     obtain ⟨hb7,hlt,hR7,hv7,hch,hoa,hga,hwa,hLL⟩:=gf HQ
     have h:=gf H9
     have hnew:=h.more de_keep de_bnd hr hb7 hlt hR7 rfl ⟨x7,hLL.symm,hv7.toP⟩ hch hoa hga hwa
     refine ⟨⟨l++[t7],_,q7,n,_,_,_,rfl,by simp,hnew⟩,?_⟩
     have hqn:wa.cell? ⟨r,1,none⟩=some (.int .i64 (q7:Int)):=by
      obtain ⟨g',c',p0,p1,-⟩:=hnew.rd.facts (Below.refl _ _)
      exact p1
     have e1:intOf ((wa.cell? ⟨r,1,none⟩).getD undef)=(q7:Int):=by rw [hqn];rfl
     have e2:intOf ((wr.cell? ⟨r,1,none⟩).getD undef)=(q:Int):=by rw [gf hqo];rfl
     have hlt9:=h.rd.lt
     rw [e1,e2]
     omega
end Go.Proofs.YtfkfnbehdcmgeaaGreatDoor
namespace Go.Proofs.YtfkfnbehdcmgeaaGreatDoor
open Go Go.RowKit
theorem tkl_sz (s:ByteArray) (j:Nat):(txt (tkL s) j).size≤65536:=by
 have hall:∀ x∈tkL s,x.2.1.size≤65536:=by
  intro x hx
  unfold tkL at hx
  rcases List.mem_append.1 hx with hx | hx
  ·obtain ⟨y,hy,rfl⟩:=List.mem_map.1 hx
   show (s.extract y.2.1 y.2.2).size≤65536
   have hs:s.size≤65536:=by
    rcases Nat.lt_or_ge 65536 s.size with h | h
    ·unfold tk at hy
     rw [if_pos h] at hy
     cases hy
    ·exact h
   have:(s.extract y.2.1 y.2.2).size≤s.size:=by simp [ByteArray.size_extract];omega
   omega
  ·obtain rfl:=List.mem_singleton.1 hx
   show (⟨#[]⟩:ByteArray).size≤65536
   decide
 unfold txt nx
 rw [List.getD_eq_getElem?_getD]
 cases h:(tkL s)[j]? with
 |none=>show (⟨#[]⟩:ByteArray).size≤65536;decide
 |some x=>exact hall x (List.mem_of_getElem? h)
def progF (ts:List (Int×ByteArray×Int)):(Except (Int×Int) ((List De)×Nat)):=progR ts 0
theorem progF_eq (ts:List (Int×ByteArray×Int)):progF ts=progR ts 0:=rfl
def progS (s:ByteArray):Except (Int×Int) (List De):=
 match (tk s).2 with
 |some (a,n) => .error (a,n)
 |none=>match progF (tkL s) with
  |.ok (t,_) => .ok t
  |.error e => .error e
def ProgP (s:ByteArray) (w:World) (e:Ending) (w':World):Prop:=Below w.heap.size w w' ∧
 match progS s with
 |.ok t=>∃ v,e = .returned (.tuple #[v,.nilIface])∧IsDs w' w.heap.size v t
 |.error (i,n)=>∃ v,e = .returned (.tuple #[.slice none 0 0,v])∧PErr w' v i n
theorem IsDs.form {w:World} {lo:Nat} {v:Value} {l:List De} (h:IsDs w lo v l):∃ (a:Option Addr) (n c:Nat),v = .slice a n c:=by
 obtain ⟨a,c,e,-⟩:=h
 exact ⟨_,_,_,e⟩
def OutD (ob:Nat) (w:World) (t:List De):Prop:=∃ v,w.heap[ob]?=some (.cells #[v] 23)∧IsDs w (ob+2) v t
set_option maxRecDepth 100000 in
set_option maxHeartbeats 8000000 in
theorem progClo_any {s:ByteArray} {W:World} {r ob:Nat} (hR:RD W r (tkL s) 0 0) (hz:W.heap[ob]?=some (.cells #[.slice none 0 0] 23)) (hob:ob+1<r) :
  Calls Tryz.prog 25 #[.pointer (some ⟨r,0,none⟩),.pointer (some ⟨ob,0,none⟩)] W (KP progF (OutD ob) s ob r W):=by
 have hT:=tsok_of s
 have hlen:=hT.len
 have hE:RuC 59 r (tkL s) 0 0 (exR (tkL s)):=(rules_all hT (tkL s).length 0 0 (by omega) (by omega)).1
 have HC:=gh (program_of hT hE (tkl_sz s) (Nat.zero_le 0) hR)
 have hrl:=hR.rlt
 have HA:=gh (And.intro hz (And.intro hob hrl))
 clear hR hz hob hT hlen hE hrl
 go_enter Tryz.func25,Tryz.ntmps25
 go_wp2_with fail
 refine (gf HC).mono ?_
 intro e w3 h3
 obtain ⟨hz,hob,hrl⟩:=gf HA
 rcases hX:progR (tkL s) 0 with ⟨i,n⟩ | ⟨t,q⟩
 ·rw [hX] at h3
  obtain ⟨hb3,h3⟩:=h3
  obtain rfl:e=_:=h3
  have HQ:=gh (And.intro hb3 hX)
  clear HC hz hob hrl hX hb3
  go_wp2
  obtain ⟨hb3,hX⟩:=gf HQ
  refine ⟨rfl,?_⟩
  unfold KP
  rw [progF_eq,hX]
  exact ⟨hb3,rfl⟩
 ·rw [hX] at h3
  obtain ⟨hb3,hle,hR3,v,rfl,hv⟩:=h3
  obtain ⟨a4,n4,c4,rfl⟩:=IsDs.form hv
  have hz3:=zkeep hz hb3 (by omega)
  have y0:=(blk hz3).2.1 0 _ rfl
  have z0:=(blk hz3).2.2 0
  have HQ:=gh (And.intro hb3 (And.intro hX (And.intro hv (And.intro hz3 (And.intro hob hrl)))))
  clear HC hz hob hrl hX hb3 hle hR3 hv hz3
  go_wp2
  obtain ⟨hb3,hX,hv,hz3,hob,hrl⟩:=gf HQ
  refine bodyPost_end (results_none rfl _ _ _) rfl ?_
  unfold KP
  rw [progF_eq,hX]
  have k4:=(Bu.of_but (q:=ob) hb3).set 0 (.slice a4 n4 c4)
  exact ⟨rfl,k4,_,set_block hz3 _,IsDs.keep hv ((Stays.of (Below.refl _ _)).set (by omega) 0 _) (by omega)⟩
theorem load_ds {W:World} {b:Nat} {v:Value} (h:W.heap[b]?=some (.cells #[v] 23)):(loadVar 23 ⟨b,0,none⟩).run Tryz.prog W = .ok v W:=by
 have hc:W.cell? ⟨b,0,none⟩=some v:=(blk h).2.1 0 _ rfl
 go_simp
set_option maxRecDepth 100000 in
set_option maxHeartbeats 8000000 in
theorem pprog_any (s:ByteArray) (w:World) (hG:SG w):Calls Tryz.prog 13 #[.string s] w (ProgP s w):=by
 obtain ⟨A,eA,hbA,hsA,hzA⟩:=box_new w #[.slice none 0 0] 23
 have h1w:=hG.lt
 have HC:=gh (pread_any (k:=25) (ob:=w.heap.size) (X:=progF) (Φ:=OutD w.heap.size) s A (hG.below hbA h1w) ⟨fun xs w=>by go_simp⟩ (by omega)
  (fun w1 w2 t hb hs h=>by
   obtain ⟨v,h1,h2⟩:=h
   exact ⟨v,(hb.block _ (blk h1).1 (by omega)).trans h1,h2.keep (Stays.but hb (by omega)) (Nat.le_refl _)⟩)
  (fun W r hb hr hR=>progClo_any hR ((hb.block _ (by omega)).trans hzA) (by omega)))
 have hmf:∀ (fn:Fn) (first cap:Array Value) (w:World),(Instr.makeFunc fn first cap).run Tryz.prog w = .ok (.func fn first cap) w:=fun _ _ _ _=>rfl
 have HA:=gh (And.intro hbA (And.intro hzA hsA))
 have HE:=gh eA
 clear hbA hzA hsA eA hG h1w
 go_enter Tryz.func13,Tryz.ntmps13
 go_wp2_with fail
 rw [gf HE]
 refine (gf HC).mono ?_
 intro e w3 h3
 obtain ⟨hbA,hzA,hsA⟩:=gf HA
 unfold ReadP at h3
 rcases hS:progS s with ⟨i,n⟩ | t
 ·have h4:Below A.heap.size A w3∧∃ v,e = .returned v∧PErr w3 v i n:=by
   unfold progS at hS
   rcases hn:(tk s).2 with _ | ⟨a,m⟩
   ·rw [hn] at hS h3
    rcases hX:progF (tkL s) with ⟨a,m⟩ | ⟨t,q⟩
    ·rw [hX] at hS h3
     obtain ⟨rfl,rfl⟩:a=i∧m=n:=by simpa using hS
     exact h3
    ·rw [hX] at hS
     cases hS
   ·rw [hn] at hS h3
    obtain ⟨rfl,rfl⟩:(a:Int)=i∧(m:Int)=n:=by simpa using hS
    exact h3
  obtain ⟨hb,v,rfl,b,rfl,hd⟩:=h4
  have hz3:=(hb.block _ (by omega)).trans hzA
  have hne:b≠w.heap.size:=fun e=>by
   subst e
   rw [hz3] at hd
   cases hd
  have y0:=(blk hz3).2.1 0 _ rfl
  have z0:=(blk hz3).2.2 0
  have HQ:=gh (And.intro hb (And.intro hd (And.intro hz3 (And.intro hne (And.intro hS (And.intro hbA hsA))))))
  clear HC h3 hS hb hd hne hz3 hbA hzA hsA
  go_wp2
  obtain ⟨hb,hd,hz3,hne,hS,hbA,hsA⟩:=gf HQ
  refine bodyPost_ret (results_two rfl rfl (load_ds (set_block hz3 _)) rfl) rfl ?_
  unfold ProgP
  rw [hS]
  exact ⟨below_set (hbA.trans (hb.mono (by omega))) (Nat.le_refl _) _ _,_,rfl,b,rfl,(heap_set _ _ hne).trans hd⟩
 ·have h4:e = .returned .nilIface∧But w.heap.size A w3∧OutD w.heap.size w3 t:=by
   unfold progS at hS
   rcases hn:(tk s).2 with _ | ⟨a,m⟩
   ·rw [hn] at hS h3
    rcases hX:progF (tkL s) with ⟨a,m⟩ | ⟨t2,q⟩
    ·rw [hX] at hS
     cases hS
    ·rw [hX] at hS h3
     obtain rfl:t2=t:=by simpa using hS
     exact h3
   ·rw [hn] at hS
    cases hS
  obtain ⟨rfl,hb,v,hz3,hv⟩:=h4
  obtain ⟨a4,n4,c4,rfl⟩:=IsDs.form hv
  have y0:=(blk hz3).2.1 0 _ rfl
  have z0:=(blk hz3).2.2 0
  have HQ:=gh (And.intro hb (And.intro hv (And.intro hz3 (And.intro hS (And.intro hbA hsA)))))
  clear HC h3 hS hb hv hz3 hbA hzA hsA
  go_wp2
  obtain ⟨hb,hv,hz3,hS,hbA,hsA⟩:=gf HQ
  refine bodyPost_ret (results_two rfl rfl (load_ds (set_block hz3 _)) rfl) rfl ?_
  unfold ProgP
  rw [hS]
  have hb9:Below w.heap.size w w3:=⟨hb.os.trans hbA.os,hb.tape.trans hbA.tape,hb.output.trans hbA.output,Nat.le_trans hbA.size hb.size,fun j hj=>(hb.block j (by omega) (by omega)).trans (hbA.block j hj)⟩
  exact ⟨below_set hb9 (Nat.le_refl _) _ _,_,rfl,IsDs.keep hv ((Stays.of (Below.refl _ _)).set (by omega) 0 _) (by omega)⟩
end Go.Proofs.YtfkfnbehdcmgeaaGreatDoor
namespace Go.Proofs.YtfkfnbehdcmgeaaGreatDoor
structure PS where
 i:Nat
 e:Int
 a:Int
def zTk:(Int×ByteArray×Int):=(0,⟨#[]⟩,0)
def PS.fail (st:PS) (a e:Int):PS:=if st.e=0 then ⟨st.i,e,a⟩ else st
section
variable (ts:List (Int×ByteArray×Int))
def tD (st:PS):(Int×ByteArray×Int):=if st.e=0 then nx ts st.i else zTk
def stepD (st:PS):PS:=if st.e=0∧st.i+1<ts.length then ⟨st.i+1,st.e,st.a⟩ else st
def isD (s:ByteArray) (st:PS):Bool:=decide (st.e=0) && (decide ((nx ts st.i).1=2) || decide ((nx ts st.i).1=4)) && decide ((nx ts st.i).2.1=s)
def eatD (s:ByteArray) (st:PS):PS:=if isD ts s st then stepD ts st else st
def mustD (s:ByteArray) (st:PS):PS:=if isD ts s st then stepD ts st else st.fail (tD ts st).2.2 150
def nameD (st:PS):(Int×ByteArray×Int)×PS:=if (tD ts st).1=1 then (tD ts st,stepD ts st) else (zTk,st.fail (tD ts st).2.2 150)
variable (g:Ru→PS→Ex×PS)
def argsD (most:Nat):Nat→List Ex→PS→List Ex×PS
 |0,l,st=>(l,st)
 |n+1,l,st=>if isD ts ⟨#[44]⟩ st then (if l.length=most then (l,st.fail (tD ts st).2.2 152) else argsD most n (l++[(g .rE (stepD ts st)).1]) (g .rE (stepD ts st)).2) else (l,mustD ts ⟨#[41]⟩ st)
def callD (n:(Int×ByteArray×Int)) (st:PS):Ex×PS:=
 if isD ts ⟨#[41]⟩ st then (namedR 21 n.2.1 [] n.2.2,stepD ts st)
 else (namedR 21 n.2.1 (argsD ts g 8 8 [(g .rE st).1] (g .rE st).2).1 n.2.2,(argsD ts g 8 8 [(g .rE st).1] (g .rE st).2).2)
def primD (st:PS):Ex×PS:=
 if st.e≠0 then (zEx,st)
 else if (tD ts st).1=3 then (.mk 1 ⟨#[]⟩ (tD ts st).2.1 false [] (tD ts st).2.2,stepD ts st)
 else if isD ts ⟨#[116,114,117,101]⟩ st then (.mk 2 ⟨#[]⟩ ⟨#[]⟩ true [] (tD ts st).2.2,stepD ts st)
 else if isD ts ⟨#[102,97,108,115,101]⟩ st then (madeR 2 [] (tD ts st).2.2,stepD ts st)
 else if isD ts ⟨#[40]⟩ st then
  (if isD ts ⟨#[41]⟩ (stepD ts st) then (madeR 3 [] (tD ts st).2.2,stepD ts (stepD ts st))
   else ((g .rE (stepD ts st)).1,mustD ts ⟨#[41]⟩ (g .rE (stepD ts st)).2))
 else if isD ts ⟨#[40]⟩ (nameD ts st).2 then callD ts g (nameD ts st).1 (stepD ts (nameD ts st).2)
 else (namedR 4 (nameD ts st).1.2.1 [] (nameD ts st).1.2.2,(nameD ts st).2)
def unaryD (st:PS):Ex×PS:=
 if isD ts ⟨#[45]⟩ st then (madeR 7 [(g .rU (stepD ts st)).1] (tD ts st).2.2,(g .rU (stepD ts st)).2)
 else if isD ts ⟨#[110,111,116]⟩ st then (madeR 8 [(g .rU (stepD ts st)).1] (tD ts st).2.2,(g .rU (stepD ts st)).2)
 else if isD ts ⟨#[33]⟩ st then (namedR 5 (nameD ts (stepD ts st)).1.2.1 [] (tD ts st).2.2,(nameD ts (stepD ts st)).2)
 else if isD ts ⟨#[111,108,100]⟩ st then (namedR 6 (nameD ts (stepD ts st)).1.2.1 [] (tD ts st).2.2,(nameD ts (stepD ts st)).2)
 else primD ts g st
def signD:List (ByteArray×Int)→PS→Option Int
 |[],_=>none
 |(s,o)::l,st=>if isD ts s st then some o else signD l st
def chD (O:PS→Ex×PS) (signs:List (ByteArray×Int)) (once:Bool):Nat→Ex→PS→Ex×PS
 |0,a,st=>(a,st)
 |n+1,a,st=>match signD ts signs st with
  |none=>(a,st)
  |some o=>if once then (madeR o [a,(O (stepD ts st)).1] (tD ts st).2.2,(O (stepD ts st)).2) else chD O signs once n (madeR o [a,(O (stepD ts st)).1] (tD ts st).2.2) (O (stepD ts st)).2
def levD (O:PS→Ex×PS) (signs:List (ByteArray×Int)) (once:Bool) (st:PS):Ex×PS:=chD ts O signs once ts.length (O st).1 (O st).2
def sgD:Nat→List (ByteArray×Int)
 |0=>[(⟨#[124,124]⟩,19)]
 |1=>[(⟨#[38,38]⟩,18)]
 |2=>[(⟨#[61]⟩,12),(⟨#[60,62]⟩,13),(⟨#[60]⟩,14),(⟨#[60,61]⟩,15),(⟨#[62]⟩,16),(⟨#[62,61]⟩,17)]
 |3=>[(⟨#[43]⟩,10),(⟨#[45]⟩,11)]
 |_=>[(⟨#[42]⟩,9)]
def leftD:Nat→PS→Ex×PS
 |0,st=>unaryD ts g st
 |k+1,st=>levD ts (leftD k) (sgD (4 - k)) (decide (k=2)) st
def impD (st:PS):Ex×PS:=
 if isD ts ⟨#[61,61,62]⟩ (leftD ts g 5 st).2 then (madeR 20 [(leftD ts g 5 st).1,(g .rI (stepD ts (leftD ts g 5 st).2)).1] (tD ts (leftD ts g 5 st).2).2.2,(g .rI (stepD ts (leftD ts g 5 st).2)).2)
 else leftD ts g 5 st
def partD (st:PS):Ex×PS:=
 if st.e=0∧(tD ts st).1=1∧(nx ts (st.i+1)).1=4∧(nx ts (st.i+1)).2.1=⟨#[58,61]⟩ then
  (namedR 25 (tD ts st).2.1 [(impD ts g (stepD ts (stepD ts st))).1] (tD ts st).2.2,(impD ts g (stepD ts (stepD ts st))).2)
 else if isD ts ⟨#[114,97,105,115,101]⟩ st then (madeR 26 [(impD ts g (stepD ts st)).1] (tD ts st).2.2,(impD ts g (stepD ts st)).2)
 else if isD ts ⟨#[97,115,115,101,114,116]⟩ st then (madeR 28 [(impD ts g (stepD ts st)).1] (tD ts st).2.2,(impD ts g (stepD ts st)).2)
 else impD ts g st
def ifD (at':Int) (st:PS):Ex×PS:=
 let a:=g .rE st
 let b:=g .rE (mustD ts ⟨#[116,104,101,110]⟩ a.2)
 let c:=g .rE (mustD ts ⟨#[101,108,115,101]⟩ b.2)
 (madeR 22 [a.1,b.1,c.1] at',c.2)
def letD (at':Int) (st:PS):Ex×PS:=
 let n:=nameD ts st
 let a:=g .rE (mustD ts ⟨#[61]⟩ n.2)
 let b:=g .rE (mustD ts ⟨#[105,110]⟩ a.2)
 (namedR 23 n.1.2.1 [a.1,b.1] at',b.2)
def tryD (at':Int) (st:PS):Ex×PS:=
 let a:=g .rE st
 let n:=nameD ts (mustD ts ⟨#[119,105,116,104]⟩ a.2)
 let b:=g .rE (mustD ts ⟨#[45,62]⟩ n.2)
 (namedR 27 n.1.2.1 [a.1,b.1] at',b.2)
def innerD (st:PS):Ex×PS:=
 if isD ts ⟨#[105,102]⟩ st then ifD ts g (tD ts st).2.2 (stepD ts st)
 else if isD ts ⟨#[108,101,116]⟩ st then letD ts g (tD ts st).2.2 (stepD ts st)
 else if isD ts ⟨#[116,114,121]⟩ st then tryD ts g (tD ts st).2.2 (stepD ts st)
 else
  let a:=partD ts g st
  if isD ts ⟨#[59]⟩ a.2 then (madeR 24 [a.1,(g .rE (stepD ts a.2)).1] (tD ts a.2).2.2,(g .rE (stepD ts a.2)).2) else a
def ruleD (u:Nat) (st:PS):Ex×PS:=match u with
 |0=>innerD ts g st
 |1=>impD ts g st
 |_=>unaryD ts g st
end
def gD (ts:List (Int×ByteArray×Int)):Nat→Ru→PS→Ex×PS
 |0,_,st=>(zEx,st.fail (tD ts st).2.2 151)
 |f+1,u,st=>if st.e=0 then ruleD ts (gD ts f) u st else (zEx,st)
section
variable (ts:List (Int×ByteArray×Int))
def exD (st:PS):Ex×PS:=gD ts 200 .rE st
def typD (st:PS):Ty×PS:=
 let i:=(tD ts st).2.2
 if isD ts ⟨#[105,110,116]⟩ st then (.mk 1 ⟨#[]⟩ [] i,stepD ts st)
 else if isD ts ⟨#[98,111,111,108]⟩ st then (.mk 2 ⟨#[]⟩ [] i,stepD ts st)
 else if isD ts ⟨#[117,110,105,116]⟩ st then (.mk 3 ⟨#[]⟩ [] i,stepD ts st)
 else
  let n:=nameD ts (mustD ts ⟨#[123]⟩ st)
  let x:=exD ts (mustD ts ⟨#[124]⟩ (mustD ts ⟨#[105,110,116]⟩ (mustD ts ⟨#[58]⟩ n.2)))
  (.mk 1 n.1.2.1 [x.1] i,mustD ts ⟨#[125]⟩ x.2)
def paramD (st:PS):Pm×PS:=
 let n:=nameD ts (stepD ts st)
 let t:=typD ts (mustD ts ⟨#[58]⟩ n.2)
 (.mk n.1.2.1 t.1 n.1.2.2,mustD ts ⟨#[41]⟩ t.2)
def paramsD:Nat→List Pm→PS→List Pm×PS×Bool
 |0,l,st=>(l,st,false)
 |n+1,l,st=>if isD ts ⟨#[40]⟩ st then (if l.length=8 then (l,st.fail (tD ts st).2.2 152,true) else paramsD n (l++[(paramD ts st).1]) (paramD ts st).2) else (l,st,false)
def effsD:List (ByteArray×Int):=[(⟨#[80,117,114,101]⟩,1),(⟨#[83,116,97,116,101]⟩,2),(⟨#[69,120,110]⟩,3),(⟨#[65,108,108]⟩,4),(⟨#[68,105,118]⟩,5)]
def effD' (st:PS):Int×PS:=match signD ts effsD st with
 |some o=>(o,stepD ts st)
 |none=>(0,st.fail (tD ts st).2.2 150)
def reqD (st:PS):List Ex×PS:=if isD ts ⟨#[114,101,113,117,105,114,101,115]⟩ st then ([(exD ts (stepD ts st)).1],(exD ts (stepD ts st)).2) else ([],st)
def ensD (st:PS):(ByteArray×List Ex)×PS:=
 if isD ts ⟨#[101,110,115,117,114,101,115]⟩ st then
  let n:=nameD ts (stepD ts st)
  let x:=exD ts (mustD ts ⟨#[46]⟩ n.2)
  ((n.1.2.1,[x.1]),x.2)
 else ((⟨#[]⟩,[]),st)
def meaL:Nat→List Ex→PS→List Ex×PS
 |0,l,st=>(l,st)
 |n+1,l,st=>if isD ts ⟨#[44]⟩ st then meaL n (l++[(exD ts (stepD ts st)).1]) (exD ts (stepD ts st)).2 else (l,st)
def meaD (st:PS):List Ex×PS:=if isD ts ⟨#[100,101,99,114,101,97,115,101,115]⟩ st then meaL ts ts.length [(exD ts (stepD ts st)).1] (exD ts (stepD ts st)).2 else ([],st)
def cellD (st:PS):De×PS:=
 let n:=nameD ts st
 let s1:=mustD ts ⟨#[58,61]⟩ n.2
 let s2:=eatD ts ⟨#[45]⟩ s1
 let t:=tD ts s2
 let s3:=stepD ts (if t.1=3 then s2 else s2.fail t.2.2 150)
 (.mk true n.1.2.1 (cellN (isD ts ⟨#[45]⟩ s1) t.2.1) false [] 0 zTy [] ⟨#[]⟩ [] [] zEx n.1.2.2,mustD ts ⟨#[59,59]⟩ s3)
def defD (st:PS):De×PS:=
 let again:=isD ts ⟨#[114,101,99]⟩ st
 let n:=nameD ts (eatD ts ⟨#[114,101,99]⟩ st)
 let ps:=paramsD ts ts.length [] n.2
 if ps.2.2 then (.mk false n.1.2.1 ⟨#[]⟩ again ps.1 0 zTy [] ⟨#[]⟩ [] [] zEx n.1.2.2,ps.2.1)
 else
  let e:=effD' ts (mustD ts ⟨#[58]⟩ ps.2.1)
  let t:=typD ts e.2
  let a:=reqD ts t.2
  let b:=ensD ts a.2
  let c:=meaD ts b.2
  let x:=exD ts (mustD ts ⟨#[105,115]⟩ c.2)
  (.mk false n.1.2.1 ⟨#[]⟩ again ps.1 e.1 t.1 a.1 b.1.1 b.1.2 c.1 x.1 n.1.2.2,mustD ts ⟨#[59,59]⟩ x.2)
def declD (st:PS):De×PS:=if isD ts ⟨#[114,101,102]⟩ st then cellD ts (stepD ts st) else defD ts (mustD ts ⟨#[108,101,116]⟩ st)
def progLD:Nat→List De→PS→List De×PS
 |0,l,st=>(l,st)
 |n+1,l,st =>
  if st.e=0∧(tD ts st).1≠0 then
   (if (isD ts ⟨#[114,101,102]⟩ st || isD ts ⟨#[108,101,116]⟩ st)∧l.length=100 then (l,st.fail (tD ts st).2.2 152) else progLD n (l++[(declD ts st).1]) (declD ts st).2)
  else (l,st)
def progD:Except (Int×Int) (List De):=
 let x:=progLD ts (ts.length+1) [] ⟨0,0,0⟩
 if x.2.e=0 then .ok x.1 else .error (x.2.a,x.2.e)
end
end Go.Proofs.YtfkfnbehdcmgeaaGreatDoor
namespace Go.Proofs.YtfkfnbehdcmgeaaGreatDoor
open Go Go.RowKit
structure PD (w:World) (r:Nat) (ts:List (Int×ByteArray×Int)) (st:PS) (d:Nat):Prop where
 cells:∃ g c,w.heap[r]?=some (.cells #[.slice (some ⟨g,0,none⟩) ts.length c,.int .i64 st.i,.int .i64 st.e,.int .i64 st.a,.int .i64 d] 72)∧g<r∧ts.length≤c∧∀ j x,ts[j]?=some x→w.rangeAt g (j * 3) [.int .i64 x.1,.string x.2.1,.int .i64 x.2.2]
 lt:st.i<ts.length
theorem PD.keep {w w':World} {r d:Nat} {st:PS} {ts:List (Int×ByteArray×Int)} (h:PD w r ts st d) (hb:Below w.heap.size w w'):PD w' r ts st d:=by
 obtain ⟨⟨g,c,h1,h2,h3,h4⟩,h5⟩:=h
 have hr:=(Array.getElem?_eq_some_iff.1 h1).1
 exact ⟨⟨g,c,(hb.block r hr).trans h1,h2,h3,fun j x hx=>range_same (h4 j x hx) (hb.block g (by omega))⟩,h5⟩
theorem PD.rlt {w:World} {r d:Nat} {st:PS} {ts:List (Int×ByteArray×Int)} (h:PD w r ts st d):r<w.heap.size:=by
 obtain ⟨⟨g,c,h1,-⟩,-⟩:=h
 exact (blk h1).1
theorem PD.set {w w':World} {r d e:Nat} {st s2:PS} {ts:List (Int×ByteArray×Int)} (h:PD w r ts st d) (hb:But r w w') (hq:s2.i<ts.length) (hc:∀ g c,w.heap[r]?=some (.cells #[.slice (some ⟨g,0,none⟩) ts.length c,.int .i64 st.i,.int .i64 st.e,.int .i64 st.a,.int .i64 d] 72)→w'.heap[r]?=some (.cells #[.slice (some ⟨g,0,none⟩) ts.length c,.int .i64 s2.i,.int .i64 s2.e,.int .i64 s2.a,.int .i64 e] 72)):PD w' r ts s2 e:=by
 obtain ⟨⟨g,c,h1,h2,h3,h4⟩,h5⟩:=h
 have hr:=(Array.getElem?_eq_some_iff.1 h1).1
 exact ⟨⟨g,c,hc g c h1,h2,h3,fun j x hx=>range_same (h4 j x hx) (hb.block g (by omega) (by omega))⟩,hq⟩
theorem PD.facts {w w':World} {r d:Nat} {st:PS} {ts:List (Int×ByteArray×Int)} (h:PD w r ts st d) (hb:Below w.heap.size w w'):∃ g c,w'.cell? ⟨r,0,none⟩=some (.slice (some ⟨g,0,none⟩) ts.length c)∧w'.cell? ⟨r,1,none⟩=some (.int .i64 st.i)∧w'.cell? ⟨r,2,none⟩=some (.int .i64 st.e)∧w'.cell? ⟨r,3,none⟩=some (.int .i64 st.a)∧w'.cell? ⟨r,4,none⟩=some (.int .i64 d)∧ts.length≤c∧r<w'.heap.size∧(∀ o,w'.frozen? ⟨r,o,none⟩=false)∧∀ j x,ts[j]?=some x→w'.cell? ⟨g,j * 3,none⟩=some (.int .i64 x.1)∧w'.cell? ⟨g,j * 3+1,none⟩=some (.string x.2.1)∧w'.cell? ⟨g,j * 3+2,none⟩=some (.int .i64 x.2.2):=by
 obtain ⟨⟨g,c,h1,h2,h3,h4⟩,h5⟩:=h.keep hb
 exact ⟨g,c,(blk h1).2.1 0 _ rfl,(blk h1).2.1 1 _ rfl,(blk h1).2.1 2 _ rfl,(blk h1).2.1 3 _ rfl,(blk h1).2.1 4 _ rfl,h3,(blk h1).1,(blk h1).2.2,fun j x hx=>⟨h4 j x hx 0 _ rfl,h4 j x hx 1 _ rfl,h4 j x hx 2 _ rfl⟩⟩
def DP {α:Type} (Φ:World→Value→α→Prop) (x:α×PS) (r:Nat) (ts:List (Int×ByteArray×Int)) (d:Nat) (w:World) (e:Ending) (w':World):Prop:=But r w w'∧PD w' r ts x.2 d∧∃ v,e = .returned v∧Φ w' v x.1
set_option maxRecDepth 100000 in
set_option maxHeartbeats 4000000 in
theorem dt_any {w:World} {r d:Nat} {st:PS} {ts:List (Int×ByteArray×Int)} (hR:PD w r ts st d) (hT:TsOk ts):Calls Tryz.prog 29 #[.pointer (some ⟨r,0,none⟩)] w (VP (tkV (tD ts st)) w):=by
 obtain ⟨A,eA,hbA,hsA,hhA⟩:=box_new w #[.int .i64 0,.string ⟨#[]⟩,.int .i64 0] 74
 obtain ⟨g,c,x0,x1,x2,x3,x4,hc,hr,hf,ht⟩:=hR.facts hbA
 obtain ⟨t0,t1,t2⟩:=ht st.i _ (nx_of hR.lt)
 have hp:=hR.lt
 have hl:=hT.len
 obtain ⟨i,er,ea⟩:=st
 have g1:(i:Int)<(ts.length:Int):=by have:i<ts.length:=hp;omega
 have g2:(ts.length:Int)≤100000:=by omega
 have g3:(0:Int)≤(i:Int):=by omega
 have y0:A.cell? ⟨w.heap.size,0,none⟩=some (.int .i64 0):=(blk hhA).2.1 0 _ rfl
 have y1:A.cell? ⟨w.heap.size,1,none⟩=some (.string ⟨#[]⟩):=(blk hhA).2.1 1 _ rfl
 have y2:A.cell? ⟨w.heap.size,2,none⟩=some (.int .i64 0):=(blk hhA).2.1 2 _ rfl
 have z0:=(blk hhA).2.2 0
 have z1:=(blk hhA).2.2 1
 have z2:=(blk hhA).2.2 2
 have HB:=gh (And.intro hbA hhA)
 have HE:=gh eA
 rw [←eA] at x0 x1 x2 x3 x4 t0 t1 t2 y0 y1 y2 z0 z1 z2 hr
 unfold tkV VP
 obtain ⟨Y,hY⟩:∃ Y,tD ts ⟨i,er,ea⟩=Y:=⟨_,rfl⟩
 obtain ⟨X,hX⟩:∃ X,nx ts i=X:=⟨_,rfl⟩
 obtain ⟨L,hL⟩:∃ L,ts.length=L:=⟨_,rfl⟩
 unfold tD at hY
 simp only at t0 t1 t2 x1 x2 hY
 rw [hX] at t0 t1 t2 hY
 rw [hL] at x0 g1 g2
 rw [show tD ts ⟨i,er,ea⟩=Y by unfold tD;simp only;rw [hX];exact hY]
 have HY:=gh hY
 clear hR hT eA hbA hsA hhA hX hL ht hc hp hl hf hY
 by_cases he:er=0
 ·subst he
  go_enter Tryz.func29,Tryz.ntmps29
  go_wp2_with fail
  go_region
  go_wp2
  obtain ⟨B,eB,hbB,hsB,hhB⟩:=box_new w #[.int .i64 X.1,.string X.2.1,.int .i64 X.2.2] 74
  rw [eB]
  have hY:=gf HY
  obtain rfl:X=Y:=by rw [←hY];rfl
  refine bodyPost_ret (res_row (cs:=[.int .i64 X.1,.string X.2.1,.int .i64 X.2.2]) rfl rfl (range_block (by rw [heap_drew];exact hhB)) rfl rfl rfl) rfl ?_
  exact ⟨rfl,hbB.drew⟩
 ·have e1:(er == 0)=false:=by simpa using he
  have e2:decide (er=0)=false:=by simpa using he
  go_enter Tryz.func29,Tryz.ntmps29
  go_wp2
  rw [gf HE]
  obtain ⟨hbA,hhA⟩:=gf HB
  have hY:=gf HY
  rw [if_neg he] at hY
  subst hY
  refine bodyPost_ret (res_row (cs:=[.int .i64 0,.string ⟨#[]⟩,.int .i64 0]) rfl rfl (range_block hhA) rfl rfl rfl) rfl ?_
  exact ⟨rfl,hbA⟩
end Go.Proofs.YtfkfnbehdcmgeaaGreatDoor
namespace Go.Proofs.YtfkfnbehdcmgeaaGreatDoor
open Go Go.RowKit
theorem tD_ok {ts:List (Int×ByteArray×Int)} {st:PS} (h:st.e=0):tD ts st=nx ts st.i:=if_pos h
theorem tD_bad {ts:List (Int×ByteArray×Int)} {st:PS} (h:st.e≠0):tD ts st=zTk:=if_neg h
set_option maxRecDepth 100000 in
set_option maxHeartbeats 4000000 in
theorem is_any {w:World} {r d:Nat} {st:PS} {ts:List (Int×ByteArray×Int)} (hR:PD w r ts st d) (hT:TsOk ts) (s:ByteArray):Calls Tryz.prog 30 #[.pointer (some ⟨r,0,none⟩),.string s] w (VP (.bool (isD ts s st)) w):=by
 have HN:=gh (dt_any hR hT)
 have HR:=gh hR
 unfold tkV at HN
 obtain ⟨b,hb⟩:∃ b,isD ts s st=b:=⟨_,rfl⟩
 rw [hb]
 unfold isD at hb
 by_cases he:st.e=0
 ·rw [tD_ok he] at HN
  obtain ⟨⟨k,T,i⟩,hX⟩:∃ X,nx ts st.i=X:=⟨_,rfl⟩
  rw [hX] at HN hb
  rw [he] at hb
  have HEr:=gh he
  clear hR hT hX he
  unfold VP
  simp only [decide_true,Bool.true_and] at hb
  by_cases k2:k=2
  ·subst k2
   simp only [decide_true,Bool.true_or,Bool.true_and] at hb
   replace hb:=gh hb
   go_enter Tryz.func30,Tryz.ntmps30
   go_wp2_with fail
   refine (gf HN).mono ?_
   rintro e w2 ⟨rfl,hb2⟩
   obtain ⟨B,eB,hbB,hsB,hhB⟩:=box_new w2 #[.int .i64 2,.string T,.int .i64 i] 74
   have h02:Below w.heap.size w B:=hb2.trans (hbB.mono hb2.size)
   obtain ⟨g,c,x0,x1,x2,x3,x4,hc,hr,hf,ht⟩:=(gf HR).facts h02
   rw [gf HEr] at x2
   have y0:B.cell? ⟨w2.heap.size,0,none⟩=some (.int .i64 2):=(blk hhB).2.1 0 _ rfl
   have y1:B.cell? ⟨w2.heap.size,1,none⟩=some (.string T):=(blk hhB).2.1 1 _ rfl
   have HB:=gh h02
   have HEB:=gh eB
   rw [←eB] at x2 y0 y1 hr
   clear hb2 HN eB hbB hsB hhB h02 x0 x1 x3 x4 hc hf ht
   go_wp2
   go_ret
   rw [gf HEB]
   refine ⟨?_,gf HB⟩
   rw [←gf hb,str_eq];rfl
  ·by_cases k4:k=4
   ·subst k4
    have hb':decide (T=s)=b:=by rw [←hb];simp
    clear hb
    replace hb:=gh hb'
    clear hb'
    go_enter Tryz.func30,Tryz.ntmps30
    go_wp2_with fail
    refine (gf HN).mono ?_
    rintro e w2 ⟨rfl,hb2⟩
    obtain ⟨B,eB,hbB,hsB,hhB⟩:=box_new w2 #[.int .i64 4,.string T,.int .i64 i] 74
    have h02:Below w.heap.size w B:=hb2.trans (hbB.mono hb2.size)
    obtain ⟨g,c,x0,x1,x2,x3,x4,hc,hr,hf,ht⟩:=(gf HR).facts h02
    rw [gf HEr] at x2
    have y0:B.cell? ⟨w2.heap.size,0,none⟩=some (.int .i64 4):=(blk hhB).2.1 0 _ rfl
    have y1:B.cell? ⟨w2.heap.size,1,none⟩=some (.string T):=(blk hhB).2.1 1 _ rfl
    have HB:=gh h02
    have HEB:=gh eB
    rw [←eB] at x2 y0 y1 hr
    clear hb2 HN eB hbB hsB hhB h02 x0 x1 x3 x4 hc hf ht
    go_wp2
    go_ret
    rw [gf HEB]
    refine ⟨?_,gf HB⟩
    rw [←gf hb,str_eq];rfl
   ·have hb':b=false:=by rw [←hb];simp [k2,k4]
    subst hb'
    clear hb
    have e2:(k == 2)=false:=by simpa using k2
    have e4:(k == 4)=false:=by simpa using k4
    have d2:decide (k=2)=false:=by simpa using k2
    have d4:decide (k=4)=false:=by simpa using k4
    clear k2 k4
    go_enter Tryz.func30,Tryz.ntmps30
    go_wp2_with fail
    refine (gf HN).mono ?_
    rintro e w2 ⟨rfl,hb2⟩
    obtain ⟨B,eB,hbB,hsB,hhB⟩:=box_new w2 #[.int .i64 k,.string T,.int .i64 i] 74
    have h02:Below w.heap.size w B:=hb2.trans (hbB.mono hb2.size)
    obtain ⟨g,c,x0,x1,x2,x3,x4,hc,hr,hf,ht⟩:=(gf HR).facts h02
    rw [gf HEr] at x2
    have y0:B.cell? ⟨w2.heap.size,0,none⟩=some (.int .i64 k):=(blk hhB).2.1 0 _ rfl
    have y1:B.cell? ⟨w2.heap.size,1,none⟩=some (.string T):=(blk hhB).2.1 1 _ rfl
    have HB:=gh h02
    have HEB:=gh eB
    rw [←eB] at x2 y0 y1 hr
    clear hb2 HN eB hbB hsB hhB h02 x0 x1 x3 x4 hc hf ht
    go_wp2
    go_ret
    rw [gf HEB]
    exact ⟨rfl,gf HB⟩
 ·rw [tD_bad he] at HN
  have hb':b=false:=by rw [←hb];simp [he]
  subst hb'
  obtain ⟨er,her⟩:∃ er,st.e=er:=⟨_,rfl⟩
  have HEr:=gh her
  rw [her] at he
  clear hR hT hb her
  unfold VP
  unfold zTk at HN
  have e2:(er == 0)=false:=by simpa using he
  have d2:decide (er=0)=false:=by simpa using he
  clear he
  go_enter Tryz.func30,Tryz.ntmps30
  go_wp2_with fail
  refine (gf HN).mono ?_
  rintro e w2 ⟨rfl,hb2⟩
  obtain ⟨B,eB,hbB,hsB,hhB⟩:=box_new w2 #[.int .i64 0,.string ⟨#[]⟩,.int .i64 0] 74
  have h02:Below w.heap.size w B:=hb2.trans (hbB.mono hb2.size)
  obtain ⟨g,c,x0,x1,x2,x3,x4,hc,hr,hf,ht⟩:=(gf HR).facts h02
  rw [gf HEr] at x2
  have y0:B.cell? ⟨w2.heap.size,0,none⟩=some (.int .i64 0):=(blk hhB).2.1 0 _ rfl
  have y1:B.cell? ⟨w2.heap.size,1,none⟩=some (.string ⟨#[]⟩):=(blk hhB).2.1 1 _ rfl
  have HB:=gh h02
  have HEB:=gh eB
  rw [←eB] at x2 y0 y1 hr
  clear hb2 HN eB hbB hsB hhB h02 x0 x1 x3 x4 hc hf ht
  go_wp2
  go_ret
  rw [gf HEB]
  exact ⟨rfl,gf HB⟩
def StP (r:Nat) (ts:List (Int×ByteArray×Int)) (st:PS) (d:Nat) (v:Value) (w:World) (e:Ending) (w':World):Prop:=e = .returned v∧But r w w'∧PD w' r ts st d
set_option maxRecDepth 100000 in
set_option maxHeartbeats 4000000 in
theorem fail_any {w:World} {r d:Nat} {st:PS} {ts:List (Int×ByteArray×Int)} (hR:PD w r ts st d) (a n:Int):Calls Tryz.prog 31 #[.pointer (some ⟨r,0,none⟩),.int .i64 a,.int .i64 n] w (StP r ts (st.fail a n) d (.tuple #[]) w):=by
 obtain ⟨g,c,x0,x1,x2,x3,x4,hc,hr,hf,ht⟩:=hR.facts (Below.refl _ _)
 have HR:=gh hR
 have f2:=hf 2
 have f3:=hf 3
 obtain ⟨s2,hs⟩:∃ s2,st.fail a n=s2:=⟨_,rfl⟩
 rw [hs]
 unfold PS.fail at hs
 obtain ⟨i,er,ea⟩:=st
 unfold StP
 simp only at x2 hs
 clear hR hc hf ht x0 x1 x4
 by_cases he:er=0
 ·subst he
  rw [if_pos rfl] at hs
  subst hs
  go_enter Tryz.func31,Tryz.ntmps31
  go_wp2
  refine bodyPost_end (results_none rfl _ _ _) rfl ?_
  have hb:But r w ((w.setCell ⟨r,2,none⟩ (.int .i64 n)).setCell ⟨r,3,none⟩ (.int .i64 a)):=((But.refl r w).set _ _).set _ _
  exact ⟨rfl,hb,(gf HR).set hb (gf HR).lt fun g c h=>set_block (set_block h _) _⟩
 ·rw [if_neg he] at hs
  subst hs
  have e2:(er == 0)=false:=by simpa using he
  have d2:decide (er=0)=false:=by simpa using he
  go_enter Tryz.func31,Tryz.ntmps31
  go_wp2
  refine bodyPost_end (results_none rfl _ _ _) rfl ?_
  exact ⟨rfl,But.refl _ _,gf HR⟩
set_option maxRecDepth 100000 in
set_option maxHeartbeats 4000000 in
theorem step_any {w:World} {r d:Nat} {st:PS} {ts:List (Int×ByteArray×Int)} (hR:PD w r ts st d) (hT:TsOk ts):Calls Tryz.prog 57 #[.pointer (some ⟨r,0,none⟩)] w (StP r ts (stepD ts st) d (.tuple #[]) w):=by
 obtain ⟨g,c,x0,x1,x2,x3,x4,hc,hr,hf,ht⟩:=hR.facts (Below.refl _ _)
 have HR:=gh hR
 have f1:=hf 1
 have hl:=hT.len
 have hlt:=hR.lt
 obtain ⟨s2,hs⟩:∃ s2,stepD ts st=s2:=⟨_,rfl⟩
 rw [hs]
 unfold stepD at hs
 obtain ⟨i,er,ea⟩:=st
 unfold StP
 simp only at x1 x2 hs hlt
 obtain ⟨L,hL⟩:∃ L,ts.length=L:=⟨_,rfl⟩
 have HL:=gh hL
 rw [hL] at x0 hs hl hlt
 have g1:(0:Int)≤(i:Int):=by omega
 have g2:(i:Int)<(L:Int):=by omega
 have g3:(L:Int)≤100000:=by omega
 clear hR hc hf ht x3 x4 hL hT
 by_cases he:er=0
 ·subst he
  by_cases hi:i+1<L
  ·rw [if_pos ⟨rfl,hi⟩] at hs
   subst hs
   have g4:(i:Int)<(L:Int) - 1:=by omega
   clear hl hlt
   replace hi:=gh hi
   go_enter Tryz.func57,Tryz.ntmps57
   go_wp2_with fail
   go_region
   go_wp2
   refine bodyPost_end (results_none rfl _ _ _) rfl ?_
   have hb:But r w (w.drew.setCell ⟨r,1,none⟩ (.int .i64 ((i:Int)+1))):=(but_drew (But.refl r w)).set _ _
   exact ⟨rfl,hb,(gf HR).set hb (by rw [gf HL];exact gf hi) fun g c h=>set_block (by rw [heap_drew];exact h) _⟩
  ·rw [if_neg (fun h=>hi h.2)] at hs
   subst hs
   have g4:decide ((i:Int)<(L:Int) - 1)=false:=by simp;omega
   have g5:¬ (i:Int)<(L:Int) - 1:=by omega
   clear hl hlt hi
   go_enter Tryz.func57,Tryz.ntmps57
   go_wp2_with fail
   go_region
   go_wp2
   refine bodyPost_end (results_none rfl _ _ _) rfl ?_
   have hb:But r w w.drew:=but_drew (But.refl r w)
   exact ⟨rfl,hb,(gf HR).set hb (gf HR).lt fun g c h=>by rw [heap_drew];exact h⟩
 ·rw [if_neg (fun h=>he h.1)] at hs
  subst hs
  have e2:(er == 0)=false:=by simpa using he
  have d2:decide (er=0)=false:=by simpa using he
  clear hl hlt
  go_enter Tryz.func57,Tryz.ntmps57
  go_wp2_with fail
  go_region
  go_wp2
  refine bodyPost_end (results_none rfl _ _ _) rfl ?_
  have hb:But r w w.drew:=but_drew (But.refl r w)
  exact ⟨rfl,hb,(gf HR).set hb (gf HR).lt fun g c h=>by rw [heap_drew];exact h⟩
end Go.Proofs.YtfkfnbehdcmgeaaGreatDoor
namespace Go.Proofs.YtfkfnbehdcmgeaaGreatDoor
open Go Go.RowKit
set_option maxRecDepth 100000 in
set_option maxHeartbeats 4000000 in
theorem eat_any {w:World} {r d:Nat} {st:PS} {ts:List (Int×ByteArray×Int)} (hR:PD w r ts st d) (hT:TsOk ts) (s:ByteArray):Calls Tryz.prog 54 #[.pointer (some ⟨r,0,none⟩),.string s] w (StP r ts (eatD ts s st) d (.bool (isD ts s st)) w):=by
 have HI:=gh (is_any hR hT s)
 have HR:=gh hR
 have HT:=gh hT
 obtain ⟨b,hb⟩:∃ b,isD ts s st=b:=⟨_,rfl⟩
 obtain ⟨s2,hs⟩:∃ s2,eatD ts s st=s2:=⟨_,rfl⟩
 rw [hs]
 unfold eatD at hs
 rw [hb] at HI hs ⊢
 replace hs:=gh hs
 clear hR hT hb
 unfold StP
 go_enter Tryz.func54,Tryz.ntmps54
 go_wp2_with fail
 refine (gf HI).mono ?_
 rintro e w2 ⟨rfl,hb2⟩
 have HB:=gh hb2
 clear hb2 HI
 cases b with
 |false =>
  go_wp2
  go_ret
  have h:=gf hs
  simp only [Bool.false_eq_true,if_false] at h
  subst h
  exact ⟨rfl,But.of (gf HB),(gf HR).keep (gf HB)⟩
 |true =>
  have HS:=gh (step_any ((gf HR).keep (gf HB)) (gf HT))
  go_wp2_with fail
  refine (gf HS).mono ?_
  rintro e w3 ⟨rfl,hb3,hR3⟩
  have h:=gf hs
  simp only [if_true] at h
  subst h
  have H3:=gh (And.intro ((But.of (r:=r) (gf HB)).trans hb3) hR3)
  clear hb3 hR3 HS hs
  go_wp2
  go_ret
  exact ⟨rfl,(gf H3).1,(gf H3).2⟩
set_option maxRecDepth 100000 in
set_option maxHeartbeats 4000000 in
theorem dmust_any {w:World} {r d:Nat} {st:PS} {ts:List (Int×ByteArray×Int)} (hR:PD w r ts st d) (hT:TsOk ts) (s:ByteArray):Calls Tryz.prog 56 #[.pointer (some ⟨r,0,none⟩),.string s] w (StP r ts (mustD ts s st) d (.int .i64 (tD ts st).2.2) w):=by
 have HN:=gh (dt_any hR hT)
 have HR:=gh hR
 have HT:=gh hT
 obtain ⟨s2,hs⟩:∃ s2,mustD ts s st=s2:=⟨_,rfl⟩
 rw [hs]
 unfold mustD at hs
 unfold tkV at HN
 obtain ⟨⟨k,T,i⟩,hX⟩:∃ X,tD ts st=X:=⟨_,rfl⟩
 rw [hX] at HN hs ⊢
 have HX:=gh hX
 have h2:=fld2 (.int .i64 k) (.string T) (.int .i64 i)
 obtain ⟨b,hb⟩:∃ b,isD ts s st=b:=⟨_,rfl⟩
 rw [hb] at hs
 have HBB:=gh hb
 replace hs:=gh hs
 clear hR hT hb hX
 unfold StP
 go_enter Tryz.func56,Tryz.ntmps56
 go_wp2_with fail
 refine (gf HN).mono ?_
 rintro e w2 ⟨rfl,hb2⟩
 have HB:=gh hb2
 have HE:=gh (eat_any ((gf HR).keep hb2) (gf HT) s)
 clear hb2 HN
 go_wp2_with fail
 refine (gf HE).mono ?_
 rintro e w3 ⟨rfl,hb3,hR3⟩
 rw [gf HBB]
 have H3:=gh ((But.of (r:=r) (gf HB)).trans hb3)
 unfold eatD at hR3
 rw [gf HBB] at hR3
 have hs1:=gf hs
 cases b with
 |true =>
  simp only [if_true] at hR3 hs1
  subst hs1
  have HR3:=gh hR3
  clear hb3 hR3 HE hs
  go_wp2
  go_ret
  exact ⟨rfl,gf H3,gf HR3⟩
 |false =>
  simp only [Bool.false_eq_true,if_false] at hR3 hs1
  subst hs1
  have HR3:=gh hR3
  have HN2:=gh (dt_any hR3 (gf HT))
  unfold tkV at HN2
  rw [gf HX] at HN2
  clear hb3 hR3 HE hs
  go_wp2_with fail
  refine (gf HN2).mono ?_
  rintro e w4 ⟨rfl,hb4⟩
  have HF:=gh (fail_any ((gf HR3).keep hb4) i 150)
  have H4:=gh ((gf H3).trans (But.of (r:=r) hb4))
  clear hb4 HN2
  go_wp2_with fail
  refine (gf HF).mono ?_
  rintro e w5 ⟨rfl,hb5,hR5⟩
  have H5:=gh (And.intro ((gf H4).trans hb5) hR5)
  clear hb5 hR5 HF
  go_wp2
  go_ret
  exact ⟨rfl,(gf H5).1,(gf H5).2⟩
theorem PD.out {w w':World} {r d q:Nat} {st:PS} {ts:List (Int×ByteArray×Int)} (h:PD w r ts st d) (hq:r<q) (hb:∀ k,k<q→w'.heap[k]?=w.heap[k]?):PD w' r ts st d:=by
 obtain ⟨⟨g,c,h1,h2,h3,h4⟩,h5⟩:=h
 exact ⟨⟨g,c,(hb r hq).trans h1,h2,h3,fun j x hx=>range_same (h4 j x hx) (hb g (by omega))⟩,h5⟩
set_option maxRecDepth 100000 in
set_option maxHeartbeats 4000000 in
theorem name_any {w:World} {r d:Nat} {st:PS} {ts:List (Int×ByteArray×Int)} (hR:PD w r ts st d) (hT:TsOk ts):Calls Tryz.prog 55 #[.pointer (some ⟨r,0,none⟩)] w (StP r ts (nameD ts st).2 d (tkV (nameD ts st).1) w):=by
 obtain ⟨A,eA,hbA,hsA,hhA⟩:=box_new w #[.int .i64 0,.string ⟨#[]⟩,.int .i64 0] 74
 have hrw:=hR.rlt
 have HR:=gh (hR.keep hbA)
 have HN:=gh (dt_any (gf HR) hT)
 have HT:=gh hT
 have HA:=gh (And.intro hbA (And.intro hhA (And.intro hsA hrw)))
 have HEA:=gh eA
 obtain ⟨Y,hY⟩:∃ Y,nameD ts st=Y:=⟨_,rfl⟩
 rw [hY]
 unfold nameD at hY
 unfold tkV at HN ⊢
 obtain ⟨⟨k,T,i⟩,hX⟩:∃ X,tD ts st=X:=⟨_,rfl⟩
 rw [hX] at HN hY
 simp only at hY
 clear hR hT hX eA hbA hhA hsA hrw
 unfold StP
 by_cases hk:k=1
 ·subst hk
  rw [if_pos rfl] at hY
  subst hY
  go_enter Tryz.func55,Tryz.ntmps55
  go_wp2_with fail
  rw [gf HEA]
  refine (gf HN).mono ?_
  rintro e w2 ⟨rfl,hb2⟩
  obtain ⟨B,eB,hbB,hsB,hhB⟩:=box_new w2 #[.int .i64 1,.string T,.int .i64 i] 74
  have hAB:=hb2.trans (hbB.mono hb2.size)
  have HS:=gh (step_any ((gf HR).keep hAB) (gf HT))
  have y0:B.cell? ⟨w2.heap.size,0,none⟩=some (.int .i64 1):=(blk hhB).2.1 0 _ rfl
  have H2:=gh (And.intro hAB (And.intro hhB (And.intro hsB hb2.size)))
  have HEB:=gh eB
  rw [←eB] at y0
  clear HN hb2 eB hbB hsB hhB hAB
  go_wp2_with fail
  rw [gf HEB]
  refine (gf HS).mono ?_
  rintro e w3 ⟨rfl,hb3,hR3⟩
  obtain ⟨hbA,hhA,hsA,hrw⟩:=gf HA
  obtain ⟨hAB,hhB,hsB,hs2⟩:=gf H2
  have hh3:=(hb3.block _ (blk hhB).1 (by omega)).trans hhB
  have hA3:=(hb3.block _ (Nat.lt_of_lt_of_le (blk hhA).1 hAB.size) (by omega)).trans ((hAB.block _ (blk hhA).1).trans hhA)
  have x0:w3.cell? ⟨w2.heap.size,0,none⟩=some (.int .i64 1):=(blk hh3).2.1 0 _ rfl
  have x1:w3.cell? ⟨w2.heap.size,1,none⟩=some (.string T):=(blk hh3).2.1 1 _ rfl
  have x2:w3.cell? ⟨w2.heap.size,2,none⟩=some (.int .i64 i):=(blk hh3).2.1 2 _ rfl
  have y0:w3.cell? ⟨w.heap.size,0,none⟩=some (.int .i64 0):=(blk hA3).2.1 0 _ rfl
  have y1:w3.cell? ⟨w.heap.size,1,none⟩=some (.string ⟨#[]⟩):=(blk hA3).2.1 1 _ rfl
  have y2:w3.cell? ⟨w.heap.size,2,none⟩=some (.int .i64 0):=(blk hA3).2.1 2 _ rfl
  have z0:=(blk hA3).2.2 0
  have z1:=(blk hA3).2.2 1
  have z2:=(blk hA3).2.2 2
  have n1:w2.heap.size≠w.heap.size:=by omega
  have H3:=gh (And.intro ((But.of (r:=r) hbA).trans ((But.of (r:=r) hAB).trans hb3)) (And.intro hR3 (And.intro hA3 hrw)))
  clear hb3 hR3 hbA hhA hsA hrw hAB hhB hsB hs2 hh3 hA3 HS
  go_wp2
  obtain ⟨hbu,hR3,hA3,hrw⟩:=gf H3
  refine bodyPost_ret (res_row (cs:=[.int .i64 1,.string T,.int .i64 i]) rfl rfl (range_block (fill3 hA3)) rfl rfl rfl) rfl ?_
  refine ⟨rfl,but_new (but_new (but_new hbu (Nat.le_refl _) _ _) (Nat.le_refl _) _ _) (Nat.le_refl _) _ _,hR3.out hrw fun k hk => ?_⟩
  rw [heap_set _ _ (by omega),heap_set _ _ (by omega),heap_set _ _ (by omega)]
 ·rw [if_neg hk] at hY
  subst hY
  have e1:(k == 1)=false:=by simpa using hk
  have e2:decide (k=1)=false:=by simpa using hk
  clear hk
  go_enter Tryz.func55,Tryz.ntmps55
  go_wp2_with fail
  rw [gf HEA]
  refine (gf HN).mono ?_
  rintro e w2 ⟨rfl,hb2⟩
  obtain ⟨B,eB,hbB,hsB,hhB⟩:=box_new w2 #[.int .i64 k,.string T,.int .i64 i] 74
  have hAB:=hb2.trans (hbB.mono hb2.size)
  have HS:=gh (fail_any ((gf HR).keep hAB) i 150)
  have y0:B.cell? ⟨w2.heap.size,0,none⟩=some (.int .i64 k):=(blk hhB).2.1 0 _ rfl
  have y2:B.cell? ⟨w2.heap.size,2,none⟩=some (.int .i64 i):=(blk hhB).2.1 2 _ rfl
  have H2:=gh (And.intro hAB (And.intro hhB (And.intro hsB hb2.size)))
  have HEB:=gh eB
  rw [←eB] at y0 y2
  clear HN hb2 eB hbB hsB hhB hAB
  go_wp2_with fail
  rw [gf HEB]
  refine (gf HS).mono ?_
  rintro e w3 ⟨rfl,hb3,hR3⟩
  obtain ⟨hbA,hhA,hsA,hrw⟩:=gf HA
  obtain ⟨hAB,hhB,hsB,hs2⟩:=gf H2
  have hA3:=(hb3.block _ (Nat.lt_of_lt_of_le (blk hhA).1 hAB.size) (by omega)).trans ((hAB.block _ (blk hhA).1).trans hhA)
  have y0:w3.cell? ⟨w.heap.size,0,none⟩=some (.int .i64 0):=(blk hA3).2.1 0 _ rfl
  have y1:w3.cell? ⟨w.heap.size,1,none⟩=some (.string ⟨#[]⟩):=(blk hA3).2.1 1 _ rfl
  have y2:w3.cell? ⟨w.heap.size,2,none⟩=some (.int .i64 0):=(blk hA3).2.1 2 _ rfl
  have z0:=(blk hA3).2.2 0
  have z1:=(blk hA3).2.2 1
  have z2:=(blk hA3).2.2 2
  have H3:=gh (And.intro ((But.of (r:=r) hbA).trans ((But.of (r:=r) hAB).trans hb3)) (And.intro hR3 (And.intro hA3 hrw)))
  clear hb3 hR3 hbA hhA hsA hrw hAB hhB hsB hs2 hA3 HS
  go_wp2
  obtain ⟨hbu,hR3,hA3,hrw⟩:=gf H3
  refine bodyPost_ret (res_row (cs:=[.int .i64 0,.string ⟨#[]⟩,.int .i64 0]) rfl rfl (range_block (fill3 hA3)) rfl rfl rfl) rfl ?_
  refine ⟨rfl,but_new (but_new (but_new hbu (Nat.le_refl _) _ _) (Nat.le_refl _) _ _) (Nat.le_refl _) _ _,hR3.out hrw fun k hk => ?_⟩
  rw [heap_set _ _ (by omega),heap_set _ _ (by omega),heap_set _ _ (by omega)]
end Go.Proofs.YtfkfnbehdcmgeaaGreatDoor
