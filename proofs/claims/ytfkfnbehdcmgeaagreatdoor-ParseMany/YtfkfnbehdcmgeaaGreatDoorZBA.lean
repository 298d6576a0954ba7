/- The document's parser: a declaration while it is read. -/
import Derived.Test.YtfkfnbehdcmgeaaGreatDoorZAZ
import Derived.Test.YtfkfnbehdcmgeaaGreatDoorZAV
import Derived.Test.YtfkfnbehdcmgeaaGreatDoorZAL
import Derived.Test.YtfkfnbehdcmgeaaGreatDoorZAY
import Derived.Test.YtfkfnbehdcmgeaaGreatDoorZAW
import Derived.Test.YtfkfnbehdcmgeaaGreatDoorZAQ
set_option linter.unusedVariables false
set_option linter.unusedSimpArgs false
namespace Go.Proofs.YtfkfnbehdcmgeaaGreatDoor
open Go Go.RowKit
theorem kd_dig (s:ByteArray) (i:Nat) (h:kd s i=3):48≤By s i∧By s i≤57∧isDi (rn s i)=true:=by
 have hd:isDi (rn s i)=true:=by
  unfold kd at h
  cases h0:noR s i <;> cases h1:isBl (rn s i) <;> cases h2:isLe (rn s i) <;> cases h3:isDi (rn s i) <;> simp [h0,h1,h2,h3] at h ⊢
 have hl:rn s i<128:=by unfold isDi at hd;simp at hd;omega
 have:=(rn_low s i hl).1
 refine ⟨?_,?_,hd⟩
 ·unfold isDi at hd;simp at hd;omega
 ·unfold isDi at hd;simp at hd;omega
theorem isDi_by (s:ByteArray) (j:Nat):isDi (rn s j)=(decide ((48:Int)≤((By s j:Nat):Int)) && decide (((By s j:Nat):Int)≤57)):=by
 by_cases hb:By s j<128
 ·rw [(rn_ascii s j hb).1]
  unfold isDi
  rw [Bool.eq_iff_iff];simp;omega
 ·have:=rn_high s j hb
  have h1:isDi (rn s j)=false:=by unfold isDi;simp;omega
  rw [h1]
  have h2:decide (((By s j:Nat):Int)≤57)=false:=by simp;omega
  rw [h2,Bool.and_false]
set_option maxRecDepth 100000 in
set_option maxHeartbeats 16000000 in
theorem rr_num {Q:Exit→Act→World→Prop} {a:Act} {wr:World} {s:ByteArray} {ov:Value} {i B n:Nat} {xs:List Value} (hs:s.size≤65536) (hT:Lib.Utf8Tabs 2 3 wr) (h:TS a s ov i) (hi:i<s.size) (hk:kd s i=3)
  (hown:wr.ownsRow B 74 3 ov n xs) (hn:n≤65536) (hB:B≤wr.heap.size)
  (hqe:∀ e,rdNum s i=(0,0,some (i,e))→∀ a' w',RS a' i e→Below wr.heap.size wr w'→Q .ret a' w')
  (hqt:∀ j,rdNum s i=(3,j,none)→∀ a' w' ov',TS a' s ov' j→Below B wr w'→w'.ownsRow B 74 3 ov' (n+1) (xs++[.int .i64 3,.string (s.extract i j),.int .i64 i])→Q .normal a' w'):Code.wp Tryz.prog (tBody Tryz.f28) Q a wr:=by
 obtain ⟨u,rfl⟩:=h.lit
 have c:=refAt_any s i hi wr hT
 have hd0:=kd_dig s i hk
 rw [hk] at c
 have hiz:(i:Int)<(s.size:Int):=by omega
 have hx:(s[i]'hi).toNat=By s i:=by unfold By;rw [get_lt s i hi]
 have hb40:(((By s i:Nat):Int) == 40)=false:=by simp;omega
 clear h hT
 replace hown:=gh hown
 obtain ⟨m,hm⟩:∃ m,digEnd s (s.size - i) i=i+m:=⟨digEnd s (s.size - i) i - i,by have:=digEnd_le s (s.size - i) i (by omega);omega⟩
 have hle:i+m≤s.size:=by rw [←hm];exact (digEnd_le s (s.size - i) i (by omega)).2
 have hm1:1≤m:=by
  obtain ⟨g,hg⟩:∃ g,s.size - i=g+1:=⟨s.size - i - 1,by omega⟩
  rw [hg] at hm
  unfold digEnd at hm
  rw [if_pos hi,if_pos hd0.2.2] at hm
  have:=(digEnd_le s g (i+1) hi).1
  omega
 have hrd:rdNum s i=if (By s i == 48 && decide (1<m))=true then (0,0,some (i,140)) else if 400<m then (0,0,some (i,141)) else (3,i+m,none):=by
  unfold rdNum
  rw [hm,show i+m - i=m by omega]
 obtain ⟨t,ht⟩:∃ t,s.extract i (i+m)=t:=⟨_,rfl⟩
 have hsl:=fun W=>sl2 s i (i+m) ((i:Int)+m) (by omega) (by omega) hle W
 rw [ht] at hsl
 have htz:t.size=m:=by rw [←ht,ext_size s i (i+m) (by omega) hle];omega
 have ht0:(t[0]'(by omega)).toNat=By s i:=by
  have e:t.get! 0=s.get! i:=by
   rw [get_lt t 0 (by omega),get_lt s i hi]
   subst ht
   exact ByteArray.getElem_extract ..
  unfold By
  rw [←e,get_lt t 0 (by omega)]
 have ht0':∀ hh:0<t.size,(t[0]'hh).toNat=By s i:=fun _=>ht0
 clear ht0
 have hqt':=gh (hqt (i+m))
 have hqe':=gh hqe
 rw [ht] at hqt'
 clear hqe hqt hd0
 replace hrd:=gh hrd
 replace hm:=gh hm
 replace ht:=gh ht
 rcases Bool.eq_false_or_eq_true (decide ((i:Int)+1<(s.size:Int))) with hd4 | hd4
 all_goals
  conv=>arg 2;whnf
  go_wp2_with (refine c.mono ?_;rintro e w2 ⟨rfl,hb⟩)
  go_loopw [6] (fun iv w3=>∃ j f:Nat,iv = .int .i64 j∧w3=w2∧digEnd s f j=i+m∧s.size≤j+f∧j≤s.size∧i≤j) (fun iv _=>s.size - (intOf iv).toNat)
  case atStart=>exact ⟨i,s.size - i,rfl,rfl,gf hm,by omega,by omega,Nat.le_refl _⟩
  case round =>
   obtain ⟨j,f,rfl,rfl,hd,hf,hj,hij⟩:=hrel
   by_cases hst:j<s.size∧isDi (rn s j)=true
   ·obtain ⟨hjl,hjd⟩:=hst
    have hstep:=gh (digEnd_step s hd hf hjl hjd)
    rw [isDi_by] at hjd
    obtain ⟨e1,e2⟩:decide ((48:Int)≤((By s j:Nat):Int))=true∧decide (((By s j:Nat):Int)≤57)=true:=by simpa using hjd
    have hxj:(s[j]'hjl).toNat=By s j:=by unfold By;rw [get_lt s j hjl]
    have hdj:decide ((j:Int)<(s.size:Int))=true:=by simp;omega
    clear hjd hd
    go_wp2
    exact ⟨⟨j+1,f - 1,by simp,trivial,(gf hstep).1,(gf hstep).2,hjl,by omega⟩,by simp [intOf];omega⟩
   ·have hjm:j=i+m:=by
     by_cases hjl:j<s.size
     ·have:isDi (rn s j)=false:=by
       cases hq:isDi (rn s j) with
       |true=>exact absurd ⟨hjl,hq⟩ hst
       |false=>rfl
      exact (digEnd_stop s hd hf hjl this).symm
     ·exact (digEnd_end s hd hjl).symm
    have hex:(decide ((j:Int)<(s.size:Int))=false∧¬ j<s.size)∨(decide ((j:Int)<(s.size:Int))=true∧∃ hjl:j<s.size,(s[j]'hjl).toNat=By s j∧(decide ((48:Int)≤((By s j:Nat):Int))=false∨(decide ((48:Int)≤((By s j:Nat):Int))=true∧decide (((By s j:Nat):Int)≤57)=false))):=by
     by_cases hjl:j<s.size
     ·refine .inr ⟨by simp;omega,hjl,by unfold By;rw [get_lt s j hjl],?_⟩
      have hq:isDi (rn s j)=false:=by
       cases hq:isDi (rn s j) with
       |true=>exact absurd ⟨hjl,hq⟩ hst
       |false=>rfl
      rw [isDi_by] at hq
      cases e1:decide ((48:Int)≤((By s j:Nat):Int)) with
      |false=>exact .inl rfl
      |true=>rw [e1] at hq;exact .inr ⟨rfl,by simpa using hq⟩
     ·exact .inl ⟨by simp;omega,hjl⟩
    have hjz:(j:Int)=(i:Int)+m:=by omega
    have hsl':=hsl
    rw [←hjz] at hsl'
    have htm:((t.size:Nat):Int)=(m:Int):=by rw [htz]
    have ht1:0<t.size:=by omega
    have ht00:=ht0' ht1
    have hmle:(m:Int)≤65536:=by omega
    have hjm':=gh hjm
    clear hst hd hjm hsl hjz
    replace htz:=gh htz
    have hout:(decide ((1:Int)<(m:Int))=true∧(((By s i:Nat):Int) == 48)=true∧rdNum s i=(0,0,some (i,140)))∨(decide ((1:Int)<(m:Int))=true∧(((By s i:Nat):Int) == 48)=false∧decide ((400:Int)<(m:Int))=true∧rdNum s i=(0,0,some (i,141)))∨(decide ((1:Int)<(m:Int))=false∧decide ((400:Int)<(m:Int))=false∧rdNum s i=(3,i+m,none))∨(decide ((1:Int)<(m:Int))=true∧(((By s i:Nat):Int) == 48)=false∧decide ((400:Int)<(m:Int))=false∧rdNum s i=(3,i+m,none)):=by
     rw [gf hrd]
     by_cases h1:1<m
     ·by_cases h2:By s i=48
      ·exact .inl ⟨by simp;omega,by simp;omega,by rw [if_pos (by simp [h1,h2])]⟩
      ·by_cases h3:400<m
       ·exact .inr (.inl ⟨by simp;omega,by simp;omega,by simp;omega,by rw [if_neg (by simp [h2]),if_pos h3]⟩)
       ·exact .inr (.inr (.inr ⟨by simp;omega,by simp;omega,by simp;omega,by rw [if_neg (by simp [h2]),if_neg h3]⟩))
     ·exact .inr (.inr (.inl ⟨by simp;omega,by simp;omega,by rw [if_neg (by simp [h1]),if_neg (by omega)]⟩))
    rcases hout with ⟨o1,o2,o3⟩ | ⟨o1,o2,o3,o4⟩ | ⟨o1,o2,o3⟩ | ⟨o1,o2,o3,o4⟩
    ·replace o3:=gh o3
     rcases hex with ⟨x1,x0⟩ | ⟨x1,hjl,x2,x3 | ⟨x3,x4⟩⟩
     all_goals
      go_wp2
      exact gf hqe' 140 (gf o3) _ _ ⟨rfl,rfl,rfl,rfl⟩ hb
    ·replace o4:=gh o4
     rcases hex with ⟨x1,x0⟩ | ⟨x1,hjl,x2,x3 | ⟨x3,x4⟩⟩
     all_goals
      go_wp2
      exact gf hqe' 141 (gf o4) _ _ ⟨rfl,rfl,rfl,rfl⟩ hb
    ·replace o3:=gh o3
     obtain ⟨v5,w5,R1,ho5,hb5⟩:=tok_new 3 t i 67 (own_same (gf hown) hb) (by omega) (by have:=hb.size;omega)
     replace R1:=gh R1
     replace ho5:=gh ho5
     replace hb5:=gh hb5
     rcases hex with ⟨x1,x0⟩ | ⟨x1,hjl,x2,x3 | ⟨x3,x4⟩⟩
     all_goals
      go_wp2_with (at_builtin;refine app_run _ _ _ rfl rfl rfl rfl (gf R1) ?_;clear R1)
      refine gf hqt' (gf o3) _ _ _ ⟨rfl,rfl,rfl,rfl,?_⟩ ((hb.mono hB).trans (gf hb5)) (gf ho5)
      rw [←gf hjm']
      rfl
    ·replace o4:=gh o4
     obtain ⟨v5,w5,R1,ho5,hb5⟩:=tok_new 3 t i 67 (own_same (gf hown) hb) (by omega) (by have:=hb.size;omega)
     replace R1:=gh R1
     replace ho5:=gh ho5
     replace hb5:=gh hb5
     rcases hex with ⟨x1,x0⟩ | ⟨x1,hjl,x2,x3 | ⟨x3,x4⟩⟩
     all_goals
      go_wp2_with (at_builtin;refine app_run _ _ _ rfl rfl rfl rfl (gf R1) ?_;clear R1)
      refine gf hqt' (gf o4) _ _ _ ⟨rfl,rfl,rfl,rfl,?_⟩ ((hb.mono hB).trans (gf hb5)) (gf ho5)
      rw [←gf hjm']
      rfl
end Go.Proofs.YtfkfnbehdcmgeaaGreatDoor
namespace Go.Proofs.YtfkfnbehdcmgeaaGreatDoor
open Go Go.RowKit
theorem le_bl {c:Nat} (h:isLe c=true):isBl c=false:=by
 unfold isLe at h
 unfold isBl
 simp at h ⊢
 omega
theorem di_bl {c:Nat} (h:isDi c=true):isBl c=false∧isLe c=false:=by
 unfold isDi at h
 unfold isBl isLe
 simp at h ⊢
 omega
theorem kd_name (s:ByteArray) (j:Nat):inName s j=(kd s j == 2 || kd s j == 3):=by
 unfold inName kd
 cases h0:noR s j with
 |true=>rfl
 |false =>
  cases h2:isLe (rn s j) with
  |true=>rw [le_bl h2];rfl
  |false =>
   cases h3:isDi (rn s j) with
   |true=>rw [(di_bl h3).1];rfl
   |false=>cases isBl (rn s j) <;> rfl
theorem u8_lt {w:World} (h:Lib.Utf8Tabs 2 3 w):3<w.heap.size:=by
 have:=(h.2 0 (by omega)).1
 rcases Nat.lt_or_ge 3 w.heap.size with h1 | h1
 ·exact h1
 ·simp [World.cell?,Array.getElem?_eq_none h1] at this
theorem u8_below {w w':World} (h:Lib.Utf8Tabs 2 3 w) {B:Nat} (hb:Below B w w') (hB:3<B):Lib.Utf8Tabs 2 3 w':=by
 refine ⟨fun c hc => ?_,fun i hi=>⟨?_,?_⟩⟩
 ·rw [hb.cell (p:=⟨2,c,none⟩) (show 2<B by omega)];exact h.1 c hc
 ·rw [hb.cell (p:=⟨3,2 * i,none⟩) hB];exact (h.2 i hi).1
 ·rw [hb.cell (p:=⟨3,2 * i+1,none⟩) hB];exact (h.2 i hi).2
set_option maxRecDepth 100000 in
set_option maxHeartbeats 16000000 in
theorem rr_name {Q:Exit→Act→World→Prop} {a:Act} {w0:World} {s:ByteArray} {ov:Value} {i B n:Nat} {xs:List Value} (hs:s.size≤65536) (hT:Lib.Utf8Tabs 2 3 w0) (h:TS a s ov i) (hi:i<s.size) (hk:kd s i=2)
  (hown:w0.ownsRow B 74 3 ov n xs) (hn:n≤65536) (hB:B≤w0.heap.size)
  (hqe:∀ e,rdName s i=(0,0,some (i,e))→∀ a' w',RS a' i e→Below w0.heap.size w0 w'→Q .ret a' w')
  (hqt:∀ (k:Int) j,rdName s i=(k,j,none)→∀ a' w' ov',TS a' s ov' j→Below B w0 w'→w'.ownsRow B 74 3 ov' (n+1) (xs++[.int .i64 k,.string (s.extract i j),.int .i64 i])→Q .normal a' w'):Code.wp Tryz.prog (tBody Tryz.f28) Q a w0:=by
 obtain ⟨u,rfl⟩:=h.lit
 have c:=refAt_any s i hi w0 hT
 have hne:=kd_open s i (by omega)
 have hk0:=hk
 rw [hk] at c
 have hiz:(i:Int)<(s.size:Int):=by omega
 have hx:(s[i]'hi).toNat=By s i:=by unfold By;rw [get_lt s i hi]
 have hb40:(((By s i:Nat):Int) == 40)=false:=by simp;omega
 have h3w:=u8_lt hT
 clear h hne
 replace hT:=gh hT
 replace hown:=gh hown
 obtain ⟨m,hm⟩:∃ m,nameEnd s (s.size - i) i=i+m:=⟨nameEnd s (s.size - i) i - i,by have:=nameEnd_le s (s.size - i) i (by omega);omega⟩
 have hle:i+m≤s.size:=by rw [←hm];exact (nameEnd_le s (s.size - i) i (by omega)).2
 obtain ⟨t,ht⟩:∃ t,s.extract i (i+m)=t:=⟨_,rfl⟩
 have htz:t.size=m:=by rw [←ht,ext_size s i (i+m) (by omega) hle];omega
 have hrd:rdName s i=if 40<m then (0,0,some (i,141)) else if isWd t then (2,i+m,none) else (1,i+m,none):=by
  unfold rdName
  rw [hm,show i+m - i=m by omega,ht]
 have hsl:=fun W=>sl2 s i (i+m) ((i:Int)+m) (by omega) (by omega) hle W
 rw [ht] at hsl
 have hqt':Hid (∀ k:Int,rdName s i=(k,i+m,none)→∀ a' w' ov',TS a' s ov' (i+m)→Below B w0 w'→w'.ownsRow B 74 3 ov' (n+1) (xs++[.int .i64 k,.string t,.int .i64 i])→Q .normal a' w'):=fun k hk a' w' ov' h1 h2 h3=>hqt k (i+m) hk a' w' ov' h1 h2 (by rw [ht];exact h3)
 have hqe':=gh hqe
 have cW:=refWord_any t
 clear hqe hqt
 replace hrd:=gh hrd
 replace hm:=gh hm
 replace ht:=gh ht
 replace hk0:=gh hk0
 replace hsl:=gh hsl
 clear hk
 rcases Bool.eq_false_or_eq_true (decide ((i:Int)+1<(s.size:Int))) with hd4 | hd4
 all_goals
  conv=>arg 2;whnf
  go_wp2_with (refine c.mono ?_;rintro e w2 ⟨rfl,hb⟩)
  go_loopw [6,7,8] (fun jv kv nv w3=>∃ j f:Nat,jv = .int .i64 j∧Below w0.heap.size w0 w3∧nameEnd s f j=i+m∧s.size≤j+f∧j≤s.size∧i≤j∧∃ kk nn:Nat,kv = .int .i64 kk∧nv = .int .i64 nn∧(j<s.size→kk=kd s j∧nn=wd s j)) (fun jv _ _ _=>s.size - (intOf jv).toNat)
  case atStart=>exact ⟨i,s.size - i,rfl,hb,gf hm,by omega,by omega,Nat.le_refl _,2,wd s i,rfl,rfl,fun _=>⟨(gf hk0).symm,rfl⟩⟩
  case round =>
   obtain ⟨j,f,rfl,hb3,hd,hf,hj,hij,kk,nn,rfl,rfl,hkn⟩:=hrel
   have hT3:=u8_below (gf hT) hb3 h3w
   by_cases hst:j<s.size∧inName s j=true
   ·obtain ⟨hjl,hjd⟩:=hst
    obtain ⟨rfl,rfl⟩:=hkn hjl
    have hstep:=gh (nameEnd_step s hd hf hjl hjd)
    have hw1:=wd_pos s j
    have hw2:=wd_le s j hjl
    have hdj:decide ((j:Int)<(s.size:Int))=true:=by simp;omega
    have hwz:((wd s j:Nat):Int)≤65536:=by omega
    rw [kd_name] at hjd
    have hkk:(((kd s j:Nat):Int) == 2)=true∨((((kd s j:Nat):Int) == 2)=false∧(((kd s j:Nat):Int) == 3)=true):=by
     simp only [Bool.or_eq_true,beq_iff_eq] at hjd
     rcases hjd with h | h
     ·exact .inl (by rw [h];rfl)
     ·exact .inr (by rw [h];exact ⟨rfl,rfl⟩)
    obtain ⟨K,hK⟩:∃ K,kd s j=K:=⟨_,rfl⟩
    obtain ⟨Z,hZ⟩:∃ Z,wd s j=Z:=⟨_,rfl⟩
    rw [hK] at hkk
    rw [hZ] at hw1 hw2 hwz hstep
    rw [hK,hZ]
    replace hK:=gh hK
    replace hZ:=gh hZ
    clear hjd hd hkn
    by_cases hnx:j+Z<s.size
    ·have hdn:decide ((j:Int)+(Z:Int)<(s.size:Int))=true:=by simp;omega
     have c2:=refAt_any s (j+Z) hnx wr hT3
     rw [Int.natCast_add] at c2
     rcases hkk with k1 | ⟨k1,k2⟩
     all_goals
      go_wp2_with (refine c2.mono ?_;rintro e w4 ⟨rfl,hb4⟩)
      exact ⟨⟨j+Z,f - 1,by simp,hb3.trans (hb4.mono hb3.size),(gf hstep).1,(gf hstep).2,by omega,by omega,_,_,rfl,rfl,fun _=>⟨rfl,rfl⟩⟩,by simp [intOf];omega⟩
    ·have hdn:decide ((j:Int)+(Z:Int)<(s.size:Int))=false:=by simp;omega
     rcases hkk with k1 | ⟨k1,k2⟩
     all_goals
      go_wp2
      exact ⟨⟨j+Z,f - 1,by simp,hb3,(gf hstep).1,(gf hstep).2,by omega,by omega,_,_,rfl,rfl,fun h=>absurd h hnx⟩,by simp [intOf];omega⟩
   ·have hjm:j=i+m:=by
     by_cases hjl:j<s.size
     ·have:inName s j=false:=by
       cases hq:inName s j with
       |true=>exact absurd ⟨hjl,hq⟩ hst
       |false=>rfl
      exact (nameEnd_stop s hd hf hjl this).symm
     ·exact (nameEnd_end s hd hjl).symm
    have hex:(decide ((j:Int)<(s.size:Int))=false∧¬ j<s.size)∨(decide ((j:Int)<(s.size:Int))=true∧j<s.size∧(((kk:Nat):Int) == 2)=false∧(((kk:Nat):Int) == 3)=false):=by
     by_cases hjl:j<s.size
     ·have hq:inName s j=false:=by
       cases hq:inName s j with
       |true=>exact absurd ⟨hjl,hq⟩ hst
       |false=>rfl
      rw [kd_name,←(hkn hjl).1] at hq
      simp only [Bool.or_eq_false_iff,beq_eq_false_iff_ne] at hq
      exact .inr ⟨by simp;omega,hjl,by simp;omega,by simp;omega⟩
     ·exact .inl ⟨by simp;omega,hjl⟩
    have hsl':∀ W,(Instr.slice 9 (.string s) (some (.int .i64 i)) (some (.int .i64 (j:Int))) none).run Tryz.prog W = .ok (.string t) W:=fun W=>by
     have:=gf hsl W
     rw [show (j:Int)=(i:Int)+m by omega]
     exact this
    have htm:((t.size:Nat):Int)=(m:Int):=by rw [htz]
    have hmle:(m:Int)≤65536:=by omega
    have hjm':=gh hjm
    clear hst hd hjm hkn
    have hout:(isWd t=true∧rdName s i=(2,i+m,none))∨(isWd t=false∧decide ((40:Int)<(m:Int))=true∧rdName s i=(0,0,some (i,141)))∨(isWd t=false∧decide ((40:Int)<(m:Int))=false∧rdName s i=(1,i+m,none)):=by
     rw [gf hrd]
     cases hw:isWd t with
     |true =>
      have:=wd_word t hw
      exact .inl ⟨rfl,by rw [if_neg (by omega),if_pos rfl]⟩
     |false =>
      by_cases h4:40<m
      ·exact .inr (.inl ⟨rfl,by simp;omega,by rw [if_pos h4]⟩)
      ·exact .inr (.inr ⟨rfl,by simp;omega,by rw [if_neg h4,if_neg Bool.false_ne_true]⟩)
    replace htz:=gh htz
    rcases hout with ⟨o1,o3⟩ | ⟨o1,o2,o3⟩ | ⟨o1,o2,o3⟩
    ·rw [o1] at cW
     replace o3:=gh o3
     replace o1:=gh o1
     rcases hex with ⟨x1,x0⟩ | ⟨x1,hjl,x2,x3⟩
     all_goals
      go_wp2_with (first | (refine (cW _).mono ?_;rintro e w5 ⟨rfl,hb5⟩;obtain ⟨v6,w6,R1,ho6,hb6⟩:=tok_new 2 t i 67 (own_same (own_same (gf hown) hb3) hb5) (by omega) (by have:=hb3.size;have:=hb5.size;omega);replace R1:=gh R1;replace ho6:=gh ho6;replace hb6:=gh hb6) | (at_builtin;refine app_run _ _ _ rfl rfl rfl rfl (gf R1) ?_;clear R1))
      refine gf hqt' 2 (gf o3) _ _ _ ⟨rfl,rfl,rfl,rfl,?_⟩ (((hb3.trans (hb5.mono hb3.size)).mono hB).trans (gf hb6)) (gf ho6)
      rw [←gf hjm']
      rfl
    ·rw [o1] at cW
     replace o3:=gh o3
     replace o1:=gh o1
     rcases hex with ⟨x1,x0⟩ | ⟨x1,hjl,x2,x3⟩
     all_goals
      go_wp2_with (refine (cW _).mono ?_;rintro e w5 ⟨rfl,hb5⟩)
      exact gf hqe' 141 (gf o3) _ _ ⟨rfl,rfl,rfl,rfl⟩ (hb3.trans (hb5.mono hb3.size))
    ·rw [o1] at cW
     replace o3:=gh o3
     replace o1:=gh o1
     rcases hex with ⟨x1,x0⟩ | ⟨x1,hjl,x2,x3⟩
     all_goals
      go_wp2_with (first | (refine (cW _).mono ?_;rintro e w5 ⟨rfl,hb5⟩;obtain ⟨v6,w6,R1,ho6,hb6⟩:=tok_new 1 t i 67 (own_same (own_same (gf hown) hb3) hb5) (by omega) (by have:=hb3.size;have:=hb5.size;omega);replace R1:=gh R1;replace ho6:=gh ho6;replace hb6:=gh hb6) | (at_builtin;refine app_run _ _ _ rfl rfl rfl rfl (gf R1) ?_;clear R1))
      refine gf hqt' 1 (gf o3) _ _ _ ⟨rfl,rfl,rfl,rfl,?_⟩ (((hb3.trans (hb5.mono hb3.size)).mono hB).trans (gf hb6)) (gf ho6)
      rw [←gf hjm']
      rfl
end Go.Proofs.YtfkfnbehdcmgeaaGreatDoor
namespace Go.Proofs.YtfkfnbehdcmgeaaGreatDoor
open Go Go.RowKit
theorem cm2_end (s:ByteArray) {f i:Nat} {c:Nat×Nat} (h:cm2 s f i=c) (hi:¬ i<s.size):c=(0,2):=by
 cases f with
 |zero=>exact h.symm
 |succ f=>unfold cm2 at h;rw [if_neg hi] at h;exact h.symm
theorem cm2_close (s:ByteArray) {f i:Nat} {c:Nat×Nat} (h:cm2 s f i=c) (hf:s.size≤i+f) (hi:i<s.size) (hc:fits s i [42,41]=true):c=(i+2,0):=by
 obtain ⟨g,rfl⟩:∃ g,f=g+1:=⟨f - 1,by omega⟩
 unfold cm2 at h
 rw [if_pos hi,if_pos hc] at h
 exact h.symm
theorem cm2_bad (s:ByteArray) {f i:Nat} {c:Nat×Nat} (h:cm2 s f i=c) (hf:s.size≤i+f) (hi:i<s.size) (hc:fits s i [42,41]=false) (hn:noR s i=true):c=(i,1):=by
 obtain ⟨g,rfl⟩:∃ g,f=g+1:=⟨f - 1,by omega⟩
 unfold cm2 at h
 rw [if_pos hi,hc,if_neg Bool.false_ne_true,if_pos hn] at h
 exact h.symm
theorem cm2_step (s:ByteArray) {f i:Nat} {c:Nat×Nat} (h:cm2 s f i=c) (hf:s.size≤i+f) (hi:i<s.size) (hc:fits s i [42,41]=false) (hn:noR s i=false):cm2 s (f - 1) (i+wd s i)=c∧s.size≤i+wd s i+(f - 1):=by
 have:=wd_pos s i
 obtain ⟨g,rfl⟩:∃ g,f=g+1:=⟨f - 1,by omega⟩
 unfold cm2 at h
 rw [if_pos hi,hc,if_neg Bool.false_ne_true,hn,if_neg Bool.false_ne_true] at h
 exact ⟨h,by omega⟩
theorem kd_zero (s:ByteArray) (j:Nat):(((kd s j:Nat):Int) == 0)=noR s j:=by
 unfold kd
 cases noR s j with
 |true=>rfl
 |false =>
  rw [if_neg Bool.false_ne_true]
  repeat' split
  all_goals rfl
theorem no_close (s:ByteArray) (j:Nat) (hj:j<s.size) (h:fits s j [42,41]=false):(decide ((j:Int)+1<(s.size:Int))=false∧¬ j+1<s.size)∨(decide ((j:Int)+1<(s.size:Int))=true∧(((By s j:Nat):Int) == 42)=false)∨(decide ((j:Int)+1<(s.size:Int))=true∧(((By s j:Nat):Int) == 42)=true∧∃ h1:j+1<s.size,(((s[j+1]'h1).toNat:Int) == 41)=false):=by
 rw [fits_end] at h
 by_cases h1:j+1<s.size
 ·by_cases h2:By s j=42
  ·refine .inr (.inr ⟨by simp;omega,by simp;omega,h1,?_⟩)
   have e:(s[j+1]'h1).toNat=By s (j+1):=by unfold By;rw [get_lt s (j+1) h1]
   simp [hj,h1,h2] at h
   rw [e];simp;omega
  ·exact .inr (.inl ⟨by simp;omega,by simp;omega⟩)
 ·exact .inl ⟨by simp;omega,h1⟩
set_option maxRecDepth 100000 in
set_option maxHeartbeats 16000000 in
theorem rr_cmt {Q:Exit→Act→World→Prop} {a:Act} {w0:World} {s:ByteArray} {ov:Value} {i:Nat} (hs:s.size≤65536) (hT:Lib.Utf8Tabs 2 3 w0) (h:TS a s ov i) (hi:i<s.size) (hk:kd s i=4) (hf0:fits s i [40,42]=true)
  (hqe:∀ p e,rdCmt s i=(0,0,some (p,e))→∀ a' w',RS a' p e→Below w0.heap.size w0 w'→Q .ret a' w')
  (hqt:∀ j,rdCmt s i=(-1,j,none)→∀ a' w',TS a' s ov j→Below w0.heap.size w0 w'→Q .normal a' w'):Code.wp Tryz.prog (tBody Tryz.f28) Q a w0:=by
 obtain ⟨u,rfl⟩:=h.lit
 have c:=refAt_any s i hi w0 hT
 rw [hk] at c
 have hiz:(i:Int)<(s.size:Int):=by omega
 have h3w:=u8_lt hT
 have hi2:=fits_two s i 40 42 hf0
 have hby:By s i=40∧By s (i+1)=42:=by
  unfold fits at hf0
  simp [fits] at hf0
  exact ⟨hf0.1.2,hf0.2.2⟩
 have hx:(s[i]'hi).toNat=40:=by rw [←hby.1];unfold By;rw [get_lt s i hi]
 have hx1:(s[i+1]'(by omega)).toNat=42:=by rw [←hby.2];unfold By;rw [get_lt s (i+1) (by omega)]
 have hlt1:i+1<s.size:=by omega
 have hd4:decide ((i:Int)+1<(s.size:Int))=true:=by simp;omega
 obtain ⟨C,hC⟩:∃ C,cm2 s (s.size - (i+2)) (i+2)=C:=⟨_,rfl⟩
 have hrd:rdCmt s i=if C.2=0 then (-1,C.1,none) else if C.2=1 then (0,0,some (C.1,140)) else (0,0,some (i,140)):=by
  unfold rdCmt
  rw [(cmt_two s (s.size - (i+2))).1 (i+2) (by omega),hC]
 clear h hf0 hby hk
 replace hT:=gh hT
 have hqe':=gh hqe
 have hqt':=gh hqt
 clear hqe hqt
 replace hrd:=gh hrd
 replace hC:=gh hC
 conv=>arg 2;whnf
 go_wp2_with (refine c.mono ?_;rintro e w2 ⟨rfl,hb⟩)
 go_loopw [6] (fun jv w3=>∃ j f:Nat,jv = .int .i64 j∧Below w0.heap.size w0 w3∧cm2 s f j=C∧s.size≤j+f∧j≤s.size) (fun jv _=>s.size - (intOf jv).toNat)
 case atStart=>exact ⟨i+2,s.size - (i+2),by simp,hb,gf hC,by omega,by omega⟩
 case round =>
  obtain ⟨j,f,rfl,hb3,hd,hf,hj⟩:=hrel
  have hT3:=u8_below (gf hT) hb3 h3w
  by_cases hjl:j<s.size
  ·have hxj:(s[j]'hjl).toNat=By s j:=by unfold By;rw [get_lt s j hjl]
   have hdj:decide ((j:Int)<(s.size:Int))=true:=by simp;omega
   cases hc:fits s j [42,41] with
   |true =>
    have hCC:=cm2_close s hd hf hjl hc
    have hj2:=fits_two s j 42 41 hc
    have hby:By s j=42∧By s (j+1)=41:=by
     unfold fits at hc
     simp [fits] at hc
     exact ⟨hc.1.2,hc.2.2⟩
    have hxj1:(s[j+1]'(by omega)).toNat=41:=by rw [←hby.2];unfold By;rw [get_lt s (j+1) (by omega)]
    have hltj:j+1<s.size:=by omega
    rw [hby.1] at hxj
    have hdj1:decide ((j:Int)+1<(s.size:Int))=true:=by simp;omega
    have hge:decide ((s.size:Int)≤(j:Int))=false:=by simp;omega
    have hge2:¬ s.size≤j:=by omega
    have hR:Hid (rdCmt s i=(-1,j+2,none)):=by rw [gf hrd,hCC];rfl
    clear hd hCC hby hc
    go_wp2
    refine gf hqt' (j+2) (gf hR) _ _ ⟨rfl,rfl,rfl,rfl,?_⟩ hb3
    rfl
   |false =>
    have hcl:=no_close s j hjl hc
    have c2:=refAt_any s j hjl wr hT3
    have hkz:=kd_zero s j
    obtain ⟨K,hK⟩:∃ K,kd s j=K:=⟨_,rfl⟩
    rw [hK] at hkz c2
    replace hK:=gh hK
    cases hn:noR s j with
    |true =>
     have hCC:=cm2_bad s hd hf hjl hc hn
     have hR:Hid (rdCmt s i=(0,0,some (j,140))):=by rw [gf hrd,hCC];rfl
     rw [hn] at hkz
     clear hd hCC hc
     rcases hcl with ⟨x1,x0⟩ | ⟨x1,x2⟩ | ⟨x1,x2,h1,x3⟩
     all_goals
      go_wp2_with (refine c2.mono ?_;rintro e w4 ⟨rfl,hb4⟩)
      exact gf hqe' j 140 (gf hR) _ _ ⟨rfl,rfl,rfl,rfl⟩ (hb3.trans (hb4.mono hb3.size))
    |false =>
     have hstep:=gh (cm2_step s hd hf hjl hc hn)
     have hw1:=wd_pos s j
     have hw2:=wd_le s j hjl
     rw [hn] at hkz
     have hwz:((wd s j:Nat):Int)≤65536:=by omega
     clear hd hc
     rcases hcl with ⟨x1,x0⟩ | ⟨x1,x2⟩ | ⟨x1,x2,h1,x3⟩
     all_goals
      go_wp2_with (refine c2.mono ?_;rintro e w4 ⟨rfl,hb4⟩)
      exact ⟨⟨j+wd s j,f - 1,by simp,hb3.trans (hb4.mono hb3.size),(gf hstep).1,(gf hstep).2,by omega⟩,by simp [intOf];omega⟩
  ·have hCC:=cm2_end s hd hjl
   have hdj:decide ((j:Int)<(s.size:Int))=false:=by simp;omega
   have hge:decide ((s.size:Int)≤(j:Int))=true:=by simp;omega
   have hge2:s.size≤j:=by omega
   have hR:Hid (rdCmt s i=(0,0,some (i,140))):=by rw [gf hrd,hCC];rfl
   clear hd hCC
   go_wp2
   exact gf hqe' i 140 (gf hR) _ _ ⟨rfl,rfl,rfl,rfl⟩ hb3
end Go.Proofs.YtfkfnbehdcmgeaaGreatDoor
namespace Go.Proofs.YtfkfnbehdcmgeaaGreatDoor
open Go Go.RowKit
theorem rd_kd0 (s:ByteArray) (i:Nat) (h:kd s i=0):rd s i=(0,0,some (i,140)):=by
 unfold rd
 rw [kd_cases s i h,if_pos rfl]
theorem rd_kd (s:ByteArray) (i:Nat):kd s i=0∨(kd s i=1∧rd s i=(-1,i+1,none))∨(kd s i=2∧rd s i=rdName s i)∨(kd s i=3∧rd s i=rdNum s i)∨(kd s i=4∧fits s i [40,42]=true∧rd s i=rdCmt s i)∨(kd s i=4∧fits s i [40,42]=false∧rd s i=rdSign s i):=by
 unfold kd rd
 cases noR s i with
 |true=>exact .inl rfl
 |false =>
  cases isBl (rn s i) with
  |true=>exact .inr (.inl ⟨rfl,rfl⟩)
  |false =>
   cases isLe (rn s i) with
   |true=>exact .inr (.inr (.inl ⟨rfl,rfl⟩))
   |false =>
    cases isDi (rn s i) with
    |true=>exact .inr (.inr (.inr (.inl ⟨rfl,rfl⟩)))
    |false =>
     cases fits s i [40,42] with
     |true=>exact .inr (.inr (.inr (.inr (.inl ⟨rfl,rfl,rfl⟩))))
     |false=>exact .inr (.inr (.inr (.inr (.inr ⟨rfl,rfl,rfl⟩))))
theorem rr_any {Q:Exit→Act→World→Prop} {a:Act} {w0:World} {s:ByteArray} {ov:Value} {i B n:Nat} {xs:List Value} (hs:s.size≤65536) (hT:Lib.Utf8Tabs 2 3 w0) (h:TS a s ov i) (hi:i<s.size)
  (hown:w0.ownsRow B 74 3 ov n xs) (hn:n≤65536) (hB:B≤w0.heap.size)
  (hqe:∀ p e,(rd s i).2.2=some (p,e)→∀ a' w',RS a' p e→Below w0.heap.size w0 w'→Q .ret a' w')
  (hqg:∀ j,rd s i=(-1,j,none)→∀ a' w',TS a' s ov j→Below w0.heap.size w0 w'→Q .normal a' w')
  (hqt:∀ (k:Int) j,k ≠ -1→rd s i=(k,j,none)→∀ a' w' ov',TS a' s ov' j→Below B w0 w'→w'.ownsRow B 74 3 ov' (n+1) (xs++[.int .i64 k,.string (s.extract i j),.int .i64 i])→Q .normal a' w'):Code.wp Tryz.prog (tBody Tryz.f28) Q a w0:=by
 rcases rd_kd s i with hk | ⟨hk,e⟩ | ⟨hk,e⟩ | ⟨hk,e⟩ | ⟨hk,hf,e⟩ | ⟨hk,hf,e⟩
 ·exact rr_bad hs hT h hi hk (hqe i 140 (by rw [rd_kd0 s i hk]))
 ·exact rr_blank hs hT h hi hk (hqg (i+1) e)
 ·rw [e] at hqe hqg hqt
  have hk':∀ (k:Int) j,rdName s i=(k,j,none)→k ≠ -1:=fun k j h=>by
   unfold rdName at h
   split at h
   ·cases h
   ·split at h
    ·have:(2:Int)=k:=congrArg Prod.fst h
     omega
    ·have:(1:Int)=k:=congrArg Prod.fst h
     omega
  exact rr_name hs hT h hi hk hown hn hB (fun e he=>hqe i e (by rw [he])) (fun k j hj=>hqt k j (hk' k j hj) hj)
 ·rw [e] at hqe hqg hqt
  exact rr_num hs hT h hi hk hown hn hB (fun e he=>hqe i e (by rw [he])) (fun j hj=>hqt 3 j (by decide) hj)
 ·rw [e] at hqe hqg hqt
  exact rr_cmt hs hT h hi hk hf (fun p e he=>hqe p e (by rw [he])) hqg
 ·rw [e] at hqe hqg hqt
  refine rr_sign hs hT h hi hk hf hown hn hB (fun h0=>hqe i 140 ?_) (fun h0=>hqt 4 (i+sgn s i) (by decide) ?_)
  ·unfold rdSign;rw [if_pos h0]
  ·unfold rdSign;rw [if_neg h0]
set_option maxRecDepth 100000 in
set_option maxHeartbeats 16000000 in
theorem rr_end {Q:Exit→Act→World→Prop} {a:Act} {w0:World} {s:ByteArray} {ov:Value} (h:TS a s ov s.size) (hq:∀ a' ,TS a' s ov s.size→Q (.exit 0) a' w0):Code.wp Tryz.prog (tBody Tryz.f28) Q a w0:=by
 obtain ⟨u,rfl⟩:=h.lit
 have hd:decide ((s.size:Int)<(s.size:Int))=false:=by simp
 have hQ:=gh hq
 clear hq h
 conv=>arg 2;whnf
 go_wp2
 exact gf hQ _ ⟨rfl,rfl,rfl,rfl,rfl⟩
def RkP (s:ByteArray) (r:List (Int×Nat×Nat)×Option (Nat×Nat)) (w:World) (e:Ending) (w':World):Prop:=
 Below w.heap.size w w'∧((r.2=none∧∃ v,e = .returned (.tuple #[v,.int .i64 0,.int .i64 0])∧w'.ownsRow w.heap.size 74 3 v (r.1.length+1) (toks s r.1++[.int .i64 0,.string ⟨#[]⟩,.int .i64 s.size])) ∨
  ∃ (a n:Nat),r.2=some (a,n)∧e = .returned (.tuple #[.slice none 0 0,.int .i64 a,.int .i64 n]))
def RkI (s:ByteArray) (r:List (Int×Nat×Nat)×Option (Nat×Nat)) (w:World) (a:Act) (wr:World):Prop:=
 ∃ (ov:Value) (i fuel:Nat) (done:List (Int×Nat×Nat)),TS a s ov i∧Below w.heap.size w wr∧wr.ownsRow w.heap.size 74 3 ov done.length (toks s done)∧done++(lx s fuel i).1=r.1∧(lx s fuel i).2=r.2∧s.size≤i+fuel∧i≤s.size
set_option maxRecDepth 100000 in
set_option maxHeartbeats 16000000 in
theorem refTokens_any (s:ByteArray) (w:World) (hT:Lib.Utf8Tabs 2 3 w):Calls Tryz.prog 28 #[.string s] w (RkP s (tk s) w):=by
 by_cases hs:65536<s.size
 ·have hsz:(65536:Int)<(s.size:Int):=by omega
  unfold tk
  rw [if_pos hs]
  go_enter Tryz.func28,Tryz.ntmps28
  go_wp2
  go_ret3
  exact ⟨Below.refl _ _,.inr ⟨65536,141,rfl,rfl⟩⟩
 have hsz:decide ((65536:Int)<(s.size:Int))=false:=by simp;omega
 have hr:tk s=lx s s.size 0:=by unfold tk;rw [if_neg hs]
 obtain ⟨r,hr2⟩:∃ r,tk s=r:=⟨_,rfl⟩
 rw [hr2]
 rw [hr2] at hr
 have hlen:r.1.length≤65536:=by have:=lx_len s s.size 0;rw [hr];omega
 replace hr:=gh hr
 clear hr2
 replace hs:s.size≤65536:=by omega
 have h3w:=u8_lt hT
 go_enter Tryz.func28,Tryz.ntmps28
 go_wp2
 change Code.wp Tryz.prog (.loop (tBody Tryz.f28)) _ _ _
 refine wp_loop (RkI s r w) (fun a _=>s.size - (intOf (a.tmps.getD 6 undef)).toNat) ?_ (fun a' w' hI => ?_)
 ·refine ⟨_,0,s.size,[],⟨rfl,rfl,rfl,rfl,rfl⟩,Below.refl _ _,own_nil _ _ _ _,?_,?_,by omega,by omega⟩
  ·rw [gf hr];rfl
  ·rw [gf hr]
 ·obtain ⟨ov,i,fuel,done,ts,hbw,hown,hd1,hd2,hfu,hile⟩:=hI
  have g6:a'.tmps.getD 6 undef = .int .i64 i:=getD_some ts.s6
  by_cases hi:i<s.size
  ·have hdl:done.length≤65536:=by
    have:(done++(lx s fuel i).1).length=r.1.length:=by rw [hd1]
    rw [List.length_append] at this
    omega
   refine rr_any hs (u8_below hT hbw h3w) ts hi hown hdl hbw.size ?_ ?_ ?_
   ·intro p e he a2 w2 rs hb2
    have hl:=lx_err s hfu hi he
    obtain ⟨tm,df⟩:=a2
    obtain rfl:df=[]:=rs.dfr
    refine bodyPost_ret (v:=.tuple #[.slice none 0 0,.int .i64 p,.int .i64 e]) ?_ rfl ⟨hbw.trans (hb2.mono hbw.size),.inr ⟨p,e,by rw [←hd2,hl],rfl⟩⟩
    have r2:tm.getD 2 undef=_:=getD_some rs.s2
    have r3:tm.getD 3 undef=_:=getD_some rs.s3
    have r4:tm.getD 4 undef=_:=getD_some rs.s4
    rw [results_tmp3 rfl]
    show Result.ok (Value.tuple #[tm.getD 2 undef,tm.getD 3 undef,tm.getD 4 undef]) w2=_
    rw [r2,r3,r4]
   ·intro j hj a2 w2 ts2 hb2
    have hrr:=rd_reach s i hi (by rw [hj])
    rw [hj] at hrr
    have hl:=lx_gap s hfu hi (by rw [hj]) (by rw [hj])
    rw [hj] at hl
    have g6':a2.tmps.getD 6 undef = .int .i64 j:=getD_some ts2.s6
    refine ⟨⟨ov,j,fuel - 1,done,ts2,hbw.trans (hb2.mono hbw.size),own_same hown hb2,?_,?_,?_,hrr.2.1⟩,?_⟩
    ·rw [←hd1,hl]
    ·rw [←hd2,hl]
    ·have:=hrr.2.2;simp only at this;omega
    ·have h1:=hrr.2.2
     simp only at h1
     show s.size - (intOf (a2.tmps.getD 6 undef)).toNat<s.size - (intOf (a'.tmps.getD 6 undef)).toNat
     rw [g6,g6']
     simp [intOf]
     omega
   ·intro k j hk hj a2 w2 ov2 ts2 hb2 ho2
    have hrr:=rd_reach s i hi (by rw [hj])
    rw [hj] at hrr
    have hl:=lx_tok s hfu hi (by rw [hj]) (by rw [hj];exact hk)
    rw [hj] at hl
    have g6':a2.tmps.getD 6 undef = .int .i64 j:=getD_some ts2.s6
    refine ⟨⟨ov2,j,fuel - 1,done++[(k,i,j)],ts2,hbw.trans hb2,?_,?_,?_,?_,hrr.2.1⟩,?_⟩
    ·rw [toks_app,List.length_append];exact ho2
    ·rw [←hd1,hl,List.append_assoc];rfl
    ·rw [←hd2,hl]
    ·have:=hrr.2.2;simp only at this;omega
    ·have h1:=hrr.2.2
     simp only at h1
     show s.size - (intOf (a2.tmps.getD 6 undef)).toNat<s.size - (intOf (a'.tmps.getD 6 undef)).toNat
     rw [g6,g6']
     simp [intOf]
     omega
  ·obtain rfl:i=s.size:=by omega
   rw [lx_end s fuel s.size (by omega)] at hd1 hd2
   simp only [List.append_nil] at hd1 hd2
   have hdl:done.length≤65536:=by rw [hd1];exact hlen
   refine rr_end ts fun a2 ts2 => ?_
   obtain ⟨u,rfl⟩:=ts2.lit
   obtain ⟨v5,w5,R1,ho5,hb5⟩:=tok_new 0 ⟨#[]⟩ s.size 67 hown (by omega) hbw.size
   replace R1:=gh R1
   replace ho5:=gh ho5
   replace hb5:=gh hb5
   replace hd1:=gh hd1
   replace hd2:=gh hd2
   replace hown:=gh hown
   replace hbw:=gh hbw
   clear ts ts2 g6 hT
   go_wp2_with (at_builtin;refine app_run _ _ _ rfl rfl rfl rfl (gf R1) ?_;clear R1)
   go_ret3
   refine ⟨(gf hbw).trans (gf hb5),.inl ⟨(gf hd2).symm,v5,rfl,?_⟩⟩
   rw [←gf hd1]
   exact gf ho5
end Go.Proofs.YtfkfnbehdcmgeaaGreatDoor
namespace Go.Proofs.YtfkfnbehdcmgeaaGreatDoor
open Go Go.RowKit
theorem rkp_ok {s:ByteArray} {w w':World} {e:Ending} (h:RkP s (tk s) w e w') (hn:(tk s).2=none):Below w.heap.size w w'∧∃ v,e = .returned (.tuple #[v,.int .i64 0,.int .i64 0])∧RdT w' v (tkL s):=by
 obtain ⟨hb,⟨_,v,he,ho⟩ | ⟨a,n,hx,_⟩⟩:=h
 ·refine ⟨hb,v,he,own_rdT (B:=w.heap.size) (n:=(tk s).1.length+1) ?_ (tkL_len s).symm⟩
  unfold tkL
  rw [tcells_app,←toks_eq]
  exact ho
 ·rw [hn] at hx;cases hx
theorem rkp_err {s:ByteArray} {w w':World} {e:Ending} {a n:Nat} (h:RkP s (tk s) w e w') (hn:(tk s).2=some (a,n)):Below w.heap.size w w'∧e = .returned (.tuple #[.slice none 0 0,.int .i64 a,.int .i64 n]):=by
 obtain ⟨hb,⟨hx,_⟩ | ⟨a2,n2,hx,h1⟩⟩:=h
 ·rw [hn] at hx;cases hx
 ·rw [hn] at hx
  obtain ⟨rfl,rfl⟩:a=a2∧n=n2:=by simpa using hx
  exact ⟨hb,h1⟩
end Go.Proofs.YtfkfnbehdcmgeaaGreatDoor
namespace Go.Proofs.YtfkfnbehdcmgeaaGreatDoor
open Go Go.RowKit
theorem rkp_rd {s:ByteArray} {w w':World} {e:Ending} (h:RkP s (tk s) w e w') (hn:(tk s).2=none):Below w.heap.size w w'∧∃ g c,e = .returned (.tuple #[.slice (some ⟨g,0,none⟩) (tkL s).length c,.int .i64 0,.int .i64 0])∧g<w'.heap.size∧(tkL s).length≤c∧∀ j x,(tkL s)[j]?=some x→w'.rangeAt g (j * 3) [.int .i64 x.1,.string x.2.1,.int .i64 x.2.2]:=by
 obtain ⟨hb,v,he,hr⟩:=rkp_ok h hn
 obtain ⟨a,c,rfl,hr⟩:=hr
 obtain ⟨g,rfl,hg,hc⟩:=hr (by unfold tkL;simp)
 refine ⟨hb,g,c,he,hg,?_,fun j x hx => ?_⟩
 ·obtain ⟨_,⟨_,v,he2,ho⟩ | ⟨a,n,hx,_⟩⟩:=h
  ·have e1:(Value.slice (some ⟨g,0,none⟩) (tkL s).length c)=v:=by
    rw [he] at he2
    simpa using he2
   subst e1
   obtain ⟨-,h1 | ⟨g',c',cur,e,-,-,h2,-⟩⟩:=ho
   ·exact absurd h1.2 (by omega)
   ·obtain ⟨-,-,rfl⟩:g=g'∧_∧c=c':=by simpa using e
    rw [tkL_len]
    exact h2
  ·rw [hn] at hx;cases hx
 ·obtain ⟨c0,c1,c2⟩:=hc j x hx
  intro i u hu
  rcases i with _ | _ | _ | i
  ·obtain rfl:=Option.some.inj hu
   exact c0
  ·obtain rfl:=Option.some.inj hu
   exact c1
  ·obtain rfl:=Option.some.inj hu
   exact c2
  ·simp at hu
theorem rd_num {s:ByteArray} {i a n:Nat} (h:(rd s i).2.2=some (a,n)):n≠0:=by
 have key:∀ (x:Option (Nat×Nat)) (b m:Nat),m≠0→x=some (b,m)→x=some (a,n)→n≠0:=by
  intro x b m hm h1 h2
  rw [h1] at h2
  obtain ⟨-,rfl⟩:b=a∧m=n:=by simpa using h2
  exact hm
 unfold rd rdName rdNum rdCmt rdSign at h
 repeat' (first | (split at h) | (exact key _ _ 140 (by decide) rfl h) | (exact key _ _ 141 (by decide) rfl h) | (cases (h:(none:Option (Nat×Nat))=some (a,n))))
theorem lx_num (s:ByteArray):∀ (f i a n:Nat),(lx s f i).2=some (a,n)→n≠0
 |0,_,_,_,h=>by cases h
 |f+1,i,a,n,h=>by
  unfold lx at h
  split at h
  ·split at h
   ·rename_i e he
    obtain ⟨a',n'⟩:=e
    obtain ⟨rfl,rfl⟩:a'=a∧n'=n:=by simpa using h
    exact rd_num he
   ·exact lx_num s f _ a n h
  ·cases h
theorem tk_num {s:ByteArray} {a n:Nat} (h:(tk s).2=some (a,n)):n≠0:=by
 unfold tk at h
 split at h
 ·obtain ⟨-,rfl⟩:_=a∧_=n:=by simpa using h
  decide
 ·exact lx_num s _ _ a n h
end Go.Proofs.YtfkfnbehdcmgeaaGreatDoor
namespace Go.Proofs.YtfkfnbehdcmgeaaGreatDoor
open Go Go.RowKit
def lsQ (f:Ex→Ex→Bool):List Ex→List Ex→Bool
 |[],[]=>true
 |x::l,y::l'=>f x y && lsQ f l l'
 |_,_=>false
def exQ:Nat→Ex→Ex→Bool
 |0,_,_=>false
 |k+1,.mk o n u b l i,.mk o' n' u' b' l' i'=>decide (o=o') && decide (n=n') && decide (u=u') && decide (b=b') && decide (i=i') && lsQ (exQ k) l l'
theorem lsQ_ok {f:Ex→Ex→Bool} (hf:∀ x y,f x y=true→x=y):∀ l l',lsQ f l l'=true→l=l'
 |[],[],_=>rfl
 |[],_::_,h=>by cases h
 |_::_,[],h=>by cases h
 |x::l,y::l',h=>by
  unfold lsQ at h
  simp only [Bool.and_eq_true] at h
  rw [hf x y h.1,lsQ_ok hf l l' h.2]
theorem exQ_ok:∀ k t u,exQ k t u=true→t=u
 |0,_,_,h=>by cases h
 |k+1,.mk o n u b l i,.mk o' n' u' b' l' i',h=>by
  unfold exQ at h
  simp only [Bool.and_eq_true,decide_eq_true_eq] at h
  obtain ⟨⟨⟨⟨⟨rfl,rfl⟩,rfl⟩,rfl⟩,rfl⟩,h⟩:=h
  rw [lsQ_ok (exQ_ok k) l l' h]
def rpB (n:Nat) (l:List UInt8):ByteArray:=⟨(List.replicate n l).flatten.toArray⟩
theorem rpB_succ (n:Nat) (l:List UInt8):rpB n l++⟨l.toArray⟩=rpB (n+1) l:=by
 apply ByteArray.ext
 unfold rpB
 rw [ByteArray.data_append]
 apply Array.ext'
 simp [List.replicate_succ']
theorem rpB_size (n:Nat) (l:List UInt8):(rpB n l).size=l.length * n:=by
 show (List.replicate n l).flatten.toArray.size=_
 simp [Nat.mul_comm]
theorem rep_at (l:List UInt8) (x:UInt8):∀ n i,i<l.length * n→(List.replicate n l).flatten.getD i x=l.getD (i % l.length) x
 |0,i,h=>by simp at h
 |n+1,i,h=>by
  rw [List.replicate_succ,List.flatten_cons,List.getD_eq_getElem?_getD,List.getD_eq_getElem?_getD]
  by_cases hi:i<l.length
  ·rw [List.getElem?_append_left hi,Nat.mod_eq_of_lt hi]
  ·rw [List.getElem?_append_right (by omega),←List.getD_eq_getElem?_getD,rep_at l x n (i - l.length) (by rw [Nat.mul_succ] at h;omega),List.getD_eq_getElem?_getD,Nat.mod_eq_sub_mod (a:=i) (by omega)]
theorem By_of (l:List UInt8) (i:Nat) (h:i<l.length):By ⟨l.toArray⟩ i=(l.getD i 0).toNat:=by
 unfold By
 rw [get_lt _ i (by simpa [ByteArray.size] using h)]
 simp [ByteArray.getElem_eq_getElem_data,h]
end Go.Proofs.YtfkfnbehdcmgeaaGreatDoor
namespace Go.Proofs.YtfkfnbehdcmgeaaGreatDoor
open Go Go.RowKit
structure DI (w:World) (r:Nat) (d:De) (x:DeV) (V:World):Prop where
 but:But r w V
 z:V.heap[w.heap.size]?=some (.cells #[.bool false,.string ⟨#[]⟩,.string ⟨#[]⟩,.bool false,.slice none 0 0,.int .i64 0,.int .i64 0,.string ⟨#[]⟩,.slice none 0 0,.int .i64 0,.slice none 0 0,.string ⟨#[]⟩,.slice none 0 0,.slice none 0 0,.int .i64 0,.string ⟨#[]⟩,.string ⟨#[]⟩,.bool false,.slice none 0 0,.int .i64 0,.int .i64 0,.int .i64 0] 56)
 b:V.heap[w.heap.size+1]?=some (.cells (deCells d x).toArray 56)
 inn:DeIn V (w.heap.size+2) d x
 rlt:r<w.heap.size
theorem DI.but' {w V V':World} {r:Nat} {d:De} {x:DeV} (h:DI w r d x V) (hb:But r V V'):DI w r d x V':=by
 have h1:=(blk h.b).1
 have h2:=h.rlt
 exact ⟨h.but.trans hb,(hb.block _ (by omega) (by omega)).trans h.z,(hb.block _ h1 (by omega)).trans h.b,h.inn.keep (Stays.but hb (by omega)) (Nat.le_refl _),h2⟩
theorem PD.setN {w:World} {r d q:Nat} {st:PS} {ts:List (Int×ByteArray×Int)} (h:PD w r ts st d) (hq:r<q) (o:Nat) (cs:List Value):PD (setN w q o cs) r ts st d:=h.out hq fun k hk=>heap_setN (by omega) cs w o
theorem DI.set {w V:World} {r:Nat} {d d':De} {x x':DeV} (h:DI w r d x V) (o:Nat) (vs:List Value) (hl:o+vs.length≤22) (he:(deCells d x).take o++vs++(deCells d x).drop (o+vs.length)=deCells d' x') (hin:DeIn V (w.heap.size+2) d' x'):DI w r d' x' (setN V (w.heap.size+1) o vs):=by
 have h2:=h.rlt
 refine ⟨But.setN vs V o h.but (by omega),(heap_setN (by omega) vs V o).trans h.z,?_,hin.keep (Stays.setN vs V o (Stays.of (Below.refl _ _)) (by omega)) (Nat.le_refl _),h2⟩
 rw [blk_setN vs V o (deCells d x) h.b hl,he]
def DDe (x:De×PS) (r:Nat) (ts:List (Int×ByteArray×Int)) (d:Nat) (w:World) (e:Ending) (w':World):Prop:=DP (fun w' v t=>DeW w' w.heap.size v t) x r ts d w e w'
theorem dret_de {fn:Func} {a:Act} {tt:Nat} {w V:World} {r dd:Nat} {ts:List (Int×ByteArray×Int)} {d:De} {x:DeV} {st:PS} {Y:De×PS} (hf:fn.results = #[.cell tt 56]) (ht:a.tmps[tt]?=some (.pointer (some ⟨w.heap.size,0,none⟩))) (hdf:a.defers=[]) (hI:DI w r d x V) (hR:PD V r ts st dd) (hY:Y=(d,st)) :
  bodyPost Tryz.prog fn (DDe Y r ts dd w) .ret a (setN V w.heap.size 0 (deCells d x)):=by
 subst hY
 refine bodyPost_ret (res_row (cs:=deCells d x) hf ht (range_block (blk_all hI.z rfl)) Tryz.underlying56 rfl de_info) hdf ?_
 exact ⟨But.setN _ V 0 hI.but (Nat.le_refl _),hR.setN hI.rlt 0 _,_,rfl,x,rfl,hI.inn.keep (Stays.setN _ V 0 (Stays.of (Below.refl _ _)) (by omega)) (by omega)⟩
structure GI {α:Type} (El:World→(Nat→Prop)→List Value→α→Prop) (d:De) (x:DeV) (fo:Nat) (ty:TypeId) (k:Nat) (w:World) (r:Nat) (Xp:Nat→Prop) (B0:Nat) (v:Value) (l:List α) (vs:List (List Value)) (V:World):Prop where
 but:But r w V
 z:V.heap[w.heap.size]?=some (.cells #[.bool false,.string ⟨#[]⟩,.string ⟨#[]⟩,.bool false,.slice none 0 0,.int .i64 0,.int .i64 0,.string ⟨#[]⟩,.slice none 0 0,.int .i64 0,.slice none 0 0,.string ⟨#[]⟩,.slice none 0 0,.slice none 0 0,.int .i64 0,.string ⟨#[]⟩,.string ⟨#[]⟩,.bool false,.slice none 0 0,.int .i64 0,.int .i64 0,.int .i64 0] 56)
 b:V.heap[w.heap.size+1]?=some (.cells ((deCells d x).set fo v).toArray 56)
 ord:r<w.heap.size∧w.heap.size+1<B0∧B0≤V.heap.size∧∀ b,Xp b→b<B0∧w.heap.size+1<b
 own:V.ownsRow B0 ty k v l.length vs.flatten
 len:vs.length=l.length
 all:∀ x∈vs,x.length=k
 tr:∀ (j:Nat) x t,vs[j]?=some x→l[j]?=some t→El V (fun b=>w.heap.size+2≤b∧¬ Xp b∧v.ownBlock≠some b) x t
 inn:DeInP V (fun b=>w.heap.size+2≤b∧¬ Xp b∧v.ownBlock≠some b) d x
section
variable {α:Type} {El:World→(Nat→Prop)→List Value→α→Prop} {d:De} {x:DeV} {fo:Nat} {ty:TypeId} {k:Nat} {w V V':World} {r B0:Nat} {Xp:Nat→Prop} {v:Value} {l:List α} {vs:List (List Value)}
theorem GI.but' (hk:∀ (w w':World) (P P':Nat→Prop) cs t,El w P cs t→StaysP P w w'→(∀ b,P b→P' b)→El w' P' cs t) (h:GI El d x fo ty k w r Xp B0 v l vs V) (hb:But r V V'):GI El d x fo ty k w r Xp B0 v l vs V':=by
 obtain ⟨h1,h2,h3,h4⟩:=h.ord
 have hst:StaysP (fun b=>w.heap.size+2≤b∧¬ Xp b∧v.ownBlock≠some b) V V':=⟨hb.size,fun k hk hs=>hb.block k hs (by have:=hk.1;omega)⟩
 refine ⟨h.but.trans hb,(hb.block _ (blk h.z).1 (by omega)).trans h.z,(hb.block _ (blk h.b).1 (by omega)).trans h.b,⟨h1,h2,Nat.le_trans h3 hb.size,h4⟩,?_,h.len,h.all,fun j y t hy ht=>hk _ _ _ _ _ _ (h.tr j y t hy ht) hst fun _ h=>h,h.inn.keep hst fun _ h=>h⟩
 obtain ⟨h5,h6 | ⟨g,cap,cur,e,hB,hc,hr⟩⟩:=h.own
 ·exact ⟨h5,.inl h6⟩
 ·exact ⟨h5,.inr ⟨g,cap,cur,e,hB,(hb.block _ (blk hc).1 (by omega)).trans hc,hr⟩⟩
theorem GI.row (hk:∀ (w w':World) (P P':Nat→Prop) cs t,El w P cs t→StaysP P w w'→(∀ b,P b→P' b)→El w' P' cs t) (h:GI El d x fo ty k w r Xp B0 v l vs V) (hl:l.length≤1000000):RowP V k (fun b=>w.heap.size+2≤b) v l.length fun j cs=>∀ t,l[j]?=some t→El V (fun b=>w.heap.size+2≤b) cs t:=by
 obtain ⟨o1,o2,o3,o4⟩:=h.ord
 rcases Nat.eq_zero_or_pos l.length with h0 | hp
 ·obtain ⟨h1,h2 | ⟨g,cap,cur,e,hB,hc,hle,hm,hsz,htk⟩⟩:=h.own
  ·rw [h2.1,h0]
   exact ⟨none,0,rfl,Nat.le_refl _,by omega,fun h=>absurd rfl h⟩
  ·rw [e,h0]
   exact ⟨_,cap,rfl,by omega,by omega,fun h=>absurd rfl h⟩
 ·obtain ⟨g,cap,e,hg1,hg2⟩:=h.own.form hp
  have hc:=h.own.cells (g:=g) (by rw [e];rfl)
  have hcap:l.length≤cap:=by
   obtain ⟨-,h1 | ⟨g',c',cur,e2,-,-,h2,-⟩⟩:=h.own
   ·exact absurd h1.2 (by omega)
   ·rw [e] at e2
    obtain ⟨-,rfl⟩:g=g'∧cap=c':=by simpa using e2
    exact h2
  refine ⟨some ⟨g,0,none⟩,cap,e,hcap,hl,fun _=>⟨g,0,rfl,by omega,hg2,fun j hj => ?_⟩⟩
  obtain ⟨y,hy⟩:∃ y,vs[j]?=some y:=⟨_,List.getElem?_eq_getElem (by rw [h.len];exact hj)⟩
  refine ⟨y,fun m u hu => ?_,fun t ht=>hk _ _ _ _ _ _ (h.tr j y t hy ht) ⟨Nat.le_refl _,fun _ _ _=>rfl⟩ fun b hb=>hb.1⟩
  have:=hc (j * k+m) u (flat_k vs j y h.all hy m u hu)
  rw [Nat.zero_add]
  rw [addr0] at this
  exact this
theorem GI.more {m c cap g:Nat} {a:Option Addr} {V9 w7 V8 wa:World} {t7:α} {cs:List Value} {P7:Nat→Prop} {o:Obj} (hk:∀ (w w':World) (P P':Nat→Prop) cs t,El w P cs t→StaysP P w w'→(∀ b,P b→P' b)→El w' P' cs t) (hbd:∀ (w:World) (P:Nat→Prop) cs t,El w P cs t→El w (fun b=>P b∧b<w.heap.size) cs t)
  (h:GI El d x fo ty k w r Xp B0 (.slice a m c) l vs V9) (hb7:But r V9 w7) (hcs:cs.length=k) (hv7:El w7 P7 cs t7) (hP7:∀ b,b<w7.heap.size→P7 b→w.heap.size+2≤b∧¬ Xp b∧(Value.slice a m c).ownBlock≠some b)
  (h8:∀ j,j<w7.heap.size→¬ Xp j→V8.heap[j]?=w7.heap[j]?) (hs8:w7.heap.size≤V8.heap.size) (hos:V8.os=w7.os∧V8.tape=w7.tape∧V8.output=w7.output)
  (hoa:wa.ownsRow B0 ty k (.slice (some ⟨g,0,none⟩) (l.length+1) cap) (l.length+1) (vs.flatten++cs)) (hga:(V8.alloc o).grownBy wa (Value.slice a m c).ownBlock) (hwa:(Value.slice a m c).ownBlock=some g∨g=V8.heap.size+1) :
  GI El d x fo ty k w r Xp B0 (.slice (some ⟨g,0,none⟩) (l.length+1) cap) (l++[t7]) (vs++[cs]) (wa.setCell ⟨w.heap.size+1,fo,none⟩ (.slice (some ⟨g,0,none⟩) (l.length+1) cap))∧wa.heap[w.heap.size+1]?=some (.cells ((deCells d x).set fo (.slice a m c)).toArray 56)∧∀ j,j<w.heap.size→(wa.setCell ⟨w.heap.size+1,fo,none⟩ (.slice (some ⟨g,0,none⟩) (l.length+1) cap)).heap[j]?=w7.heap[j]?:=by
 obtain ⟨o1,o2,o3,o4⟩:=h.ord
 have hs97:=hb7.size
 have hlt9:=h.own.lt
 have hsa:w7.heap.size≤wa.heap.size:=by have:=hga.size;simp at this;omega
 have hblk:∀ j,j<w7.heap.size→¬ Xp j→(Value.slice a m c).ownBlock≠some j→wa.heap[j]?=w7.heap[j]?:=fun j hj hx hne=>by
  rw [hga.block j (by simp;omega) (fun e=>hne e.symm)]
  exact (((Below.refl _ V8).alloc (Nat.le_refl _) _).block j (by omega)).trans (h8 j hj hx)
 have hlo:∀ j,j<B0→(Value.slice a m c).ownBlock≠some j:=fun j hj e=>by have:=(hlt9 j e).1;omega
 have hxlo:∀ j,j<w.heap.size+2→¬ Xp j:=fun j hj hx=>by have:=(o4 j hx).2;omega
 have hbw7:=h.but.trans hb7
 have hset:∀ j,j≠w.heap.size+1→(wa.setCell ⟨w.heap.size+1,fo,none⟩ (.slice (some ⟨g,0,none⟩) (l.length+1) cap)).heap[j]?=wa.heap[j]?:=fun j hj=>Below.heap_setCell wa ⟨w.heap.size+1,fo,none⟩ _ j hj
 have hz9:=(blk h.z).1
 have hb9:=(blk h.b).1
 have hba:=(hblk (w.heap.size+1) (by omega) (hxlo _ (by omega)) (hlo _ (by omega))).trans ((hb7.block _ hb9 (by omega)).trans h.b)
 have hza:=(hblk w.heap.size (by omega) (hxlo _ (by omega)) (hlo _ (by omega))).trans ((hb7.block _ hz9 (by omega)).trans h.z)
 have hbwa:But r w wa:=⟨hga.os.trans (hos.1.trans hbw7.os),hga.tape.trans (hos.2.1.trans hbw7.tape),hga.output.trans (hos.2.2.trans hbw7.output),Nat.le_trans hbw7.size hsa,fun j hj hne=>(hblk j (Nat.lt_of_lt_of_le hj hbw7.size) (hxlo j (by omega)) (hlo j (by omega))).trans (hbw7.block j hj hne)⟩
 have hgne:∀ b,b<w7.heap.size→(Value.slice a m c).ownBlock≠some b→(Value.slice (some ⟨g,0,none⟩) (l.length+1) cap).ownBlock≠some b:=fun b hb hne e=>by
  have e2:g=b:=by simpa [Value.ownBlock] using e
  rcases hwa with hw | hw
  ·exact hne (by rw [hw,e2])
  ·omega
 have st97:StaysP (fun b=>(w.heap.size+2≤b∧¬ Xp b∧(Value.slice a m c).ownBlock≠some b)∧b<V9.heap.size) V9 w7:=⟨hs97,fun j hj hs=>hb7.block j hs (by have:=hj.1.1;omega)⟩
 have st7a:StaysP (fun b=>(w.heap.size+2≤b∧¬ Xp b∧(Value.slice a m c).ownBlock≠some b)∧b<w7.heap.size) w7 wa:=⟨hsa,fun j hj hs=>hblk j hs hj.1.2.1 hj.1.2.2⟩
 have stas:StaysP (fun b=>w.heap.size+2≤b∧¬ Xp b∧(Value.slice (some ⟨g,0,none⟩) (l.length+1) cap).ownBlock≠some b) wa (wa.setCell ⟨w.heap.size+1,fo,none⟩ (.slice (some ⟨g,0,none⟩) (l.length+1) cap)):=⟨by simp,fun j hj _=>hset j (by have:=hj.1;omega)⟩
 have p97:∀ b,((w.heap.size+2≤b∧¬ Xp b∧(Value.slice a m c).ownBlock≠some b)∧b<V9.heap.size)→((w.heap.size+2≤b∧¬ Xp b∧(Value.slice a m c).ownBlock≠some b)∧b<w7.heap.size):=fun b hb=>⟨hb.1,by have:=hb.2;omega⟩
 have p7a:∀ b,((w.heap.size+2≤b∧¬ Xp b∧(Value.slice a m c).ownBlock≠some b)∧b<w7.heap.size)→(w.heap.size+2≤b∧¬ Xp b∧(Value.slice (some ⟨g,0,none⟩) (l.length+1) cap).ownBlock≠some b):=fun b hb=>⟨hb.1.1,hb.1.2.1,hgne b hb.2 hb.1.2.2⟩
 refine ⟨⟨but_new hbwa (by omega) _ _,(hset _ (by omega)).trans hza,?_,⟨o1,o2,by simp;omega,o4⟩,?_,by simp [h.len],?_,?_,((h.inn.bnd.keep st97 p97).keep st7a p7a).keep stas fun _ h=>h⟩,hba,fun j hj=>(hset j (by omega)).trans (hblk j (by omega) (hxlo j (by omega)) (hlo j (by omega)))⟩
 ·rw [set_block hba]
  simp [List.set_set]
 ·have h2:=ownsRow_setCell_below hoa (a:=⟨w.heap.size+1,fo,none⟩) (by show w.heap.size+1<B0;omega) (.slice (some ⟨g,0,none⟩) (l.length+1) cap)
  simpa using h2
 ·intro y hy
  rcases List.mem_append.1 hy with hy | hy
  ·exact h.all y hy
  ·obtain rfl:=List.mem_singleton.1 hy
   exact hcs
 ·intro j y t' hy ht
  rcases Nat.lt_or_ge j l.length with hj | hj
  ·rw [List.getElem?_append_left (by rw [h.len];exact hj)] at hy
   rw [List.getElem?_append_left hj] at ht
   exact hk _ _ _ _ _ _ (hk _ _ _ _ _ _ (hk _ _ _ _ _ _ (hbd _ _ _ _ (h.tr j y t' hy ht)) st97 p97) st7a p7a) stas fun _ h=>h
  ·have hjl:j=l.length:=by
    have:=(List.getElem?_eq_some_iff.1 ht).1
    simp at this
    omega
   subst hjl
   rw [List.getElem?_append_right (by rw [h.len];exact Nat.le_refl _),h.len,Nat.sub_self] at hy
   rw [List.getElem?_append_right (Nat.le_refl _),Nat.sub_self] at ht
   obtain rfl:=Option.some.inj hy
   obtain rfl:=Option.some.inj ht
   exact hk _ _ _ _ _ _ (hk _ _ _ _ _ _ (hbd _ _ _ _ hv7) ⟨hsa,fun j hj hs=>hblk j hs (hP7 j hj.2 hj.1).2.1 (hP7 j hj.2 hj.1).2.2⟩ fun b hb=>⟨(hP7 b hb.2 hb.1).1,(hP7 b hb.2 hb.1).2.1,hgne b hb.2 (hP7 b hb.2 hb.1).2.2⟩) stas fun _ h=>h
end
def dT:Nat→Code→Code
 |0,c=>c
 |k+1,c=>dT k (cQ_ c)
def dR (k:Nat) (f:Func):Code:=dT k (f.body.getD .skip)
section
variable (ts:List (Int×ByteArray×Int))
def endM (d:De) (st:PS):De×PS:=match exD ts (mustD ts ⟨#[105,115]⟩ st) with
 |(t,s)=>({ d with body:=t },mustD ts ⟨#[59,59]⟩ s)
def meaM (d:De) (st:PS):De×PS:=if isD ts ⟨#[100,101,99,114,101,97,115,101,115]⟩ st then (match exD ts (stepD ts st) with
 |(t,s)=>match meaL ts ts.length [t] s with
  |(l,s')=>endM ts { d with mea:=l } s') else endM ts d st
def ensM (d:De) (st:PS):De×PS:=if isD ts ⟨#[101,110,115,117,114,101,115]⟩ st then (match nameD ts (stepD ts st) with
 |(n,s)=>match exD ts (mustD ts ⟨#[46]⟩ s) with
  |(t,s')=>meaM ts { d with res:=n.2.1,ens:=[t] } s') else meaM ts d st
def reqM (d:De) (st:PS):De×PS:=if isD ts ⟨#[114,101,113,117,105,114,101,115]⟩ st then (match exD ts (stepD ts st) with
 |(t,s)=>ensM ts { d with req:=[t] } s) else ensM ts d st
def typM (d:De) (st:PS):De×PS:=match typD ts st with
 |(t,s)=>reqM ts { d with t:=t } s
end
end Go.Proofs.YtfkfnbehdcmgeaaGreatDoor
