/- The package-level variables that the rows list, as the walks want them: the signs, errors.errorType, the two tables of unicode/utf8. -/
import Derived.Test.YtfkfnbehdcmgeaaGreatDoorZAX
import Derived.Test.YtfkfnbehdcmgeaaGreatDoorZBE
import Derived.Test.YtfkfnbehdcmgeaaGreatDoorZBA
import Derived.Test.YtfkfnbehdcmgeaaGreatDoorRows
import Derived.Test.YtfkfnbehdcmgeaaGreatDoorZAB
import Derived.Lib.LaidU8T
import Derived.LaidHandle
import Derived.LaidLaws
import Derived.OpenShut
import Derived.ChangeArms
set_option linter.unusedVariables false
set_option linter.unusedSimpArgs false
namespace Go.Proofs.YtfkfnbehdcmgeaaGreatDoor
open Go Go.RowKit
set_option maxRecDepth 100000 in
set_option maxHeartbeats 16000000 in
theorem told_errN (a n:Int) (b:Nat) (w:World) (hE:EH w) (hb:w.heap[b]?=some (.cells #[.int .i64 a,.int .i64 n] 66)):Calls Tryz.prog 14 #[.iface 61 (.pointer (some ⟨b,0,none⟩))] w fun e w'=>e = .returned (.tuple #[.int .i64 a,.int .i64 n])∧Below w.heap.size w w':=by
 have hlt:b<w.heap.size:=(Array.getElem?_eq_some_iff.1 hb).1
 have hb0:w.cell? ⟨b,0,none⟩=some (.int .i64 a):=by simp only [World.cell?,hb];rfl
 have hb1:w.cell? ⟨b,1,none⟩=some (.int .i64 n):=by simp only [World.cell?,hb];rfl
 have c:=as_short ⟨b,0,none⟩ ⟨w.heap.size,0,none⟩ (.pointer none) (w.alloc (.cells #[.pointer none] 61)) (hE.below ((Below.refl w.heap.size w).alloc (Nat.le_refl _) _) hE.lt) (by simp) (by simp)
 replace hb:=gh hb
 replace hE:=gh hE
 go_enter Tryz.func14,Tryz.ntmps14
 go_wp2_with (refine c.mono ?_;rintro e W ⟨rfl,c1,c2,c3⟩;have q0:=c2 ⟨b,0,none⟩ (by simp;omega) (by simp;omega);have q1:=c2 ⟨b,1,none⟩ (by simp;omega) (by simp;omega);have hB:=c3 w.heap.size (by simp);rw [World.cell?_alloc_lt _ _ ⟨b,0,none⟩ hlt,hb0] at q0;rw [World.cell?_alloc_lt _ _ ⟨b,1,none⟩ hlt,hb1] at q1;replace c2:=gh c2;replace c3:=gh c3)
 go_quiet (fail)
 go_wp2
 go_ret2
 have h:=((Below.refl w.heap.size w).alloc (Nat.le_refl _) _).trans hB
 exact ⟨rfl,⟨h.os,h.tape,h.output,h.size,h.block⟩⟩
theorem mck_of {p q D:Nat} (hp:p<3) (hq:q<3) (hD:D<3):mck (7+p) (7+q) (99+D)=true:=by
 rcases p with _ | _ | _ | p
 ·rcases q with _ | _ | _ | q
  ·rcases D with _ | _ | _ | D
   ·exact mck_7_7_99
   ·exact mck_7_7_100
   ·exact mck_7_7_101
   ·omega
  ·rcases D with _ | _ | _ | D
   ·exact mck_7_8_99
   ·exact mck_7_8_100
   ·exact mck_7_8_101
   ·omega
  ·rcases D with _ | _ | _ | D
   ·exact mck_7_9_99
   ·exact mck_7_9_100
   ·exact mck_7_9_101
   ·omega
  ·omega
 ·rcases q with _ | _ | _ | q
  ·rcases D with _ | _ | _ | D
   ·exact mck_8_7_99
   ·exact mck_8_7_100
   ·exact mck_8_7_101
   ·omega
  ·rcases D with _ | _ | _ | D
   ·exact mck_8_8_99
   ·exact mck_8_8_100
   ·exact mck_8_8_101
   ·omega
  ·rcases D with _ | _ | _ | D
   ·exact mck_8_9_99
   ·exact mck_8_9_100
   ·exact mck_8_9_101
   ·omega
  ·omega
 ·rcases q with _ | _ | _ | q
  ·rcases D with _ | _ | _ | D
   ·exact mck_9_7_99
   ·exact mck_9_7_100
   ·exact mck_9_7_101
   ·omega
  ·rcases D with _ | _ | _ | D
   ·exact mck_9_8_99
   ·exact mck_9_8_100
   ·exact mck_9_8_101
   ·omega
  ·rcases D with _ | _ | _ | D
   ·exact mck_9_9_99
   ·exact mck_9_9_100
   ·exact mck_9_9_101
   ·omega
  ·omega
 ·omega
set_option maxRecDepth 100000 in
set_option maxHeartbeats 16000000 in
theorem many_walk (a b c:Int) (w:World) (hG:SG w) (hE:EH w) (hU:Lib.Utf8Tabs 2 3 w):Calls Tryz.prog 7 #[.int .i64 a,.int .i64 b,.int .i64 c] w fun e w'=>e = .returned (.bool true)∧Below w.heap.size w w':=by
 obtain ⟨i,hi,hi3⟩:∃ k:Nat,plc a 3=(k:Int)∧k<3:=⟨(plc a 3).toNat,by have:=plc_in a (n:=3) (by omega);omega,by have:=plc_in a (n:=3) (by omega);omega⟩
 obtain ⟨j,hj,hj3⟩:∃ k:Nat,plc b 3=(k:Int)∧k<3:=⟨(plc b 3).toNat,by have:=plc_in b (n:=3) (by omega);omega,by have:=plc_in b (n:=3) (by omega);omega⟩
 obtain ⟨k,hk,hk3⟩:∃ k:Nat,plc c 3=(k:Int)∧k<3:=⟨(plc c 3).toNat,by have:=plc_in c (n:=3) (by omega);omega,by have:=plc_in c (n:=3) (by omega);omega⟩
 have hP1:=fun W=>place_any a 3 W (by omega) (by omega)
 have hP2:=fun W=>place_any b 3 W (by omega) (by omega)
 have hP3:=fun W=>place_any c 3 W (by omega) (by omega)
 rw [hi] at hP1
 rw [hj] at hP2
 rw [hk] at hP3
 replace hP1:=gh hP1
 replace hP2:=gh hP2
 replace hP3:=gh hP3
 have h1w:=hG.lt
 have h3w:=u8_lt hU
 have C0:=gh (known15_any w hG hE)
 have HGE:=gh (And.intro hG (And.intro hE (And.intro hU (And.intro h1w h3w))))
 have gi:(i:Int)<3:=by omega
 have gi0:(0:Int)≤(i:Int):=by omega
 have gj:(j:Int)<3:=by omega
 have gj0:(0:Int)≤(j:Int):=by omega
 have gk:(k:Int)<3:=by omega
 have gk0:(0:Int)≤(k:Int):=by omega
 have HK:=gh (And.intro hi3 (And.intro hj3 hk3))
 clear hi hj hk hG hE hU h1w h3w hi3 hj3 hk3
 go_enter Tryz.func7,Tryz.ntmps7
 generalize hQQ:bodyPost Tryz.prog Tryz.f7 (fun e w'=>e = .returned (.bool true)∧Below w.heap.size w w')=QQ
 have HQQ:=gh hQQ
 clear hQQ
 go_wp2_with fail
 refine (gf C0).mono ?_
 rintro e w1 ⟨rfl,hb1⟩
 have HB1:=gh hb1
 clear C0 hb1
 go_wp2_with fail
 refine (gf hP1 _).mono ?_
 rintro e w2 ⟨rfl,rfl⟩
 go_wp2_with fail
 refine (gf hP2 _).mono ?_
 rintro e w2 ⟨rfl,rfl⟩
 go_wp2_with fail
 refine (gf hP3 _).mono ?_
 rintro e w2 ⟨rfl,rfl⟩
 obtain ⟨D,hD⟩:∃ n,n=99+i:=⟨_,rfl⟩
 obtain ⟨p,hp⟩:∃ n,n=7+j:=⟨_,rfl⟩
 obtain ⟨q,hq⟩:∃ n,n=7+k:=⟨_,rfl⟩
 have eD:(99:Int)+(i:Int)=(D:Int):=by omega
 have ep:(7:Int)+(j:Int)=(p:Int):=by omega
 have eq:(7:Int)+(k:Int)=(q:Int):=by omega
 have HM:Hid (mck p q D=true):=by
  show _=_
  rw [hD,hp,hq]
  exact mck_of (gf HK).2.1 (gf HK).2.2 (gf HK).1
 have HR:Hid (D≤101∧99≤D∧p≤9∧7≤p∧q≤9∧7≤q):=⟨by omega,by omega,by omega,by omega,by omega,by omega⟩
 have gD:(D:Int)≤101:=by omega
 have gD0:(99:Int)≤(D:Int):=by omega
 have gp:(p:Int)≤9:=by omega
 have gp0:(7:Int)≤(p:Int):=by omega
 have gq:(q:Int)≤9:=by omega
 have gq0:(7:Int)≤(q:Int):=by omega
 clear hD hp hq hP1 hP2 hP3
 go_wp2_with fail
 try simp only [eD,ep,eq]
 clear eD ep eq gi gi0 gj gj0 gk gk0
 go_loopw [7,8] (fun tv iv wr=>∃ (u:Nat) (U:ByteArray),u≤p∧iv = .int .i64 u∧tv = .string U∧Hid (U=⟨#[108,101,116,32,102]⟩++rpB u paL)∧wr=w2) (fun _ iv _=>p - (intOf iv).toNat)
 case atStart=>exact ⟨0,_,Nat.zero_le _,rfl,rfl,rfl,rfl⟩
 case round =>
  obtain ⟨u,U,hu0,rfl,rfl,hU,rfl⟩:=hrel
  have hUs:Hid (U.size≤100):=by
   show _≤_
   rw [gf hU,ByteArray.size_append,rpB_size]
   have h1:(⟨#[108,101,116,32,102]⟩:ByteArray).size=5:=rfl
   have h2:paL.length=10:=rfl
   have h3:=(gf HR).2.2.1
   rw [h1,h2]
   omega
  have gu0:(0:Int)≤(u:Int):=by omega
  by_cases hu:u<p
  ·have gu:(u:Int)<(p:Int):=by omega
   have hov:(9223372036854775807<U.size+10)=False:=by simp;have:=gf hUs;omega
   replace hu0:=gh hu0
   have huN:=hu
   clear hu
   go_wp2
   refine ⟨⟨u+1,_,by omega,by simp,rfl,?_,(by first | rfl | trivial)⟩,?_⟩
   ·show _=_
    rw [gf hU,ByteArray.append_assoc]
    exact congrArg (fun x=>_++x) (rpB_succ u paL)
   ·simp [intOf];omega
  ·obtain rfl:u=p:=by omega
   have hov:(9223372036854775807<U.size+17)=False:=by simp;have:=gf hUs;omega
   have hBA:∃ X:ByteArray,X=⟨#[108,101,116,32,102]⟩++rpB u paL++⟨hdL.toArray⟩:=⟨_,rfl⟩
   obtain ⟨XA,hXA⟩:=hBA
   have hXs:Hid (XA.size≤117):=by
    show _≤_
    rw [hXA,←gf hU,ByteArray.size_append]
    have h1:=gf hUs
    have h2:(⟨hdL.toArray⟩:ByteArray).size=17:=rfl
    omega
   have HXA:=gh hXA
   clear hu hXA
   go_wp2_with fail
   go_loopw [7,9] (fun tv iv wr2=>∃ (v:Nat) (V:ByteArray),v≤q∧iv = .int .i64 v∧tv = .string V∧Hid (V=XA++argB v)∧wr2=wr) (fun _ iv _=>q - (intOf iv).toNat)
   case atStart =>
    refine ⟨0,_,Nat.zero_le _,rfl,rfl,?_,rfl⟩
    show _=_
    rw [gf HXA,←gf hU]
    have e0:argB 0=ByteArray.empty:=rfl
    rw [e0,ByteArray.append_empty]
    rfl
   case round =>
    obtain ⟨v,V,hv0,rfl,rfl,hV,rfl⟩:=hrel
    have hVs:Hid (V.size≤140):=by
     show _≤_
     rw [gf hV,ByteArray.size_append]
     have h1:=gf hXs
     have h2:=argB_size v
     have h3:=(gf HR).2.2.2.2.1
     omega
    have gv0:(0:Int)≤(v:Int):=by omega
    by_cases hv:v<q
    ·have gv:(v:Int)<(q:Int):=by omega
     have hov1:(9223372036854775807<V.size+1)=False:=by simp;have:=gf hVs;omega
     have hov2:(9223372036854775807<V.size+1+1)=False:=by simp;have:=gf hVs;omega
     replace hv0:=gh hv0
     have hvN:=hv
     clear hv
     rcases v with _ | v
     ·go_wp2
      refine ⟨⟨1,_,by omega,by simp,rfl,?_,(by first | rfl | trivial)⟩,?_⟩
      ·show _=_
       rw [gf hV]
       exact argB_first XA
      ·first | (simp [intOf];done) | (simp [intOf];omega)
     ·have gv1:(0:Int)<((v+1:Nat):Int):=by omega
      have gv2:decide ((0:Int)<((v+1:Nat):Int))=true:=decide_eq_true (by omega)
      obtain ⟨v1,hv1⟩:∃ x,v+1=x:=⟨_,rfl⟩
      rw [hv1] at gv1 gv2 gv gv0 hvN
      have HV1:=gh hv1
      try rw [hv1]
      clear hv1
      go_wp2
      refine ⟨⟨v1+1,_,by omega,by simp,rfl,?_,(by first | rfl | trivial)⟩,?_⟩
      ·show _=_
       rw [gf hV,←gf HV1]
       exact argB_next XA v
      ·simp [intOf];omega
    ·obtain rfl:v=q:=by omega
     have hov1:(9223372036854775807<V.size+3)=False:=by simp;have:=gf hVs;omega
     have hBB:∃ X:ByteArray,X=XA++argB v++⟨#[41,59,59]⟩:=⟨_,rfl⟩
     obtain ⟨XB,hXB⟩:=hBB
     have hXBs:Hid (XB.size≤143):=by
      show _≤_
      rw [hXB,←gf hV,ByteArray.size_append]
      have h1:=gf hVs
      have h2:(⟨#[41,59,59]⟩:ByteArray).size=3:=rfl
      omega
     have HXB:=gh hXB
     clear hv hXB
     go_wp2_with fail
     go_loopw [7,10] (fun tv iv wr2=>∃ (x:Nat) (X:ByteArray),1≤x∧x≤D∧iv = .int .i64 x∧tv = .string X∧Hid (X=XB++rpB (x - 1) reL)∧wr2=wr) (fun _ iv _=>D - (intOf iv).toNat)
     case atStart =>
      refine ⟨1,_,Nat.le_refl _,by have:=(gf HR).2.1;omega,rfl,rfl,?_,rfl⟩
      show _=_
      rw [gf HXB,←gf hV]
      have e0:rpB (1 - 1) reL=ByteArray.empty:=rfl
      rw [e0,ByteArray.append_empty]
     case round =>
      obtain ⟨x,X,hx1,hx0,rfl,rfl,hX,rfl⟩:=hrel
      have hXs2:Hid (X.size≤1400):=by
       show _≤_
       rw [gf hX,ByteArray.size_append,rpB_size]
       have h1:=gf hXBs
       have h2:reL.length=12:=rfl
       have h3:=(gf HR).1
       rw [h2]
       omega
      have gx0:(0:Int)≤(x:Int):=by omega
      by_cases hx:x<D
      ·have gx:(x:Int)<(D:Int):=by omega
       have hov1:(9223372036854775807<X.size+12)=False:=by simp;have:=gf hXs2;omega
       replace hx0:=gh hx0
       have hxN:=hx
       replace hx1:=gh hx1
       clear hx
       go_wp2
       refine ⟨⟨x+1,_,by omega,by omega,by simp,rfl,?_,(by first | rfl | trivial)⟩,?_⟩
       ·show _=_
        rw [gf hX,ByteArray.append_assoc]
        have e1:x+1 - 1=(x - 1)+1:=by have:=gf hx1;omega
        rw [e1]
        exact congrArg (fun y=>_++y) (rpB_succ (x - 1) reL)
       ·simp [intOf];omega
      ·obtain rfl:x=D:=by omega
       have hTX:X=txM u v x:=by
        rw [gf hX,gf HXB,gf HXA]
        rfl
       obtain ⟨hG,hE,hUt,h1w,h3w⟩:=gf HGE
       have hB1:=gf HB1
       have hG1:=hG.below hB1 h1w
       have hRR:=gf HR
       have hs:szM u v x≤65536:=by unfold szM;omega
       rcases mck_ok (by omega) hs (gf HM) with ⟨hok,l,e1,e2⟩ | ⟨hok,pa,e1,e2⟩
       ·rw [←hTX] at e1 e2
        have C1:=gh (pprog_any X wr hG1)
        unfold ProgP at C1
        rw [e1] at C1
        have HE2:=gh e2
        unfold okM at hok
        simp only [Bool.and_eq_true,decide_eq_true_eq] at hok
        have gd1:(x:Int)≤100:=by omega
        have gp1:(u:Int)≤8:=by omega
        have gq1:(v:Int)≤8:=by omega
        clear e1 e2 hTX hok hG hE hUt h1w h3w hB1 hG1 hRR hs hx hx1 hx0 hX hXs2 hV hVs hU hUs hXs hXBs
        go_wp2_with fail
        refine (gf C1).mono ?_
        rintro e w4 ⟨hb4,v4,rfl,hv4⟩
        have HB4:=gh ((gf HB1).trans (hb4.mono (gf HB1).size))
        have HV4:=gh hv4.toP
        have C2:=gh (told_nil w4)
        clear C1 hb4 hv4
        go_wp2_with fail
        refine (gf C2).mono ?_
        rintro e w5 ⟨rfl,rfl⟩
        have C3:=gh (rprog_any X w5 (u8_below (gf HGE).2.2.1 (gf HB4) (gf HGE).2.2.2.2))
        unfold RProgP at C3
        rw [gf HE2] at C3
        clear C2 HE2
        go_wp2_with fail
        refine (gf C3).mono ?_
        rintro e w6 ⟨hb6,v6,rfl,hv6⟩
        have HB6:=gh ((gf HB4).trans (hb6.mono (gf HB4).size))
        have C4:=gh (decls_same (RowP.keep (P':=fun b=>wr.heap.size≤b∧b<w5.heap.size) (RowP.bnd (gf HV4) fun j cs h t ht=>(h t ht).bnd) ⟨hb6.size,fun k hk _=>hb6.block k hk.2⟩ (fun _ h=>h) fun j cs h t ht=>(h t ht).keep ⟨hb6.size,fun k hk _=>hb6.block k hk.2⟩ fun _ h=>h) hv6.toP)
        clear C3 hb6 hv6 HV4
        go_wp2_with fail
        refine (gf C4).mono ?_
        rintro e w7 ⟨rfl,hb7⟩
        have HF:=gh ((gf HB6).trans (hb7.mono (gf HB6).size))
        clear C4 hb7
        go_wp2
        rw [←gf HQQ]
        exact bodyPost_ret (res_t rfl rfl) rfl ⟨rfl,gf HF⟩
       ·rw [←hTX] at e1 e2
        have C1:=gh (pprog_any X wr hG1)
        unfold ProgP at C1
        rw [e1] at C1
        have HE2:=gh e2
        have HOK:=gh hok
        clear e1 e2 hTX hok hG hE hUt h1w h3w hB1 hG1 hRR hs hx hx1 hx0 hX hXs2 hV hVs hU hUs hXs hXBs
        go_wp2_with fail
        refine (gf C1).mono ?_
        rintro e w4 ⟨hb4,v4,rfl,pb,rfl,hp⟩
        have HB4:=gh ((gf HB1).trans (hb4.mono (gf HB1).size))
        have hEB:EH w4:=(gf HGE).2.1.below (gf HB4) (gf HGE).2.1.lt
        have C2:=gh (told_errN pa 152 pb w4 hEB hp)
        clear C1 hb4 hp hEB
        go_wp2_with fail
        refine (gf C2).mono ?_
        rintro e w5 ⟨rfl,hb5⟩
        have HB5:=gh ((gf HB4).trans (hb5.mono (gf HB4).size))
        have C3:=gh (rprog_any X w5 (u8_below (gf HGE).2.2.1 (gf HB5) (gf HGE).2.2.2.2))
        unfold RProgP at C3
        rw [gf HE2] at C3
        clear C2 HE2 hb5
        go_wp2_with fail
        refine (gf C3).mono ?_
        rintro e w6 ⟨hb6,rfl⟩
        have HB6:=gh ((gf HB5).trans (hb6.mono (gf HB5).size))
        have C4:=gh (decls_nil w6 none none 0 0)
        clear C3 hb6
        go_wp2_with fail
        refine (gf C4).mono ?_
        rintro e w7 ⟨rfl,hb7⟩
        have HF:=gh ((gf HB6).trans (hb7.mono (gf HB6).size))
        clear C4 hb7
        have hok:=gf HOK
        unfold okM at hok
        by_cases cD:(x:Int)≤100
        ·by_cases cp:(u:Int)≤8
         ·have cq:¬ (v:Int)≤8:=by
           intro cq
           have h1:decide (x≤100)=true:=decide_eq_true (by omega)
           have h2:decide (u≤8)=true:=decide_eq_true (by omega)
           have h3:decide (v≤8)=true:=decide_eq_true (by omega)
           rw [h1,h2,h3] at hok
           cases hok
          have cq2:decide ((v:Int)≤8)=false:=decide_eq_false cq
          clear hok
          go_wp2
          rw [←gf HQQ]
          exact bodyPost_ret (res_t rfl rfl) rfl ⟨rfl,gf HF⟩
         ·have cp2:decide ((u:Int)≤8)=false:=decide_eq_false cp
          clear hok
          go_wp2
          rw [←gf HQQ]
          exact bodyPost_ret (res_t rfl rfl) rfl ⟨rfl,gf HF⟩
        ·have cD2:decide ((x:Int)≤100)=false:=decide_eq_false cD
         clear hok
         go_wp2
         rw [←gf HQQ]
         exact bodyPost_ret (res_t rfl rfl) rfl ⟨rfl,gf HF⟩
theorem la_et : Tryz.prog.globalNamed "errors.errorType" = some 0 := by kernel_rfl
theorem la_rt : (Tryz.prog.cutTypes.find? (·.1 == "internal/reflectlite.rtype")).map (·.2) = some 114 := by kernel_rfl
theorem la_one:((List.range Tryz.prog.types.size).filter fun t=>Tryz.prog.rowNamed t [101,114,114,111,114])=[25]:=by kernel_rfl
theorem eh_of {W : World} (h : handlesMet Tryz.prog [("errors.errorType", Rows.laid_errors_errorType)] W) : EH W := by
 obtain ⟨name,u,ty,e1,e2,e3,e4,e5⟩:=h _ (List.mem_singleton.2 rfl)
 have en:name=[101,114,114,111,114]:=(Option.some.inj e1).symm
 subst en
 obtain rfl:=Option.some.inj (la_rt.symm.trans e2)
 have hm:ty∈(List.range Tryz.prog.types.size).filter fun t=>Tryz.prog.rowNamed t [101,114,114,111,114]:=List.mem_filter.2 ⟨List.mem_range.2 e3,e4⟩
 rw [la_one] at hm
 obtain rfl:=List.mem_singleton.1 hm
 have hh:typeHandle Tryz.prog 25 = .pointer (some ⟨4,25,none⟩):=by kernel_rfl
 rw [hh] at e5
 have:=World.var?_cell la_et e5 0
 simpa [EH] using this
theorem la_sg : Tryz.prog.globalNamed "avow/lex.signs" = some 1 := by kernel_rfl
theorem la_st:(Tryz.prog.globals[1]?).map (·.type)=some 139:=by kernel_rfl
theorem la_arr:Tryz.prog.underlying 139=some (.array 25 9):=by kernel_rfl
theorem la_ca:Tryz.prog.cellsOf 139=25:=by kernel_rfl
theorem la_ce:Tryz.prog.cellsOf 9=1:=by kernel_rfl
theorem la_data:(Rows.laid_avow_lex_signs:DataW Unit) = .agg ((List.range 25).map fun k => .lit (.string (sgB k).data.toList)):=by kernel_rfl
theorem sg_of {W : World} (h : Lib.VarReads Tryz.prog W "avow/lex.signs" Rows.laid_avow_lex_signs) : SG W := by
 obtain ⟨g,t,cs,fuel,p,hg,hty,hvar,hd⟩:=h
 obtain rfl:=Option.some.inj (la_sg.symm.trans hg)
 obtain rfl:=Option.some.inj (la_st.symm.trans hty)
 obtain ⟨xs,m,_,hx,hl,hxl,hall⟩:=DataW.trod_array la_arr hd
 rw [la_ca] at hl
 have hxs:xs.map (·.1)=(List.range 25).map fun k=>(.lit (.string (sgB k).data.toList):DataW Unit):=by
  have:=congrArg Prod.fst hx
  simp only [la_data] at this
  injection this with this
  exact this.symm
 have hcs:cs.toList=signV:=by
  apply List.ext_getElem?
  intro i
  by_cases hi:i<25
  ·have h1:=hall i hi
   obtain ⟨b,hb⟩:∃ b,xs[i]?=some b:=⟨xs[i]'(by omega),List.getElem?_eq_getElem (by omega)⟩
   rw [hb,la_ce] at h1
   obtain ⟨z,hcz,rfl,_⟩:=DataW.trod_string (P:=Tryz.prog) (t:=9) (by kernel_rfl) h1
   have h2:cs.toList[i]?=some (.string z):=by
    have:=congrArg (·[0]?) hcz
    simpa [List.getElem?_take,List.getElem?_drop] using this
   have h3:(xs.map (·.1))[i]?=some (.lit (.string z.data.toList):DataW Unit):=by simp [hb]
   rw [hxs,List.getElem?_map,List.getElem?_range hi] at h3
   simp only [Option.map_some,Option.some.injEq,DataW.lit.injEq,Lit.string.injEq] at h3
   have hz:z=sgB i:=by
    cases z with
    |mk z =>
     obtain ⟨y,hy⟩:∃ y,sgB i=y:=⟨_,rfl⟩
     rw [hy] at h3 ⊢
     cases y with
     |mk y=>simp only at h3;rw [Array.toList_inj.1 h3.symm]
   rw [h2,hz]
   unfold signV
   rw [List.getElem?_map,List.getElem?_range hi]
   rfl
  ·rw [List.getElem?_eq_none (by omega),List.getElem?_eq_none (by simp [signV];omega)]
 unfold World.var? at hvar
 rw [la_sg] at hvar
 simp only [Option.bind_some] at hvar
 split at hvar
 ·rename_i c t fr hh
  obtain rfl:=Option.some.inj hvar
  refine ⟨t,fr,?_⟩
  rw [←hcs]
  simpa using hh
 ·cases hvar
theorem u8x:U8Extra Tryz.prog Tryz.lays197_ren:={ n3:=by kernel_rfl,n4:=by kernel_rfl,y3:=by kernel_rfl,y4:=by kernel_rfl,c5:=by kernel_rfl,c119:=by kernel_rfl,c138:=by kernel_rfl }
theorem u8t:U8Types Tryz.prog Tryz.lays197_ren:={ Tryz.lays197 with }
theorem first_data:(Rows.laid_unicode_utf8_first:DataW Unit)=Lib.firstData:=by kernel_rfl
theorem acc_data:(Rows.laid_unicode_utf8_acceptRanges:DataW Unit)=Lib.acceptData:=by kernel_rfl
theorem u8_of {W : World} (h1 : Lib.VarReads Tryz.prog W "unicode/utf8.first" Rows.laid_unicode_utf8_first) (h2 : Lib.VarReads Tryz.prog W "unicode/utf8.acceptRanges" Rows.laid_unicode_utf8_acceptRanges) : Lib.Utf8Tabs 2 3 W := by
 rw [first_data] at h1
 rw [acc_data] at h2
 exact utf8Tabs_of_readsT u8t u8x h1 h2
theorem four_of {W : World} (h : laidMetH Tryz.prog [("unicode/utf8.acceptRanges", Rows.laid_unicode_utf8_acceptRanges), ("errors.errorType", Rows.laid_errors_errorType), ("avow/lex.signs", Rows.laid_avow_lex_signs), ("unicode/utf8.first", Rows.laid_unicode_utf8_first)] W) : SG W ∧ EH W ∧ Lib.Utf8Tabs 2 3 W := by
 have h' : laidMet Tryz.prog [("unicode/utf8.acceptRanges", Rows.laid_unicode_utf8_acceptRanges), ("avow/lex.signs", Rows.laid_avow_lex_signs), ("unicode/utf8.first", Rows.laid_unicode_utf8_first)] W ∧ handlesMet Tryz.prog [("errors.errorType", Rows.laid_errors_errorType)] W := h
 exact ⟨sg_of (Lib.laidMet.reads h'.1 (by simp)),eh_of h'.2,u8_of (Lib.laidMet.reads h'.1 (by simp)) (Lib.laidMet.reads h'.1 (by simp))⟩
end Go.Proofs.YtfkfnbehdcmgeaaGreatDoor
