/- The statements of package parse: known. -/
import Derived.Test.YtfkfnbehdcmgeaaGreatDoorZBD
import Derived.Test.YtfkfnbehdcmgeaaGreatDoorZAQ
import Derived.Test.YtfkfnbehdcmgeaaGreatDoorZBA
set_option linter.unusedVariables false
set_option linter.unusedSimpArgs false
namespace Go.Proofs.YtfkfnbehdcmgeaaGreatDoor
open Go Go.RowKit
def progRD (s:ByteArray):Except (Int×Int) (List De):=
 match (tk s).2 with
 |some (a,n) => .error (a,n)
 |none=>progD (tkL s)
def RProgP (s:ByteArray) (w:World) (e:Ending) (w':World):Prop:=Below w.heap.size w w' ∧
 match progRD s with
 |.ok l=>∃ v,e = .returned (.tuple #[v,.int .i64 0,.int .i64 0])∧IsDs w' w.heap.size v l
 |.error (i,n)=>e = .returned (.tuple #[.slice none 0 0,.int .i64 i,.int .i64 n])
theorem results_t3 {W:World} {fn:Func} {tmps:Array Value} {t j k:Nat} {v u x:Value} (hf:fn.results = #[.tmp t,.tmp j,.tmp k]) (ht:tmps[t]?=some v) (hj:tmps[j]?=some u) (hk:tmps[k]?=some x):(results fn tmps).run Tryz.prog W = .ok (.tuple #[v,u,x]) W:=by
 simp [results,hf,ht,hj,hk]
theorem below_dn (w:World) (n:Nat):Below w.heap.size w (w.drewN n):=by
 induction n with
 |zero=>exact Below.refl _ w
 |succ n ih=>exact ih.drew
theorem below_of_but {w W V:World} {r:Nat} (h:Below w.heap.size w W) (hb:But r W V) (hr:w.heap.size≤r):Below w.heap.size w V:=below_but hb hr h.size |> h.trans
set_option maxRecDepth 100000 in
set_option maxHeartbeats 16000000 in
theorem rprog_any (s:ByteArray) (w:World) (hU:Lib.Utf8Tabs 2 3 w):Calls Tryz.prog 15 #[.string s] w (RProgP s w):=by
 have HC:=gh (refTokens_any s w hU)
 clear hU
 go_enter Tryz.func15,Tryz.ntmps15
 generalize hQQ:bodyPost Tryz.prog Tryz.f15 (RProgP s w)=QQ
 have HQQ:=gh hQQ
 clear hQQ
 go_wp2_with fail
 refine (gf HC).mono ?_
 intro e w1 h1
 cases hx:(tk s).2 with
 |some er =>
  obtain ⟨a,n⟩:=er
  obtain ⟨hb1,rfl⟩:=rkp_err h1 hx
  have hn:=tk_num hx
  have g1:¬ (n:Int)=0:=by omega
  have g2:((n:Int) == 0)=false:=by simpa using g1
  have g3:decide ((n:Int)=0)=false:=by simpa using g1
  have H1:=gh (And.intro hb1 hx)
  clear hb1 hn h1 hx HC
  go_wp2
  rw [←gf HQQ]
  refine bodyPost_ret (results_t3 rfl rfl rfl rfl) rfl ⟨(gf H1).1,?_⟩
  unfold progRD
  rw [(gf H1).2]
  rfl
 |none =>
  obtain ⟨hb1,g,c,rfl,hg,hc,hcell⟩:=rkp_rd h1 hx
  obtain ⟨B,eB,hbB,hsB,hhB⟩:=box_new w1 #[.slice (some ⟨g,0,none⟩) (tkL s).length c,.int .i64 0,.int .i64 0,.int .i64 0,.int .i64 0] 72
  have hT:=tsok_of s
  have hPD:PD B w1.heap.size (tkL s) ⟨0,0,0⟩ 0:=⟨⟨g,c,hhB,hg,hc,fun j x hx=>range_same (hcell j x hx) (hbB.block g hg)⟩,hT.pos⟩
  have hD:=ddecl_all (r:=w1.heap.size) hT (tkl_sz s)
  have hwB:Below w.heap.size w B:=hb1.trans (hbB.mono hb1.size)
  have hEq:progRD s=progD (tkL s):=by unfold progRD;rw [hx]
  obtain ⟨ts,hts⟩:∃ ts,tkL s=ts:=⟨_,rfl⟩
  rw [hts] at hT hPD hD hEq hcell hhB hc
  obtain ⟨Z,hZ⟩:∃ Z,progLD ts (ts.length+1) [] ⟨0,0,0⟩=Z:=⟨_,rfl⟩
  unfold progD at hEq
  simp only [hZ] at hEq
  obtain ⟨r,hr⟩:∃ r,w1.heap.size=r:=⟨_,rfl⟩
  rw [hr] at hPD hD
  have HPI:Hid (PI B r (.slice none 0 0) [] [] B):=⟨But.refl _ _,by rw [←hr,hsB];omega,own_nil _ _ _ _,rfl,by simp,fun j x t hx=>by simp at hx⟩
  have HW:=gh (And.intro hwB (show w.heap.size≤r by rw [←hr];exact hb1.size))
  have HPD:=gh hPD
  have HD:=gh hD
  have HEB:=gh eB
  have HEQ:=gh hEq
  have HT:=gh hT
  have HZ:=gh hZ
  have HRR:=gh hr
  clear hts hb1 hg hc hcell eB hbB hsB hhB hPD hD hwB hEq hT h1 hx HC hZ hr
  go_wp2_with fail
  rw [gf HEB,gf HRR]
  rename_i KJ hJ
  replace hJ:=gh hJ
  go_loopw [9] (fun v wr=>∃ l vs S n a m c,v = .slice a m c∧Hid (m=l.length∧n+l.length=ts.length+1∧(S.e=0→l.length≤S.i))∧Hid (PI B r (.slice a m c) l vs wr)∧Hid (PD wr r ts S 0)∧Hid (progLD ts n l S=Z)) (fun v _=>ts.length+1 - lenOf (some v))
  case atStart=>exact ⟨[],[],⟨0,0,0⟩,ts.length+1,none,0,0,rfl,⟨rfl,by simp,fun _=>Nat.le_refl _⟩,HPI,HPD,HZ⟩
  case round =>
   obtain ⟨l,vs,S,n,a,m,c,rfl,hl,hPI,hPD,hch⟩:=hrel
   by_cases he:S.e=0
   rotate_left
   ·have HNE0:S.e≠0:=he
    have hZZ:Z=(l,S):=(gf hch).symm.trans (progLD_end fun h=>he h.1)
    clear he hch
    have HPE:=gh (gf hPI).but
    obtain ⟨er,her⟩:∃ er,(S).e=er:=⟨_,rfl⟩
    obtain ⟨ea,hea⟩:∃ ea,(S).a=ea:=⟨_,rfl⟩
    obtain ⟨gg,gc,f0,f1,f2,f3,f4,hcc,hlr,hf,ht⟩:=(gf hPD).facts (Below.refl _ _)
    rw [her] at f2
    rw [hea] at f3
    have hZe:progRD s = .error (ea,er):=by
     have h:=gf HEQ
     rw [hZZ] at h
     rw [if_neg HNE0] at h
     rw [h]
     show Except.error ((S).a,(S).e)=_
     rw [her,hea]
    have HZE:=gh hZe
    rw [her] at HNE0
    have g2:(er == 0)=false:=by simpa using HNE0
    have g3:decide (er=0)=false:=by simpa using HNE0
    clear f0 f1 f4 hcc hf ht hZe her hea HNE0
    go_wp2_with fail
    refine gf hJ _ _ ?_
    go_wp2_with fail
    go_quiet (fail)
    go_wp2
    rw [←gf HQQ]
    have hwB:=gf HW
    have hfin:=below_of_but hwB.1 (gf HPE) hwB.2
    refine bodyPost_ret (results_t3 rfl rfl rfl rfl) rfl ⟨hfin.trans ((below_dn _ _).mono hfin.size),?_⟩
    rw [gf HZE]
    rfl
   ·obtain ⟨gg,gc,f0,f1,f2,f3,f4,hcc,hlr,hf,ht⟩:=(gf hPD).facts (Below.refl _ _)
    rw [he] at f2
    have HE0:=gh he
    have HC:=gh (dt_any (gf hPD) (gf HT))
    unfold tkV at HC
    obtain ⟨⟨kk,TT,at9⟩,hN⟩:∃ X,tD ts S=X:=⟨_,rfl⟩
    rw [hN] at HC
    have HN:=gh hN
    have hf0:=fld0 (.int .i64 kk) (.string TT) (.int .i64 at9)
    clear f0 f1 f3 f4 hcc hf ht hN he
    go_wp2_with fail
    refine (gf HC).mono ?_
    rintro e w2 ⟨rfl,hb2⟩
    have HI2:=gh ((gf hPI).but' (But.of hb2))
    have HP2:=gh ((gf hPD).keep hb2)
    clear hb2 HC hPI hPD f2 hlr
    by_cases hk:kk=0
    ·have hZZ:Z=(l,S):=(gf hch).symm.trans (progLD_end fun h=>h.2 (by rw [gf HN];exact hk))
     have hq:progRD s = .ok l:=by
      have h:=gf HEQ
      rw [hZZ] at h
      rw [if_pos (show S.e=0 from gf HE0)] at h
      exact h
     have HQR:=gh hq
     obtain ⟨gg,gc,f0,f1,f2,f3,f4,hcc,hlr,hf,ht⟩:=(gf HP2).facts (Below.refl _ _)
     rw [gf HE0] at f2
     have n0:(kk == 0)=true:=by simpa using hk
     have n1:decide (kk=0)=true:=by simpa using hk
     clear f0 f1 f3 f4 hcc hf ht hZZ hq hk hch
     go_wp2_with fail
     refine gf hJ _ _ ?_
     go_wp2
     rw [←gf HQQ]
     have hwB:=gf HW
     have hfin:=below_of_but hwB.1 (gf HI2).but hwB.2
     refine bodyPost_ret (results_t3 rfl rfl rfl rfl) rfl ⟨hfin,?_⟩
     rw [gf HQR]
     exact ⟨_,rfl,((gf HI2).ds (by have h1:=(gf hl).2.2 (gf HE0);have h2:=(gf HP2).lt;have h3:=(gf HT).len;omega)).keep (Stays.of (Below.refl _ _)) hwB.1.size⟩
    ·have n0:(kk == 0)=false:=by simpa using hk
     have n1:decide (kk=0)=false:=by simpa using hk
     have hcond:S.e=0∧(tD ts S).1≠0:=⟨gf HE0,by rw [gf HN];exact hk⟩
     have HCO:=gh hcond
     obtain ⟨n,rfl⟩:∃ k,n=k+1:=⟨n - 1,by
      have h1:=(gf hl).2.1
      have h2:=(gf hl).2.2 (gf HE0)
      have h3:=(gf HP2).lt
      omega⟩
     have HC:=gh (is_any (gf HP2) (gf HT) ⟨#[114,101,102]⟩)
     obtain ⟨b1,hb1⟩:∃ b,isD ts ⟨#[114,101,102]⟩ S=b:=⟨_,rfl⟩
     rw [hb1] at HC
     have HB1:=gh hb1
     clear hb1 hk hcond
     go_wp2_with fail
     refine (gf HC).mono ?_
     rintro e w3 ⟨rfl,hb3⟩
     have HI3:=gh ((gf HI2).but' (But.of hb3))
     have HP3:=gh ((gf HP2).keep hb3)
     clear hb3 HC HI2 HP2 n0 n1
     rcases b1 with _ | _
     rotate_left
     ·by_cases hm:m=100
      ·have hZZ:Z=(l,S.fail (tD ts S).2.2 152):=(gf hch).symm.trans (progLD_many (gf HCO) (by rw [gf HB1];rfl) (by rw [←(gf hl).1];exact hm))
       have HZZ:=gh hZZ
       subst hm
       have HC:=gh (dt_any (gf HP3) (gf HT))
       unfold tkV at HC
       rw [gf HN] at HC
       have hf2:=fld2 (.int .i64 kk) (.string TT) (.int .i64 at9)
       clear hZZ
       go_wp2_with fail
       refine (gf HC).mono ?_
       rintro e w5 ⟨rfl,hb5⟩
       have HI5:=gh ((gf HI3).but' (But.of hb5))
       have HP5:=gh ((gf HP3).keep hb5)
       have HC5:=gh (fail_any (gf HP5) at9 152)
       clear hb5 HC
       go_wp2_with fail
       refine (gf HC5).mono ?_
       rintro e w6 ⟨rfl,hb6,hR6⟩
       have HI6:=gh ((gf HI5).but' hb6)
       have HP6:=gh hR6
       have HNE0:(S.fail at9 152).e≠0:=by
        unfold PS.fail
        rw [if_pos (gf HE0)]
        show (152:Int)≠0
        decide
       have hZ2:Z=(l,S.fail at9 152):=by
        have h:=gf HZZ
        rw [gf HN] at h
        exact h
       clear hb6 hR6 HC5 HI5 HP5 HI3 HP3 hch
       have HPE:=gh (gf HI6).but
       obtain ⟨er,her⟩:∃ er,(S.fail at9 152).e=er:=⟨_,rfl⟩
       obtain ⟨ea,hea⟩:∃ ea,(S.fail at9 152).a=ea:=⟨_,rfl⟩
       obtain ⟨gg,gc,f0,f1,f2,f3,f4,hcc,hlr,hf,ht⟩:=(gf HP6).facts (Below.refl _ _)
       rw [her] at f2
       rw [hea] at f3
       have hZe:progRD s = .error (ea,er):=by
        have h:=gf HEQ
        rw [hZ2] at h
        rw [if_neg HNE0] at h
        rw [h]
        show Except.error ((S.fail at9 152).a,(S.fail at9 152).e)=_
        rw [her,hea]
       have HZE:=gh hZe
       rw [her] at HNE0
       have g2:(er == 0)=false:=by simpa using HNE0
       have g3:decide (er=0)=false:=by simpa using HNE0
       clear f0 f1 f4 hcc hf ht hZe her hea HNE0
       go_wp2_with fail
       refine gf hJ _ _ ?_
       go_wp2_with fail
       go_quiet (fail)
       go_wp2
       rw [←gf HQQ]
       have hwB:=gf HW
       have hfin:=below_of_but hwB.1 (gf HPE) hwB.2
       refine bodyPost_ret (results_t3 rfl rfl rfl rfl) rfl ⟨hfin.trans ((below_dn _ _).mono hfin.size),?_⟩
       rw [gf HZE]
       rfl
      ·have gm:¬ (m:Int)=100:=by omega
       have gm2:((m:Int) == 100)=false:=by simpa using gm
       have gm3:decide ((m:Int)=100)=false:=by simpa using gm
       have hm2:¬ ((isD ts ⟨#[114,101,102]⟩ S || isD ts ⟨#[108,101,116]⟩ S)=true∧l.length=100):=fun h=>hm (by rw [(gf hl).1];exact h.2)
       have HM2:=gh hm2
       clear hm hm2
       have HP9:=HP3
       have HI9:=HI3
       obtain ⟨⟨t7,S7⟩,hX7⟩:∃ X,declD ts S=X:=⟨_,rfl⟩
       have HC7:=gh (gf HD _ S (gf HP9))
       rw [hX7] at HC7
       have hch1:=gf hch
       rw [progLD_yes (gf HCO) (gf HM2),hX7] at hch1
       have HCH:=gh hch1
       have hgo:=declD_go (gf HT) (gf HP9).lt (gf HE0)
       rw [hX7] at hgo
       have HGO:=gh hgo
       clear hX7 hch1 hgo
       go_wp2_with fail
       refine (gf HC7).mono ?_
       rintro e w7 ⟨hb7,hR7,v7,rfl,x7,rfl,hin7⟩
       have hLL:deCells t7 x7=[.bool t7.cell,.string t7.name,.string t7.num,.bool t7.again,.slice x7.pa x7.pn x7.pc,.int .i64 t7.eff,.int .i64 t7.t.kind,.string t7.t.name,.slice x7.ta x7.tn x7.tc,.int .i64 t7.t.at',.slice x7.ra x7.rn x7.rc,.string t7.res,.slice x7.ea x7.en x7.ec,.slice x7.ma x7.mn x7.mc,.int .i64 t7.body.op,.string t7.body.name,.string t7.body.num,.bool t7.body.b,.slice x7.ba x7.bn x7.bc,.int .i64 0,.int .i64 t7.body.at',.int .i64 t7.at']:=rfl
       rw [hLL]
       have hI9:=gf HI9
       have hI7:=hI9.but' hb7
       have hlb:l.length≤100000:=by
        have h1:=(gf hl).2.2 (gf HE0)
        have h2:=(gf HP9).lt
        have h3:=(gf HT).len
        omega
       obtain ⟨g,cap,wa,hrun,hoa,hga,hwa⟩:=app_de (l:=[.bool t7.cell,.string t7.name,.string t7.num,.bool t7.again,.slice x7.pa x7.pn x7.pc,.int .i64 t7.eff,.int .i64 t7.t.kind,.string t7.t.name,.slice x7.ta x7.tn x7.tc,.int .i64 t7.t.at',.slice x7.ra x7.rn x7.rc,.string t7.res,.slice x7.ea x7.en x7.ec,.slice x7.ma x7.mn x7.mc,.int .i64 t7.body.op,.string t7.body.name,.string t7.body.num,.bool t7.body.b,.slice x7.ba x7.bn x7.bc,.int .i64 0,.int .i64 t7.body.at',.int .i64 t7.at']) rfl (List.all_eq_true.1 rfl) hI7.own hlb hI7.but.size
       obtain ⟨hnew,hkk⟩:=hI9.more hb7 rfl (t7:=t7) ⟨x7,hLL.symm,hin7.toP⟩ hoa hga hwa
       have hRn:=hR7.out (w':=wa) (q:=B.heap.size) hI9.rlt (fun k hk=>hkk k hk)
       have HNW:=gh (And.intro hnew hRn)
       rw [(gf hl).1.symm] at hrun
       have R1:=gh hrun
       clear hb7 hR7 hin7 hI9 hI7 hlb hrun hoa hga hwa hnew hRn hkk HC7 hLL
       go_wp2_with (at_builtin;refine app_run _ _ _ rfl rfl rfl rfl (gf R1) ?_;clear R1)
       obtain ⟨hnew,hRn⟩:=gf HNW
       obtain ⟨hl1,hl2,hl3⟩:=gf hl
       have hle:=hl3 (gf HE0)
       have hP9:=(gf HP9).lt
       subst hl1
       refine ⟨⟨l++[t7],_,S7,n,some ⟨g,0,none⟩,l.length+1,cap,rfl,⟨by simp,by simp;omega,fun h => ?_⟩,gh hnew,gh hRn,HCH⟩,?_⟩
       ·have h9:=(gf HGO).1 (by rw [gf HB1];rfl)
        simp only [List.length_append,List.length_singleton]
        omega
       ·show ts.length+1 - (l.length+1)<ts.length+1 - l.length
        omega
     ·have HC:=gh (is_any (gf HP3) (gf HT) ⟨#[108,101,116]⟩)
      obtain ⟨b2,hb2⟩:∃ b,isD ts ⟨#[108,101,116]⟩ S=b:=⟨_,rfl⟩
      rw [hb2] at HC
      have HB2:=gh hb2
      clear hb2
      go_wp2_with fail
      refine (gf HC).mono ?_
      rintro e w4 ⟨rfl,hb4⟩
      have HI4:=gh ((gf HI3).but' (But.of hb4))
      have HP4:=gh ((gf HP3).keep hb4)
      clear hb4 HC HI3 HP3
      rcases b2 with _ | _
      rotate_left
      ·by_cases hm:m=100
       ·have hZZ:Z=(l,S.fail (tD ts S).2.2 152):=(gf hch).symm.trans (progLD_many (gf HCO) (by rw [gf HB1,gf HB2];rfl) (by rw [←(gf hl).1];exact hm))
        have HZZ:=gh hZZ
        subst hm
        have HC:=gh (dt_any (gf HP4) (gf HT))
        unfold tkV at HC
        rw [gf HN] at HC
        have hf2:=fld2 (.int .i64 kk) (.string TT) (.int .i64 at9)
        clear hZZ
        go_wp2_with fail
        refine (gf HC).mono ?_
        rintro e w5 ⟨rfl,hb5⟩
        have HI5:=gh ((gf HI4).but' (But.of hb5))
        have HP5:=gh ((gf HP4).keep hb5)
        have HC5:=gh (fail_any (gf HP5) at9 152)
        clear hb5 HC
        go_wp2_with fail
        refine (gf HC5).mono ?_
        rintro e w6 ⟨rfl,hb6,hR6⟩
        have HI6:=gh ((gf HI5).but' hb6)
        have HP6:=gh hR6
        have HNE0:(S.fail at9 152).e≠0:=by
         unfold PS.fail
         rw [if_pos (gf HE0)]
         show (152:Int)≠0
         decide
        have hZ2:Z=(l,S.fail at9 152):=by
         have h:=gf HZZ
         rw [gf HN] at h
         exact h
        clear hb6 hR6 HC5 HI5 HP5 HI4 HP4 hch
        have HPE:=gh (gf HI6).but
        obtain ⟨er,her⟩:∃ er,(S.fail at9 152).e=er:=⟨_,rfl⟩
        obtain ⟨ea,hea⟩:∃ ea,(S.fail at9 152).a=ea:=⟨_,rfl⟩
        obtain ⟨gg,gc,f0,f1,f2,f3,f4,hcc,hlr,hf,ht⟩:=(gf HP6).facts (Below.refl _ _)
        rw [her] at f2
        rw [hea] at f3
        have hZe:progRD s = .error (ea,er):=by
         have h:=gf HEQ
         rw [hZ2] at h
         rw [if_neg HNE0] at h
         rw [h]
         show Except.error ((S.fail at9 152).a,(S.fail at9 152).e)=_
         rw [her,hea]
        have HZE:=gh hZe
        rw [her] at HNE0
        have g2:(er == 0)=false:=by simpa using HNE0
        have g3:decide (er=0)=false:=by simpa using HNE0
        clear f0 f1 f4 hcc hf ht hZe her hea HNE0
        go_wp2_with fail
        refine gf hJ _ _ ?_
        go_wp2_with fail
        go_quiet (fail)
        go_wp2
        rw [←gf HQQ]
        have hwB:=gf HW
        have hfin:=below_of_but hwB.1 (gf HPE) hwB.2
        refine bodyPost_ret (results_t3 rfl rfl rfl rfl) rfl ⟨hfin.trans ((below_dn _ _).mono hfin.size),?_⟩
        rw [gf HZE]
        rfl
       ·have gm:¬ (m:Int)=100:=by omega
        have gm2:((m:Int) == 100)=false:=by simpa using gm
        have gm3:decide ((m:Int)=100)=false:=by simpa using gm
        have hm2:¬ ((isD ts ⟨#[114,101,102]⟩ S || isD ts ⟨#[108,101,116]⟩ S)=true∧l.length=100):=fun h=>hm (by rw [(gf hl).1];exact h.2)
        have HM2:=gh hm2
        clear hm hm2
        have HP9:=HP4
        have HI9:=HI4
        obtain ⟨⟨t7,S7⟩,hX7⟩:∃ X,declD ts S=X:=⟨_,rfl⟩
        have HC7:=gh (gf HD _ S (gf HP9))
        rw [hX7] at HC7
        have hch1:=gf hch
        rw [progLD_yes (gf HCO) (gf HM2),hX7] at hch1
        have HCH:=gh hch1
        have hgo:=declD_go (gf HT) (gf HP9).lt (gf HE0)
        rw [hX7] at hgo
        have HGO:=gh hgo
        clear hX7 hch1 hgo
        go_wp2_with fail
        refine (gf HC7).mono ?_
        rintro e w7 ⟨hb7,hR7,v7,rfl,x7,rfl,hin7⟩
        have hLL:deCells t7 x7=[.bool t7.cell,.string t7.name,.string t7.num,.bool t7.again,.slice x7.pa x7.pn x7.pc,.int .i64 t7.eff,.int .i64 t7.t.kind,.string t7.t.name,.slice x7.ta x7.tn x7.tc,.int .i64 t7.t.at',.slice x7.ra x7.rn x7.rc,.string t7.res,.slice x7.ea x7.en x7.ec,.slice x7.ma x7.mn x7.mc,.int .i64 t7.body.op,.string t7.body.name,.string t7.body.num,.bool t7.body.b,.slice x7.ba x7.bn x7.bc,.int .i64 0,.int .i64 t7.body.at',.int .i64 t7.at']:=rfl
        rw [hLL]
        have hI9:=gf HI9
        have hI7:=hI9.but' hb7
        have hlb:l.length≤100000:=by
         have h1:=(gf hl).2.2 (gf HE0)
         have h2:=(gf HP9).lt
         have h3:=(gf HT).len
         omega
        obtain ⟨g,cap,wa,hrun,hoa,hga,hwa⟩:=app_de (l:=[.bool t7.cell,.string t7.name,.string t7.num,.bool t7.again,.slice x7.pa x7.pn x7.pc,.int .i64 t7.eff,.int .i64 t7.t.kind,.string t7.t.name,.slice x7.ta x7.tn x7.tc,.int .i64 t7.t.at',.slice x7.ra x7.rn x7.rc,.string t7.res,.slice x7.ea x7.en x7.ec,.slice x7.ma x7.mn x7.mc,.int .i64 t7.body.op,.string t7.body.name,.string t7.body.num,.bool t7.body.b,.slice x7.ba x7.bn x7.bc,.int .i64 0,.int .i64 t7.body.at',.int .i64 t7.at']) rfl (List.all_eq_true.1 rfl) hI7.own hlb hI7.but.size
        obtain ⟨hnew,hkk⟩:=hI9.more hb7 rfl (t7:=t7) ⟨x7,hLL.symm,hin7.toP⟩ hoa hga hwa
        have hRn:=hR7.out (w':=wa) (q:=B.heap.size) hI9.rlt (fun k hk=>hkk k hk)
        have HNW:=gh (And.intro hnew hRn)
        rw [(gf hl).1.symm] at hrun
        have R1:=gh hrun
        clear hb7 hR7 hin7 hI9 hI7 hlb hrun hoa hga hwa hnew hRn hkk HC7 hLL
        go_wp2_with (at_builtin;refine app_run _ _ _ rfl rfl rfl rfl (gf R1) ?_;clear R1)
        obtain ⟨hnew,hRn⟩:=gf HNW
        obtain ⟨hl1,hl2,hl3⟩:=gf hl
        have hle:=hl3 (gf HE0)
        have hP9:=(gf HP9).lt
        subst hl1
        refine ⟨⟨l++[t7],_,S7,n,some ⟨g,0,none⟩,l.length+1,cap,rfl,⟨by simp,by simp;omega,fun h => ?_⟩,gh hnew,gh hRn,HCH⟩,?_⟩
        ·have h9:=(gf HGO).1 (by rw [gf HB1,gf HB2];rfl)
         simp only [List.length_append,List.length_singleton]
         omega
        ·show ts.length+1 - (l.length+1)<ts.length+1 - l.length
         omega
      ·have HP9:=HP4
       have HI9:=HI4
       obtain ⟨⟨t7,S7⟩,hX7⟩:∃ X,declD ts S=X:=⟨_,rfl⟩
       have HC7:=gh (gf HD _ S (gf HP9))
       rw [hX7] at HC7
       have hch1:=gf hch
       rw [progLD_yes (gf HCO) (fun h=>by have h1:=h.1;rw [gf HB1,gf HB2] at h1;cases h1),hX7] at hch1
       have HCH:=gh hch1
       have hgo:=declD_go (gf HT) (gf HP9).lt (gf HE0)
       rw [hX7] at hgo
       have HGO:=gh hgo
       clear hX7 hch1 hgo
       go_wp2_with fail
       refine (gf HC7).mono ?_
       rintro e w7 ⟨hb7,hR7,v7,rfl,x7,rfl,hin7⟩
       have hLL:deCells t7 x7=[.bool t7.cell,.string t7.name,.string t7.num,.bool t7.again,.slice x7.pa x7.pn x7.pc,.int .i64 t7.eff,.int .i64 t7.t.kind,.string t7.t.name,.slice x7.ta x7.tn x7.tc,.int .i64 t7.t.at',.slice x7.ra x7.rn x7.rc,.string t7.res,.slice x7.ea x7.en x7.ec,.slice x7.ma x7.mn x7.mc,.int .i64 t7.body.op,.string t7.body.name,.string t7.body.num,.bool t7.body.b,.slice x7.ba x7.bn x7.bc,.int .i64 0,.int .i64 t7.body.at',.int .i64 t7.at']:=rfl
       rw [hLL]
       have hI9:=gf HI9
       have hI7:=hI9.but' hb7
       have hlb:l.length≤100000:=by
        have h1:=(gf hl).2.2 (gf HE0)
        have h2:=(gf HP9).lt
        have h3:=(gf HT).len
        omega
       obtain ⟨g,cap,wa,hrun,hoa,hga,hwa⟩:=app_de (l:=[.bool t7.cell,.string t7.name,.string t7.num,.bool t7.again,.slice x7.pa x7.pn x7.pc,.int .i64 t7.eff,.int .i64 t7.t.kind,.string t7.t.name,.slice x7.ta x7.tn x7.tc,.int .i64 t7.t.at',.slice x7.ra x7.rn x7.rc,.string t7.res,.slice x7.ea x7.en x7.ec,.slice x7.ma x7.mn x7.mc,.int .i64 t7.body.op,.string t7.body.name,.string t7.body.num,.bool t7.body.b,.slice x7.ba x7.bn x7.bc,.int .i64 0,.int .i64 t7.body.at',.int .i64 t7.at']) rfl (List.all_eq_true.1 rfl) hI7.own hlb hI7.but.size
       obtain ⟨hnew,hkk⟩:=hI9.more hb7 rfl (t7:=t7) ⟨x7,hLL.symm,hin7.toP⟩ hoa hga hwa
       have hRn:=hR7.out (w':=wa) (q:=B.heap.size) hI9.rlt (fun k hk=>hkk k hk)
       have HNW:=gh (And.intro hnew hRn)
       rw [(gf hl).1.symm] at hrun
       have R1:=gh hrun
       clear hb7 hR7 hin7 hI9 hI7 hlb hrun hoa hga hwa hnew hRn hkk HC7 hLL
       go_wp2_with (at_builtin;refine app_run _ _ _ rfl rfl rfl rfl (gf R1) ?_;clear R1)
       obtain ⟨hnew,hRn⟩:=gf HNW
       obtain ⟨hl1,hl2,hl3⟩:=gf hl
       have hle:=hl3 (gf HE0)
       have hP9:=(gf HP9).lt
       subst hl1
       refine ⟨⟨l++[t7],_,S7,n,some ⟨g,0,none⟩,l.length+1,cap,rfl,⟨by simp,by simp;omega,fun h => ?_⟩,gh hnew,gh hRn,HCH⟩,?_⟩
       ·exact absurd h ((gf HGO).2 (by rw [gf HB1,gf HB2];rfl))
       ·show ts.length+1 - (l.length+1)<ts.length+1 - l.length
        omega
def paL:List UInt8:=[32,40,120,32,58,32,105,110,116,41]
def hdL:List UInt8:=[32,58,32,80,117,114,101,32,105,110,116,32,105,115,32,102,40]
def reL:List UInt8:=[114,101,102,32,99,32,58,61,32,48,59,59]
def caL:List UInt8:=[44,49]
def bM (p q i:Nat):Nat:=
 if i<5 then (([108,101,116,32,102]:List UInt8).getD i 0).toNat
 else if i<5+10 * p then (paL.getD ((i - 5) % 10) 0).toNat
 else if i<22+10 * p then (hdL.getD (i - (5+10 * p)) 0).toNat
 else if i<22+10 * p+(2 * q - 1) then (if (i - (22+10 * p)) % 2=0 then 49 else 44)
 else if i<25+10 * p+(2 * q - 1) then (([41,59,59]:List UInt8).getD (i - (22+10 * p+(2 * q - 1))) 0).toNat
 else (reL.getD ((i - (25+10 * p+(2 * q - 1))) % 12) 0).toNat
def szM (p q D:Nat):Nat:=25+10 * p+(2 * q - 1)+12 * (D - 1)
def mM (p q D:Nat):Nat:=10+5 * p+(2 * q - 1)+5 * (D - 1)
def at' (k:Int) (t:ByteArray) (i:Nat):(Int×ByteArray×Int):=(k,t,(i:Int))
def tM (p q i:Nat):(Int×ByteArray×Int):=
 if i=0 then at' 2 ⟨#[108,101,116]⟩ 0
 else if i=1 then at' 1 ⟨#[102]⟩ 4
 else if i<2+5 * p then (match (i - 2) % 5 with
  |0=>at' 4 ⟨#[40]⟩ (6+10 * ((i - 2) / 5))
  |1=>at' 1 ⟨#[120]⟩ (7+10 * ((i - 2) / 5))
  |2=>at' 4 ⟨#[58]⟩ (9+10 * ((i - 2) / 5))
  |3=>at' 2 ⟨#[105,110,116]⟩ (11+10 * ((i - 2) / 5))
  |_=>at' 4 ⟨#[41]⟩ (14+10 * ((i - 2) / 5)))
 else if i<8+5 * p then (match i - (2+5 * p) with
  |0=>at' 4 ⟨#[58]⟩ (6+10 * p)
  |1=>at' 2 ⟨#[80,117,114,101]⟩ (8+10 * p)
  |2=>at' 2 ⟨#[105,110,116]⟩ (13+10 * p)
  |3=>at' 2 ⟨#[105,115]⟩ (17+10 * p)
  |4=>at' 1 ⟨#[102]⟩ (20+10 * p)
  |_=>at' 4 ⟨#[40]⟩ (21+10 * p))
 else if i<8+5 * p+(2 * q - 1) then (if (i - (8+5 * p)) % 2=0 then at' 3 ⟨#[49]⟩ (22+10 * p+(i - (8+5 * p))) else at' 4 ⟨#[44]⟩ (22+10 * p+(i - (8+5 * p))))
 else if i=8+5 * p+(2 * q - 1) then at' 4 ⟨#[41]⟩ (22+10 * p+(2 * q - 1))
 else if i=9+5 * p+(2 * q - 1) then at' 4 ⟨#[59,59]⟩ (23+10 * p+(2 * q - 1))
 else (match (i - (10+5 * p+(2 * q - 1))) % 5 with
  |0=>at' 2 ⟨#[114,101,102]⟩ (25+10 * p+(2 * q - 1)+12 * ((i - (10+5 * p+(2 * q - 1))) / 5))
  |1=>at' 1 ⟨#[99]⟩ (29+10 * p+(2 * q - 1)+12 * ((i - (10+5 * p+(2 * q - 1))) / 5))
  |2=>at' 4 ⟨#[58,61]⟩ (31+10 * p+(2 * q - 1)+12 * ((i - (10+5 * p+(2 * q - 1))) / 5))
  |3=>at' 3 ⟨#[48]⟩ (34+10 * p+(2 * q - 1)+12 * ((i - (10+5 * p+(2 * q - 1))) / 5))
  |_=>at' 4 ⟨#[59,59]⟩ (35+10 * p+(2 * q - 1)+12 * ((i - (10+5 * p+(2 * q - 1))) / 5)))
def liQ {α:Type} (f:α→α→Bool):List α→List α→Bool
 |[],[]=>true
 |x::l,y::l'=>f x y && liQ f l l'
 |_,_=>false
theorem liQ_ok {α:Type} {f:α→α→Bool} (hf:∀ x y,f x y=true→x=y):∀ l l',liQ f l l'=true→l=l'
 |[],[],_=>rfl
 |[],_::_,h=>by cases h
 |_::_,[],h=>by cases h
 |x::l,y::l',h=>by
  unfold liQ at h
  simp only [Bool.and_eq_true] at h
  rw [hf x y h.1,liQ_ok hf l l' h.2]
def tyQ (a b:Ty):Bool:=decide (a.kind=b.kind) && decide (a.name=b.name) && decide (a.at'=b.at') && liQ (exQ 250) a.r b.r
theorem tyQ_ok (a b:Ty) (h:tyQ a b=true):a=b:=by
 unfold tyQ at h
 simp only [Bool.and_eq_true,decide_eq_true_eq] at h
 obtain ⟨⟨⟨h1,h2⟩,h3⟩,h4⟩:=h
 obtain ⟨a1,a2,a3,a4⟩:=a
 obtain ⟨b1,b2,b3,b4⟩:=b
 simp only at h1 h2 h3 h4
 rw [h1,h2,h3,liQ_ok (exQ_ok 250) _ _ h4]
def pmQ (a b:Pm):Bool:=decide (a.name=b.name) && tyQ a.t b.t && decide (a.at'=b.at')
theorem pmQ_ok (a b:Pm) (h:pmQ a b=true):a=b:=by
 unfold pmQ at h
 simp only [Bool.and_eq_true,decide_eq_true_eq] at h
 obtain ⟨⟨h1,h2⟩,h3⟩:=h
 obtain ⟨a1,a2,a3⟩:=a
 obtain ⟨b1,b2,b3⟩:=b
 simp only at h1 h2 h3
 rw [h1,tyQ_ok _ _ h2,h3]
def deQ (a b:De):Bool:=decide (a.cell=b.cell) && decide (a.name=b.name) && decide (a.num=b.num) && decide (a.again=b.again) && liQ pmQ a.ps b.ps && decide (a.eff=b.eff) && tyQ a.t b.t && liQ (exQ 250) a.req b.req && decide (a.res=b.res) && liQ (exQ 250) a.ens b.ens && liQ (exQ 250) a.mea b.mea && exQ 250 a.body b.body && decide (a.at'=b.at')
theorem deQ_ok (a b:De) (h:deQ a b=true):a=b:=by
 unfold deQ at h
 simp only [Bool.and_eq_true,decide_eq_true_eq] at h
 obtain ⟨⟨⟨⟨⟨⟨⟨⟨⟨⟨⟨⟨h1,h2⟩,h3⟩,h4⟩,h5⟩,h6⟩,h7⟩,h8⟩,h9⟩,h10⟩,h11⟩,h12⟩,h13⟩:=h
 obtain ⟨a1,a2,a3,a4,a5,a6,a7,a8,a9,a10,a11,a12,a13⟩:=a
 obtain ⟨b1,b2,b3,b4,b5,b6,b7,b8,b9,b10,b11,b12,b13⟩:=b
 simp only at h1 h2 h3 h4 h5 h6 h7 h8 h9 h10 h11 h12 h13
 rw [h1,h2,h3,h4,liQ_ok pmQ_ok _ _ h5,h6,tyQ_ok _ _ h7,liQ_ok (exQ_ok 250) _ _ h8,h9,liQ_ok (exQ_ok 250) _ _ h10,liQ_ok (exQ_ok 250) _ _ h11,exQ_ok 250 _ _ h12,h13]
def chkP (ok:Bool) (T:TF):Bool:=match progRF T 0,progDF T with
 |.ok (l,_),.ok m=>liQ deQ l m && ok
 |.error (a,e),.error (b,f)=>decide (a=b) && decide (e=f) && decide (e=152) && !ok
 |_,_=>false
def okM (p q D:Nat):Bool:=decide (D≤100) && decide (p≤8) && decide (q≤8)
def mck (p q D:Nat):Bool:=ckTok (bM p q) (tM p q) (mM p q D) (szM p q D) && chkP (okM p q D) ⟨NF (tM p q) (mM p q D) (szM p q D),mM p q D+1⟩
theorem prog_F {s:ByteArray} {B:Nat→Nat} {M:Nat→(Int×ByteArray×Int)} {m n:Nat} {ok:Bool} (hB:∀ i,i<s.size→By s i=B i∧B i<128) (hn:s.size=n) (hs:n≤65536) (h1:ckTok B M m n=true) (h2:chkP ok ⟨NF M m n,m+1⟩=true):(ok=true∧∃ l,progS s = .ok l∧progRD s = .ok l)∨(ok=false∧∃ a,progS s = .error (a,152)∧progRD s = .error (a,152)):=by
 obtain ⟨e1,e2⟩:=tk_F hB hn hs h1
 have e3:progS s=match progRF ⟨NF M m n,m+1⟩ 0 with
  |.ok (t,_) => .ok t
  |.error e => .error e:=by
  unfold progS
  rw [e1,←e2,progR_F]
  rfl
 have e4:progRD s=progDF ⟨NF M m n,m+1⟩:=by
  unfold progRD
  rw [e1,←e2,progD_F]
 rw [e3,e4]
 unfold chkP at h2
 split at h2
 ·rename_i l p u hl hu
  simp only [Bool.and_eq_true] at h2
  obtain rfl:=liQ_ok deQ_ok _ _ h2.1
  exact .inl ⟨h2.2,l,by rw [hl],hu⟩
 ·rename_i a e b f hl hu
  simp only [Bool.and_eq_true,decide_eq_true_eq,Bool.not_eq_true'] at h2
  obtain ⟨⟨⟨rfl,rfl⟩,rfl⟩,h3⟩:=h2
  exact .inr ⟨h3,a,by rw [hl],hu⟩
 ·cases h2
def argB:Nat→ByteArray
 |0=>⟨#[]⟩
 |j+1=>⟨#[49]⟩++rpB j caL
theorem argB_first (X:ByteArray):X++argB 0++⟨#[49]⟩=X++argB 1:=by
 show X++⟨#[]⟩++⟨#[49]⟩=X++(⟨#[49]⟩++rpB 0 caL)
 have e0:rpB 0 caL=⟨#[]⟩:=rfl
 have e1:(⟨#[]⟩:ByteArray)=ByteArray.empty:=rfl
 rw [e0,e1,ByteArray.append_empty,ByteArray.append_empty]
theorem argB_next (X:ByteArray) (j:Nat):X++argB (j+1)++⟨#[44]⟩++⟨#[49]⟩=X++argB (j+2):=by
 show X++(⟨#[49]⟩++rpB j caL)++⟨#[44]⟩++⟨#[49]⟩=X++(⟨#[49]⟩++rpB (j+1) caL)
 have e1:(⟨#[44]⟩:ByteArray)++⟨#[49]⟩=⟨caL.toArray⟩:=rfl
 rw [←rpB_succ,←e1]
 simp only [ByteArray.append_assoc]
theorem argB_size (j:Nat):(argB j).size≤2 * j:=by
 cases j with
 |zero=>exact Nat.le_refl _
 |succ j =>
  show ((⟨#[49]⟩:ByteArray)++rpB j caL).size≤_
  rw [ByteArray.size_append,rpB_size]
  show 1+2 * j≤_
  omega
def txM (p q D:Nat):ByteArray:=⟨#[108,101,116,32,102]⟩++rpB p paL++⟨hdL.toArray⟩++argB q++⟨#[41,59,59]⟩++rpB (D - 1) reL
theorem txM_list (p q D:Nat):txM p (q+1) D=⟨([108,101,116,32,102]++((List.replicate p paL).flatten++(hdL++((49::(List.replicate q caL).flatten)++([41,59,59]++(List.replicate (D - 1) reL).flatten))))).toArray⟩:=by
 unfold txM argB rpB
 apply ByteArray.ext
 simp only [ByteArray.data_append]
 apply Array.ext'
 simp
theorem gapp (a b:List UInt8) (i:Nat):(a++b).getD i 0=if i<a.length then a.getD i 0 else b.getD (i - a.length) 0:=by
 rw [List.getD_eq_getElem?_getD]
 split
 ·rw [List.getElem?_append_left (by assumption),List.getD_eq_getElem?_getD]
 ·rw [List.getElem?_append_right (by omega),List.getD_eq_getElem?_getD]
theorem rep_len (n:Nat) (l:List UInt8):((List.replicate n l).flatten).length=l.length * n:=by simp [Nat.mul_comm]
theorem txM_len (p q D:Nat):([108,101,116,32,102]++((List.replicate p paL).flatten++(hdL++((49::(List.replicate q caL).flatten)++([41,59,59]++(List.replicate (D - 1) reL).flatten)))):List UInt8).length=szM p (q+1) D:=by
 simp only [List.length_append,List.length_cons,List.length_nil,rep_len]
 show _+(10 * p+(17+(2 * q+1+(_+12 * (D - 1)))))=_
 unfold szM
 omega
theorem txM_size (p q D:Nat):(txM p (q+1) D).size=szM p (q+1) D:=by
 rw [txM_list]
 show (List.toArray _).size=_
 rw [List.size_toArray]
 exact txM_len p q D
theorem asc_getD (l:List UInt8) (h:∀ x∈l,x.toNat<128) (i:Nat):(l.getD i 0).toNat<128:=by
 rw [List.getD_eq_getElem?_getD]
 cases e:l[i]? with
 |none=>decide
 |some x=>exact h x (List.mem_of_getElem? e)
theorem txM_at (p q D:Nat):∀ i,i<(txM p (q+1) D).size→By (txM p (q+1) D) i=bM p (q+1) i∧bM p (q+1) i<128:=by
 intro i hi
 rw [txM_size] at hi
 have e1:By (txM p (q+1) D) i=(([108,101,116,32,102]++((List.replicate p paL).flatten++(hdL++((49::(List.replicate q caL).flatten)++([41,59,59]++(List.replicate (D - 1) reL).flatten)))):List UInt8).getD i 0).toNat:=by
  rw [txM_list]
  exact By_of _ i (by rw [txM_len];exact hi)
 rw [e1]
 have l1:([108,101,116,32,102]:List UInt8).length=5:=rfl
 have l3:hdL.length=17:=rfl
 have l5:([41,59,59]:List UInt8).length=3:=rfl
 have r1:paL.length=10:=rfl
 have r2:caL.length=2:=rfl
 have r3:reL.length=12:=rfl
 rw [gapp,gapp,gapp,gapp,gapp,l1,l3,l5,rep_len,List.length_cons,rep_len,r1,r2]
 unfold szM at hi
 unfold bM
 by_cases c1:i<5
 ·rw [if_pos c1,if_pos c1]
  exact ⟨rfl,asc_getD _ (by decide) _⟩
 rw [if_neg c1,if_neg c1]
 by_cases c2:i<5+10 * p
 ·rw [if_pos (by omega),if_pos c2,rep_at _ _ _ _ (by rw [r1];omega),r1]
  exact ⟨rfl,asc_getD _ (by decide) _⟩
 rw [if_neg (by omega),if_neg c2]
 by_cases c3:i<22+10 * p
 ·rw [if_pos (by omega),if_pos c3,show i - 5 - 10 * p=i - (5+10 * p) by omega]
  exact ⟨rfl,asc_getD _ (by decide) _⟩
 rw [if_neg (by omega),if_neg c3]
 by_cases c4:i<22+10 * p+(2 * (q+1) - 1)
 ·rw [if_pos (by omega),if_pos c4]
  have e:i - 5 - 10 * p - 17=i - (22+10 * p):=by omega
  rw [e]
  obtain ⟨k,hk⟩:∃ k,i - (22+10 * p)=k:=⟨_,rfl⟩
  rw [hk]
  cases k with
  |zero=>exact ⟨rfl,by decide⟩
  |succ k =>
   rw [List.getD_cons_succ,rep_at _ _ _ _ (by rw [r2];omega),r2]
   rcases Nat.mod_two_eq_zero_or_one k with h | h
   ·rw [h,if_neg (by omega)]
    exact ⟨rfl,by decide⟩
   ·rw [h,if_pos (by omega)]
    exact ⟨rfl,by decide⟩
 rw [if_neg (by omega),if_neg c4]
 by_cases c5:i<25+10 * p+(2 * (q+1) - 1)
 ·rw [if_pos (by omega),if_pos c5,show i - 5 - 10 * p - 17 - (2 * q+1)=i - (22+10 * p+(2 * (q+1) - 1)) by omega]
  exact ⟨rfl,asc_getD _ (by decide) _⟩
 rw [if_neg (by omega),if_neg c5,rep_at _ _ _ _ (by rw [r3];omega),r3,show i - 5 - 10 * p - 17 - (2 * q+1) - 3=i - (25+10 * p+(2 * (q+1) - 1)) by omega]
 exact ⟨rfl,asc_getD _ (by decide) _⟩
theorem mck_ok {p q D:Nat} (hq:1≤q) (hs:szM p q D≤65536) (hc:mck p q D=true):(okM p q D=true∧∃ l,progS (txM p q D) = .ok l∧progRD (txM p q D) = .ok l)∨(okM p q D=false∧∃ a,progS (txM p q D) = .error (a,152)∧progRD (txM p q D) = .error (a,152)):=by
 obtain ⟨q,rfl⟩:∃ k,q=k+1:=⟨q - 1,by omega⟩
 unfold mck at hc
 simp only [Bool.and_eq_true] at hc
 exact prog_F (txM_at p q D) (txM_size p q D) hs hc.1 hc.2
theorem mck_7_7_99:mck 7 7 99=true:=by kernel_rfl
theorem mck_7_7_100:mck 7 7 100=true:=by kernel_rfl
theorem mck_7_7_101:mck 7 7 101=true:=by kernel_rfl
theorem mck_7_8_99:mck 7 8 99=true:=by kernel_rfl
theorem mck_7_8_100:mck 7 8 100=true:=by kernel_rfl
theorem mck_7_8_101:mck 7 8 101=true:=by kernel_rfl
theorem mck_7_9_99:mck 7 9 99=true:=by kernel_rfl
theorem mck_7_9_100:mck 7 9 100=true:=by kernel_rfl
theorem mck_7_9_101:mck 7 9 101=true:=by kernel_rfl
theorem mck_8_7_99:mck 8 7 99=true:=by kernel_rfl
theorem mck_8_7_100:mck 8 7 100=true:=by kernel_rfl
theorem mck_8_7_101:mck 8 7 101=true:=by kernel_rfl
theorem mck_8_8_99:mck 8 8 99=true:=by kernel_rfl
theorem mck_8_8_100:mck 8 8 100=true:=by kernel_rfl
theorem mck_8_8_101:mck 8 8 101=true:=by kernel_rfl
theorem mck_8_9_99:mck 8 9 99=true:=by kernel_rfl
theorem mck_8_9_100:mck 8 9 100=true:=by kernel_rfl
theorem mck_8_9_101:mck 8 9 101=true:=by kernel_rfl
theorem mck_9_7_99:mck 9 7 99=true:=by kernel_rfl
theorem mck_9_7_100:mck 9 7 100=true:=by kernel_rfl
theorem mck_9_7_101:mck 9 7 101=true:=by kernel_rfl
theorem mck_9_8_99:mck 9 8 99=true:=by kernel_rfl
theorem mck_9_8_100:mck 9 8 100=true:=by kernel_rfl
theorem mck_9_8_101:mck 9 8 101=true:=by kernel_rfl
theorem mck_9_9_99:mck 9 9 99=true:=by kernel_rfl
theorem mck_9_9_100:mck 9 9 100=true:=by kernel_rfl
theorem mck_9_9_101:mck 9 9 101=true:=by kernel_rfl
def tx1:ByteArray:=⟨#[49,32,43,32,50,32,42,32,120]⟩
def tx2:ByteArray:=⟨([114,101,102,32,99,32,58,61,32,45,51,59,59,32,108,101,116,32,102,32,40,120,32,58,32,105,110,116,41,32,58,32].append [80,117,114,101,32,123,114,32,58,32,105,110,116,32,124,32,114,32,62,32,120,125,32,105,115,32,120,32,43,32,49,59,59]).toArray⟩
def tx3:ByteArray:=⟨#[108,101,116,32,102,32,58,32,80,117,114,101,32,105,110,116,32,105,115,32,49]⟩
def ck1 (x:Except (Int×Int) Ex):Bool:=match x with
 |.ok (.mk op _ _ _ [_,.mk o2 _ _ _ _ _] _)=>decide (op=10) && decide (o2=9)
 |_=>false
def ck2 (x:Except (Int×Int) (List De)):Bool:=match x with
 |.ok [a,b]=>decide (a.num=⟨#[45,51]⟩) && decide (b.ps.length=1) && decide (b.t.r.length=1)
 |_=>false
def ck3 (x:Except (Int×Int) (List De)):Bool:=match x with
 |.error (i,n)=>decide (i=21) && decide (n=150)
 |_=>false
theorem ev1:ck1 (exprS tx1)=true:=by kernel_rfl
theorem ev2:ck2 (progS tx2)=true:=by kernel_rfl
theorem ev3:ck3 (progS tx3)=true:=by kernel_rfl
theorem ck1_of {x:Except (Int×Int) Ex} (h:ck1 x=true):∃ nm nu bl u n2 m2 b2 l2 i2 i,x = .ok (.mk 10 nm nu bl [u,.mk 9 n2 m2 b2 l2 i2] i):=by
 unfold ck1 at h
 split at h
 ·simp only [Bool.and_eq_true,decide_eq_true_eq] at h
  obtain ⟨rfl,rfl⟩:=h
  exact ⟨_,_,_,_,_,_,_,_,_,_,rfl⟩
 ·cases h
theorem ck2_of {x:Except (Int×Int) (List De)} (h:ck2 x=true):∃ a b,x = .ok [a,b]∧a.num=⟨#[45,51]⟩∧b.ps.length=1∧b.t.r.length=1:=by
 unfold ck2 at h
 split at h
 ·simp only [Bool.and_eq_true,decide_eq_true_eq] at h
  exact ⟨_,_,rfl,h.1.1,h.1.2,h.2⟩
 ·cases h
theorem ck3_of {x:Except (Int×Int) (List De)} (h:ck3 x=true):x = .error (21,150):=by
 unfold ck3 at h
 split at h
 ·simp only [Bool.and_eq_true,decide_eq_true_eq] at h
  rw [h.1,h.2]
 ·cases h
theorem two_op {w:World} {lo:Nat} {v:Value} {op i o2 i2:Int} {nm nu n2 m2:ByteArray} {bl b2:Bool} {u:Ex} {l2:List Ex} (h:IsE w lo v (.mk op nm nu bl [u,.mk o2 n2 m2 b2 l2 i2] i)) :
  ∃ b off c,v = .agg #[.int .i64 op,.string nm,.string nu,.bool bl,.slice (some ⟨b,off,none⟩) 2 c,.int .i64 0,.int .i64 i]∧b<w.heap.size∧w.cell? ⟨b,off+7,none⟩=some (.int .i64 o2)∧2≤c:=by
 obtain ⟨k,a,c,rfl,h1,h2,h3⟩:=h
 obtain ⟨b,off,rfl,-,hb,hj⟩:=h3 (by simp)
 have h4:=hj 1 (by simp) _ rfl
 obtain ⟨k,hk⟩:∃ m,k=m+1:=by
  cases k with
  |zero=>exact h4.elim
  |succ k=>exact ⟨k,rfl⟩
 subst hk
 obtain ⟨a2,c2,h5,-⟩:=h4
 exact ⟨b,off,c,rfl,hb,h5 0 _ rfl,by simpa using h1⟩
theorem two_de {w:World} {lo:Nat} {v:Value} {x y:De} (h:IsDs w lo v [x,y]) :
  ∃ b off c pa pc ta tc,v = .slice (some ⟨b,off,none⟩) 2 c∧2≤c∧b<w.heap.size∧w.cell? ⟨b,off+2,none⟩=some (.string x.num)∧w.cell? ⟨b,off+26,none⟩=some (.slice pa y.ps.length pc)∧w.cell? ⟨b,off+30,none⟩=some (.slice ta y.t.r.length tc):=by
 obtain ⟨a,c,rfl,h1,h2,h3⟩:=h
 obtain ⟨b,off,rfl,-,hb,hj⟩:=h3 (by simp)
 obtain ⟨cs0,r0,p0⟩:=hj 0 (by simp)
 obtain ⟨cs1,r1,p1⟩:=hj 1 (by simp)
 obtain ⟨x0,rfl,d0⟩:=p0 x rfl
 obtain ⟨x1,rfl,d1⟩:=p1 y rfl
 obtain ⟨pa,pc,e1,-⟩:=d1.ps
 obtain ⟨-,ta,tc,e2,-⟩:=d1.ty
 have k1:x1.pn=y.ps.length:=by simpa using (congrArg (fun v=>match v with | Value.slice _ n _=>n | _=>0) e1)
 have k2:x1.tn=y.t.r.length:=by simpa using (congrArg (fun v=>match v with | Value.slice _ n _=>n | _=>0) e2)
 refine ⟨b,off,c,x1.pa,x1.pc,x1.ta,x1.tc,rfl,by simpa using h1,hb,?_,?_,?_⟩
 ·have:=r0 2 _ rfl
  simpa using this
 ·have:=r1 4 _ rfl
  rw [←k1]
  simpa using this
 ·have:=r1 8 _ rfl
  rw [←k2]
  simpa using this
set_option maxRecDepth 100000 in
set_option maxHeartbeats 8000000 in
theorem known15_any (w:World) (hG:SG w) (hE:EH w):Calls Tryz.prog 12 #[] w fun e w'=>e = .returned (.bool true)∧Below w.heap.size w w':=by
 have h1w:=hG.lt
 have C1:=gh (pexpr_any tx1 w hG)
 have HGE:=gh (And.intro hG (And.intro hE h1w))
 clear hG hE h1w
 go_enter Tryz.func12,Tryz.ntmps12
 go_wp2_with fail
 refine (gf C1).mono ?_
 rintro e w1 ⟨hb1,h1⟩
 obtain ⟨nm,nu,bl,u,n2,m2,b2,l2,i2,i,hx⟩:=ck1_of ev1
 rw [hx] at h1
 obtain ⟨v,rfl,hv⟩:=h1
 obtain ⟨gb,off,c,rfl,hgb,hop,hc2⟩:=two_op hv
 obtain ⟨B,eB,hbB,hsB,hhB⟩:=box_new w1 #[.int .i64 10,.string nm,.string nu,.bool bl,.slice (some ⟨gb,off,none⟩) 2 c,.int .i64 0,.int .i64 i] 36
 obtain ⟨hG,hE,h1w⟩:=gf HGE
 have hwB:Below w.heap.size w B:=hb1.trans (hbB.mono hb1.size)
 have C2:=gh (pprog_any tx2 B (hG.below hwB h1w))
 have HB:=gh (And.intro hwB (And.intro hbB (And.intro hhB (And.intro hgb hop))))
 have HEB:=gh eB
 clear C1 hb1 hv hgb hop hx eB hbB hsB hhB hG hE h1w hwB
 go_wp2_with fail
 rw [gf HEB]
 refine (gf C2).mono ?_
 rintro e w2 ⟨hb2,h2⟩
 obtain ⟨xa,xb,hx,hxn,hxp,hxr⟩:=ck2_of ev2
 rw [hx] at h2
 obtain ⟨v,rfl,hv⟩:=h2
 obtain ⟨db,doff,dc,pa,pc,ta,tc,rfl,hdc,hdb,d0,d1,d2⟩:=two_de hv
 rw [hxn] at d0
 rw [hxp] at d1
 rw [hxr] at d2
 obtain ⟨hG,hE,h1w⟩:=gf HGE
 have hw2:Below w.heap.size w w2:=(gf HB).1.trans (hb2.mono (gf HB).1.size)
 have C3:=gh (pprog_any tx3 w2 (hG.below hw2 h1w))
 have HD:=gh (And.intro hw2 (And.intro hb2 (And.intro hdb (And.intro d0 (And.intro d1 d2)))))
 clear C2 hb2 hv hdb d0 d1 d2 hx hxn hxp hxr hG hE h1w hw2
 go_wp2_with fail
 refine (gf C3).mono ?_
 rintro e w3 ⟨hb3,h3⟩
 rw [ck3_of ev3] at h3
 obtain ⟨v,rfl,pb,rfl,hp⟩:=h3
 obtain ⟨hG,hE,h1w⟩:=gf HGE
 have hw3:Below w.heap.size w w3:=(gf HD).1.trans (hb3.mono (gf HD).1.size)
 have C4:=gh (told_err 21 150 pb w3 (hE.below hw3 (by omega)) hp)
 have H3:=gh (And.intro hw3 hb3)
 clear C3 hb3 hp hG hE h1w hw3
 go_wp2_with fail
 refine (gf C4).mono ?_
 rintro e w4 ⟨rfl,hb4⟩
 obtain ⟨hwB,hbB,hhB,hgb,hop⟩:=gf HB
 obtain ⟨hw2,hb2,hdb,d0,d1,d2⟩:=gf HD
 obtain ⟨hw3,hb3⟩:=gf H3
 have hB4:Below B.heap.size B w4:=(hb2.trans (hb3.mono hb2.size)).trans (hb4.mono (Nat.le_trans hb2.size hb3.size))
 have h24:Below w2.heap.size w2 w4:=hb3.trans (hb4.mono hb3.size)
 have hh4:=(hB4.block _ (blk hhB).1).trans hhB
 have y0:=(blk hh4).2.1 0 _ rfl
 have y4:=(blk hh4).2.1 4 _ rfl
 have y7:w4.cell? ⟨gb,off+7,none⟩=some (.int .i64 9):=((hB4.cell (p:=⟨gb,off+7,none⟩) (Nat.lt_of_lt_of_le hgb hbB.size)).trans (hbB.cell (p:=⟨gb,off+7,none⟩) hgb)).trans hop
 have e0:=(h24.cell (p:=⟨db,doff+2,none⟩) hdb).trans d0
 have e1:=(h24.cell (p:=⟨db,doff+26,none⟩) hdb).trans d1
 have e2:=(h24.cell (p:=⟨db,doff+30,none⟩) hdb).trans d2
 have HW:=gh (hw3.trans (hb4.mono hw3.size))
 obtain ⟨NN,hNN⟩:∃ x:ByteArray,⟨#[45,51]⟩=x:=⟨_,rfl⟩
 have en:(NN.toList == [45,51])=true:=by rw [←hNN,Lib.toList_data];rfl
 rw [hNN] at e0
 clear hwB hbB hhB hgb hop hw2 hb2 hdb d0 d1 d2 hw3 hb3 hB4 h24 hh4 hb4 C4 hNN
 go_wp2
 go_ret
 exact ⟨rfl,gf HW⟩
end Go.Proofs.YtfkfnbehdcmgeaaGreatDoor
