/- The document's Program at a text whose bytes a function tells: the kernel's way. -/
import Derived.Test.YtljhpbjngbbjbaaDoorZAR
import Derived.Test.YtljhpbjngbbjbaaDoorZAT
import Derived.Test.YtljhpbjngbbjbaaDoorZAH
import Derived.Test.YtljhpbjngbbjbaaDoorZAB
import Derived.Test.YtljhpbjngbbjbaaDoorZAC
set_option linter.unusedVariables false
set_option linter.unusedSimpArgs false

/- The document's Program at any text. -/
namespace Go.Proofs.YtljhpbjngbbjbaaDoor
open Go Go.RowKit
/-- What the document's Program makes of a text. -/
def progRD (s : ByteArray) : Except (Int × Int) (List De) :=
  match (tk s).2 with
  | some (a, n) => .error (a, n)
  | none => progD (tkL s)
def RProgP (s : ByteArray) (w : World) (e : Ending) (w' : World) : Prop := Below w.heap.size w w' ∧
  match progRD s with
  | .ok l => ∃ v, e = .returned (.tuple #[v, .int .i64 0, .int .i64 0]) ∧ IsDs w' w.heap.size v l
  | .error (i, n) => e = .returned (.tuple #[.slice none 0 0, .int .i64 i, .int .i64 n])
theorem results_t3 {W : World} {fn : Func} {tmps : Array Value} {t j k : Nat} {v u x : Value} (hf : fn.results = #[.tmp t, .tmp j, .tmp k]) (ht : tmps[t]? = some v) (hj : tmps[j]? = some u) (hk : tmps[k]? = some x) : (results fn tmps).run Tryd.prog W = .ok (.tuple #[v, u, x]) W := by
  simp [results, hf, ht, hj, hk]
theorem below_dn (w : World) (n : Nat) : Below w.heap.size w (w.drewN n) := by
  induction n with
  | zero => exact Below.refl _ w
  | succ n ih => exact ih.drew
theorem below_of_but {w W V : World} {r : Nat} (h : Below w.heap.size w W) (hb : But r W V) (hr : w.heap.size ≤ r) : Below w.heap.size w V := below_but hb hr h.size |> h.trans
set_option maxRecDepth 100000 in
set_option maxHeartbeats 16000000 in
theorem rprog_any (s : ByteArray) (w : World) (hU : Lib.Utf8Tabs 1 2 w) : Calls Tryd.prog 19 #[.string s] w (RProgP s w) := by
  have HC := hide (refTokens_any s w hU)
  clear hU
  go_enter Tryd.func19, Tryd.ntmps19
  generalize hQQ : bodyPost Tryd.prog Tryd.f19 (RProgP s w) = QQ
  have HQQ := hide hQQ
  clear hQQ
  go_wp2_with fail
  refine (unhide HC).mono ?_
  intro e w1 h1
  cases hx : (tk s).2 with
  | some er =>
    obtain ⟨a, n⟩ := er
    obtain ⟨hb1, rfl⟩ := rkp_err h1 hx
    have hn := tk_num hx
    have g1 : ¬ (n : Int) = 0 := by omega
    have g2 : ((n : Int) == 0) = false := by simpa using g1
    have g3 : decide ((n : Int) = 0) = false := by simpa using g1
    have H1 := hide (And.intro hb1 hx)
    clear hb1 hn h1 hx HC
    go_wp2
    rw [← unhide HQQ]
    refine bodyPost_ret (results_t3 rfl rfl rfl rfl) rfl ⟨(unhide H1).1, ?_⟩
    unfold progRD
    rw [(unhide H1).2]
    rfl
  | none =>
    obtain ⟨hb1, g, c, rfl, hg, hc, hcell⟩ := rkp_rd h1 hx
    obtain ⟨B, eB, hbB, hsB, hhB⟩ := box_new w1 #[.slice (some ⟨g, 0, none⟩) (tkL s).length c, .int .i64 0, .int .i64 0, .int .i64 0, .int .i64 0] 85
    have hT := tsok_of s
    have hPD : PD B w1.heap.size (tkL s) ⟨0, 0, 0⟩ 0 := ⟨⟨g, c, hhB, hg, hc, fun j x hx => range_same (hcell j x hx) (hbB.block g hg)⟩, hT.pos⟩
    have hD := ddecl_all (r := w1.heap.size) hT (tkl_sz s)
    have hwB : Below w.heap.size w B := hb1.trans (hbB.mono hb1.size)
    have hEq : progRD s = progD (tkL s) := by unfold progRD; rw [hx]
    obtain ⟨ts, hts⟩ : ∃ ts, tkL s = ts := ⟨_, rfl⟩
    rw [hts] at hT hPD hD hEq hcell hhB hc
    obtain ⟨Z, hZ⟩ : ∃ Z, progLD ts (ts.length + 1) [] ⟨0, 0, 0⟩ = Z := ⟨_, rfl⟩
    unfold progD at hEq
    simp only [hZ] at hEq
    obtain ⟨r, hr⟩ : ∃ r, w1.heap.size = r := ⟨_, rfl⟩
    rw [hr] at hPD hD
    have HPI : Hid (PI B r (.slice none 0 0) [] [] B) := ⟨But.refl _ _, by rw [← hr, hsB]; omega, own_nil _ _ _ _, rfl, by simp, fun j x t hx => by simp at hx⟩
    have HW := hide (And.intro hwB (show w.heap.size ≤ r by rw [← hr]; exact hb1.size))
    have HPD := hide hPD
    have HD := hide hD
    have HEB := hide eB
    have HEQ := hide hEq
    have HT := hide hT
    have HZ := hide hZ
    have HRR := hide hr
    clear hts hb1 hg hc hcell eB hbB hsB hhB hPD hD hwB hEq hT h1 hx HC hZ hr
    go_wp2_with fail
    rw [unhide HEB, unhide HRR]
    rename_i KJ hJ
    replace hJ := hide hJ
    go_loopw [9] (fun v wr => ∃ l vs S n a m c, v = .slice a m c ∧ Hid (m = l.length ∧ n + l.length = ts.length + 1 ∧ (S.e = 0 → l.length ≤ S.i)) ∧ Hid (PI B r (.slice a m c) l vs wr) ∧ Hid (PD wr r ts S 0) ∧ Hid (progLD ts n l S = Z)) (fun v _ => ts.length + 1 - lenOf (some v))
    case atStart => exact ⟨[], [], ⟨0, 0, 0⟩, ts.length + 1, none, 0, 0, rfl, ⟨rfl, by simp, fun _ => Nat.le_refl _⟩, HPI, HPD, HZ⟩
    case round =>
      obtain ⟨l, vs, S, n, a, m, c, rfl, hl, hPI, hPD, hch⟩ := hrel
      by_cases he : S.e = 0
      rotate_left
      · have HNE0 : S.e ≠ 0 := he
        have hZZ : Z = (l, S) := (unhide hch).symm.trans (progLD_end fun h => he h.1)
        clear he hch
        have HPE := hide (unhide hPI).but
        obtain ⟨er, her⟩ : ∃ er, (S).e = er := ⟨_, rfl⟩
        obtain ⟨ea, hea⟩ : ∃ ea, (S).a = ea := ⟨_, rfl⟩
        obtain ⟨gg, gc, f0, f1, f2, f3, f4, hcc, hlr, hf, ht⟩ := (unhide hPD).facts (Below.refl _ _)
        rw [her] at f2
        rw [hea] at f3
        have hZe : progRD s = .error (ea, er) := by
          have h := unhide HEQ
          rw [hZZ] at h
          rw [if_neg HNE0] at h
          rw [h]
          show Except.error ((S).a, (S).e) = _
          rw [her, hea]
        have HZE := hide hZe
        rw [her] at HNE0
        have g2 : (er == 0) = false := by simpa using HNE0
        have g3 : decide (er = 0) = false := by simpa using HNE0
        clear f0 f1 f4 hcc hf ht hZe her hea HNE0
        go_wp2_with fail
        refine unhide hJ _ _ ?_
        go_wp2_with fail
        go_quiet (fail)
        go_wp2
        rw [← unhide HQQ]
        have hwB := unhide HW
        have hfin := below_of_but hwB.1 (unhide HPE) hwB.2
        refine bodyPost_ret (results_t3 rfl rfl rfl rfl) rfl ⟨hfin.trans ((below_dn _ _).mono hfin.size), ?_⟩
        rw [unhide HZE]
        rfl
      · obtain ⟨gg, gc, f0, f1, f2, f3, f4, hcc, hlr, hf, ht⟩ := (unhide hPD).facts (Below.refl _ _)
        rw [he] at f2
        have HE0 := hide he
        have HC := hide (dt_any (unhide hPD) (unhide HT))
        unfold tkV at HC
        obtain ⟨⟨kk, TT, at9⟩, hN⟩ : ∃ X, tD ts S = X := ⟨_, rfl⟩
        rw [hN] at HC
        have HN := hide hN
        have hf0 := fld0 (.int .i64 kk) (.string TT) (.int .i64 at9)
        clear f0 f1 f3 f4 hcc hf ht hN he
        go_wp2_with fail
        refine (unhide HC).mono ?_
        rintro e w2 ⟨rfl, hb2⟩
        have HI2 := hide ((unhide hPI).but' (But.of hb2))
        have HP2 := hide ((unhide hPD).keep hb2)
        clear hb2 HC hPI hPD f2 hlr
        by_cases hk : kk = 0
        · have hZZ : Z = (l, S) := (unhide hch).symm.trans (progLD_end fun h => h.2 (by rw [unhide HN]; exact hk))
          have hq : progRD s = .ok l := by
            have h := unhide HEQ
            rw [hZZ] at h
            rw [if_pos (show S.e = 0 from unhide HE0)] at h
            exact h
          have HQR := hide hq
          obtain ⟨gg, gc, f0, f1, f2, f3, f4, hcc, hlr, hf, ht⟩ := (unhide HP2).facts (Below.refl _ _)
          rw [unhide HE0] at f2
          have n0 : (kk == 0) = true := by simpa using hk
          have n1 : decide (kk = 0) = true := by simpa using hk
          clear f0 f1 f3 f4 hcc hf ht hZZ hq hk hch
          go_wp2_with fail
          refine unhide hJ _ _ ?_
          go_wp2
          rw [← unhide HQQ]
          have hwB := unhide HW
          have hfin := below_of_but hwB.1 (unhide HI2).but hwB.2
          refine bodyPost_ret (results_t3 rfl rfl rfl rfl) rfl ⟨hfin, ?_⟩
          rw [unhide HQR]
          exact ⟨_, rfl, ((unhide HI2).ds (by have h1 := (unhide hl).2.2 (unhide HE0); have h2 := (unhide HP2).lt; have h3 := (unhide HT).len; omega)).keep (Stays.of (Below.refl _ _)) hwB.1.size⟩
        · have n0 : (kk == 0) = false := by simpa using hk
          have n1 : decide (kk = 0) = false := by simpa using hk
          have hcond : S.e = 0 ∧ (tD ts S).1 ≠ 0 := ⟨unhide HE0, by rw [unhide HN]; exact hk⟩
          have HCO := hide hcond
          obtain ⟨n, rfl⟩ : ∃ k, n = k + 1 := ⟨n - 1, by
            have h1 := (unhide hl).2.1
            have h2 := (unhide hl).2.2 (unhide HE0)
            have h3 := (unhide HP2).lt
            omega⟩
          have HC := hide (is_any (unhide HP2) (unhide HT) ⟨#[114, 101, 102]⟩)
          obtain ⟨b1, hb1⟩ : ∃ b, isD ts ⟨#[114, 101, 102]⟩ S = b := ⟨_, rfl⟩
          rw [hb1] at HC
          have HB1 := hide hb1
          clear hb1 hk hcond
          go_wp2_with fail
          refine (unhide HC).mono ?_
          rintro e w3 ⟨rfl, hb3⟩
          have HI3 := hide ((unhide HI2).but' (But.of hb3))
          have HP3 := hide ((unhide HP2).keep hb3)
          clear hb3 HC HI2 HP2 n0 n1
          rcases b1 with _ | _
          rotate_left
          · by_cases hm : m = 100
            · have hZZ : Z = (l, S.fail (tD ts S).2.2 152) := (unhide hch).symm.trans (progLD_many (unhide HCO) (by rw [unhide HB1]; rfl) (by rw [← (unhide hl).1]; exact hm))
              have HZZ := hide hZZ
              subst hm
              have HC := hide (dt_any (unhide HP3) (unhide HT))
              unfold tkV at HC
              rw [unhide HN] at HC
              have hf2 := fld2 (.int .i64 kk) (.string TT) (.int .i64 at9)
              clear hZZ
              go_wp2_with fail
              refine (unhide HC).mono ?_
              rintro e w5 ⟨rfl, hb5⟩
              have HI5 := hide ((unhide HI3).but' (But.of hb5))
              have HP5 := hide ((unhide HP3).keep hb5)
              have HC5 := hide (fail_any (unhide HP5) at9 152)
              clear hb5 HC
              go_wp2_with fail
              refine (unhide HC5).mono ?_
              rintro e w6 ⟨rfl, hb6, hR6⟩
              have HI6 := hide ((unhide HI5).but' hb6)
              have HP6 := hide hR6
              have HNE0 : (S.fail at9 152).e ≠ 0 := by
                unfold PS.fail
                rw [if_pos (unhide HE0)]
                show (152 : Int) ≠ 0
                decide
              have hZ2 : Z = (l, S.fail at9 152) := by
                have h := unhide HZZ
                rw [unhide HN] at h
                exact h
              clear hb6 hR6 HC5 HI5 HP5 HI3 HP3 hch
              have HPE := hide (unhide HI6).but
              obtain ⟨er, her⟩ : ∃ er, (S.fail at9 152).e = er := ⟨_, rfl⟩
              obtain ⟨ea, hea⟩ : ∃ ea, (S.fail at9 152).a = ea := ⟨_, rfl⟩
              obtain ⟨gg, gc, f0, f1, f2, f3, f4, hcc, hlr, hf, ht⟩ := (unhide HP6).facts (Below.refl _ _)
              rw [her] at f2
              rw [hea] at f3
              have hZe : progRD s = .error (ea, er) := by
                have h := unhide HEQ
                rw [hZ2] at h
                rw [if_neg HNE0] at h
                rw [h]
                show Except.error ((S.fail at9 152).a, (S.fail at9 152).e) = _
                rw [her, hea]
              have HZE := hide hZe
              rw [her] at HNE0
              have g2 : (er == 0) = false := by simpa using HNE0
              have g3 : decide (er = 0) = false := by simpa using HNE0
              clear f0 f1 f4 hcc hf ht hZe her hea HNE0
              go_wp2_with fail
              refine unhide hJ _ _ ?_
              go_wp2_with fail
              go_quiet (fail)
              go_wp2
              rw [← unhide HQQ]
              have hwB := unhide HW
              have hfin := below_of_but hwB.1 (unhide HPE) hwB.2
              refine bodyPost_ret (results_t3 rfl rfl rfl rfl) rfl ⟨hfin.trans ((below_dn _ _).mono hfin.size), ?_⟩
              rw [unhide HZE]
              rfl
            · have gm : ¬ (m : Int) = 100 := by omega
              have gm2 : ((m : Int) == 100) = false := by simpa using gm
              have gm3 : decide ((m : Int) = 100) = false := by simpa using gm
              have hm2 : ¬ ((isD ts ⟨#[114, 101, 102]⟩ S || isD ts ⟨#[108, 101, 116]⟩ S) = true ∧ l.length = 100) := fun h => hm (by rw [(unhide hl).1]; exact h.2)
              have HM2 := hide hm2
              clear hm hm2
              have HP9 := HP3
              have HI9 := HI3
              obtain ⟨⟨t7, S7⟩, hX7⟩ : ∃ X, declD ts S = X := ⟨_, rfl⟩
              have HC7 := hide (unhide HD _ S (unhide HP9))
              rw [hX7] at HC7
              have hch1 := unhide hch
              rw [progLD_yes (unhide HCO) (unhide HM2), hX7] at hch1
              have HCH := hide hch1
              have hgo := declD_go (unhide HT) (unhide HP9).lt (unhide HE0)
              rw [hX7] at hgo
              have HGO := hide hgo
              clear hX7 hch1 hgo
              go_wp2_with fail
              refine (unhide HC7).mono ?_
              rintro e w7 ⟨hb7, hR7, v7, rfl, x7, rfl, hin7⟩
              have hLL : deCells t7 x7 = [.bool t7.cell, .string t7.name, .string t7.num, .bool t7.again, .slice x7.pa x7.pn x7.pc, .int .i64 t7.eff, .int .i64 t7.t.kind, .string t7.t.name, .slice x7.ta x7.tn x7.tc, .int .i64 t7.t.at', .slice x7.ra x7.rn x7.rc, .string t7.res, .slice x7.ea x7.en x7.ec, .slice x7.ma x7.mn x7.mc, .int .i64 t7.body.op, .string t7.body.name, .string t7.body.num, .bool t7.body.b, .slice x7.ba x7.bn x7.bc, .int .i64 0, .int .i64 t7.body.at', .int .i64 t7.at'] := rfl
              rw [hLL]
              have hI9 := unhide HI9
              have hI7 := hI9.but' hb7
              have hlb : l.length ≤ 100000 := by
                have h1 := (unhide hl).2.2 (unhide HE0)
                have h2 := (unhide HP9).lt
                have h3 := (unhide HT).len
                omega
              obtain ⟨g, cap, wa, hrun, hoa, hga, hwa⟩ := app_de (l := [.bool t7.cell, .string t7.name, .string t7.num, .bool t7.again, .slice x7.pa x7.pn x7.pc, .int .i64 t7.eff, .int .i64 t7.t.kind, .string t7.t.name, .slice x7.ta x7.tn x7.tc, .int .i64 t7.t.at', .slice x7.ra x7.rn x7.rc, .string t7.res, .slice x7.ea x7.en x7.ec, .slice x7.ma x7.mn x7.mc, .int .i64 t7.body.op, .string t7.body.name, .string t7.body.num, .bool t7.body.b, .slice x7.ba x7.bn x7.bc, .int .i64 0, .int .i64 t7.body.at', .int .i64 t7.at']) rfl (List.all_eq_true.1 rfl) hI7.own hlb hI7.but.size
              obtain ⟨hnew, hkk⟩ := hI9.more hb7 rfl (t7 := t7) ⟨x7, hLL.symm, hin7.toP⟩ hoa hga hwa
              have hRn := hR7.out (w' := wa) (q := B.heap.size) hI9.rlt (fun k hk => hkk k hk)
              have HNW := hide (And.intro hnew hRn)
              rw [(unhide hl).1.symm] at hrun
              have R1 := hide hrun
              clear hb7 hR7 hin7 hI9 hI7 hlb hrun hoa hga hwa hnew hRn hkk HC7 hLL
              go_wp2_with (at_builtin; refine app_run _ _ _ rfl rfl rfl rfl (unhide R1) ?_; clear R1)
              obtain ⟨hnew, hRn⟩ := unhide HNW
              obtain ⟨hl1, hl2, hl3⟩ := unhide hl
              have hle := hl3 (unhide HE0)
              have hP9 := (unhide HP9).lt
              subst hl1
              refine ⟨⟨l ++ [t7], _, S7, n, some ⟨g, 0, none⟩, l.length + 1, cap, rfl, ⟨by simp, by simp; omega, fun h => ?_⟩, hide hnew, hide hRn, HCH⟩, ?_⟩
              · have h9 := (unhide HGO).1 (by rw [unhide HB1]; rfl)
                simp only [List.length_append, List.length_singleton]
                omega
              · show ts.length + 1 - (l.length + 1) < ts.length + 1 - l.length
                omega
          · have HC := hide (is_any (unhide HP3) (unhide HT) ⟨#[108, 101, 116]⟩)
            obtain ⟨b2, hb2⟩ : ∃ b, isD ts ⟨#[108, 101, 116]⟩ S = b := ⟨_, rfl⟩
            rw [hb2] at HC
            have HB2 := hide hb2
            clear hb2
            go_wp2_with fail
            refine (unhide HC).mono ?_
            rintro e w4 ⟨rfl, hb4⟩
            have HI4 := hide ((unhide HI3).but' (But.of hb4))
            have HP4 := hide ((unhide HP3).keep hb4)
            clear hb4 HC HI3 HP3
            rcases b2 with _ | _
            rotate_left
            · by_cases hm : m = 100
              · have hZZ : Z = (l, S.fail (tD ts S).2.2 152) := (unhide hch).symm.trans (progLD_many (unhide HCO) (by rw [unhide HB1, unhide HB2]; rfl) (by rw [← (unhide hl).1]; exact hm))
                have HZZ := hide hZZ
                subst hm
                have HC := hide (dt_any (unhide HP4) (unhide HT))
                unfold tkV at HC
                rw [unhide HN] at HC
                have hf2 := fld2 (.int .i64 kk) (.string TT) (.int .i64 at9)
                clear hZZ
                go_wp2_with fail
                refine (unhide HC).mono ?_
                rintro e w5 ⟨rfl, hb5⟩
                have HI5 := hide ((unhide HI4).but' (But.of hb5))
                have HP5 := hide ((unhide HP4).keep hb5)
                have HC5 := hide (fail_any (unhide HP5) at9 152)
                clear hb5 HC
                go_wp2_with fail
                refine (unhide HC5).mono ?_
                rintro e w6 ⟨rfl, hb6, hR6⟩
                have HI6 := hide ((unhide HI5).but' hb6)
                have HP6 := hide hR6
                have HNE0 : (S.fail at9 152).e ≠ 0 := by
                  unfold PS.fail
                  rw [if_pos (unhide HE0)]
                  show (152 : Int) ≠ 0
                  decide
                have hZ2 : Z = (l, S.fail at9 152) := by
                  have h := unhide HZZ
                  rw [unhide HN] at h
                  exact h
                clear hb6 hR6 HC5 HI5 HP5 HI4 HP4 hch
                have HPE := hide (unhide HI6).but
                obtain ⟨er, her⟩ : ∃ er, (S.fail at9 152).e = er := ⟨_, rfl⟩
                obtain ⟨ea, hea⟩ : ∃ ea, (S.fail at9 152).a = ea := ⟨_, rfl⟩
                obtain ⟨gg, gc, f0, f1, f2, f3, f4, hcc, hlr, hf, ht⟩ := (unhide HP6).facts (Below.refl _ _)
                rw [her] at f2
                rw [hea] at f3
                have hZe : progRD s = .error (ea, er) := by
                  have h := unhide HEQ
                  rw [hZ2] at h
                  rw [if_neg HNE0] at h
                  rw [h]
                  show Except.error ((S.fail at9 152).a, (S.fail at9 152).e) = _
                  rw [her, hea]
                have HZE := hide hZe
                rw [her] at HNE0
                have g2 : (er == 0) = false := by simpa using HNE0
                have g3 : decide (er = 0) = false := by simpa using HNE0
                clear f0 f1 f4 hcc hf ht hZe her hea HNE0
                go_wp2_with fail
                refine unhide hJ _ _ ?_
                go_wp2_with fail
                go_quiet (fail)
                go_wp2
                rw [← unhide HQQ]
                have hwB := unhide HW
                have hfin := below_of_but hwB.1 (unhide HPE) hwB.2
                refine bodyPost_ret (results_t3 rfl rfl rfl rfl) rfl ⟨hfin.trans ((below_dn _ _).mono hfin.size), ?_⟩
                rw [unhide HZE]
                rfl
              · have gm : ¬ (m : Int) = 100 := by omega
                have gm2 : ((m : Int) == 100) = false := by simpa using gm
                have gm3 : decide ((m : Int) = 100) = false := by simpa using gm
                have hm2 : ¬ ((isD ts ⟨#[114, 101, 102]⟩ S || isD ts ⟨#[108, 101, 116]⟩ S) = true ∧ l.length = 100) := fun h => hm (by rw [(unhide hl).1]; exact h.2)
                have HM2 := hide hm2
                clear hm hm2
                have HP9 := HP4
                have HI9 := HI4
                obtain ⟨⟨t7, S7⟩, hX7⟩ : ∃ X, declD ts S = X := ⟨_, rfl⟩
                have HC7 := hide (unhide HD _ S (unhide HP9))
                rw [hX7] at HC7
                have hch1 := unhide hch
                rw [progLD_yes (unhide HCO) (unhide HM2), hX7] at hch1
                have HCH := hide hch1
                have hgo := declD_go (unhide HT) (unhide HP9).lt (unhide HE0)
                rw [hX7] at hgo
                have HGO := hide hgo
                clear hX7 hch1 hgo
                go_wp2_with fail
                refine (unhide HC7).mono ?_
                rintro e w7 ⟨hb7, hR7, v7, rfl, x7, rfl, hin7⟩
                have hLL : deCells t7 x7 = [.bool t7.cell, .string t7.name, .string t7.num, .bool t7.again, .slice x7.pa x7.pn x7.pc, .int .i64 t7.eff, .int .i64 t7.t.kind, .string t7.t.name, .slice x7.ta x7.tn x7.tc, .int .i64 t7.t.at', .slice x7.ra x7.rn x7.rc, .string t7.res, .slice x7.ea x7.en x7.ec, .slice x7.ma x7.mn x7.mc, .int .i64 t7.body.op, .string t7.body.name, .string t7.body.num, .bool t7.body.b, .slice x7.ba x7.bn x7.bc, .int .i64 0, .int .i64 t7.body.at', .int .i64 t7.at'] := rfl
                rw [hLL]
                have hI9 := unhide HI9
                have hI7 := hI9.but' hb7
                have hlb : l.length ≤ 100000 := by
                  have h1 := (unhide hl).2.2 (unhide HE0)
                  have h2 := (unhide HP9).lt
                  have h3 := (unhide HT).len
                  omega
                obtain ⟨g, cap, wa, hrun, hoa, hga, hwa⟩ := app_de (l := [.bool t7.cell, .string t7.name, .string t7.num, .bool t7.again, .slice x7.pa x7.pn x7.pc, .int .i64 t7.eff, .int .i64 t7.t.kind, .string t7.t.name, .slice x7.ta x7.tn x7.tc, .int .i64 t7.t.at', .slice x7.ra x7.rn x7.rc, .string t7.res, .slice x7.ea x7.en x7.ec, .slice x7.ma x7.mn x7.mc, .int .i64 t7.body.op, .string t7.body.name, .string t7.body.num, .bool t7.body.b, .slice x7.ba x7.bn x7.bc, .int .i64 0, .int .i64 t7.body.at', .int .i64 t7.at']) rfl (List.all_eq_true.1 rfl) hI7.own hlb hI7.but.size
                obtain ⟨hnew, hkk⟩ := hI9.more hb7 rfl (t7 := t7) ⟨x7, hLL.symm, hin7.toP⟩ hoa hga hwa
                have hRn := hR7.out (w' := wa) (q := B.heap.size) hI9.rlt (fun k hk => hkk k hk)
                have HNW := hide (And.intro hnew hRn)
                rw [(unhide hl).1.symm] at hrun
                have R1 := hide hrun
                clear hb7 hR7 hin7 hI9 hI7 hlb hrun hoa hga hwa hnew hRn hkk HC7 hLL
                go_wp2_with (at_builtin; refine app_run _ _ _ rfl rfl rfl rfl (unhide R1) ?_; clear R1)
                obtain ⟨hnew, hRn⟩ := unhide HNW
                obtain ⟨hl1, hl2, hl3⟩ := unhide hl
                have hle := hl3 (unhide HE0)
                have hP9 := (unhide HP9).lt
                subst hl1
                refine ⟨⟨l ++ [t7], _, S7, n, some ⟨g, 0, none⟩, l.length + 1, cap, rfl, ⟨by simp, by simp; omega, fun h => ?_⟩, hide hnew, hide hRn, HCH⟩, ?_⟩
                · have h9 := (unhide HGO).1 (by rw [unhide HB1, unhide HB2]; rfl)
                  simp only [List.length_append, List.length_singleton]
                  omega
                · show ts.length + 1 - (l.length + 1) < ts.length + 1 - l.length
                  omega
            · have HP9 := HP4
              have HI9 := HI4
              obtain ⟨⟨t7, S7⟩, hX7⟩ : ∃ X, declD ts S = X := ⟨_, rfl⟩
              have HC7 := hide (unhide HD _ S (unhide HP9))
              rw [hX7] at HC7
              have hch1 := unhide hch
              rw [progLD_yes (unhide HCO) (fun h => by have h1 := h.1; rw [unhide HB1, unhide HB2] at h1; cases h1), hX7] at hch1
              have HCH := hide hch1
              have hgo := declD_go (unhide HT) (unhide HP9).lt (unhide HE0)
              rw [hX7] at hgo
              have HGO := hide hgo
              clear hX7 hch1 hgo
              go_wp2_with fail
              refine (unhide HC7).mono ?_
              rintro e w7 ⟨hb7, hR7, v7, rfl, x7, rfl, hin7⟩
              have hLL : deCells t7 x7 = [.bool t7.cell, .string t7.name, .string t7.num, .bool t7.again, .slice x7.pa x7.pn x7.pc, .int .i64 t7.eff, .int .i64 t7.t.kind, .string t7.t.name, .slice x7.ta x7.tn x7.tc, .int .i64 t7.t.at', .slice x7.ra x7.rn x7.rc, .string t7.res, .slice x7.ea x7.en x7.ec, .slice x7.ma x7.mn x7.mc, .int .i64 t7.body.op, .string t7.body.name, .string t7.body.num, .bool t7.body.b, .slice x7.ba x7.bn x7.bc, .int .i64 0, .int .i64 t7.body.at', .int .i64 t7.at'] := rfl
              rw [hLL]
              have hI9 := unhide HI9
              have hI7 := hI9.but' hb7
              have hlb : l.length ≤ 100000 := by
                have h1 := (unhide hl).2.2 (unhide HE0)
                have h2 := (unhide HP9).lt
                have h3 := (unhide HT).len
                omega
              obtain ⟨g, cap, wa, hrun, hoa, hga, hwa⟩ := app_de (l := [.bool t7.cell, .string t7.name, .string t7.num, .bool t7.again, .slice x7.pa x7.pn x7.pc, .int .i64 t7.eff, .int .i64 t7.t.kind, .string t7.t.name, .slice x7.ta x7.tn x7.tc, .int .i64 t7.t.at', .slice x7.ra x7.rn x7.rc, .string t7.res, .slice x7.ea x7.en x7.ec, .slice x7.ma x7.mn x7.mc, .int .i64 t7.body.op, .string t7.body.name, .string t7.body.num, .bool t7.body.b, .slice x7.ba x7.bn x7.bc, .int .i64 0, .int .i64 t7.body.at', .int .i64 t7.at']) rfl (List.all_eq_true.1 rfl) hI7.own hlb hI7.but.size
              obtain ⟨hnew, hkk⟩ := hI9.more hb7 rfl (t7 := t7) ⟨x7, hLL.symm, hin7.toP⟩ hoa hga hwa
              have hRn := hR7.out (w' := wa) (q := B.heap.size) hI9.rlt (fun k hk => hkk k hk)
              have HNW := hide (And.intro hnew hRn)
              rw [(unhide hl).1.symm] at hrun
              have R1 := hide hrun
              clear hb7 hR7 hin7 hI9 hI7 hlb hrun hoa hga hwa hnew hRn hkk HC7 hLL
              go_wp2_with (at_builtin; refine app_run _ _ _ rfl rfl rfl rfl (unhide R1) ?_; clear R1)
              obtain ⟨hnew, hRn⟩ := unhide HNW
              obtain ⟨hl1, hl2, hl3⟩ := unhide hl
              have hle := hl3 (unhide HE0)
              have hP9 := (unhide HP9).lt
              subst hl1
              refine ⟨⟨l ++ [t7], _, S7, n, some ⟨g, 0, none⟩, l.length + 1, cap, rfl, ⟨by simp, by simp; omega, fun h => ?_⟩, hide hnew, hide hRn, HCH⟩, ?_⟩
              · exact absurd h ((unhide HGO).2 (by rw [unhide HB1, unhide HB2]; rfl))
              · show ts.length + 1 - (l.length + 1) < ts.length + 1 - l.length
                omega
end Go.Proofs.YtljhpbjngbbjbaaDoor

/- avowlaw17: what its known() reads, by the kernel; trees within what Resolve answers. -/
namespace Go.Proofs.YtljhpbjngbbjbaaDoor
open Go Go.RowKit
set_option maxRecDepth 100000 in
set_option maxHeartbeats 16000000 in
theorem told_errJ (a n : Int) (b : Nat) (w : World) (hE : EH w) (hb : w.heap[b]? = some (.cells #[.int .i64 a, .int .i64 n] 67)) : Calls Tryd.prog 9 #[.iface 60 (.pointer (some ⟨b, 0, none⟩))] w fun e w' => e = .returned (.tuple #[.int .i64 a, .int .i64 n]) ∧ Below w.heap.size w w' := by
  have hlt : b < w.heap.size := (Array.getElem?_eq_some_iff.1 hb).1
  have hb0 : w.cell? ⟨b, 0, none⟩ = some (.int .i64 a) := by simp only [World.cell?, hb]; rfl
  have hb1 : w.cell? ⟨b, 1, none⟩ = some (.int .i64 n) := by simp only [World.cell?, hb]; rfl
  have c := as_short ⟨b, 0, none⟩ ⟨w.heap.size, 0, none⟩ (.pointer none) (w.alloc (.cells #[.pointer none] 60)) (hE.below ((Below.refl w.heap.size w).alloc (Nat.le_refl _) _) hE.lt) (by simp) (by simp)
  replace hb := hide hb
  replace hE := hide hE
  go_enter Tryd.func9, Tryd.ntmps9
  go_wp2_with (refine c.mono ?_; rintro e W ⟨rfl, c1, c2, c3⟩; have q0 := c2 ⟨b, 0, none⟩ (by simp; omega) (by simp; omega); have q1 := c2 ⟨b, 1, none⟩ (by simp; omega) (by simp; omega); have hB := c3 w.heap.size (by simp); rw [World.cell?_alloc_lt _ _ ⟨b, 0, none⟩ hlt, hb0] at q0; rw [World.cell?_alloc_lt _ _ ⟨b, 1, none⟩ hlt, hb1] at q1; replace c2 := hide c2; replace c3 := hide c3)
  go_quiet (fail)
  go_wp2
  go_ret2
  have h := ((Below.refl w.heap.size w).alloc (Nat.le_refl _) _).trans hB
  exact ⟨rfl, ⟨h.os, h.tape, h.output, h.size, h.block⟩⟩


theorem OLp.nth {p : Nat → Nat → Nat → Nat → Er → Prop} {q : Nat} : ∀ (l : List Er) (j lo hi o : Nat) (t : Er), OLp p q lo hi o l → l[j]? = some t → ∃ m1 m2, p m1 m2 q (o + 7 * j) t
  | [], _, _, _, _, _, _, h => by simp at h
  | u :: l, 0, lo, hi, o, t, ⟨m, h1, h2, h3⟩, h => by
    obtain rfl : u = t := by simpa using h
    exact ⟨lo, m, h2⟩
  | u :: l, j + 1, lo, hi, o, t, ⟨m, h1, h2, h3⟩, h => by
    obtain ⟨m1, m2, h4⟩ := OLp.nth l j m hi (o + 7) t h3 (by simpa using h)
    exact ⟨m1, m2, by rw [show o + 7 * (j + 1) = o + 7 + 7 * j by omega]; exact h4⟩
theorem OLg.nth {α : Type} {st : Nat} {p : Nat → Nat → Nat → Nat → α → Prop} {q : Nat} : ∀ (l : List α) (j lo hi o : Nat) (t : α), OLg st p q lo hi o l → l[j]? = some t → ∃ m1 m2, p m1 m2 q (o + st * j) t
  | [], _, _, _, _, _, _, h => by simp at h
  | u :: l, 0, lo, hi, o, t, ⟨m, h1, h2, h3⟩, h => by
    obtain rfl : u = t := by simpa using h
    exact ⟨lo, m, h2⟩
  | u :: l, j + 1, lo, hi, o, t, ⟨m, h1, h2, h3⟩, h => by
    obtain ⟨m1, m2, h4⟩ := OLg.nth l j m hi (o + st) t h3 (by simpa using h)
    exact ⟨m1, m2, by rw [show o + st * (j + 1) = o + st + st * j by rw [Nat.mul_add]; omega]; exact h4⟩
theorem od_body {w : World} {K lo hi n c j : Nat} {a : Option Addr} {ds : List Dz} {d : Dz} (h : OSg 22 (OD w K) lo hi a n c ds) (hd : ds[j]? = some d) : ∃ q o m1 m2, a = some ⟨q, o, none⟩ ∧ q < hi ∧ OE w (K + 1) m1 m2 q (o + (22 * j + 14)) d.body := by
  have hne : ds ≠ [] := fun e => by rw [e] at hd; simp at hd
  obtain ⟨q, o, e, h1, h2, h3⟩ := h.2.2.2.2.1 hne
  obtain ⟨m1, m2, x, i1, i2, i3, i4, i5, h4⟩ := OLg.nth ds j _ _ _ d h3 hd
  exact ⟨q, o, i5, m2, e, h2, by rw [← Nat.add_assoc]; exact h4.body⟩
theorem oe_kid {w : World} {k lo hi b o j : Nat} {t u : Er} (h : OE w (k + 1) lo hi b o t) (hj : t.l[j]? = some u) : ∃ q o' c m1 m2, w.cell? ⟨b, o + 4, none⟩ = some (.slice (some ⟨q, o', none⟩) t.l.length c) ∧ q < hi ∧ OE w k m1 m2 q (o' + 7 * j) u := by
  obtain ⟨a, n, c, h1, h2, h3, h4, h5, h6, h7, h8⟩ := h
  have hne : t.l ≠ [] := fun e => by rw [e] at hj; simp at hj
  obtain ⟨q, o', rfl, g1, g2, g3⟩ := h7 hne
  obtain ⟨m1, m2, g4⟩ := OLp.nth t.l j _ _ _ u g3 hj
  exact ⟨q, o', c, m1, m2, by rw [← h3]; exact h1 4 _ rfl, g2, g4⟩
theorem IsDs.toQ {w : World} {lo : Nat} {v : Value} {l : List De} (h : IsDs w lo v l) : DsQ w (fun b => lo ≤ b) v l := by
  obtain ⟨a, c, e, h1, h2, h3⟩ := h
  refine ⟨a, c, e, h1, h2, fun h0 => ?_⟩
  obtain ⟨b, off, e2, h4, h5, h6⟩ := h3 h0
  refine ⟨b, off, e2, h4, h5, fun j hj => ?_⟩
  obtain ⟨cs, h7, h8⟩ := h6 j hj
  refine ⟨cs, h7, fun t ht => ?_⟩
  obtain ⟨x, e3, h9⟩ := h8 t ht
  exact ⟨x, e3, h9.toP⟩
theorem DsQ.below {w w' : World} {P : Nat → Prop} {v : Value} {l : List De} (h : DsQ w P v l) (hb : Below w.heap.size w w') : DsQ w' (fun b => P b ∧ b < w.heap.size) v l := RowP.keep (RowP.bnd h fun _ _ h => h) ⟨hb.size, fun k hk hs => hb.block k hs⟩ (fun _ h => h) fun _ _ h t ht => (h t ht).bnd.keep ⟨hb.size, fun k hk hs => hb.block k hs⟩ fun _ h => h
def kn1 : ByteArray := ⟨#[114, 101, 102, 32, 99, 32, 58, 61, 32, 49, 59, 59, 32, 108, 101, 116, 32, 102, 32, 58, 32, 80, 117, 114, 101, 32, 105, 110, 116, 32, 105, 115, 32, 108, 101, 116, 32, 120, 32, 61, 32, 49, 32, 105, 110, 32, 108, 101, 116, 32, 121, 32, 61, 32, 50, 32, 105, 110, 32, 120, 59, 59]⟩
def kn2 : ByteArray := ⟨#[108, 101, 116, 32, 102, 32, 58, 32, 80, 117, 114, 101, 32, 105, 110, 116, 32, 105, 115, 32, 121, 59, 59]⟩
def strs (l : List ByteArray) : List (List UInt8) := l.map fun s => s.data.toList
/-- What known() wants of the first text. -/
def ckn1 (x : Except (Int × Int) (List De)) : Bool := match x with
  | .error _ => false
  | .ok l => l.all (hiD 30) && decide (coS 30 l ≤ 65536) && decide (l.length = 2) && decide (strs (celK l 2) = [[99]]) && decide (defK l 2 = [1]) && (match rxR 30 l with
    | .ok [_, d] => (match d.body.l with
      | [_, u] => (match u.l with
        | [_, v] => decide (v.i = 1)
        | _ => false)
      | _ => false)
    | _ => false)
def ckn2 (x : Except (Int × Int) (List De)) : Bool := match x with
  | .error _ => false
  | .ok l => l.all (hiD 30) && decide (coS 30 l ≤ 65536) && (match rxR 30 l with
    | .error (a, n) => decide (a = 20) && decide (n = 170)
    | .ok _ => false)
theorem kn1_ok : ckn1 (progRD kn1) = true := by kernel_rfl
theorem kn2_ok : ckn2 (progRD kn2) = true := by kernel_rfl
end Go.Proofs.YtljhpbjngbbjbaaDoor

/- avowlaw17's known() is true. -/
namespace Go.Proofs.YtljhpbjngbbjbaaDoor
open Go Go.RowKit
theorem strs_inj : ∀ (a b : List ByteArray), strs a = strs b → a = b
  | [], [], _ => rfl
  | [], _ :: _, h => by simp [strs] at h
  | _ :: _, [], h => by simp [strs] at h
  | x :: a, y :: b, h => by
    simp only [strs, List.map_cons, List.cons.injEq] at h
    have e : x = y := by
      apply ByteArray.ext
      exact Array.toList_inj.1 h.1
    rw [e, strs_inj a b h.2]
theorem ckn1_of {x : Except (Int × Int) (List De)} (h : ckn1 x = true) : ∃ l, x = .ok l ∧ l.all (hiD 30) = true ∧ coS 30 l ≤ 65536 ∧ l.length = 2 ∧ celK l 2 = [⟨#[99]⟩] ∧ defK l 2 = [1] ∧ ∃ (d0 d : Dz) (u0 u v0 v : Er), rxR 30 l = .ok [d0, d] ∧ d.body.l = [u0, u] ∧ u.l = [v0, v] ∧ v.i = 1 := by
  unfold ckn1 at h
  split at h
  · cases h
  · rename_i l
    simp only [Bool.and_eq_true, decide_eq_true_eq] at h
    obtain ⟨⟨⟨⟨⟨h1, h2⟩, h3⟩, h4⟩, h5⟩, h6⟩ := h
    refine ⟨l, rfl, h1, h2, h3, strs_inj _ _ h4, h5, ?_⟩
    split at h6
    · rename_i d0 d e
      split at h6
      · rename_i u0 u e2
        split at h6
        · rename_i v0 v e3
          exact ⟨d0, d, u0, u, v0, v, e, e2, e3, by simpa using h6⟩
        · cases h6
      · cases h6
    · cases h6
theorem ckn2_of {x : Except (Int × Int) (List De)} (h : ckn2 x = true) : ∃ l, x = .ok l ∧ l.all (hiD 30) = true ∧ coS 30 l ≤ 65536 ∧ rxR 30 l = .error (20, 170) := by
  unfold ckn2 at h
  split at h
  · cases h
  · rename_i l
    simp only [Bool.and_eq_true, decide_eq_true_eq] at h
    obtain ⟨⟨h1, h2⟩, h6⟩ := h
    refine ⟨l, rfl, h1, h2, ?_⟩
    split at h6
    · rename_i a n e
      simp only [Bool.and_eq_true, decide_eq_true_eq] at h6
      rw [e, h6.1, h6.2]
    · cases h6
set_option maxRecDepth 100000 in
set_option maxHeartbeats 16000000 in
theorem known17_any (w : World) (hU : Lib.Utf8Tabs 1 2 w) (hE : EH w) : Calls Tryd.prog 6 #[] w fun e w' => e = .returned (.bool true) ∧ Below w.heap.size w w' := by
  have h1w := u8_lt hU
  have C1 := hide (rprog_any kn1 w hU)
  have HGE := hide (And.intro hU (And.intro hE h1w))
  clear hU hE h1w
  go_enter Tryd.func6, Tryd.ntmps6
  go_wp2_with fail
  refine (unhide C1).mono ?_
  rintro e w1 ⟨hb1, h1⟩
  obtain ⟨l1, el1, hi1, co1, len1, ce1, de1, d0, d, u0, u, v0, v, rx1, du, uv, vi⟩ := ckn1_of kn1_ok
  rw [el1] at h1
  obtain ⟨v1, rfl, hv1⟩ := h1
  have hq1 := hv1.toQ
  obtain ⟨a1, c1, rfl, -⟩ := id hq1
  rw [len1] at hq1
  have HQ := hide (And.intro hb1 hq1)
  have C2 := hide (resolve_any (K := 30) hq1 hi1 co1 (by omega))
  have HK := hide (And.intro len1 (And.intro ce1 (And.intro de1 (And.intro rx1 (And.intro du (And.intro uv vi))))))
  rw [len1]
  clear C1 hb1 hv1 hq1 el1 hi1 co1 len1 ce1 de1 rx1 du uv vi
  go_wp2_with fail
  refine (unhide C2).mono ?_
  rintro e w2 ⟨hb2, h2⟩
  obtain ⟨len1, ce1, de1, rx1, du, uv, vi⟩ := unhide HK
  rw [rx1] at h2
  obtain ⟨a2, c2, hi2, rfl, ho2, hs2⟩ := h2
  have hn2 : (2 : Nat) ≤ c2 := ho2.2.1
  obtain ⟨q, o, m1, m2, rfl, hq2, hB⟩ := od_body (j := 1) ho2 rfl
  obtain ⟨q1, o1, k1, n1, n2, y1, hq3, hU1⟩ := oe_kid (j := 1) hB (by rw [du]; rfl)
  obtain ⟨q4, o4, k4, n3, n4, y2, hq5, hV1⟩ := oe_kid (j := 1) hU1 (by rw [uv]; rfl)
  obtain ⟨-, -, -, -, -, -, y3, -⟩ := hV1.cells
  rw [du] at y1
  rw [uv] at y2
  rw [vi] at y3
  have z1 := hB.has
  have z2 := hU1.has
  have z3 := hV1.has
  have hw2 : Below w.heap.size w w2 := (unhide HQ).1.trans (hb2.mono (unhide HQ).1.size)
  obtain ⟨hU, hE, h1w⟩ := unhide HGE
  have C3 := hide (rprog_any kn2 w2 (u8_below hU hw2 h1w))
  have HY := hide (And.intro y1 (And.intro y2 (And.intro y3 (And.intro z1 (And.intro z2 (And.intro z3 hn2))))))
  have H2 := hide (And.intro hw2 hb2)
  clear C2 hb2 ho2 hs2 hn2 hB y1 hU1 y2 hV1 y3 z1 z2 z3 hw2 hU hE h1w len1 ce1 de1 rx1 du uv vi hq2 hq3 hq5
  go_wp2_with fail
  refine (unhide C3).mono ?_
  rintro e w3 ⟨hb3, h3⟩
  obtain ⟨l2, el2, hi3, co3, rx2⟩ := ckn2_of kn2_ok
  rw [el2] at h3
  obtain ⟨v3, rfl, hv3⟩ := h3
  have hq3 := hv3.toQ
  obtain ⟨a3, c3, rfl, -⟩ := id hq3
  have C4 := hide (resolve_any (K := 30) hq3 hi3 co3 (by omega))
  have H3 := hide (And.intro ((unhide H2).1.trans (hb3.mono (unhide H2).1.size)) (And.intro hb3 rx2))
  clear C3 hb3 hv3 hq3 el2 hi3 co3 rx2
  go_wp2_with fail
  refine (unhide C4).mono ?_
  rintro e w4 ⟨hb4, h4⟩
  rw [(unhide H3).2.2] at h4
  obtain ⟨p, rfl, hp⟩ := h4
  obtain ⟨hU, hE, h1w⟩ := unhide HGE
  have hw4 : Below w.heap.size w w4 := (unhide H3).1.trans (hb4.mono (unhide H3).1.size)
  have C5 := hide (told_errJ 20 170 p w4 (hE.below hw4 (by omega)) hp)
  have H4 := hide (And.intro hw4 ((unhide H3).2.1.trans (hb4.mono (unhide H3).2.1.size)))
  clear C4 hb4 hp hU hE h1w hw4 H3
  go_wp2_with fail
  refine (unhide C5).mono ?_
  rintro e w5 ⟨rfl, hb5⟩
  have h25 : Below w2.heap.size w2 w5 := (unhide H4).2.trans (hb5.mono (unhide H4).2.size)
  have hw5 : Below w.heap.size w w5 := (unhide H4).1.trans (hb5.mono (unhide H4).1.size)
  obtain ⟨y1, y2, y3, z1, z2, z3, hn2⟩ := unhide HY
  have t1 : w5.cell? ⟨q, o + 40, none⟩ = some (.slice (some ⟨q1, o1, none⟩) 2 k1) := (h25.cell (p := ⟨q, o + 40, none⟩) z1).trans y1
  have t2 : w5.cell? ⟨q1, o1 + 11, none⟩ = some (.slice (some ⟨q4, o4, none⟩) 2 k4) := (h25.cell (p := ⟨q1, o1 + 11, none⟩) z2).trans y2
  have t3 : w5.cell? ⟨q4, o4 + 12, none⟩ = some (.int .i64 1) := (h25.cell (p := ⟨q4, o4 + 12, none⟩) z3).trans y3
  have H5 := hide (And.intro hw5 (And.intro ((unhide H2).2.trans (h25.mono (unhide H2).2.size)) h25))
  clear hb5 h25 hw5 y1 y2 y3 z1 z2 z3 hn2 C5 H4
  have hq5 : DsQ w5 (fun b => w.heap.size ≤ b ∧ b < w1.heap.size) (.slice a1 2 c1) l1 := (unhide HQ).2.below (unhide H5).2.1
  have C6 := hide (scel_any hq5)
  clear hq5
  go_wp2_with fail
  refine (unhide C6).mono ?_
  rintro e w6 ⟨v6, rfl, ho6, hb6⟩
  obtain ⟨len1, ce1, de1, -⟩ := unhide HK
  rw [ce1] at ho6
  obtain ⟨A, eA, hbA, hsA, hhA⟩ := box_new w6 #[.string ⟨#[99]⟩] 9
  have r1 : Rd1 w6 v6 (([⟨#[99]⟩] : List ByteArray).map fun x => Value.string x) := Rd1.own ho6 (by simp)
  have r2 : Rd1 A (.slice (some ⟨w6.heap.size, 0, none⟩) 1 1) (([⟨#[99]⟩] : List ByteArray).map fun x => Value.string x) := ⟨_, _, rfl, by simp, fun _ => ⟨_, _, rfl, by omega, fun j x hx => by
    rcases j with _ | j
    · obtain rfl := Option.some.inj hx
      exact (blk hhA).2.1 0 _ rfl
    · simp at hx⟩⟩
  have C7 := hide (strings_like (r1.below hbA) r2)
  have h2A : Below w5.heap.size w5 A := hb6.trans (hbA.mono hb6.size)
  have H6 := hide (And.intro h2A de1)
  have HA6 := hide eA
  clear C6 ho6 hb6 len1 ce1 de1 eA hbA hsA hhA r1 r2 h2A
  go_wp2_with fail
  rw [unhide HA6]
  refine (unhide C7).mono ?_
  rintro e w7 ⟨rfl, hb7⟩
  have h57 : Below w5.heap.size w5 w7 := (unhide H6).1.trans (hb7.mono (unhide H6).1.size)
  have hq7 := (unhide HQ).2.below ((unhide H5).2.1.trans (h57.mono (unhide H5).2.1.size))
  have C8 := hide (sdef_any hq7)
  have H7 := hide h57
  clear C7 hb7 h57 hq7 HA6
  go_wp2_with fail
  refine (unhide C8).mono ?_
  rintro e w8 ⟨v8, rfl, ho8, hb8⟩
  rw [(unhide H6).2] at ho8
  obtain ⟨B, eB, hbB, hsB, hhB⟩ := box_new w8 #[.int .i64 1] 3
  have r1 : Rd1 w8 v8 (([1] : List Int).map fun x => Value.int .i64 x) := Rd1.own ho8 (by simp)
  have r2 : Rd1 B (.slice (some ⟨w8.heap.size, 0, none⟩) 1 1) (([1] : List Int).map fun x => Value.int .i64 x) := ⟨_, _, rfl, by simp, fun _ => ⟨_, _, rfl, by omega, fun j x hx => by
    rcases j with _ | j
    · obtain rfl := Option.some.inj hx
      exact (blk hhB).2.1 0 _ rfl
    · simp at hx⟩⟩
  have C9 := hide (ints_like (r1.below hbB) r2)
  have h5B : Below w5.heap.size w5 B := ((unhide H7).trans (hb8.mono (unhide H7).size)).trans (hbB.mono (by have := (unhide H7).size; have := hb8.size; omega))
  have H8 := hide h5B
  have HB8 := hide eB
  clear C8 ho8 hb8 eB hbB hsB hhB r1 r2 h5B
  go_wp2_with fail
  rw [unhide HB8]
  refine (unhide C9).mono ?_
  rintro e w9 ⟨rfl, hb9⟩
  have H9 := hide ((unhide H5).1.trans (((unhide H8).trans (hb9.mono (unhide H8).size)).mono (unhide H5).1.size))
  clear C9 hb9 HB8
  go_wp2
  go_ret
  exact ⟨rfl, unhide H9⟩
end Go.Proofs.YtljhpbjngbbjbaaDoor

/- avowseat.Num at numbers that are not negative. -/
namespace Go.Proofs.YtljhpbjngbbjbaaDoor
open Go Go.RowKit
def dgB (n : Nat) : ByteArray := ⟨#[UInt8.ofNat (48 + n)]⟩
def numF : Nat → Nat → ByteArray
  | 0, n => dgB n
  | f + 1, n => if n < 10 then dgB n else numF f (n / 10) ++ dgB (n % 10)
theorem numF_size : ∀ f n, (numF f n).size ≤ f + 1
  | 0, n => by simp [numF, dgB, ByteArray.size]
  | f + 1, n => by
    unfold numF
    split
    · simp [dgB, ByteArray.size]
    · have := numF_size f (n / 10)
      rw [ByteArray.size_append]
      have h2 : (dgB (n % 10)).size = 1 := rfl
      omega
theorem dg_ext {n : Nat} (hn : n < 10) : (⟨#[48, 49, 50, 51, 52, 53, 54, 55, 56, 57]⟩ : ByteArray).extract n (n + 1) = dgB n := by
  rcases n with _ | _ | _ | _ | _ | _ | _ | _ | _ | _ | n
  all_goals first | rfl | omega
set_option maxRecDepth 100000 in
set_option maxHeartbeats 8000000 in
theorem num_dig {n : Nat} (hn : n < 10) (w : World) : Calls Tryd.prog 20 #[.int .i64 n] w fun e w' => e = .returned (.string (dgB n)) ∧ w' = w := by
  have g1 : ¬ (n : Int) < 0 := by omega
  have g1' : decide ((n : Int) < 0) = false := by simp
  have g2 : (n : Int) < 10 := by omega
  have g2' : decide ((n : Int) < 10) = true := by simp; omega
  have g3 : wrap64 ((n : Int) + 1) = (n : Int) + 1 := by unfold wrap64; omega
  have g4 : (0 : Int) ≤ (n : Int) := by omega
  have g5 : (n : Int) ≤ (n : Int) + 1 := by omega
  have g6 : (0 : Int) ≤ (n : Int) + 1 := by omega
  have g7 : (n : Int) + 1 ≤ 10 := by omega
  have g8 : ((n : Int) + 1).toNat = n + 1 := by omega
  have hx := dg_ext hn
  have HX := hide hx
  clear hx hn
  go_enter Tryd.func20, Tryd.ntmps20
  go_wp2
  go_ret
  exact ⟨congrArg (fun x => Ending.returned (Value.string x)) (unhide HX), rfl⟩
set_option maxRecDepth 100000 in
set_option maxHeartbeats 8000000 in
theorem num_any : ∀ (f n : Nat) (w : World), n < 10 ^ (f + 1) → f ≤ 3 → Calls Tryd.prog 20 #[.int .i64 n] w fun e w' => e = .returned (.string (numF f n)) ∧ w' = w
  | 0, n, w, hn, _ => num_dig (by simpa using hn) w
  | f + 1, n, w, hn, hf => by
    unfold numF
    by_cases h10 : n < 10
    · rw [if_pos h10]
      exact num_dig h10 w
    · rw [if_neg h10]
      have C1 := hide (num_any f (n / 10) w (by rw [Nat.pow_succ] at hn; omega) (by omega))
      have C2 := hide (num_dig (n := n % 10) (Nat.mod_lt _ (by omega)) w)
      have hb : n < 10 ^ 5 := Nat.lt_of_lt_of_le hn (Nat.pow_le_pow_right (by omega) (by omega))
      have g1 : ¬ (n : Int) < 0 := by omega
      have g1' : decide ((n : Int) < 0) = false := by simp
      have g2 : ¬ (n : Int) < 10 := by omega
      have g2' : decide ((n : Int) < 10) = false := by simp; omega
      have hs1 := numF_size f (n / 10)
      have hs2 : (dgB (n % 10)).size = 1 := rfl
      have hs3 : ¬ 9223372036854775807 < (numF f (n / 10)).size + (dgB (n % 10)).size := by rw [hs2]; omega
      have ht1 : Int.tdiv (n : Int) 10 = ((n / 10 : Nat) : Int) := rfl
      have ht2 : Int.tmod (n : Int) 10 = ((n % 10 : Nat) : Int) := rfl
      have hw1 : wrap64 ((n / 10 : Nat) : Int) = ((n / 10 : Nat) : Int) := by unfold wrap64; omega
      have hw2 : wrap64 ((n % 10 : Nat) : Int) = ((n % 10 : Nat) : Int) := by unfold wrap64; omega
      obtain ⟨q, hq⟩ : ∃ q, n / 10 = q := ⟨_, rfl⟩
      obtain ⟨r, hr⟩ : ∃ r, n % 10 = r := ⟨_, rfl⟩
      rw [hq] at ht1 hw1 hs3 C1 ⊢
      rw [hr] at ht2 hw2 hs3 C2 ⊢
      clear hn hf h10 hb hs1 hs2 hq hr
      go_enter Tryd.func20, Tryd.ntmps20
      go_wp2_with fail
      refine (unhide C1).mono ?_
      rintro e w1 ⟨rfl, hw⟩
      rw [hw]
      clear hw
      go_wp2_with fail
      refine (unhide C2).mono ?_
      rintro e w1 ⟨rfl, hw⟩
      rw [hw]
      clear hw
      go_wp2
      go_ret
      exact ⟨rfl, rfl⟩
end Go.Proofs.YtljhpbjngbbjbaaDoor

/- The grammars over tokens that a function tells. -/
namespace Go.Proofs.YtljhpbjngbbjbaaDoor
/-- Tokens by a function. -/
structure TF where
  n : Nat → (Int × ByteArray × Int)
  len : Nat
section
variable (T : TF)
variable (g : Ru → Nat → Nat → (Except (Int × Int) (Ex × Nat))) (d : Nat)
end
section
variable (T : TF)
variable (g : Ru → PS → Ex × PS)
end
section
variable (T : TF)
end
end Go.Proofs.YtljhpbjngbbjbaaDoor

/- Tokens of a text whose bytes a function tells. -/
namespace Go.Proofs.YtljhpbjngbbjbaaDoor
open Go Go.RowKit
section
variable (B : Nat → Nat) (n : Nat)
def neF : Nat → Nat → Nat
  | 0, i => i
  | f + 1, i => if i < n then (if isLe (B i) || isDi (B i) then neF f (i + 1) else i) else i
def deF : Nat → Nat → Nat
  | 0, i => i
  | f + 1, i => if i < n then (if isDi (B i) then deF f (i + 1) else i) else i
def cmF : Nat → Nat → Bool → Nat × Nat
  | 0, _, _ => (0, 2)
  | f + 1, i, star => if i < n then (if star && B i == 41 then (i + 1, 0) else cmF f (i + 1) (B i == 42)) else (0, 2)
def fitsF : Nat → List Nat → Bool
  | _, [] => true
  | i, c :: l => decide (i < n) && B i == c && fitsF (i + 1) l
def sgnF (i : Nat) : Nat := ((signL.find? fun l => fitsF B n i l).map List.length).getD 0
/-- The bytes from i to j. -/
def pcF (i j : Nat) : List Nat := (List.range (j - i)).map fun q => B (i + q)
def isWdF (i j : Nat) : Bool := wordL.any fun l => pcF B i j == l.map UInt8.toNat
def rdNameF (i : Nat) : Int × Nat × Option (Nat × Nat) :=
  if 40 < neF B n (n - i) i - i then (0, 0, some (i, 141))
  else if isWdF B i (neF B n (n - i) i) then (2, neF B n (n - i) i, none) else (1, neF B n (n - i) i, none)
def rdNumF (i : Nat) : Int × Nat × Option (Nat × Nat) :=
  if (B i == 48 && decide (1 < deF B n (n - i) i - i)) = true then (0, 0, some (i, 140))
  else if 400 < deF B n (n - i) i - i then (0, 0, some (i, 141)) else (3, deF B n (n - i) i, none)
def rdCmtF (i : Nat) : Int × Nat × Option (Nat × Nat) :=
  if (cmF B n (n - (i + 2)) (i + 2) false).2 = 0 then (-1, (cmF B n (n - (i + 2)) (i + 2) false).1, none)
  else if (cmF B n (n - (i + 2)) (i + 2) false).2 = 1 then (0, 0, some ((cmF B n (n - (i + 2)) (i + 2) false).1, 140)) else (0, 0, some (i, 140))
def rdSignF (i : Nat) : Int × Nat × Option (Nat × Nat) :=
  if sgnF B n i = 0 then (0, 0, some (i, 140)) else (4, i + sgnF B n i, none)
def rdF (i : Nat) : Int × Nat × Option (Nat × Nat) :=
  if isBl (B i) then (-1, i + 1, none)
  else if isLe (B i) then rdNameF B n i
  else if isDi (B i) then rdNumF B n i
  else if fitsF B n i [40, 42] then rdCmtF B n i
  else rdSignF B n i
def lxF : Nat → Nat → List (Int × Nat × Nat) × Option (Nat × Nat)
  | 0, _ => ([], none)
  | f + 1, i => if i < n then
      (match rdF B n i with
       | (_, _, some e) => ([], some e)
       | (k, j, none) => match lxF f j with
         | (l, e) => (if k = -1 then l else (k, i, j) :: l, e))
    else ([], none)
end
theorem esz (s : ByteArray) (i j : Nat) (h1 : i ≤ j) (h2 : j ≤ s.size) : (s.extract i j).size = j - i := by
  rw [ByteArray.size_extract]
  omega
theorem u8_map : ∀ (l m : List UInt8), l.map UInt8.toNat = m.map UInt8.toNat → l = m
  | [], [], _ => rfl
  | [], y :: m, h => by simp at h
  | x :: l, [], h => by simp at h
  | x :: l, y :: m, h => by
    simp only [List.map_cons, List.cons.injEq] at h
    rw [UInt8.toNat_inj.1 h.1, u8_map l m h.2]
section
variable {s : ByteArray} {B : Nat → Nat} (hB : ∀ i, i < s.size → By s i = B i ∧ B i < 128)
include hB
theorem asc_F {i : Nat} (hi : i < s.size) : rn s i = B i ∧ wd s i = 1 ∧ noR s i = false := by
  obtain ⟨h1, h2⟩ := hB i hi
  have h3 : By s i < 128 := by omega
  exact ⟨(rn_ascii s i h3).1.trans h1, (rn_ascii s i h3).2, noR_ascii s i h3⟩
theorem ne_F : ∀ f i, nameEnd s f i = neF B s.size f i
  | 0, _ => rfl
  | f + 1, i => by
    unfold nameEnd neF
    split
    · rename_i hi
      obtain ⟨h1, h2, h3⟩ := asc_F hB hi
      unfold inName
      rw [h1, h2, h3, ne_F f (i + 1)]
      simp
    · rfl
theorem de_F : ∀ f i, digEnd s f i = deF B s.size f i
  | 0, _ => rfl
  | f + 1, i => by
    unfold digEnd deF
    split
    · rename_i hi
      rw [(asc_F hB hi).1, de_F f (i + 1)]
    · rfl
theorem cm_F : ∀ f i b, cmt s f i b = cmF B s.size f i b
  | 0, _, _ => rfl
  | f + 1, i, b => by
    unfold cmt cmF
    split
    · rename_i hi
      obtain ⟨h1, h2, h3⟩ := asc_F hB hi
      rw [h1, h2, h3, cm_F f (i + 1)]
      simp
    · rfl
theorem fits_F : ∀ (l : List Nat) i, fits s i l = fitsF B s.size i l
  | [], _ => rfl
  | c :: l, i => by
    unfold fits fitsF
    rw [fits_F l (i + 1)]
    by_cases hi : i < s.size
    · rw [(hB i hi).1]
    · simp [hi]
theorem sgn_F (i : Nat) : sgn s i = sgnF B s.size i := by
  unfold sgn sgnF
  rw [show (fun l => fits s i l) = (fun l => fitsF B s.size i l) from funext fun l => fits_F hB l i]
omit hB in
theorem ne_le (B : Nat → Nat) (n : Nat) : ∀ f i, i ≤ neF B n f i ∧ (i ≤ n → neF B n f i ≤ n)
  | 0, i => ⟨Nat.le_refl _, fun h => h⟩
  | f + 1, i => by
    unfold neF
    split
    · rename_i hi
      split
      · have := ne_le B n f (i + 1)
        exact ⟨by omega, fun _ => this.2 (by omega)⟩
      · exact ⟨Nat.le_refl _, fun h => h⟩
    · exact ⟨Nat.le_refl _, fun h => h⟩
theorem ext_F (i j : Nat) (hij : i ≤ j) (hj : j ≤ s.size) : (s.extract i j).data.toList.map UInt8.toNat = pcF B i j := by
  apply List.ext_getElem?
  intro q
  have h2 : (s.extract i j).data.toList.length = j - i := by
    have := esz s i j hij hj
    rw [Array.length_toList]
    exact this
  by_cases hq : q < j - i
  · have h1 : q < (s.extract i j).data.toList.length := by omega
    unfold pcF
    rw [List.getElem?_map, List.getElem?_map, List.getElem?_range hq, List.getElem?_eq_getElem h1]
    simp only [Option.map_some, Option.some.injEq]
    rw [← (hB (i + q) (by omega)).1]
    unfold By
    rw [get_lt s (i + q) (by omega)]
    have := ByteArray.getElem_extract (start := i) (stop := j) (b := s) (i := q) (h := by have := esz s i j hij hj; omega)
    rw [← this]
    simp [ByteArray.getElem_eq_getElem_data]
  · rw [List.getElem?_eq_none (by rw [List.length_map, h2]; omega), List.getElem?_eq_none (by unfold pcF; simp; omega)]
theorem isWd_F (i j : Nat) (hij : i ≤ j) (hj : j ≤ s.size) : isWd (s.extract i j) = isWdF B i j := by
  unfold isWd isWdF
  congr 1
  funext l
  rw [← ext_F hB i j hij hj, Bool.eq_iff_iff]
  simp only [beq_iff_eq]
  exact ⟨fun h => by rw [h], fun h => u8_map _ _ h⟩
theorem rd_F {i : Nat} (hi : i < s.size) : rd s i = rdF B s.size i := by
  obtain ⟨h1, h2, h3⟩ := asc_F hB hi
  unfold rd rdF
  rw [h1, h3, fits_F hB]
  have a1 : rdName s i = rdNameF B s.size i := by
    unfold rdName rdNameF
    rw [ne_F hB]
    have := ne_le B s.size (s.size - i) i
    rw [isWd_F hB i _ this.1 (this.2 (by omega))]
  have a2 : rdNum s i = rdNumF B s.size i := by
    unfold rdNum rdNumF
    rw [de_F hB, (hB i hi).1]
  have a3 : rdCmt s i = rdCmtF B s.size i := by
    unfold rdCmt rdCmtF
    rw [cm_F hB]
  have a4 : rdSign s i = rdSignF B s.size i := by
    unfold rdSign rdSignF
    rw [sgn_F hB]
  rw [a1, a2, a3, a4]
  rfl
theorem lx_F : ∀ f i, lx s f i = lxF B s.size f i
  | 0, _ => rfl
  | f + 1, i => by
    unfold lx lxF
    split
    · rename_i hi
      rw [rd_F hB hi]
      rcases rdF B s.size i with ⟨k, j, _ | e⟩
      · simp only
        rw [lx_F f j]
      · rfl
    · rfl
end
end Go.Proofs.YtljhpbjngbbjbaaDoor

namespace Go.Proofs.YtljhpbjngbbjbaaDoor
open Go Go.RowKit
def toF (B : Nat → Nat) (n : Nat) (l : List (Int × Nat × Nat)) : List (Int × ByteArray × Int) := (l.map fun x => (x.1, (⟨((pcF B x.2.1 x.2.2).map UInt8.ofNat).toArray⟩ : ByteArray), (x.2.1 : Int))) ++ [(0, ⟨#[]⟩, (n : Int))]
def lxOk (B : Nat → Nat) (n : Nat) (x : List (Int × Nat × Nat) × Option (Nat × Nat)) : Bool := match x with
  | (l, none) => l.all fun y => decide (y.2.1 ≤ y.2.2) && decide (y.2.2 ≤ n)
  | _ => false
theorem prF {s : ByteArray} {B : Nat → Nat} {n : Nat} (hB : ∀ i, i < s.size → By s i = B i ∧ B i < 128) (hn : s.size = n) (hs : n ≤ 65536) (h : lxOk B n (lxF B n n 0) = true) : progRD s = progD (toF B n (lxF B n n 0).1) := by
  subst hn
  have e : tk s = lxF B s.size s.size 0 := by
    unfold tk
    rw [if_neg (by omega), lx_F hB]
  unfold lxOk at h
  split at h
  · rename_i l hl
    unfold progRD
    rw [e, hl]
    dsimp only
    congr 1
    unfold tkL toF
    rw [e, hl]
    dsimp only
    congr 1
    apply List.map_congr_left
    intro x hx
    have hx2 := List.all_eq_true.1 h x hx
    simp only [Bool.and_eq_true, decide_eq_true_eq] at hx2
    have h1 := ext_F hB x.2.1 x.2.2 hx2.1 hx2.2
    have h2 : s.extract x.2.1 x.2.2 = ⟨((pcF B x.2.1 x.2.2).map UInt8.ofNat).toArray⟩ := by
      apply ByteArray.ext
      apply Array.ext'
      rw [← h1, List.map_map]
      have : (UInt8.ofNat ∘ UInt8.toNat) = id := by funext u; simp
      rw [this, List.map_id]
    rw [← h2]
  · cases h
end Go.Proofs.YtljhpbjngbbjbaaDoor
