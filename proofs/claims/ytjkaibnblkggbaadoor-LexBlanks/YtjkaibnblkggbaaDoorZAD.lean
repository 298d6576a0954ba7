/- The package-level variables that the rows list, as the walks want them: the signs, errors.errorType, the two tables of unicode/utf8. -/
import Derived.Test.YtjkaibnblkggbaaDoorZAC
import Derived.Deep.RegionHeld3
import Derived.Test.YtjkaibnblkggbaaDoorRows
import Derived.Test.YtjkaibnblkggbaaDoorZAB
import Derived.Lib.LaidU8T
import Derived.LaidHandle
import Derived.LaidLaws
import Derived.OpenShut
import Derived.ChangeArms
set_option linter.unusedVariables false
set_option linter.unusedSimpArgs false

/- The walk of LexBlanks. -/
namespace Go.Proofs.YtjkaibnblkggbaaDoor
open Go Go.RowKit

/-- Which blank stands behind the i-th token. -/
def kap (ns : List Int) (i : Nat) : Nat := if i < ns.length then ((ns.getD i 0) % 6).toNat else 0
theorem kap_lt (ns : List Int) (i : Nat) : kap ns i < 6 := by
  unfold kap
  split <;> omega
theorem tkL_size (s : ByteArray) (i : Nat) (y : Int × ByteArray × Int) (h : (tkL s)[i]? = some y) : y.2.1.size ≤ s.size := by
  have hm := List.mem_of_getElem? h
  unfold tkL at hm
  rcases List.mem_append.1 hm with hm | hm
  · obtain ⟨x, _, rfl⟩ := List.mem_map.1 hm
    simp only
    rw [ByteArray.size_extract]
    omega
  · obtain rfl := List.mem_singleton.1 hm
    exact Nat.zero_le _
theorem byte_rem (z : Int) (h0 : 0 ≤ z) : Int.tmod z 6 = ((z % 6).toNat : Int) := by
  rw [Int.tmod_eq_emod_of_nonneg h0]
  omega
set_option maxRecDepth 100000 in
set_option maxHeartbeats 16000000 in
theorem blanks_walk (s : ByteArray) (a : Option Addr) (ns : List Int) (cap : Nat) (w : World) (hR : Row w.heap.size a ns.length cap 1 (UA w ns)) (hns : ∀ z ∈ ns, 0 ≤ z ∧ z ≤ 255) (hG : SG w) (hE : EH w) : Calls Tryd.prog 4 #[.string s, .slice a ns.length cap] w fun e w' => e = .returned (.bool true) ∧ Below w.heap.size w w' := by
  have hK := hide (known_any w hG hE)
  have h1w := hG.lt
  replace hG := hide hG
  replace hE := hide hE
  replace hR := hide hR
  replace hns := hide hns
  obtain ⟨N, hN⟩ : ∃ N, ns.length = N := ⟨_, rfl⟩
  rw [hN]
  replace hN := hide hN
  by_cases hlen : 500 < s.size
  · have hl : decide ((500 : Int) < (s.size : Int)) = true := by simp; omega
    go_enter Tryd.func4, Tryd.ntmps4
    go_wp2_with fail
    refine (unhide hK).mono ?_
    rintro e w1 ⟨rfl, hb1⟩
    go_wp2
    go_ret
    exact ⟨rfl, hb1⟩
  have hl : decide ((500 : Int) < (s.size : Int)) = false := by simp; omega
  by_cases hN100 : 100 < N
  · have hl2 : decide ((100 : Int) < (N : Int)) = true := by simp; omega
    go_enter Tryd.func4, Tryd.ntmps4
    go_wp2_with fail
    refine (unhide hK).mono ?_
    rintro e w1 ⟨rfl, hb1⟩
    go_wp2
    go_ret
    exact ⟨rfl, hb1⟩
  have hl2 : decide ((100 : Int) < (N : Int)) = false := by simp; omega
  go_enter Tryd.func4, Tryd.ntmps4
  go_wp2_with fail
  refine (unhide hK).mono ?_
  rintro e w1 ⟨rfl, hb1⟩
  have c1 := hide (tokens_any s w1 ((unhide hG).below hb1 h1w))
  replace hb1 := hide hb1
  go_wp2_with fail
  refine (unhide c1).mono ?_
  rintro e w2 h2
  cases hx : (tk s).2 with
  | some er =>
    obtain ⟨p, n⟩ := er
    obtain ⟨hb2, b, rfl, r2⟩ := tkp_err h2 hx
    have hbw := hide ((unhide hb1).trans (hb2.mono (unhide hb1).size))
    replace r2 := hide r2
    clear h2 c1
    go_wp2_with fail
    go_ret
    exact ⟨rfl, unhide hbw⟩
  | none =>
    obtain ⟨hb2, v, rfl, r2⟩ := tkp_ok h2 hx
    have hbw := hide ((unhide hb1).trans (hb2.mono (unhide hb1).size))
    clear h2 c1
    replace hx := hide hx
    obtain ⟨aL, cL, rfl, hr2⟩ := r2
    obtain ⟨g, rfl, hg, hcell⟩ := hr2 (by simp [tkL])
    clear hr2
    obtain ⟨M, hM⟩ : ∃ M, (tkL s).length = M := ⟨_, rfl⟩
    have hM5 : M ≤ 501 := by
      rw [← hM, tkL_len]
      have e : tk s = lx s s.size 0 := by unfold tk; rw [if_neg (by omega)]
      have := lx_len s s.size 0
      rw [← e] at this
      omega
    rw [hM]
    replace hM := hide hM
    replace hcell := hide hcell
    obtain ⟨A, hA⟩ : ∃ A : Array Value, #[.string ⟨#[32]⟩, .string ⟨#[10, 9]⟩, .string ⟨#[32, 40, 42, 32, 120, 32, 58, 61, 32, 42, 41, 32]⟩, .string ⟨#[13, 32, 40, 42, 42, 41]⟩, .string ⟨#[32, 40, 42, 32, 42, 32, 41, 32, 42, 41]⟩, .string ⟨#[32, 32]⟩] = A := ⟨_, rfl⟩
    have hAc := bl_cells
    rw [hA] at hAc
    replace hAc := hide hAc
    obtain ⟨κ, hκ⟩ : ∃ κ, kap ns = κ := ⟨_, rfl⟩
    have hκ6 : Hid (∀ n, κ n < 6) := fun n => by rw [← hκ]; exact kap_lt ns n
    replace hκ := hide hκ
    go_wp2_with fail
    go_loopw [8, 7] (fun iv ov wr => ∃ (i : Nat) (x : ByteArray), iv = .int .i64 i ∧ i ≤ M ∧ ov = .string x ∧ x.size ≤ i * 512 ∧ nb x = catL κ (((tkL s).map (fun x => x.2.1)).take i) 0 ∧ Below w2.heap.size w2 wr) (fun iv _ _ => M - (intOf iv).toNat)
    case atStart => exact ⟨0, ⟨#[]⟩, rfl, Nat.zero_le _, rfl, by decide, rfl, Below.refl _ _⟩
    case round =>
      obtain ⟨i, x, rfl, hi, rfl, hxz, hxc, hW⟩ := hrel
      by_cases hlt : i < M
      · have hdi : decide ((i : Int) < (M : Int)) = true := by simp; omega
        have h512 : i * 512 ≤ 300000 := by omega
        obtain ⟨y, hy⟩ : ∃ y, (tkL s)[i]? = some y := ⟨_, List.getElem?_eq_getElem (by rw [unhide hM]; exact hlt)⟩
        have hyc := (unhide hcell i y hy).2.1
        rw [← hW.cell (p := ⟨g, i * 3 + 1, none⟩) hg] at hyc
        have hyz : y.2.1.size ≤ 500 := by have := tkL_size s i y hy; omega
        have hg2 : g < wr.heap.size := Nat.lt_of_lt_of_le hg hW.size
        obtain ⟨k, hk⟩ : ∃ k, κ i = k := ⟨_, rfl⟩
        have hk6 : k < 6 := by rw [← hk]; exact unhide hκ6 i
        obtain ⟨t, ht⟩ : ∃ t, y.2.1 = t := ⟨_, rfl⟩
        rw [ht] at hyc hyz
        have hbz := blB_size k hk6
        obtain ⟨bk, hbk⟩ : ∃ bk, blB k = bk := ⟨_, rfl⟩
        rw [hbk] at hbz
        have hAk := unhide hAc k hk6
        rw [hbk] at hAk
        have q1 : (9223372036854775807 < x.size + t.size) = False := eq_false (by omega)
        have q2 : (9223372036854775807 < (x ++ t).size + bk.size) = False := eq_false (by rw [ByteArray.size_append]; omega)
        have q3 : (9223372036854775807 < x.size + t.size + bk.size) = False := eq_false (by omega)
        have hstep : Hid (nb (x ++ t ++ bk) = catL κ (((tkL s).map (fun x => x.2.1)).take (i + 1)) 0) := by
          have hq : ((tkL s).map (fun x => x.2.1))[i]? = some t := by rw [List.getElem?_map, hy]; exact congrArg some ht
          have hlen : i < ((tkL s).map (fun x => x.2.1)).length := (List.getElem?_eq_some_iff.1 hq).1
          have e : ((tkL s).map (fun x => x.2.1)).take (i + 1) = ((tkL s).map (fun x => x.2.1)).take i ++ [t] := by
            rw [List.take_add_one, hq]; rfl
          show nb (x ++ t ++ bk) = _
          rw [e, catL_snoc, nb_app, nb_app, hxc, ← hbk, nb_bl k hk6, List.length_take, Nat.min_eq_left (by omega), Nat.zero_add, hk, List.append_assoc]
        have hsz2 : (x ++ t ++ bk).size ≤ (i + 1) * 512 := by rw [ByteArray.size_append, ByteArray.size_append]; omega
        replace hsz2 := hide hsz2
        replace hxz := hide hxz
        replace hxc := hide hxc
        replace hW := hide hW
        replace hy := hide hy
        replace ht := hide ht
        replace hbk := hide hbk
        replace hk := hide hk
        by_cases hin : i < N
        · have hdn : decide ((i : Int) < (N : Int)) = true := by simp; omega
          obtain ⟨bz, off, rfl, hbzl, hbc⟩ := (unhide hR).2.2 (by rw [unhide hN]; omega)
          obtain ⟨z, hz⟩ : ∃ z, ns[i]? = some z := ⟨_, List.getElem?_eq_getElem (by rw [unhide hN]; exact hin)⟩
          have hzb := unhide hns z (List.mem_of_getElem? hz)
          have hzc : wr.cell? ⟨bz, off + i, none⟩ = some (.int .u8 z) := by
            have h1 := hbc i (by rw [unhide hN]; exact hin) z hz
            rw [Nat.mul_one] at h1
            rw [(unhide hW).cell (p := ⟨bz, off + i, none⟩) (Nat.lt_of_lt_of_le hbzl (unhide hbw).size), (unhide hbw).cell (p := ⟨bz, off + i, none⟩) hbzl]
            exact h1
          have hkz : Int.tmod z 6 = (k : Int) := by
            rw [byte_rem z hzb.1, ← unhide hk, ← unhide hκ]
            unfold kap
            rw [if_pos (by rw [unhide hN]; exact hin), List.getD_eq_getElem?_getD, hz]
            rfl
          have hkk : (k : Int) < 6 := by omega
          clear hbc hz
          replace hbzl := hide hbzl
          go_wp2_with fail
          go_region
          go_wp2
          have h := unhide hW
          have h' := h.alloc h.size (.cells A 9)
          exact ⟨⟨i + 1, x ++ t ++ bk, by simp, by omega, rfl, unhide hsz2, unhide hstep, ⟨h'.os, h'.tape, h'.output, h'.size, h'.block⟩⟩, by simp [intOf]; omega⟩
        · have hdn : decide ((i : Int) < (N : Int)) = false := by simp; omega
          have hk0 : k = 0 := by
            rw [← unhide hk, ← unhide hκ]
            unfold kap
            rw [if_neg (by rw [unhide hN]; exact hin)]
          subst hk0
          go_wp2_with fail
          go_region
          go_wp2
          have h := unhide hW
          have h' := h.alloc h.size (.cells A 9)
          exact ⟨⟨i + 1, x ++ t ++ bk, by simp, by omega, rfl, unhide hsz2, unhide hstep, ⟨h'.os, h'.tape, h'.output, h'.size, h'.block⟩⟩, by simp [intOf]; omega⟩
      · obtain rfl : i = M := by omega
        have hdi : decide ((i : Int) < (i : Int)) = false := by simp
        have hfull : ((tkL s).map (fun x => x.2.1)).take i = (tkL s).map (fun x => x.2.1) := List.take_of_length_le (by rw [List.length_map, unhide hM]; omega)
        rw [hfull] at hxc
        have hag := tk_again s x κ (unhide hκ6) (by omega) (unhide hx) hxc
        have hal := tkL_again s x hag.2
        have hbw3 := (unhide hbw).trans (hW.mono (unhide hbw).size)
        have c5 := hide (tokens_any x wr ((unhide hG).below hbw3 h1w))
        clear hfull hlt hi
        replace hxc := hide hxc
        replace hxz := hide hxz
        replace hbw3 := hide hbw3
        replace hW := hide hW
        replace hal := hide hal
        go_wp2_with fail
        refine (unhide c5).mono ?_
        rintro e w5 h5
        obtain ⟨hb5, v5, rfl, r5⟩ := tkp_ok h5 hag.1
        have hW5 := hide ((unhide hW).trans (hb5.mono (unhide hW).size))
        have hbw5 := hide ((unhide hbw3).trans (hb5.mono (unhide hbw3).size))
        obtain ⟨a5, c5', rfl, hr5⟩ := r5
        obtain ⟨g5, rfl, hg5, hcell5⟩ := hr5 (by simp [tkL])
        have hlen5 : (tkL x).length = i := by rw [(unhide hal).1, unhide hM]
        rw [hlen5]
        have hii : ((i : Int) != (i : Int)) = false := by simp
        clear h5 c5 hr5 hag hb5
        replace hcell5 := hide hcell5
        replace hlen5 := hide hlen5
        go_wp2_with fail
        go_loopw [11] (fun jv w6 => ∃ j : Nat, jv = .int .i64 j ∧ j ≤ i ∧ Below w5.heap.size w5 w6) (fun jv _ => i - (intOf jv).toNat)
        case atStart => exact ⟨0, rfl, Nat.zero_le _, Below.refl _ _⟩
        case round =>
          obtain ⟨j, rfl, hj, hW6⟩ := hrel
          by_cases hjl : j < i
          · have hdj : decide ((j : Int) < (i : Int)) = true := by simp; omega
            obtain ⟨y, hy⟩ : ∃ y, (tkL s)[j]? = some y := ⟨_, List.getElem?_eq_getElem (by rw [unhide hM]; exact hjl)⟩
            obtain ⟨y2, hy2⟩ : ∃ y, (tkL x)[j]? = some y := ⟨_, List.getElem?_eq_getElem (by rw [unhide hlen5]; exact hjl)⟩
            have hsame := (unhide hal).2 j y2 y hy2 hy
            have d0 := (unhide hcell j y hy).1
            have d1 := (unhide hcell j y hy).2.1
            have e0 := (unhide hcell5 j y2 hy2).1
            have e1 := (unhide hcell5 j y2 hy2).2.1
            rw [hsame.1] at e0
            rw [hsame.2] at e1
            rw [← (unhide hW5).cell (p := ⟨g, j * 3, none⟩) hg, ← hW6.cell (p := ⟨g, j * 3, none⟩) (Nat.lt_of_lt_of_le hg (unhide hW5).size)] at d0
            rw [← (unhide hW5).cell (p := ⟨g, j * 3 + 1, none⟩) hg, ← hW6.cell (p := ⟨g, j * 3 + 1, none⟩) (Nat.lt_of_lt_of_le hg (unhide hW5).size)] at d1
            rw [← hW6.cell (p := ⟨g5, j * 3, none⟩) hg5] at e0
            rw [← hW6.cell (p := ⟨g5, j * 3 + 1, none⟩) hg5] at e1
            obtain ⟨z0, z1, z2⟩ := y
            simp only at d0 d1 e0 e1
            have f0 : (z0 != z0) = false := by simp
            have f1 : (z1.toList != z1.toList) = false := by simp
            clear hsame hy hy2
            replace hW6 := hide hW6
            go_wp2_with fail
            go_quiet (fail)
            go_wp2
            refine ⟨⟨j + 1, by simp, by omega, ?_⟩, ?_⟩
            · have h := unhide hW6
              exact ⟨h.os, h.tape, h.output, h.size, h.block⟩
            · simp [intOf]
              omega
          · obtain rfl : j = i := by omega
            have hdj : decide ((j : Int) < (j : Int)) = false := by simp
            have hbf := hide ((unhide hbw5).trans (hW6.mono (unhide hbw5).size))
            go_wp2
            go_ret
            exact ⟨rfl, unhide hbf⟩
end Go.Proofs.YtjkaibnblkggbaaDoor

namespace Go.Proofs.YtjkaibnblkggbaaDoor
open Go Go.RowKit

theorem la_et : Tryd.prog.globalNamed "errors.errorType" = some 0 := by kernel_rfl
theorem la_rt : (Tryd.prog.cutTypes.find? (·.1 == "internal/reflectlite.rtype")).map (·.2) = some 75 := by kernel_rfl
theorem la_one : ((List.range Tryd.prog.types.size).filter fun t => Tryd.prog.rowNamed t [101, 114, 114, 111, 114]) = [25] := by kernel_rfl
theorem eh_of {W : World} (h : handlesMet Tryd.prog [("errors.errorType", Rows.laid_errors_errorType)] W) : EH W := by
  obtain ⟨name, u, ty, e1, e2, e3, e4, e5⟩ := h _ (List.mem_singleton.2 rfl)
  have en : name = [101, 114, 114, 111, 114] := (Option.some.inj e1).symm
  subst en
  obtain rfl := Option.some.inj (la_rt.symm.trans e2)
  have hm : ty ∈ (List.range Tryd.prog.types.size).filter fun t => Tryd.prog.rowNamed t [101, 114, 114, 111, 114] := List.mem_filter.2 ⟨List.mem_range.2 e3, e4⟩
  rw [la_one] at hm
  obtain rfl := List.mem_singleton.1 hm
  have hh : typeHandle Tryd.prog 25 = .pointer (some ⟨4, 25, none⟩) := by kernel_rfl
  rw [hh] at e5
  have := World.var?_cell la_et e5 0
  simpa [EH] using this
theorem la_sg : Tryd.prog.globalNamed "avow/lex.signs" = some 1 := by kernel_rfl
theorem la_st : (Tryd.prog.globals[1]?).map (·.type) = some 73 := by kernel_rfl
theorem la_arr : Tryd.prog.underlying 73 = some (.array 25 9) := by kernel_rfl
theorem la_ca : Tryd.prog.cellsOf 73 = 25 := by kernel_rfl
theorem la_ce : Tryd.prog.cellsOf 9 = 1 := by kernel_rfl
theorem la_data : (Rows.laid_avow_lex_signs : DataW Unit) = .agg ((List.range 25).map fun k => .lit (.string (sgB k).data.toList)) := by kernel_rfl
theorem sg_of {W : World} (h : Lib.VarReads Tryd.prog W "avow/lex.signs" Rows.laid_avow_lex_signs) : SG W := by
  obtain ⟨g, t, cs, fuel, p, hg, hty, hvar, hd⟩ := h
  obtain rfl := Option.some.inj (la_sg.symm.trans hg)
  obtain rfl := Option.some.inj (la_st.symm.trans hty)
  obtain ⟨xs, m, _, hx, hl, hxl, hall⟩ := DataW.trod_array la_arr hd
  rw [la_ca] at hl
  have hxs : xs.map (·.1) = (List.range 25).map fun k => (.lit (.string (sgB k).data.toList) : DataW Unit) := by
    have := congrArg Prod.fst hx
    simp only [la_data] at this
    injection this with this
    exact this.symm
  have hcs : cs.toList = signV := by
    apply List.ext_getElem?
    intro i
    by_cases hi : i < 25
    · have h1 := hall i hi
      obtain ⟨b, hb⟩ : ∃ b, xs[i]? = some b := ⟨xs[i]'(by omega), List.getElem?_eq_getElem (by omega)⟩
      rw [hb, la_ce] at h1
      obtain ⟨z, hcz, rfl, _⟩ := DataW.trod_string (P := Tryd.prog) (t := 9) (by kernel_rfl) h1
      have h2 : cs.toList[i]? = some (.string z) := by
        have := congrArg (·[0]?) hcz
        simpa [List.getElem?_take, List.getElem?_drop] using this
      have h3 : (xs.map (·.1))[i]? = some (.lit (.string z.data.toList) : DataW Unit) := by simp [hb]
      rw [hxs, List.getElem?_map, List.getElem?_range hi] at h3
      simp only [Option.map_some, Option.some.injEq, DataW.lit.injEq, Lit.string.injEq] at h3
      have hz : z = sgB i := by
        cases z with
        | mk z =>
          obtain ⟨y, hy⟩ : ∃ y, sgB i = y := ⟨_, rfl⟩
          rw [hy] at h3 ⊢
          cases y with
          | mk y => simp only at h3; rw [Array.toList_inj.1 h3.symm]
      rw [h2, hz]
      unfold signV
      rw [List.getElem?_map, List.getElem?_range hi]
      rfl
    · rw [List.getElem?_eq_none (by omega), List.getElem?_eq_none (by simp [signV]; omega)]
  unfold World.var? at hvar
  rw [la_sg] at hvar
  simp only [Option.bind_some] at hvar
  split at hvar
  · rename_i c t fr hh
    obtain rfl := Option.some.inj hvar
    refine ⟨t, fr, ?_⟩
    rw [← hcs]
    simpa using hh
  · cases hvar
/-- A row that lists errors.errorType and the signs. -/
theorem two_of {W : World} (h : laidMetH Tryd.prog [("errors.errorType", Rows.laid_errors_errorType), ("avow/lex.signs", Rows.laid_avow_lex_signs)] W) : SG W ∧ EH W := by
  have h' : laidMet Tryd.prog [("avow/lex.signs", Rows.laid_avow_lex_signs)] W ∧ handlesMet Tryd.prog [("errors.errorType", Rows.laid_errors_errorType)] W := h
  exact ⟨sg_of (Lib.laidMet.reads h'.1 (List.mem_singleton.2 rfl)), eh_of h'.2⟩
end Go.Proofs.YtjkaibnblkggbaaDoor
