/- avowlaw7: RupEmpty. -/
import Derived.Test.YtmkkhpoedlbafaaQW
set_option linter.unusedVariables false
set_option linter.unusedSimpArgs false

namespace Go.Proofs.Ytmkkhpoedlbafaa
open Go Go.RowKit Go.Sort
/-- What light is handed: two slices of slices. -/
theorem pack1 {w1 : World} {B m capl m2 capl2 : Nat} {al al2 : Option Addr} {ls ms : List (List Int)} (hB : B ≤ w1.heap.size) (hL : Sl2 w1 B (.slice al m capl) ls) (hM : Sl2 w1 B (.slice al2 m2 capl2) ms) :
    Sl3 (w1.alloc (.cells #[.slice al m capl, .slice al2 m2 capl2] 22)) (w1.heap.size + 1) (.slice (some ⟨w1.heap.size, 0, none⟩) 2 2) [ls, ms] := by
  have hb : Below w1.heap.size w1 (w1.alloc (.cells #[.slice al m capl, .slice al2 m2 capl2] 22)) := (Below.refl _ w1).alloc (Nat.le_refl _) _
  have hL' := (hL.below (hb.mono hB)).mono (show B ≤ w1.heap.size + 1 by omega)
  have hM' := (hM.below (hb.mono hB)).mono (show B ≤ w1.heap.size + 1 by omega)
  refine Sl3.at (g := w1.heap.size) (cap := 2) (lls := [ls, ms]) (vs := [.slice al m capl, .slice al2 m2 capl2]) (heap_alloc_new w1 _) rfl (by simp) ?_
  intro j v l h1 h2
  have hj : j = 0 ∨ j = 1 := by
    have := (List.getElem?_eq_some_iff.1 h1).1
    simp at this; omega
  rcases hj with rfl | rfl <;> simp at h1 h2 <;> subst h1 h2
  · exact hL'
  · exact hM'
theorem Taken.stop : ∀ {t l : List (List Int)} {n : Nat}, Taken l t n → ∀ (h : n < t.length), ¬ Fol (l ++ t.take n) t[n]
  | [], _, _, _, h => absurd h (Nat.not_lt_zero _)
  | c :: t, l, n, hT, h => by
    rcases hT with ⟨h1, rfl⟩ | ⟨_, m, rfl, h2⟩
    · simpa using h1
    · have := Taken.stop h2 (by simpa using h)
      simpa using this
/-- A slice of slices, with one that is empty behind it. -/
theorem join_empty {w : World} {B : Nat} {vl : Value} {ls : List (List Int)} (hB : B ≤ w.heap.size) (hL : Sl2 w B vl ls) (hT : tot ls ≤ 10000000) : ∃ v1 w1, (Builtin.append_ #[22, 22] 22 #[.slice none 0 0, vl]).run Try.prog w = .ok v1 w1 ∧ ∃ v2 w2, (Builtin.append_ #[22, 22] 22 #[v1, .slice (some ⟨w1.heap.size + 1, 0, none⟩) 1 1]).run Try.prog ((w1.alloc (.cells #[] 3)).alloc (.cells #[.slice (some ⟨w1.heap.size, 0, none⟩) 0 0] 23)) = .ok v2 w2 ∧ Sl2 w2 w2.heap.size v2 (ls ++ [[]]) ∧ Below w.heap.size w w2 := by
  obtain ⟨ul, rl, kl⟩ := hL.vals
  have t2 := tot_len ls
  have ll := kl.len
  obtain ⟨v1, w1, r1, o1, g1⟩ := app_rows (own_nil w w.heap.size 23) rl kl.one (by omega) (Nat.le_refl _) 22
  have b1 : Below w.heap.size w w1 := below_app (Below.refl _ w) g1 (own_nil w w.heap.size 23) (Nat.le_refl _)
  refine ⟨v1, w1, r1, ?_⟩
  have e : (w1.alloc (.cells #[] 3)).alloc (.cells #[.slice (some ⟨w1.heap.size, 0, none⟩) 0 0] 23) = grow w1 #[.cells #[] 3, .cells #[.slice (some ⟨w1.heap.size, 0, none⟩) 0 0] 23] := by
    simp only [alloc_eq_grow, grow_grow]
    rfl
  have oW : ((w1.alloc (.cells #[] 3)).alloc (.cells #[.slice (some ⟨w1.heap.size, 0, none⟩) 0 0] 23)).ownsRow w.heap.size 23 1 v1 (0 + ul.length) ([] ++ ul) := (o1.alloc _).alloc _
  rw [e] at oW ⊢
  have g := fun i hi => grow_at w1 #[.cells #[] 3, .cells #[.slice (some ⟨w1.heap.size, 0, none⟩) 0 0] 23] i hi
  have hb := below_grow w1 #[.cells #[] 3, .cells #[.slice (some ⟨w1.heap.size, 0, none⟩) 0 0] 23]
  have hz : (grow w1 #[.cells #[] 3, .cells #[.slice (some ⟨w1.heap.size, 0, none⟩) 0 0] 23]).heap.size = w1.heap.size + 2 := size_grow w1 _
  generalize grow w1 #[.cells #[] 3, .cells #[.slice (some ⟨w1.heap.size, 0, none⟩) 0 0] 23] = W at oW g hb hz ⊢
  have hg0 : W.heap[w1.heap.size]? = some (.cells #[] 3) := g 0 (by simp)
  have hg1 : W.heap[w1.heap.size + 1]? = some (.cells #[.slice (some ⟨w1.heap.size, 0, none⟩) 0 0] 23) := g 1 (by simp)
  have hr : Rd W (.slice (some ⟨w1.heap.size + 1, 0, none⟩) 1 1) [.slice (some ⟨w1.heap.size, 0, none⟩) 0 0] := .inr ⟨_, 1, rfl, fun j u hu => by
    have hj : j = 0 := by
      have := (List.getElem?_eq_some_iff.1 hu).1
      simp at this; omega
    subst hj
    simp at hu
    subst hu
    simp [World.cell?, Addr.add, hg1]⟩
  have bW : Below w.heap.size w W := b1.trans (hb.mono b1.size)
  obtain ⟨v2, w2, r2, o2, g2⟩ := app_rows oW hr (fun u hu => by simp at hu; subst hu; rfl) (by simp; omega) bW.size 22
  have b2 : Below w.heap.size w w2 := below_app bW g2 oW bW.size
  refine ⟨v2, w2, r2, ?_, b2⟩
  have hne : some w1.heap.size ≠ v1.ownBlock := fun e => by
    have := (o1.lt _ e.symm).2
    omega
  have h0 : w2.heap[w1.heap.size]? = some (.cells #[] 3) := (g2.block _ (by omega) hne).trans hg0
  have hs0 : Sl w2 w2.heap.size (.slice (some ⟨w1.heap.size, 0, none⟩) 0 0) [] := Sl.at (xs := []) h0 (by have := g2.size; omega) (Nat.le_refl _) (by omega) (fun x hx => by cases hx)
  have hk := ((kl.below (b2.mono hB)).mono (Nat.le_trans hB b2.size)).app (Vl.single hs0)
  refine Sl2.own (vs := ul ++ [.slice (some ⟨w1.heap.size, 0, none⟩) 0 0]) (B := w.heap.size) ?_ (Nat.le_refl _) hk
  have e2 : (ls ++ [[]]).length = 0 + ul.length + [Value.slice (some ⟨w1.heap.size, 0, none⟩) 0 0].length := by simp; omega
  rw [e2]
  simpa using o2
set_option maxRecDepth 100000 in
set_option maxHeartbeats 16000000 in
theorem rupempty_walk (vl vt : Value) (z : Int) (ls tr : List (List Int)) (w : World) (hL : Sl2 w w.heap.size vl ls) (hM : Sl2 w w.heap.size vt tr) (hlen : ∀ d ∈ [ls, tr], ∀ c ∈ d, c.length ≤ 17592186044416) :
    Calls Try.prog 8 #[vl, vt, .int .i64 z] w (YesPost w) := by
  obtain ⟨B, hB⟩ : ∃ B, w.heap.size = B := ⟨_, rfl⟩
  have hBw : B ≤ w.heap.size := by omega
  rw [hB] at hL hM
  obtain ⟨al, capl, rfl, hmaxl, _⟩ := hL.open
  obtain ⟨al2, capl2, rfl, hmaxl2, hct⟩ := hM.open
  have HAll : Hid (∀ W, Below B w W → Sl2 W B (.slice al ls.length capl) ls ∧ Sl2 W B (.slice al2 tr.length capl2) tr) := fun W h => ⟨hL.below h, hM.below h⟩
  obtain ⟨m, hm⟩ : ∃ m, ls.length = m := ⟨_, rfl⟩
  obtain ⟨m2, hm2⟩ : ∃ m2, tr.length = m2 := ⟨_, rfl⟩
  rw [hm, hm2] at HAll
  rw [hm, hm2]
  rw [hm] at hmaxl
  rw [hm2] at hmaxl2
  have HM2 := hide hm2
  have HCT := hide hct
  have HLen := hide hlen
  have HBB := hide hB
  clear hL hM hlen hB hm hm2 hct
  go_enter Try.func8, Try.ntmps8
  go_wp2_with fail
  refine (known_any w).mono ?_
  rintro e w1 ⟨rfl, hb1⟩
  go_wp2_with fail
  have hB1 : B ≤ w1.heap.size := Nat.le_trans hBw hb1.size
  have hb1' := hb1.mono hBw
  obtain ⟨l1, l2⟩ := unhide HAll w1 hb1'
  have hP := pack1 hB1 l1 l2
  have hbW : Below w1.heap.size w1 (w1.alloc (.cells #[.slice al m capl, .slice al2 m2 capl2] 22)) := (Below.refl _ w1).alloc (Nat.le_refl _) _
  have hBW := hb1'.trans (hbW.mono hB1)
  refine (light_is _ _ _ _ hP (unhide HLen)).mono ?_
  clear hP l1 l2
  rintro e w2 ⟨bl, rfl, rfl, hbl⟩
  clear hbW
  generalize (w1.alloc (.cells #[.slice al m capl, .slice al2 m2 capl2] 22)) = w2 at *
  have H2 := hide hBW
  have HBl := hide hbl
  clear hBW hbl hb1 hb1' hB1
  cases bl with
  | false =>
    go_wp2
    go_ret
    exact ⟨rfl, by rw [unhide HBB]; exact unhide H2⟩
  | true =>
    have htot : tot ls + tot tr ≤ 1000 := by
      have := unhide HBl rfl
      simp [totl] at this
      omega
    have hB2 : B ≤ w2.heap.size := Nat.le_trans hBw (by have := (unhide H2).size; omega)
    obtain ⟨j1, j2⟩ := unhide HAll w2 (unhide H2)
    obtain ⟨v1, w3, r1, v2, w5, r2, s5, b5⟩ := join_empty hB2 j1 (by omega)
    have hB5 : B ≤ w5.heap.size := Nat.le_trans hB2 b5.size
    have H5 := hide ((unhide H2).trans (b5.mono hB2))
    have HCk : Hid (Calls Try.prog 14 #[v2, .slice al2 m2 capl2] w5 fun e w' => ∃ (k : Nat) (er : Int), e = .returned (.tuple #[.int .i64 k, .int .i64 er]) ∧ Below B w w' ∧ ((er = 0 ∧ k = m2) ∨ (er = 70 ∧ k < m2 ∧ ∀ c, tr[k]? = some c → ¬ Whole c))) := by
      refine (rCheck_any w5 v2 _ (ls ++ [[]]) tr s5 ((unhide HAll w5 (unhide H5)).2.mono hB5) (by rw [tot_app, tot_one]; simp; omega)).mono ?_
      rintro e w6 ⟨k, er, rfl, h1, h2, h3⟩
      refine ⟨k, er, rfl, (unhide H5).trans (h3.mono hB5), ?_⟩
      have hk := h1.le
      by_cases hlt : k < tr.length
      · rw [if_pos hlt] at h2
        refine .inr ⟨h2, by rw [← unhide HM2]; exact hlt, fun c hc hw => ?_⟩
        have hst := h1.stop hlt
        rw [(List.getElem?_eq_some_iff.1 hc).2] at hst
        exact hst ((Fol.empty (List.mem_append_left _ (List.mem_append_right _ (by simp)))).2 hw)
      · rw [if_neg hlt, if_pos (by simp)] at h2
        exact .inl ⟨h2, by have := unhide HM2; omega⟩
    have R1 := hide r1
    have R2 := hide r2
    clear j1 j2 htot s5 b5 r1 r2 HBl HLen
    go_wp2_with (first
      | (at_builtin; refine app_run _ _ _ rfl rfl rfl rfl (unhide R1) ?_; clear R1)
      | (at_builtin; refine app_run _ _ _ rfl rfl rfl rfl (unhide R2) ?_; clear R2)
      | (go_at_call 14; refine (unhide HCk).mono ?_; intro e w6 h6; obtain ⟨k, er, rfl, h6, h7⟩ := h6; have H6 := hide h6; have H7 := hide h7; clear h6 h7; refine ?roundEnd))
    case roundEnd =>
      rcases unhide H7 with ⟨rfl, rfl⟩ | ⟨rfl, hk, hbad⟩
      · clear H7 HCk
        go_wp2
        go_ret
        exact ⟨rfl, by rw [unhide HBB]; exact unhide H6⟩
      · have hkl : k < tr.length := by rw [unhide HM2]; exact hk
        obtain ⟨b, off, u, rfl, hc0, hbB, hS⟩ := unhide HCT k hkl
        have hc := ((unhide H6).cell (p := ⟨b, off + k, none⟩) hbB).trans hc0
        obtain ⟨c, hcl⟩ : ∃ c, tr[k]? = some c := ⟨_, List.getElem?_eq_getElem hkl⟩
        have hce : tr[k] = c := (List.getElem?_eq_some_iff.1 hcl).2
        rw [hce] at hS
        have hnw := hbad c hcl
        obtain ⟨au, capu, rfl, hmaxu, hcu⟩ := hS.open
        obtain ⟨nc, hnc⟩ : ∃ nc, c.length = nc := ⟨_, rfl⟩
        rw [hnc] at hmaxu hc
        have k1 : (0 : Int) ≤ (k : Int) := by omega
        have k2 : (k : Int) < (m2 : Int) := by omega
        have HNC := hide hnc
        have HCU := hide hcu
        have HNW := hide hnw
        clear H7 HCk hc0 hcl hce hS hnw hnc hcu hbad hkl
        go_wp2
        go_loop [10] (fun iv => ∃ i : Nat, i ≤ nc ∧ iv = .int .i64 i ∧ Hid (∀ q (hq : q < c.length), q < i → LitOk c[q])) (fun iv => nc - (intOf iv).toNat)
        case atStart => exact ⟨0, Nat.zero_le _, rfl, fun q _ h => absurd h (Nat.not_lt_zero _)⟩
        case round =>
          obtain ⟨i, hi0, rfl, HA⟩ := hrel
          by_cases hi : i < nc
          · have hil : i < c.length := by rw [unhide HNC]; exact hi
            obtain ⟨b2, off2, rfl, hd0, hb2B⟩ := unhide HCU i hil
            have hd := ((unhide H6).cell (p := ⟨b2, off2 + i, none⟩) hb2B).trans hd0
            obtain ⟨x, hx⟩ : ∃ x, c[i] = x := ⟨_, rfl⟩
            rw [hx] at hd
            have p1 : (0 : Int) ≤ (i : Int) := by omega
            have p2 : (i : Int) < (nc : Int) := by omega
            have HX := hide hx
            clear hd0 hx
            by_cases hg : LitOk x
            · have HG := hide hg
              obtain ⟨g1, g2⟩ := two_good hg
              clear hg
              go_wp2
              refine ⟨⟨i + 1, by omega, by simp, fun q hq hqi => ?_⟩, by simp [intOf]; omega⟩
              by_cases e : q = i
              · subst e; rw [unhide HX]; exact unhide HG
              · exact unhide HA q hq (by omega)
            · rcases two_bad hg with g1 | ⟨g1, g2⟩
              · clear hg
                go_wp2
                go_ret
                exact ⟨rfl, by rw [unhide HBB]; exact unhide H6⟩
              · clear hg
                go_wp2
                go_ret
                exact ⟨rfl, by rw [unhide HBB]; exact unhide H6⟩
          · exfalso
            refine unhide HNW fun x hx => ?_
            obtain ⟨q, hq, e⟩ := List.mem_iff_getElem.1 hx
            rw [← e]
            exact unhide HA q hq (by have := unhide HNC; omega)
end Go.Proofs.Ytmkkhpoedlbafaa
