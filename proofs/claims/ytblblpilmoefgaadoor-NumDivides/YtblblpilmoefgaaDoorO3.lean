/- Must; avowlaw1.of: the number of any text. -/
import Derived.Test.YtblblpilmoefgaaDoorO2
import Derived.Laws.IdiomStrings
namespace Go.Proofs.YtblblpilmoefgaaDoor
open Go.RowKit

set_option maxRecDepth 100000 in
set_option maxHeartbeats 800000 in
theorem must_yes (neg : Bool) (D : List UInt8) (T : ByteArray) (w : World) (hT : T.data.toList = txt neg D) (h : RT neg D) :
    Calls Tryd.prog 45 #[.string T] w fun e w' => ∃ r, e = .returned r ∧ NV r ∧ Below w.heap.size w w' := by
  have HP := hide (fun w => parseN_yes neg D T w hT h)
  clear hT h
  go_enter Tryd.func45, Tryd.ntmps45
  go_wp2_with fail
  refine (unhide HP _).mono ?_
  rintro e w1 ⟨r, rfl, ⟨b1, a1, l1, c1, rfl⟩, hb1⟩
  have hbox := (NB.new w false none 0 0).below hb1
  have hbw : Below w.heap.size w w1 := ((Below.refl _ w).alloc (Nat.le_refl _) _).trans (hb1.mono (by simp))
  obtain ⟨kR0, kR1, kRf0, kRf1⟩ := hbox.facts
  have hlt := hbox.lt
  go_wp2
  refine bodyPost_ret (v := .agg #[.bool b1, .slice a1 l1 c1]) ?_ rfl ?_
  · simp [results, Tryd.results45, go_sem, kR0, kR1, hlt]
  · exact ⟨_, rfl, ⟨_, _, _, _, rfl⟩, (below_put hbw (Nat.le_refl _) _ _).alloc (by simp; omega) _⟩

theorem info8 : (Tryd.prog.info? 5).map (fun i => (i.zero, i.size, i.bytes)) = some (some (.int .u8 0), 1, 1) := by kernel_rfl
/-- A number is kept while a box of the document's is written. -/
theorem IsI.putN {W : World} {v u : Value} {z : Int} (h : IsI W v z) {R : Nat} (hR : NB W R u) (c0 c1 : Value) : IsI ((W.setCell ⟨R, 0, none⟩ c0).setCell ⟨R, 1, none⟩ c1) v z := by
  obtain ⟨n, a, l, c, _, hR⟩ := hR
  rcases h with h | ⟨b, off, cap, xs, e, h1, h2, h3, h4, h5, h6, h7⟩
  · exact .inl h
  · have hbR : b ≠ R := by
      rintro rfl
      have h0 := h3 0 (List.length_pos_iff.2 (IsI.ne_nil h6 h7))
      simp only [World.cell?, hR, Nat.add_zero, Option.isSome_none, Bool.false_eq_true, if_false] at h0
      match off, h0 with
      | 0, h0 => simp at h0
      | 1, h0 => simp at h0
      | k + 2, h0 => simp at h0
    refine .inr ⟨b, off, cap, xs, e, h1, by simpa using h2, fun j hj => ?_, h4, h5, h6, h7⟩
    rw [World.cell?_setCell_other _ _ _ _ (by intro e; injection e with e1; exact hbR e1.symm), World.cell?_setCell_other _ _ _ _ (by intro e; injection e with e1; exact hbR e1.symm)]
    exact h3 j hj
/-- The cells of bytes. -/
def bc (l : List UInt8) : List Value := l.map (fun b => Value.int .u8 (b.toNat : Int))

theorem one8 (d : Int) : ∀ u ∈ [Value.int .u8 d], u.oneCell' = true := by
  intro u hu
  simp at hu
  subst hu
  rfl
theorem own_one8 {base : Nat} (w : World) (d : Int) (hb : base ≤ w.heap.size) : (w.alloc (.cells #[.int .u8 d] 5)).ownsRow base 5 1 (.slice (some ⟨w.heap.size, 0, none⟩) 1 1) 1 [.int .u8 d] :=
  ⟨by simp, .inr ⟨w.heap.size, 1, #[.int .u8 d], rfl, hb, heap_alloc_new w _, Nat.le_refl _, by unfold maxLen; omega, rfl, by simp⟩⟩
theorem own_snoc8 {w : World} {base : Nat} {v : Value} {Bs : List UInt8} {c : UInt8} (h : w.ownsRow base 5 1 v (Bs.length + 1) (bc Bs ++ [.int .u8 (c.toNat : Int)])) :
    w.ownsRow base 5 1 v (Bs ++ [c]).length (bc (Bs ++ [c])) := by simpa [bc] using h
/-- A row of bytes that isn't empty lies in memory. -/
theorem own_form8 {w : World} {base : Nat} {v : Value} {l : List UInt8} (h : w.ownsRow base 5 1 v l.length (bc l)) (hl : 0 < l.length) : ∃ g cap, v = .slice (some ⟨g, 0, none⟩) l.length cap ∧ base ≤ g ∧ g < w.heap.size ∧ l.length ≤ cap ∧ ∀ j (hj : j < l.length), w.cell? ⟨g, j, none⟩ = some (.int .u8 ((l[j]'hj).toNat : Int)) := by
  rcases h.2 with ⟨rfl, h0⟩ | ⟨g, cap, cur, rfl, hb, hg, hn, _⟩
  · omega
  · refine ⟨g, cap, rfl, hb, (Array.getElem?_eq_some_iff.1 hg).1, by omega, fun j hj => ?_⟩
    have := h.cells (g := g) rfl j (.int .u8 ((l[j]'hj).toNat : Int)) (by simp [bc, hj])
    rw [Addr.add_lit, Nat.zero_add] at this
    exact this
/-- Digits, no nought ahead. -/
structure OB (Bs : List UInt8) : Prop where
  dg : Dg Bs
  h : Bs.head? ≠ some 48
theorem OB.nil : OB [] := ⟨(fun _ h => by simp at h), by simp⟩
theorem OB.snoc {Bs : List UInt8} {c : UInt8} (h : OB Bs) (c0 : 48 ≤ c.toNat) (c1 : c.toNat ≤ 57) (hc : Bs ≠ [] ∨ 48 < c.toNat) : OB (Bs ++ [c]) := by
  refine ⟨fun b hb => ?_, ?_⟩
  · rcases List.mem_append.1 hb with hb | hb
    · exact h.dg b hb
    · simp at hb; subst hb; exact ⟨c0, c1⟩
  · cases Bs with
    | nil =>
      rcases hc with hc | hc
      · exact absurd rfl hc
      · simp only [List.nil_append, List.head?_cons, ne_eq, Option.some.injEq]
        rintro rfl
        simp at hc
    | cons b Bs => simpa using h.h

theorem drew_below (W : World) : Below W.heap.size W W.drew := (Below.refl _ W).drew
theorem conv8 (W : World) (g cap n : Nat) (l : List UInt8) (hn : l.length = n) (hc : ∀ j (hj : j < l.length), W.cell? ⟨g, j, none⟩ = some (.int .u8 ((l[j]'hj).toNat : Int))) :
    (convert 56 9 (.slice (some ⟨g, 0, none⟩) n cap)).run Tryd.prog W = .ok (.string ⟨l.toArray⟩) W := by
  subst hn
  exact run_convert_bytes_back (P := Tryd.prog) W 56 9 5 ⟨g, 0, none⟩ cap l Tryd.underlying56 Tryd.underlying5 Tryd.underlying9 (fun j hj => by
    rw [Addr.add_lit, Nat.zero_add]
    exact hc j hj)
theorem val_bound {neg : Bool} {D : List UInt8} (h : Dg D) (hl : D.length ≤ 300) : (((if neg then - dec D else dec D) : Int).natAbs : Int) < pw 40 := by
  have h0 := dec_nonneg h
  have h1 := dec_lt h
  have h2 := pow_mono10 (show D.length ≤ 9 * 40 by omega)
  rw [← pw_eq] at h2
  cases neg <;> simp <;> omega

set_option maxRecDepth 100000 in
set_option maxHeartbeats 1600000 in
theorem ofS_any (s : ByteArray) (w : World) (hl : s.size ≤ 300) :
    Calls Tryd.prog 20 #[.string s] w fun e w' => ∃ v u z, e = .returned (.tuple #[v, u]) ∧ Below w.heap.size w w' ∧ IsI w' v z ∧ NV u ∧ (z.natAbs : Int) < pw 40 := by
  obtain ⟨i0, hi, hz0, hz1, hz2⟩ := info_parts info8
  have bX := (Bx.new w 0 none 0 0).alloc (.cells #[.bool false, .slice none 0 0] 31)
  have bN := NB.new (w.alloc (.cells #[.int .i64 0, .slice none 0 0] 26)) false none 0 0
  rw [World.size_alloc] at bN
  have hbw : Below w.heap.size w ((w.alloc (.cells #[.int .i64 0, .slice none 0 0] 26)).alloc (.cells #[.bool false, .slice none 0 0] 31)) := ((Below.refl _ w).alloc (Nat.le_refl _) _).alloc (by simp) _
  go_enter Tryd.func20, Tryd.ntmps20
  go_wp2
  generalize ((w.alloc (.cells #[.int .i64 0, .slice none 0 0] 26)).alloc (.cells #[.bool false, .slice none 0 0] 31)) = W0 at *
  go_loopw [4, 5] (fun bv iv wr => ∃ (i : Nat) (Bs : List UInt8), i ≤ s.size ∧ iv = .int .i64 i ∧ wr.ownsRow W0.heap.size 5 1 bv Bs.length (bc Bs) ∧ Below W0.heap.size W0 wr ∧ OB Bs ∧ Bs.length ≤ i ∧ (Bs = [] ∧ bv = .slice none 0 0 ∨ Bs ≠ [] ∧ ∃ g cap, bv = .slice (some ⟨g, 0, none⟩) Bs.length cap)) (fun _ iv _ => s.size - (intOf iv).toNat)
  case atStart => exact ⟨0, [], Nat.zero_le _, rfl, World.ownsRow_nil _ _ _ _, Below.refl _ _, OB.nil, Nat.le_refl _, .inl ⟨rfl, rfl⟩⟩
  case round =>
    obtain ⟨i, Bs, hi0, rfl, hown, hbel, hob, hbl, hform⟩ := hrel
    by_cases his : i < s.size
    · have HF := hide hform
      have HOB := hide hob
      clear hform hob
      by_cases c0 : 48 ≤ (s[i]'his).toNat
      · by_cases c1 : (s[i]'his).toNat ≤ 57
        · rcases unhide HF with ⟨rfl, rfl⟩ | ⟨hne, g, cap, rfl⟩
          · by_cases c2 : 48 < (s[i]'his).toNat
            · have t2 : decide ((48 : Int) < (((s[i]'his).toNat : Nat) : Int)) = true := by simp; omega
              go_wp2_with (at_builtin; refine wpList_append_own _ rfl _ _ 56 rfl W0.heap.size 5 i0 (.int .u8 0) 1 1 Tryd.underlying56 hi hz0 hz1 hz2 rfl (by decide) _ _ _ rfl (hown.alloc _) ⟨wr.heap.size, 0, none⟩ 1 1 [.int .u8 (((s[i]'his).toNat : Nat) : Int)] rfl rfl (cell_one_new _ _ _) (one8 _) ?c3 ?c4 ?c5 ?_)
              case c3 => unfold maxLen; omega
              case c5 => have := hbel.size; simp; omega
              intro v' w2 hown' hgrow _
              have hB := (hbel.alloc hbel.size (.cells #[.int .u8 (((s[i]'his).toNat : Nat) : Int)] 5)).grown hgrow (by have := hbel.size; simp; omega) (fun k hk => (hown.lt k hk).1)
              have hO := own_snoc8 hown'
              obtain ⟨g, cap, rfl, _, _, _, _⟩ := own_form8 hO (by simp)
              clear hown' hgrow hown hbel
              go_wp2
              exact ⟨⟨i + 1, [] ++ [s[i]'his], by omega, by simp, hO, hB, (unhide HOB).snoc (by omega) (by omega) (.inr c2), by simp, .inr ⟨by simp, g, cap, rfl⟩⟩, by simp [intOf]; omega⟩
            · have t2 : decide ((48 : Int) < (((s[i]'his).toNat : Nat) : Int)) = false := by simp; omega
              go_wp2
              exact ⟨⟨i + 1, [], by omega, by simp, hown, hbel, unhide HOB, by omega, unhide HF⟩, by simp [intOf]; omega⟩
          · have hpos : 0 < Bs.length := List.length_pos_iff.2 hne
            have hpos' : (0 : Int) < (Bs.length : Int) := by omega
            go_wp2_with (at_builtin; refine wpList_append_own _ rfl _ _ 56 rfl W0.heap.size 5 i0 (.int .u8 0) 1 1 Tryd.underlying56 hi hz0 hz1 hz2 rfl (by decide) _ _ _ rfl (hown.alloc _) ⟨wr.heap.size, 0, none⟩ 1 1 [.int .u8 (((s[i]'his).toNat : Nat) : Int)] rfl rfl (cell_one_new _ _ _) (one8 _) ?d3 ?d4 ?d5 ?_)
            case d3 => unfold maxLen; omega
            case d4 => omega
            case d5 => have := hbel.size; simp; omega
            intro v' w2 hown' hgrow _
            have hB := (hbel.alloc hbel.size (.cells #[.int .u8 (((s[i]'his).toNat : Nat) : Int)] 5)).grown hgrow (by have := hbel.size; simp; omega) (fun k hk => (hown.lt k hk).1)
            have hO := own_snoc8 hown'
            obtain ⟨g, cap, rfl, _, _, _, _⟩ := own_form8 hO (by simp)
            clear hown' hgrow hown hbel
            go_wp2
            exact ⟨⟨i + 1, Bs ++ [s[i]'his], by omega, by simp, hO, hB, (unhide HOB).snoc (by omega) (by omega) (.inl hne), by simp; omega, .inr ⟨by simp, g, cap, rfl⟩⟩, by simp [intOf]; omega⟩
        · have t1 : decide ((((s[i]'his).toNat : Nat) : Int) ≤ 57) = false := by simp; omega
          go_wp2
          exact ⟨⟨i + 1, Bs, by omega, by simp, hown, hbel, unhide HOB, by omega, unhide HF⟩, by simp [intOf]; omega⟩
      · have t0 : decide (48 ≤ (((s[i]'his).toNat : Nat) : Int)) = false := by simp; omega
        go_wp2
        exact ⟨⟨i + 1, Bs, by omega, by simp, hown, hbel, unhide HOB, by omega, unhide HF⟩, by simp [intOf]; omega⟩
    · obtain rfl : i = s.size := by omega
      rcases hform with ⟨rfl, rfl⟩ | ⟨hne, g, cap, rfl⟩
      · have hcell : ∀ j (hj : j < (txt false [48]).length), (wr.alloc (.cells #[.int .u8 48] 5)).cell? ⟨wr.heap.size, j, none⟩ = some (.int .u8 (((txt false [48])[j]'hj).toNat : Int)) := fun j hj => by
          have : j = 0 := by simp [txt] at hj; omega
          subst this
          rw [World.cell?_alloc_at _ _ _ _ rfl]; rfl
        have hlen : (txt false [48]).length = 1 := rfl
        have hRTl : ([48] : List UInt8).length ≤ 300 := by decide
        have hbelW : Below W0.heap.size W0 (wr.alloc (.cells #[.int .u8 48] 5)) := hbel.alloc hbel.size _
        have hRT : RT false [48] := ⟨by intro b hb; simp at hb; subst hb; decide, by simp, fun _ => ⟨rfl, rfl⟩, by decide⟩
        have hD300 : [48].length ≤ 300 := hRTl
        have hcv := conv8 (wr.alloc (.cells #[.int .u8 48] 5)) wr.heap.size 1 1 (txt false [48]) hlen hcell
        obtain ⟨T, hT⟩ : ∃ T : ByteArray, T = ⟨(txt false [48]).toArray⟩ := ⟨_, rfl⟩
        have hTd : T.data.toList = txt false [48] := by rw [hT]
        have HP := hide (fun w => parse_yes false [48] w hRT.dg hRT.ne hRT.z hRT.len)
        rw [← hT] at hcv HP
        have HT := hide hTd
        clear hT hTd
        go_wp2_with fail
        refine (unhide HP _).mono ?_
        rintro e w4 ⟨r, rfl, hb4, hI⟩
        obtain ⟨n4, a4, l4, c4, rfl⟩ := hI.form
        have hb5 : Below (wr.alloc (.cells #[.int .u8 48] 5)).heap.size (wr.alloc (.cells #[.int .u8 48] 5)) (w4.alloc (.cells #[.int .i64 n4, .slice a4 l4 c4] 26)) := hb4.alloc hb4.size _
        have hcv2 := conv8 (w4.alloc (.cells #[.int .i64 n4, .slice a4 l4 c4] 26)) wr.heap.size 1 1 (txt false [48]) hlen (fun j hj => (hb5.cell (p := ⟨wr.heap.size, j, none⟩) (by simp)).trans (hcell j hj))
        rw [show (⟨(txt false [48]).toArray⟩ : ByteArray) = T by rw [← unhide HT]] at hcv2
        have HI := hide (hI.below ((Below.refl _ w4).alloc (Nat.le_refl _) (.cells #[.int .i64 n4, .slice a4 l4 c4] 26)))
        have bL := Bx.new w4 n4 a4 l4 c4
        obtain ⟨kL0, kL1, _, _⟩ := bL.facts
        clear hcv hI
        have hbT : Below W0.heap.size W0 (w4.alloc (.cells #[.int .i64 n4, .slice a4 l4 c4] 26)) := hbelW.trans (hb5.mono hbelW.size)
        have bX5 := bX.below hbT
        have bN5 := bN.below hbT
        have hbw5 := hbw.trans (hbT.mono hbw.size)
        go_wp2_with fail
        generalize (w4.alloc (.cells #[.int .i64 n4, .slice a4 l4 c4] 26)) = W5 at *
        have hcv3 : (convert 56 9 (.slice (some ⟨wr.heap.size, 0, none⟩) 1 1)).run Tryd.prog W5.drew = .ok (.string T) W5.drew := by
          have := conv8 W5.drew wr.heap.size 1 1 (txt false [48]) hlen (fun j hj => (hb5.cell (p := ⟨wr.heap.size, j, none⟩) (by simp)).trans (hcell j hj))
          rwa [show (⟨(txt false [48]).toArray⟩ : ByteArray) = T by rw [← unhide HT]] at this
        have HM := hide (fun w => must_yes false [48] T w (unhide HT) hRT)
        have hXN : w.heap.size ≠ w.heap.size + 1 := by omega
        have hltL := bL.lt
        clear hcv2
        go_region_with (go_at_call 45; refine (unhide HM _).mono ?_; rintro e w6 ⟨r6, rfl, ⟨b6, a6, l6, c6, rfl⟩, hb6⟩; have yX := bX5.drew.below hb6; have yN := bN5.drew.below hb6; have yL := bL.drew.below hb6; obtain ⟨kX0, kX1, kXf0, kXf1⟩ := yX.facts; obtain ⟨kN0, kN1, kNf0, kNf1⟩ := yN.facts; obtain ⟨mL0, mL1, _, _⟩ := yL.facts; have HI6 := hide ((unhide HI).below ((drew_below W5).trans (hb6.mono (Nat.le_refl _)))))
        all_goals
          go_wp2
          have pN := (yN.other (p := ⟨w.heap.size, 0, none⟩) hXN (.int .i64 n4)).other (p := ⟨w.heap.size, 1, none⟩) hXN (.slice a4 l4 c4)
          have hfin := ((unhide HI6).put yX (.int .i64 n4) (.slice a4 l4 c4)).putN pN (.bool b6) (.slice a6 l6 c6)
          have hbl6 := (hbw5.trans (((drew_below W5).trans (hb6.mono (Nat.le_refl _))).mono hbw5.size))
          refine bodyPost_ret (v := .tuple #[.agg #[.int .i64 n4, .slice a4 l4 c4], .agg #[.bool b6, .slice a6 l6 c6]]) ?_ rfl ?_
          · simp [results, Tryd.results20, go_sem, kX0, kX1, kN0, kN1]
          · exact ⟨_, _, _, rfl, below_put (below_put hbl6 (Nat.le_refl _) _ _) (Nat.le_succ _) _ _, hfin, ⟨_, _, _, _, rfl⟩, val_bound (neg := false) (D := [48]) hRT.dg hD300⟩
      · obtain ⟨g', cap', e', _, hgl, hcap, hcell⟩ := own_form8 hown (List.length_pos_iff.2 hne)
        simp only [Value.slice.injEq, Option.some.injEq, Addr.mk.injEq, true_and, and_true] at e'
        obtain ⟨rfl, rfl⟩ := e'
        have hposB : 0 < Bs.length := List.length_pos_iff.2 hne
        have hpos : 0 < s.size := by omega
        have hlz : ((Bs.length : Int) == 0) = false := by simp; omega
        have hRTl : Bs.length ≤ 300 := by omega
        by_cases c45 : (s[0]'hpos).toNat = 45
        · have t45 : ((((s[0]'hpos).toNat : Nat) : Int) == 45) = true := by simp; omega
          have hRT : RT true Bs := ⟨hob.dg, hne, fun h => absurd h hob.h, by omega⟩
          go_wp2_with (at_builtin; refine wpList_append_own _ rfl _ _ 56 rfl W0.heap.size 5 i0 (.int .u8 0) 1 1 Tryd.underlying56 hi hz0 hz1 hz2 rfl (by decide) _ _ _ rfl (own_one8 wr _ hbel.size) ⟨g, 0, none⟩ Bs.length cap (bc Bs) rfl (by simp [bc]) ?f1 ?f2 ?f3 ?f4 ?f5 ?_)
          case f1 =>
            intro j u hj
            have hjl : j < Bs.length := by
              have := (List.getElem?_eq_some_iff.1 hj).1
              simpa [bc] using this
            rw [Addr.add_lit, Nat.zero_add, World.cell?_alloc_past _ _ _ hgl, hcell j hjl]
            simpa [bc, hjl] using hj
          case f2 =>
            intro u hu
            simp only [bc, List.mem_map] at hu
            obtain ⟨b, _, rfl⟩ := hu
            rfl
          case f3 => unfold maxLen; omega
          case f4 => omega
          case f5 => have := hbel.size; simp; omega
          intro v' w3 hown3 hgrow _
          have hB3 : Below W0.heap.size W0 w3 := (hbel.alloc hbel.size (.cells #[.int .u8 45] 5)).grown hgrow (by have := hbel.size; simp; omega) (fun k hk => by simp [Value.ownBlock] at hk; subst hk; exact hbel.size)
          have hO3 : w3.ownsRow W0.heap.size 5 1 v' (txt true Bs).length (bc (txt true Bs)) := by
            have e1 : (txt true Bs).length = 1 + Bs.length := by simp [txt]; omega
            rw [e1]
            exact hown3
          obtain ⟨g3, cap3, rfl, _, hgl3, hcap3, hcell3⟩ := own_form8 hO3 (by simp [txt])
          have hlen : (txt true Bs).length = Bs.length + 1 := by simp [txt]
          rw [hlen] at hcap3
          have hbelW := hB3
          clear hgrow hown3 hown hbel hcell hcap
          simp only [hlen]
          have hD300 : Bs.length ≤ 300 := hRTl
          have hcv := conv8 w3 g3 cap3 (Bs.length + 1) (txt true Bs) hlen hcell3
          obtain ⟨T, hT⟩ : ∃ T : ByteArray, T = ⟨(txt true Bs).toArray⟩ := ⟨_, rfl⟩
          have hTd : T.data.toList = txt true Bs := by rw [hT]
          have HP := hide (fun w => parse_yes true Bs w hRT.dg hRT.ne hRT.z hRT.len)
          rw [← hT] at hcv HP
          have HT := hide hTd
          clear hT hTd
          go_wp2_with fail
          refine (unhide HP _).mono ?_
          rintro e w4 ⟨r, rfl, hb4, hI⟩
          obtain ⟨n4, a4, l4, c4, rfl⟩ := hI.form
          have hb5 : Below w3.heap.size w3 (w4.alloc (.cells #[.int .i64 n4, .slice a4 l4 c4] 26)) := hb4.alloc hb4.size _
          have hcv2 := conv8 (w4.alloc (.cells #[.int .i64 n4, .slice a4 l4 c4] 26)) g3 cap3 (Bs.length + 1) (txt true Bs) hlen (fun j hj => (hb5.cell (p := ⟨g3, j, none⟩) hgl3).trans (hcell3 j hj))
          rw [show (⟨(txt true Bs).toArray⟩ : ByteArray) = T by rw [← unhide HT]] at hcv2
          have HI := hide (hI.below ((Below.refl _ w4).alloc (Nat.le_refl _) (.cells #[.int .i64 n4, .slice a4 l4 c4] 26)))
          have bL := Bx.new w4 n4 a4 l4 c4
          obtain ⟨kL0, kL1, _, _⟩ := bL.facts
          clear hcv hI
          have hbT : Below W0.heap.size W0 (w4.alloc (.cells #[.int .i64 n4, .slice a4 l4 c4] 26)) := hbelW.trans (hb5.mono hbelW.size)
          have bX5 := bX.below hbT
          have bN5 := bN.below hbT
          have hbw5 := hbw.trans (hbT.mono hbw.size)
          go_wp2_with fail
          generalize (w4.alloc (.cells #[.int .i64 n4, .slice a4 l4 c4] 26)) = W5 at *
          have hcv3 : (convert 56 9 (.slice (some ⟨g3, 0, none⟩) (Bs.length + 1) cap3)).run Tryd.prog W5.drew = .ok (.string T) W5.drew := by
            have := conv8 W5.drew g3 cap3 (Bs.length + 1) (txt true Bs) hlen (fun j hj => (hb5.cell (p := ⟨g3, j, none⟩) hgl3).trans (hcell3 j hj))
            rwa [show (⟨(txt true Bs).toArray⟩ : ByteArray) = T by rw [← unhide HT]] at this
          have HM := hide (fun w => must_yes true Bs T w (unhide HT) hRT)
          have hXN : w.heap.size ≠ w.heap.size + 1 := by omega
          have hltL := bL.lt
          clear hcv2
          go_region_with (go_at_call 45; refine (unhide HM _).mono ?_; rintro e w6 ⟨r6, rfl, ⟨b6, a6, l6, c6, rfl⟩, hb6⟩; have yX := bX5.drew.below hb6; have yN := bN5.drew.below hb6; have yL := bL.drew.below hb6; obtain ⟨kX0, kX1, kXf0, kXf1⟩ := yX.facts; obtain ⟨kN0, kN1, kNf0, kNf1⟩ := yN.facts; obtain ⟨mL0, mL1, _, _⟩ := yL.facts; have HI6 := hide ((unhide HI).below ((drew_below W5).trans (hb6.mono (Nat.le_refl _)))))
          all_goals
            go_wp2
            have pN := (yN.other (p := ⟨w.heap.size, 0, none⟩) hXN (.int .i64 n4)).other (p := ⟨w.heap.size, 1, none⟩) hXN (.slice a4 l4 c4)
            have hfin := ((unhide HI6).put yX (.int .i64 n4) (.slice a4 l4 c4)).putN pN (.bool b6) (.slice a6 l6 c6)
            have hbl6 := (hbw5.trans (((drew_below W5).trans (hb6.mono (Nat.le_refl _))).mono hbw5.size))
            refine bodyPost_ret (v := .tuple #[.agg #[.int .i64 n4, .slice a4 l4 c4], .agg #[.bool b6, .slice a6 l6 c6]]) ?_ rfl ?_
            · simp [results, Tryd.results20, go_sem, kX0, kX1, kN0, kN1]
            · exact ⟨_, _, _, rfl, below_put (below_put hbl6 (Nat.le_refl _) _ _) (Nat.le_succ _) _ _, hfin, ⟨_, _, _, _, rfl⟩, val_bound (neg := true) (D := Bs) hRT.dg hD300⟩
        · have t45 : ((((s[0]'hpos).toNat : Nat) : Int) == 45) = false := by simp; omega
          have hRT : RT false Bs := ⟨hob.dg, hne, fun h => absurd h hob.h, by omega⟩
          have hlen : (txt false Bs).length = Bs.length := rfl
          have hbelW := hbel
          have hD300 : Bs.length ≤ 300 := hRTl
          have hcv := conv8 wr g cap Bs.length (txt false Bs) hlen hcell
          obtain ⟨T, hT⟩ : ∃ T : ByteArray, T = ⟨(txt false Bs).toArray⟩ := ⟨_, rfl⟩
          have hTd : T.data.toList = txt false Bs := by rw [hT]
          have HP := hide (fun w => parse_yes false Bs w hRT.dg hRT.ne hRT.z hRT.len)
          rw [← hT] at hcv HP
          have HT := hide hTd
          clear hT hTd
          go_wp2_with fail
          refine (unhide HP _).mono ?_
          rintro e w4 ⟨r, rfl, hb4, hI⟩
          obtain ⟨n4, a4, l4, c4, rfl⟩ := hI.form
          have hb5 : Below wr.heap.size wr (w4.alloc (.cells #[.int .i64 n4, .slice a4 l4 c4] 26)) := hb4.alloc hb4.size _
          have hcv2 := conv8 (w4.alloc (.cells #[.int .i64 n4, .slice a4 l4 c4] 26)) g cap Bs.length (txt false Bs) hlen (fun j hj => (hb5.cell (p := ⟨g, j, none⟩) hgl).trans (hcell j hj))
          rw [show (⟨(txt false Bs).toArray⟩ : ByteArray) = T by rw [← unhide HT]] at hcv2
          have HI := hide (hI.below ((Below.refl _ w4).alloc (Nat.le_refl _) (.cells #[.int .i64 n4, .slice a4 l4 c4] 26)))
          have bL := Bx.new w4 n4 a4 l4 c4
          obtain ⟨kL0, kL1, _, _⟩ := bL.facts
          clear hcv hI
          have hbT : Below W0.heap.size W0 (w4.alloc (.cells #[.int .i64 n4, .slice a4 l4 c4] 26)) := hbelW.trans (hb5.mono hbelW.size)
          have bX5 := bX.below hbT
          have bN5 := bN.below hbT
          have hbw5 := hbw.trans (hbT.mono hbw.size)
          go_wp2_with fail
          generalize (w4.alloc (.cells #[.int .i64 n4, .slice a4 l4 c4] 26)) = W5 at *
          have hcv3 : (convert 56 9 (.slice (some ⟨g, 0, none⟩) Bs.length cap)).run Tryd.prog W5.drew = .ok (.string T) W5.drew := by
            have := conv8 W5.drew g cap Bs.length (txt false Bs) hlen (fun j hj => (hb5.cell (p := ⟨g, j, none⟩) hgl).trans (hcell j hj))
            rwa [show (⟨(txt false Bs).toArray⟩ : ByteArray) = T by rw [← unhide HT]] at this
          have HM := hide (fun w => must_yes false Bs T w (unhide HT) hRT)
          have hXN : w.heap.size ≠ w.heap.size + 1 := by omega
          have hltL := bL.lt
          clear hcv2
          go_region_with (go_at_call 45; refine (unhide HM _).mono ?_; rintro e w6 ⟨r6, rfl, ⟨b6, a6, l6, c6, rfl⟩, hb6⟩; have yX := bX5.drew.below hb6; have yN := bN5.drew.below hb6; have yL := bL.drew.below hb6; obtain ⟨kX0, kX1, kXf0, kXf1⟩ := yX.facts; obtain ⟨kN0, kN1, kNf0, kNf1⟩ := yN.facts; obtain ⟨mL0, mL1, _, _⟩ := yL.facts; have HI6 := hide ((unhide HI).below ((drew_below W5).trans (hb6.mono (Nat.le_refl _)))))
          all_goals
            go_wp2
            have pN := (yN.other (p := ⟨w.heap.size, 0, none⟩) hXN (.int .i64 n4)).other (p := ⟨w.heap.size, 1, none⟩) hXN (.slice a4 l4 c4)
            have hfin := ((unhide HI6).put yX (.int .i64 n4) (.slice a4 l4 c4)).putN pN (.bool b6) (.slice a6 l6 c6)
            have hbl6 := (hbw5.trans (((drew_below W5).trans (hb6.mono (Nat.le_refl _))).mono hbw5.size))
            refine bodyPost_ret (v := .tuple #[.agg #[.int .i64 n4, .slice a4 l4 c4], .agg #[.bool b6, .slice a6 l6 c6]]) ?_ rfl ?_
            · simp [results, Tryd.results20, go_sem, kX0, kX1, kN0, kN1]
            · exact ⟨_, _, _, rfl, below_put (below_put hbl6 (Nat.le_refl _) _ _) (Nat.le_succ _) _ _, hfin, ⟨_, _, _, _, rfl⟩, val_bound (neg := false) (D := Bs) hRT.dg hD300⟩

end Go.Proofs.YtblblpilmoefgaaDoor
