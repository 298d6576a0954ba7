/- The document's parser: all rules of expressions; expr of a declaration. -/
import Derived.Test.YtljhpbjngbbjbaaDoorZAM
import Derived.Test.YtljhpbjngbbjbaaDoorZAH
set_option linter.unusedVariables false
set_option linter.unusedSimpArgs false

/- The document's parser: left, its loops. -/
namespace Go.Proofs.YtljhpbjngbbjbaaDoor
open Go Go.RowKit
def cQ_ : Code → Code
  | .seq _ b => b
  | c => c
def cL_ : Code → Code
  | .seq a _ => a
  | c => c
/-- What stands behind the tables. -/
def lTail (f : Func) : Code := cQ_ (cQ_ (cQ_ (cQ_ (f.body.getD .skip))))
/-- While a row of operands is joined. -/
structure LI (w : World) (r gs go aq : Nat) (sg : List (ByteArray × Int)) (i0 i6 : Int) (s1 s2 : ByteArray) (b3 : Bool) (a4 : Option Addr) (n4 c4 : Nat) (t : Ex) (V : World) : Prop where
  but : But r w V
  z : ZB V w.heap.size
  ab : V.heap[aq]? = some (.cells #[.int .i64 i0, .string s1, .string s2, .bool b3, .slice a4 n4 c4, .int .i64 0, .int .i64 i6] 51)
  tr : IsEP V (fun b => w.heap.size + 1 ≤ b ∧ b ≠ aq) (.agg #[.int .i64 i0, .string s1, .string s2, .bool b3, .slice a4 n4 c4, .int .i64 0, .int .i64 i6]) t
  ord : r < w.heap.size ∧ w.heap.size < gs ∧ gs < aq ∧ w.heap.size < go ∧ go < aq
  tab : ∀ (j : Nat) s o, sg[j]? = some (s, o) → V.cell? ⟨gs, j, none⟩ = some (.string s) ∧ V.cell? ⟨go, j, none⟩ = some (.int .i64 o)
theorem cell_same {w w' : World} {b o : Nat} (h : w'.heap[b]? = w.heap[b]?) : w'.cell? ⟨b, o, none⟩ = w.cell? ⟨b, o, none⟩ := World.cell?_of_block (w := w) (a := ⟨b, o, none⟩) h
theorem LI.but' {w V V' : World} {r gs go aq : Nat} {sg : List (ByteArray × Int)} {i0 i6 : Int} {s1 s2 : ByteArray} {b3 : Bool} {a4 : Option Addr} {n4 c4 : Nat} {t : Ex} (h : LI w r gs go aq sg i0 i6 s1 s2 b3 a4 n4 c4 t V) (hb : But r V V') : LI w r gs go aq sg i0 i6 s1 s2 b3 a4 n4 c4 t V' := by
  have ho := h.ord
  have ha := (blk h.ab).1
  refine ⟨h.but.trans hb, (hb.block _ (blk h.z).1 (by omega)).trans h.z, (hb.block _ ha (by omega)).trans h.ab, IsEP.keep h.tr ⟨hb.size, fun k hk hs => hb.block k hs (by have h1 : w.heap.size + 1 ≤ k := hk.1; omega)⟩ fun _ h => h, ho, fun j s o hj => ?_⟩
  rw [cell_same (hb.block gs (by omega) (by omega)), cell_same (hb.block go (by omega) (by omega))]
  exact h.tab j s o hj
theorem isD_bad {ts : List (Int × ByteArray × Int)} {s : ByteArray} {S : PS} (h : S.e ≠ 0) : isD ts s S = false := by
  unfold isD
  simp [h]
theorem signD_bad {ts : List (Int × ByteArray × Int)} {S : PS} (h : S.e ≠ 0) : ∀ l, signD ts l S = none
  | [] => rfl
  | (s, o) :: l => by
    rw [signD, isD_bad h]
    exact signD_bad h l
theorem chD_bad {ts : List (Int × ByteArray × Int)} {O : PS → Ex × PS} {sg : List (ByteArray × Int)} {once : Bool} {n : Nat} {a : Ex} {S : PS} (h : S.e ≠ 0) : chD ts O sg once n a S = (a, S) := by
  cases n with
  | zero => rfl
  | succ n => rw [chD, signD_bad h]
theorem chD_none {ts : List (Int × ByteArray × Int)} {O : PS → Ex × PS} {sg : List (ByteArray × Int)} {once : Bool} {n : Nat} {a : Ex} {S : PS} (h : signD ts sg S = none) : chD ts O sg once n a S = (a, S) := by
  cases n with
  | zero => rfl
  | succ n => rw [chD, h]
theorem chD_once {ts : List (Int × ByteArray × Int)} {O : PS → Ex × PS} {sg : List (ByteArray × Int)} {n : Nat} {a : Ex} {S : PS} {o : Int} (h : signD ts sg S = some o) : chD ts O sg true (n + 1) a S = (madeR o [a, (O (stepD ts S)).1] (tD ts S).2.2, (O (stepD ts S)).2) := by rw [chD, h]; rfl
theorem chD_more {ts : List (Int × ByteArray × Int)} {O : PS → Ex × PS} {sg : List (ByteArray × Int)} {n : Nat} {a : Ex} {S : PS} {o : Int} (h : signD ts sg S = some o) : chD ts O sg false (n + 1) a S = chD ts O sg false n (madeR o [a, (O (stepD ts S)).1] (tD ts S).2.2) (O (stepD ts S)).2 := by rw [chD, h]; rfl
theorem signD_take {ts : List (Int × ByteArray × Int)} {S : PS} : ∀ (l : List (ByteArray × Int)) (i : Nat), (∀ j s o, j < i → l[j]? = some (s, o) → isD ts s S = false) → (l.length ≤ i → signD ts l S = none) ∧ ∀ s o, l[i]? = some (s, o) → isD ts s S = true → signD ts l S = some o
  | [], i, _ => ⟨fun _ => rfl, fun s o h => by simp at h⟩
  | (s, o) :: l, 0, h => ⟨fun h => by simp at h, fun s' o' h1 h2 => by
    obtain ⟨rfl, rfl⟩ : s = s' ∧ o = o' := by simpa using h1
    rw [signD, h2]
    rfl⟩
  | (s, o) :: l, i + 1, h => by
    have h0 := h 0 s o (Nat.succ_pos _) rfl
    have ih := signD_take l i fun j s' o' hj hs => h (j + 1) s' o' (by omega) (by simpa using hs)
    rw [signD, h0]
    exact ⟨fun hl => ih.1 (by simp at hl; omega), fun s' o' h1 h2 => ih.2 s' o' (by simpa using h1) h2⟩
theorem isD_lt {ts : List (Int × ByteArray × Int)} {s : ByteArray} {S : PS} (hT : TsOk ts) (hlt : S.i < ts.length) (h : isD ts s S = true) : S.i + 1 < ts.length := by
  unfold isD at h
  simp only [Bool.and_eq_true, Bool.or_eq_true, decide_eq_true_eq] at h
  exact nx_kind hT hlt (by rcases h.1.2 with h | h <;> rw [h] <;> decide)
theorem stepD_i {ts : List (Int × ByteArray × Int)} {S : PS} (he : S.e = 0) (h : S.i + 1 < ts.length) : stepD ts S = ⟨S.i + 1, S.e, S.a⟩ := if_pos ⟨he, h⟩
set_option maxRecDepth 100000 in
set_option maxHeartbeats 16000000 in
theorem left_tail {r d L : Nat} {ts : List (Int × ByteArray × Int)} {O : PS → Ex × PS} {sg : List (ByteArray × Int)} {once : Bool} (hT : TsOk ts) (hL : L ≤ 4) (honce : once = decide (L = 2)) (hO : ∀ (w : World) (st : PS), PD w r ts st d → Calls Tryd.prog 80 #[.pointer (some ⟨r, 0, none⟩), .int .i64 ((L : Int) + 1)] w (DE (O st) r ts d w)) (hM : ∀ S, S.i ≤ (O S).2.i) (hsg : sg.length ≤ 6) (hop : ∀ (j : Nat) s o, sg[j]? = some (s, o) → o ≠ 0) {w W : World} {st : PS} {gs go : Nat} {x12 x13 x16 x17 x18 x19 x20 x21 x22 x23 x24 x25 x26 x27 x28 x29 x30 x31 x32 x33 : Value} {QQ : Exit → Act → World → Prop} (hB : But r w W) (hr : r < w.heap.size) (hR : PD W r ts st d) (hZ : ZB W w.heap.size) (hg : w.heap.size < gs ∧ gs < W.heap.size ∧ w.heap.size < go ∧ go < W.heap.size) (htab : ∀ (j : Nat) s o, sg[j]? = some (s, o) → W.cell? ⟨gs, j, none⟩ = some (.string s) ∧ W.cell? ⟨go, j, none⟩ = some (.int .i64 o)) (hQ : bodyPost Tryd.prog Tryd.f80 (DE (levD ts O sg once st) r ts d w) = QQ) :
    Code.wp Tryd.prog (lTail Tryd.f80) QQ { tmps := #[.pointer (some ⟨r, 0, none⟩), .int .i64 (L : Int), undef, undef, .pointer (some ⟨w.heap.size, 0, none⟩), .slice (some ⟨gs, 0, none⟩) sg.length sg.length, .slice (some ⟨go, 0, none⟩) sg.length sg.length, undef, undef, undef, undef, undef, x12, x13, undef, undef, x16, x17, x18, x19, x20, x21, x22, x23, x24, x25, x26, x27, x28, x29, x30, x31, x32, x33, undef, undef, undef, undef, undef, undef, undef, undef, undef, undef, undef, undef, undef, undef, undef, undef, undef, undef, undef, undef, undef, undef, undef, undef, undef, undef, undef, undef, undef, undef, undef, undef, undef, undef, undef, undef, undef, undef, undef, undef, undef, undef, undef, undef, undef, undef, undef], defers := [] } W := by
  have HC := hide (hO W st hR)
  obtain ⟨Y, hY⟩ : ∃ Y, levD ts O sg once st = Y := ⟨_, rfl⟩
  rw [hY] at hQ
  unfold levD at hY
  obtain ⟨⟨t0, S0⟩, hX⟩ : ∃ X, O st = X := ⟨_, rfl⟩
  rw [hX] at HC hY
  simp only at hY
  have HQQ := hide hQ
  have HT := hide hT
  have HO := hide hO
  have HM := hide (And.intro hM (And.intro hop honce))
  have HW := hide (And.intro hB (And.intro hR (And.intro hZ (And.intro hg htab))))
  have HY := hide hY
  have hmi : Hid (ts.length ≤ ts.length) := Nat.le_refl _
  obtain ⟨N, hN⟩ : ∃ N, sg.length = N := ⟨_, rfl⟩
  have HN := hide hN
  rw [hN] at hsg
  rw [hN]
  have gL : (L : Int) ≤ 4 := by omega
  have gL0 : (0 : Int) ≤ (L : Int) := by omega
  have gN : (N : Int) ≤ 6 := by omega
  clear hQ hT hO hM hop hB hR hZ hg htab hY hX hN hsg hL honce
  conv => arg 2; whnf
  go_wp2_with fail
  refine (unhide HC).mono ?_
  rintro e w7 ⟨hb7, hR7, v7, rfl, hv7⟩
  obtain ⟨i7, j7, s7, m7, b7, a7, n7, c7, rfl⟩ := hv7.form
  obtain ⟨B7, eB7, hbB7, hsB7, hhB7⟩ := box_new w7 #[.int .i64 i7, .string s7, .string m7, .bool b7, .slice a7 n7 c7, .int .i64 0, .int .i64 j7] 51
  obtain ⟨hB, hR, hZ, hg, htab⟩ := unhide HW
  have hWB : But r W B7 := hb7.trans (But.of hbB7)
  have hLI : LI w r gs go w7.heap.size sg i7 j7 s7 m7 b7 a7 n7 c7 t0 B7 := by
    have h1 := hb7.size
    have h2 := (blk hZ).1
    refine ⟨hB.trans hWB, hZ.but hWB (by omega), hhB7, IsEP.keep (IsEP.bnd hv7) ⟨hbB7.size, fun k hk _ => hbB7.block k hk.2⟩ fun b hb => ⟨by have h1 : W.heap.size ≤ b := hb.1; omega, by have h1 : b < w7.heap.size := hb.2; omega⟩, ⟨hr, by omega, by omega, by omega, by omega⟩, fun j s o hj => ?_⟩
    rw [cell_same (hWB.block gs (by omega) (by omega)), cell_same (hWB.block go (by omega) (by omega))]
    exact htab j s o hj
  have HI := hide (And.intro hLI (hR7.keep hbB7))
  have HEB7 := hide eB7
  obtain ⟨aq, haq⟩ : ∃ aq, w7.heap.size = aq := ⟨_, rfl⟩
  have HAQ := hide haq
  clear HC HW hb7 hR7 hv7 eB7 hbB7 hsB7 hhB7 hB hR hZ hg htab hWB hLI haq
  rename_i K1 h1 K2 h2
  replace h1 := hide h1
  go_wp2_with fail
  rw [unhide HEB7, unhide HAQ]
  refine unhide h1 _ _ ?_
  go_wp2_with fail
  go_loopw [] (fun wr => ∃ t S n i0 i6 s1 s2 b3 a4 n4 c4, Hid (LI w r gs go aq sg i0 i6 s1 s2 b3 a4 n4 c4 t wr) ∧ Hid (PD wr r ts S d) ∧ Hid (chD ts O sg once n t S = Y) ∧ Hid (S.e = 0 → ts.length ≤ S.i + n)) (fun wr => ts.length - (intOf ((wr.cell? ⟨r, 1, none⟩).getD undef)).toNat)
  case atStart => exact ⟨t0, S0, ts.length, _, _, _, _, _, _, _, _, by rw [← unhide HAQ]; exact (unhide HI).1, (unhide HI).2, HY, fun _ => Nat.le_add_left _ _⟩
  case round =>
    obtain ⟨t, S, n, i0, i6, s1, s2, b3, a4, n4, c4, hLI, hPD, hch, hfu⟩ := hrel
    obtain ⟨gg, gc, x0, x1, x2, x3, x4, hc, hl, hf, ht⟩ := (unhide hPD).facts (Below.refl _ _)
    clear x0 x3 x4 hc hf ht
    have X1 := hide x1
    clear x1
    by_cases he : S.e = 0
    rotate_left
    · have HYF := hide ((chD_bad he).symm.trans (unhide hch))
      obtain ⟨er, her⟩ : ∃ er, S.e = er := ⟨_, rfl⟩
      rw [her] at x2 he
      have e0 : (er == 0) = false := by simpa using he
      have d0 : decide (er = 0) = false := by simpa using he
      clear he her
      obtain ⟨y0, y1, y2, y3, y4, y5, y6⟩ := blk7 (unhide hLI).z
      obtain ⟨z0, z1, z2, z3, z4, z5, z6⟩ := frz7 (unhide hLI).z
      obtain ⟨q0, q1, q2, q3, q4, q5, q6⟩ := blk7 (unhide hLI).ab
      have HNode := hide (IsEP.keep (P' := fun b => w.heap.size + 1 ≤ b) (unhide hLI).tr ⟨Nat.le_refl _, fun _ _ _ => rfl⟩ fun b hb => hb.1)
      go_wp2
      rw [← unhide HQQ]
      exact dret_put rfl rfl rfl (unhide hLI).but (unhide hLI).ord.1 (unhide hLI).z (unhide HYF).symm (unhide hPD) (Nat.lt_succ_self _) (unhide HNode)
    · rw [he] at x2
      have HEr := hide he
      have HC := hide (dt_any (unhide hPD) (unhide HT))
      unfold tkV at HC
      obtain ⟨⟨kk9, T9, at9⟩, hN9⟩ : ∃ X, tD ts S = X := ⟨_, rfl⟩
      rw [hN9] at HC
      have hf2 := fld2 (.int .i64 kk9) (.string T9) (.int .i64 at9)
      have HN9 := hide hN9
      clear hN9 he
      go_wp2_with fail
      refine (unhide HC).mono ?_
      rintro e w8 ⟨rfl, hb8⟩
      have HA8 := hide ((unhide hLI).but' (But.of hb8))
      have HP8 := hide ((unhide hPD).keep hb8)
      clear hb8 HC x2 hl hLI hPD
      go_wp2_with fail
      obtain ⟨V0, hV0⟩ : ∃ V0, V0 = w8 := ⟨_, rfl⟩
      subst hV0
      go_loopw [9, 10] (fun ov iv wr2 => ∃ (i : Nat) (o : Int) (S2 : PS), ov = .int .i64 o ∧ iv = .int .i64 i ∧ Hid (i ≤ N) ∧ Hid (LI w r gs go aq sg i0 i6 s1 s2 b3 a4 n4 c4 t wr2) ∧ Hid (PD wr2 r ts S2 d) ∧ Hid ((o = 0 ∧ S2 = S ∧ ∀ (j : Nat) s o', j < i → sg[j]? = some (s, o') → isD ts s S = false) ∨ (o ≠ 0 ∧ signD ts sg S = some o ∧ S2 = stepD ts S))) (fun _ iv _ => N - (intOf iv).toNat)
      case atStart => exact ⟨0, 0, S, rfl, rfl, Nat.zero_le _, HA8, HP8, .inl ⟨rfl, rfl, fun j s o h => absurd h (Nat.not_lt_zero _)⟩⟩
      case round =>
        obtain ⟨i, o, S2, rfl, rfl, hi, hA, hP, hor⟩ := hrel
        by_cases ho : o = 0
        · subst ho
          have h3 : S2 = S ∧ ∀ (j : Nat) s o', j < i → sg[j]? = some (s, o') → isD ts s S = false := by
            rcases unhide hor with h | h
            · exact h.2
            · exact absurd rfl h.1
          obtain ⟨rfl, h3⟩ := h3
          have H3 := hide h3
          clear h3 hor
          by_cases hiN : i < N
          · obtain ⟨⟨s, o'⟩, hs⟩ : ∃ x, sg[i]? = some x := ⟨_, List.getElem?_eq_getElem (by rw [unhide HN]; exact hiN)⟩
            obtain ⟨c1, c2⟩ := (unhide hA).tab i s o' hs
            have g1 : (i : Int) < (N : Int) := by omega
            have g3 : (0 : Int) ≤ (i : Int) := by omega
            have HS := hide hs
            have HC := hide (eat_any (unhide hP) (unhide HT) s)
            obtain ⟨bo, hbo⟩ : ∃ b, isD ts s S2 = b := ⟨_, rfl⟩
            unfold eatD at HC
            rw [hbo] at HC
            have HO1 := hide hbo
            replace hiN := hide hiN
            clear hs hbo
            go_wp2_with fail
            refine (unhide HC).mono ?_
            rintro e w6 ⟨rfl, hb6, hR6⟩
            have hA6 := (unhide hA).but' hb6
            have hc2 := (hA6.tab i s o' (unhide HS)).2
            have HA6 := hide hA6
            clear hA6 c1 c2 hb6 HC
            cases bo with
            | false =>
              simp only [Bool.false_eq_true, if_false] at hR6
              have HR6 := hide hR6
              clear hR6 hc2
              go_wp2
              refine ⟨⟨i + 1, 0, S2, rfl, by simp, (by have := unhide hiN; show i + 1 ≤ N; omega), HA6, HR6, .inl ⟨rfl, rfl, fun j s'' o'' hj hsj => ?_⟩⟩, ?_⟩
              · rcases Nat.lt_or_ge j i with h | h
                · exact unhide H3 j s'' o'' h hsj
                · obtain rfl : j = i := by omega
                  rw [unhide HS] at hsj
                  obtain ⟨rfl, rfl⟩ : s = s'' ∧ o' = o'' := by simpa using hsj
                  exact unhide HO1
              · have := unhide hiN
                simp [intOf]
                omega
            | true =>
              simp only [if_true] at hR6
              have HR6 := hide hR6
              have ho' := (unhide HM).2.1 i s o' (unhide HS)
              have HSg := hide ((signD_take sg i (unhide H3)).2 s o' (unhide HS) (unhide HO1))
              replace ho' := hide ho'
              clear hR6
              go_wp2
              refine ⟨⟨i + 1, o', stepD ts S2, rfl, by simp, (by have := unhide hiN; show i + 1 ≤ N; omega), HA6, HR6, .inr ⟨unhide ho', unhide HSg, rfl⟩⟩, ?_⟩
              have := unhide hiN
              simp [intOf]
              omega
          · have hiN' : i = N := by have := unhide hi; omega
            subst hiN'
            have HYF := hide ((chD_none ((signD_take sg i (unhide H3)).1 (by rw [unhide HN]; exact Nat.le_refl _))).symm.trans (unhide hch))
            have gi : decide ((i : Int) < (i : Int)) = false := by simp
            have g1 : ¬ ((i : Int) < (i : Int)) := by omega
            clear hiN
            obtain ⟨y0, y1, y2, y3, y4, y5, y6⟩ := blk7 (unhide hA).z
            obtain ⟨z0, z1, z2, z3, z4, z5, z6⟩ := frz7 (unhide hA).z
            obtain ⟨q0, q1, q2, q3, q4, q5, q6⟩ := blk7 (unhide hA).ab
            have HNode := hide (IsEP.keep (P' := fun b => w.heap.size + 1 ≤ b) (unhide hA).tr ⟨Nat.le_refl _, fun _ _ _ => rfl⟩ fun b hb => hb.1)
            go_wp2
            rw [← unhide HQQ]
            exact dret_put rfl rfl rfl (unhide hA).but (unhide hA).ord.1 (unhide hA).z (unhide HYF).symm (unhide hP) (Nat.lt_succ_self _) (unhide HNode)
        · --STOP5
          have h3 : signD ts sg S = some o ∧ S2 = stepD ts S := by
            rcases unhide hor with h | h
            · exact absurd h.1 ho
            · exact h.2
          obtain ⟨h3, rfl⟩ := h3
          have HSg := hide h3
          have e0 : (o == 0) = false := by simpa using ho
          have d0 : decide (o = 0) = false := by simpa using ho
          obtain ⟨⟨tb, S7⟩, hX⟩ : ∃ X, O (stepD ts S) = X := ⟨_, rfl⟩
          have HC := hide ((unhide HO) wr (stepD ts S) (unhide hP))
          rw [hX] at HC
          have hlt1 : S.i + 1 < ts.length ∧ (stepD ts S).i = S.i + 1 := by
            have hlt : S.i < ts.length := (unhide HP8).lt
            have hne : ∃ (j : Nat) (s : ByteArray), isD ts s S = true := by
              by_cases hall : ∀ (j : Nat) s o, j < sg.length → sg[j]? = some (s, o) → isD ts s S = false
              · rw [(signD_take sg sg.length hall).1 (Nat.le_refl _)] at h3
                cases h3
              · refine Classical.byContradiction fun hn => hall fun j s o _ _ => ?_
                cases hq : isD ts s S with
                | false => rfl
                | true => exact absurd ⟨j, s, hq⟩ hn
            obtain ⟨j, s, hs⟩ := hne
            have h := isD_lt (unhide HT) hlt hs
            refine ⟨h, ?_⟩
            rw [stepD_i (unhide HEr) h]
          have hMi : S.i + 1 ≤ S7.i := by
            have := (unhide HM).1 (stepD ts S)
            rw [hX, hlt1.2] at this
            exact this
          obtain ⟨n, rfl⟩ : ∃ k, n = k + 1 := ⟨n - 1, by have := unhide hfu (unhide HEr); omega⟩
          have HMI := hide (And.intro hMi hlt1.1)
          have HX := hide hX
          clear hX hlt1 hMi h3 hor ho hi
          go_wp2_with fail
          all_goals
            refine (unhide HC).mono ?_
            rintro e w7 ⟨hb7, hR7, v7, rfl, hv7⟩
            obtain ⟨i7, j7, s7, m7, b7, a7, n7, c7, rfl⟩ := hv7.form
            obtain ⟨B7, eB7, hbB7, hsB7, hhB7⟩ := box_new w7 #[.int .i64 i7, .string s7, .string m7, .bool b7, .slice a7 n7 c7, .int .i64 0, .int .i64 j7] 51
            have hA7 := (unhide hA).but' (hb7.trans (But.of hbB7))
            have hR8 := hR7.keep hbB7
            have hlo7 : aq < w7.heap.size := Nat.lt_of_lt_of_le (blk (unhide hA).ab).1 hb7.size
            have htb : IsEP B7 (fun b => w.heap.size + 1 ≤ b ∧ b ≠ aq) (.agg #[.int .i64 i7, .string s7, .string m7, .bool b7, .slice a7 n7 c7, .int .i64 0, .int .i64 j7]) tb := IsEP.keep hv7 ⟨hbB7.size, fun k _ hk => hbB7.block k hk⟩ fun b hb => ⟨by have h1 : wr.heap.size ≤ b := hb; have := (blk (unhide hA).z).1; omega, by have h1 : wr.heap.size ≤ b := hb; have := (blk (unhide hA).ab).1; omega⟩
            obtain ⟨C, eC, hbC, hsC, hhC⟩ := box_new B7 #[.int .i64 i0, .string s1, .string s2, .bool b3, .slice a4 n4 c4, .int .i64 0, .int .i64 i6, .int .i64 i7, .string s7, .string m7, .bool b7, .slice a7 n7 c7, .int .i64 0, .int .i64 j7] 51
            have hnode := nodeP (l := [t, tb]) (vs := [[.int .i64 i0, .string s1, .string s2, .bool b3, .slice a4 n4 c4, .int .i64 0, .int .i64 i6], [.int .i64 i7, .string s7, .string m7, .bool b7, .slice a7 n7 c7, .int .i64 0, .int .i64 j7]]) o at9 ⟨#[]⟩ ⟨#[]⟩ false eC rfl (by simp) rfl (by simp) (P := fun b => w.heap.size + 1 ≤ b ∧ b ≠ aq) ⟨by have := (blk hA7.z).1; omega, by have := (blk hA7.ab).1; omega⟩ (fun j v t' hv ht => by
              rcases j with _ | _ | j
              · obtain rfl := Option.some.inj hv
                obtain rfl := Option.some.inj ht
                exact hA7.tr
              · obtain rfl := Option.some.inj hv
                obtain rfl := Option.some.inj ht
                exact htb
              · simp at hv)
            have hA9 := hA7.but' (But.of (r := r) hbC)
            have hR9 := hR8.keep hbC
            obtain ⟨U, hU⟩ : ∃ U, (((((((C.setCell ⟨aq, 0, none⟩ (.int .i64 o)).setCell ⟨aq, 1, none⟩ (.string ⟨#[]⟩)).setCell ⟨aq, 2, none⟩ (.string ⟨#[]⟩)).setCell ⟨aq, 3, none⟩ (.bool false)).setCell ⟨aq, 4, none⟩ (.slice (some ⟨B7.heap.size, 0, none⟩) 2 2)).setCell ⟨aq, 5, none⟩ (.int .i64 0)).setCell ⟨aq, 6, none⟩ (.int .i64 at9)) = U := ⟨_, rfl⟩
            have hbU : But aq C U := by rw [← hU]; exact ((((((((But.refl aq C).set 0 _).set 1 _).set 2 _).set 3 _).set 4 _).set 5 _).set 6 _)
            have hsU : U.heap.size = C.heap.size := by rw [← hU]; simp
            have hoo := hA9.ord
            have hAU : LI w r gs go aq sg o at9 ⟨#[]⟩ ⟨#[]⟩ false (some ⟨B7.heap.size, 0, none⟩) 2 2 (madeR o [t, tb] at9) U := by
              have hs9 := hA9.but.size
              have ha9 := (blk hA9.ab).1
              refine ⟨⟨hbU.os.trans hA9.but.os, hbU.tape.trans hA9.but.tape, hbU.output.trans hA9.but.output, by omega, fun k hk hne => (hbU.block k (by omega) (by omega)).trans (hA9.but.block k hk hne)⟩, (hbU.block _ (blk hA9.z).1 (by omega)).trans hA9.z, by rw [← hU]; exact fill7 hA9.ab, IsEP.keep hnode ⟨by omega, fun k hk hs => hbU.block k hs hk.2⟩ fun _ h => h, hoo, fun j s o' hj => ?_⟩
              rw [cell_same (hbU.block gs (by omega) (by omega)), cell_same (hbU.block go (by omega) (by omega))]
              exact hA9.tab j s o' hj
            have hRU : PD U r ts S7 d := hR9.out (q := w.heap.size) hoo.1 fun k hk => hbU.block k (by have := hA9.but.size; omega) (by omega)
            obtain ⟨q0, q1, q2, q3, q4, q5, q6⟩ := blk7 hA7.ab
            obtain ⟨p0, p1, p2, p3, p4, p5, p6⟩ := blk7 (hhB7 : B7.heap[w7.heap.size]? = some (.cells #[.int .i64 i7, .string s7, .string m7, .bool b7, .slice a7 n7 c7, .int .i64 0, .int .i64 j7] 51))
            obtain ⟨y0, y1, y2, y3, y4, y5, y6⟩ := blk7 hA9.ab
            obtain ⟨z0, z1, z2, z3, z4, z5, z6⟩ := frz7 hA9.ab
            have HU := hide (And.intro hAU hRU)
            have HEU := hide hU
            have HEC := hide eC
            have HEB7 := hide eB7
            rw [← eC] at y0 y1 y2 y3 y4 y5 y6 z0 z1 z2 z3 z4 z5 z6
            have hch1 := unhide hch
            have HOn := hide (unhide HM).2.2
            clear HC hb7 hR7 hv7 eB7 hbB7 hsB7 hhB7 hA7 hR8 hlo7 htb eC hbC hsC hhC hnode hA9 hR9 hU hbU hsU hoo hAU hRU
            rename_i K1 h1 K2 h2
            replace h1 := hide h1
            by_cases hL2 : L = 2
            · have hon : once = true := by rw [unhide HOn]; simp [hL2]
              rw [hon, chD_once (unhide HSg), unhide HX, unhide HN9] at hch1
              have HYF := hide hch1
              have gl : (L : Int) = 2 := by omega
              subst hL2
              clear hch1 hon
              go_wp2_with fail
              rw [unhide HEB7]
              refine unhide h1 _ _ ?_
              obtain ⟨v0, v1, v2, v3, v4, v5, v6⟩ := blk7 (unhide HU).1.z
              obtain ⟨u0, u1, u2, u3, u4, u5, u6⟩ := frz7 (unhide HU).1.z
              rw [← unhide HEU, ← unhide HEC] at v0 v1 v2 v3 v4 v5 v6 u0 u1 u2 u3 u4 u5 u6
              have HNode := hide (IsEP.keep (P' := fun b => w.heap.size + 1 ≤ b) (unhide HU).1.tr ⟨Nat.le_refl _, fun _ _ _ => rfl⟩ fun b hb => hb.1)
              go_wp2
              rw [unhide HEC, unhide HEU]
              rw [← unhide HQQ]
              exact dret_put rfl rfl rfl (unhide HU).1.but (unhide HU).1.ord.1 (unhide HU).1.z (unhide HYF).symm (unhide HU).2 (Nat.lt_succ_self _) (unhide HNode)
            · have hon : once = false := by rw [unhide HOn]; simp [hL2]
              rw [hon, chD_more (unhide HSg), unhide HX, unhide HN9] at hch1
              have HYF := hide hch1
              have gl : ¬ (L : Int) = 2 := by omega
              have gl2 : ((L : Int) == 2) = false := by simpa using gl
              have gl3 : decide ((L : Int) = 2) = false := by simpa using gl
              replace hL2 := hide hL2
              have HON := hide hon
              clear hch1 hon
              go_wp2_with fail
              rw [unhide HEB7]
              refine unhide h1 _ _ ?_
              go_wp2
              rw [unhide HEC, unhide HEU]
              refine ⟨⟨madeR o [t, tb] at9, S7, n, o, at9, ⟨#[]⟩, ⟨#[]⟩, false, some ⟨B7.heap.size, 0, none⟩, 2, 2, (unhide HU).1, (unhide HU).2, by show chD ts O sg once n _ _ = Y; rw [unhide HON]; exact unhide HYF, fun h => by have := unhide hfu (unhide HEr); have := (unhide HMI).1; omega⟩, ?_⟩
              have hqn : U.cell? ⟨r, 1, none⟩ = some (.int .i64 (S7.i : Int)) := by
                obtain ⟨g', c', p0, p1, -⟩ := (unhide HU).2.facts (Below.refl _ _)
                exact p1
              rw [hqn, unhide X1]
              have := (unhide HMI).1
              have := (unhide HMI).2
              simp [intOf]
              omega
end Go.Proofs.YtljhpbjngbbjbaaDoor

/- The document's parser: left. -/
namespace Go.Proofs.YtljhpbjngbbjbaaDoor
open Go Go.RowKit
/-- Blocks made one behind the other. -/
def tower : World → List Obj → World
  | A, [] => A
  | A, o :: l => tower (A.alloc o) l
theorem tower_below : ∀ (l : List Obj) (A : World), Below A.heap.size A (tower A l) ∧ (tower A l).heap.size = A.heap.size + l.length
  | [], A => ⟨Below.refl _ _, rfl⟩
  | o :: l, A => by
    obtain ⟨h1, h2⟩ := tower_below l (A.alloc o)
    have h3 : Below A.heap.size A (A.alloc o) := (Below.refl _ A).alloc (Nat.le_refl _) o
    refine ⟨h3.trans (h1.mono h3.size), ?_⟩
    show (tower (A.alloc o) l).heap.size = _
    rw [h2]
    simp
    omega
theorem tower_at : ∀ (l : List Obj) (A : World) (j : Nat) (cs : Array Value) (ty : TypeId), l[j]? = some (.cells cs ty) → (tower A l).heap[A.heap.size + j]? = some (.cells cs ty)
  | [], A, j, cs, ty, h => by simp at h
  | o :: l, A, 0, cs, ty, h => by
    obtain rfl : o = .cells cs ty := by simpa using h
    have h1 := (tower_below l (A.alloc (.cells cs ty))).1
    have h2 := (MapKept.heap_alloc A (.cells cs ty)).1
    exact (h1.block A.heap.size (by simp)).trans h2
  | o :: l, A, j + 1, cs, ty, h => by
    have := tower_at l (A.alloc o) j cs ty (by simpa using h)
    have e : (A.alloc o).heap.size + j = A.heap.size + (j + 1) := by simp; omega
    rw [e] at this
    exact this
set_option maxRecDepth 100000 in
set_option maxHeartbeats 16000000 in
theorem left_0 {r d : Nat} {ts : List (Int × ByteArray × Int)} {O : PS → Ex × PS} (hT : TsOk ts) (hO : ∀ (w : World) (st : PS), PD w r ts st d → Calls Tryd.prog 80 #[.pointer (some ⟨r, 0, none⟩), .int .i64 ((0 : Nat) + 1)] w (DE (O st) r ts d w)) (hM : ∀ S, S.i ≤ (O S).2.i) (w : World) (st : PS) (hR : PD w r ts st d) : Calls Tryd.prog 80 #[.pointer (some ⟨r, 0, none⟩), .int .i64 0] w (DE (levD ts O [(⟨#[124, 124]⟩, 19)] false st) r ts d w) := by
  have hr := hR.rlt
  obtain ⟨A, eA, hbA, hzA, hsA⟩ := zb_new w
  have hRA := hR.keep hbA
  obtain ⟨tl, htl⟩ : ∃ c, lTail Tryd.f80 = c := ⟨_, rfl⟩
  have HE := hide eA
  have HTl := hide htl
  have HW := hide (And.intro hT (And.intro hO (And.intro hM (And.intro hr (And.intro hbA (And.intro hzA (And.intro hsA hRA)))))))
  clear hT hO hM hR hbA hzA hsA hRA eA htl hr
  go_enter Tryd.func80, Tryd.ntmps80
  generalize hQQ : bodyPost Tryd.prog Tryd.f80 (DE (levD ts O [(⟨#[124, 124]⟩, 19)] false st) r ts d w) = QQ
  have HQQ := hide hQQ
  clear hQQ
  change Code.wp _ (.seq (cL_ (Tryd.f80.body.getD .skip)) (.seq (cL_ (cQ_ (Tryd.f80.body.getD .skip))) (.seq (cL_ (cQ_ (cQ_ (Tryd.f80.body.getD .skip)))) (.seq (cL_ (cQ_ (cQ_ (cQ_ (Tryd.f80.body.getD .skip))))) (lTail Tryd.f80))))) _ _ _
  rw [unhide HTl]
  conv => arg 2; arg 1; whnf
  conv => arg 2; arg 2; arg 1; whnf
  conv => arg 2; arg 2; arg 2; arg 1; whnf
  conv => arg 2; arg 2; arg 2; arg 2; arg 1; whnf
  go_wp2_with fail
  change Code.wp _ _ _ _ (tower _ [_, _, _, _, _, _, _, _, _, _, _, _])
  rw [unhide HE]
  obtain ⟨hT, hO, hM, hr, hbA, hzA, hsA, hRA⟩ := unhide HW
  have ht := fun l => tower_below l A
  have hgs := fun l cs ty (h : l[0]? = some (.cells cs ty)) => tower_at l A 0 cs ty h
  have hgo := fun l cs ty (h : l[6]? = some (.cells cs ty)) => tower_at l A 6 cs ty h
  have e1 : A.heap.size + 0 = w.heap.size + 1 := by omega
  have e2 : A.heap.size + 6 = w.heap.size + 1 + 1 + 1 + 1 + 1 + 1 + 1 := by omega
  rw [e1] at hgs
  rw [e2] at hgo
  rw [← unhide HTl]
  refine left_tail (L := 0) (gs := w.heap.size + 1) (go := w.heap.size + 1 + 1 + 1 + 1 + 1 + 1 + 1) hT (by omega) rfl hO hM (by simp) (fun j s o hj => ?_) ((But.of hbA).trans (But.of (ht _).1)) hr (hRA.keep (ht _).1) (hzA.but (But.of (r := r) (ht _).1) (by omega)) ⟨by omega, by rw [(ht _).2]; simp; omega, by omega, by rw [(ht _).2]; simp; omega⟩ (fun j s o hj => ?_) (unhide HQQ)
  · rcases j with _ | j
    · obtain ⟨-, rfl⟩ : _ = s ∧ (19 : Int) = o := by simpa using hj
      decide
    · simp at hj
  · rcases j with _ | j
    · obtain ⟨rfl, rfl⟩ : (⟨#[124, 124]⟩ : ByteArray) = s ∧ (19 : Int) = o := by simpa using hj
      exact ⟨(blk (hgs _ _ _ rfl)).2.1 0 _ rfl, (blk (hgo _ _ _ rfl)).2.1 0 _ rfl⟩
    · simp at hj
set_option maxRecDepth 100000 in
set_option maxHeartbeats 16000000 in
theorem left_1 {r d : Nat} {ts : List (Int × ByteArray × Int)} {O : PS → Ex × PS} (hT : TsOk ts) (hO : ∀ (w : World) (st : PS), PD w r ts st d → Calls Tryd.prog 80 #[.pointer (some ⟨r, 0, none⟩), .int .i64 ((1 : Nat) + 1)] w (DE (O st) r ts d w)) (hM : ∀ S, S.i ≤ (O S).2.i) (w : World) (st : PS) (hR : PD w r ts st d) : Calls Tryd.prog 80 #[.pointer (some ⟨r, 0, none⟩), .int .i64 1] w (DE (levD ts O [(⟨#[38, 38]⟩, 18)] false st) r ts d w) := by
  have hr := hR.rlt
  obtain ⟨A, eA, hbA, hzA, hsA⟩ := zb_new w
  have hRA := hR.keep hbA
  obtain ⟨tl, htl⟩ : ∃ c, lTail Tryd.f80 = c := ⟨_, rfl⟩
  have HE := hide eA
  have HTl := hide htl
  have HW := hide (And.intro hT (And.intro hO (And.intro hM (And.intro hr (And.intro hbA (And.intro hzA (And.intro hsA hRA)))))))
  clear hT hO hM hR hbA hzA hsA hRA eA htl hr
  go_enter Tryd.func80, Tryd.ntmps80
  generalize hQQ : bodyPost Tryd.prog Tryd.f80 (DE (levD ts O [(⟨#[38, 38]⟩, 18)] false st) r ts d w) = QQ
  have HQQ := hide hQQ
  clear hQQ
  change Code.wp _ (.seq (cL_ (Tryd.f80.body.getD .skip)) (.seq (cL_ (cQ_ (Tryd.f80.body.getD .skip))) (.seq (cL_ (cQ_ (cQ_ (Tryd.f80.body.getD .skip)))) (.seq (cL_ (cQ_ (cQ_ (cQ_ (Tryd.f80.body.getD .skip))))) (lTail Tryd.f80))))) _ _ _
  rw [unhide HTl]
  conv => arg 2; arg 1; whnf
  conv => arg 2; arg 2; arg 1; whnf
  conv => arg 2; arg 2; arg 2; arg 1; whnf
  conv => arg 2; arg 2; arg 2; arg 2; arg 1; whnf
  go_wp2_with fail
  change Code.wp _ _ _ _ (tower _ [_, _, _, _, _, _, _, _, _, _, _, _])
  rw [unhide HE]
  obtain ⟨hT, hO, hM, hr, hbA, hzA, hsA, hRA⟩ := unhide HW
  have ht := fun l => tower_below l A
  have hgs := fun l cs ty (h : l[1]? = some (.cells cs ty)) => tower_at l A 1 cs ty h
  have hgo := fun l cs ty (h : l[7]? = some (.cells cs ty)) => tower_at l A 7 cs ty h
  have e1 : A.heap.size + 1 = w.heap.size + 1 + 1 := by omega
  have e2 : A.heap.size + 7 = w.heap.size + 1 + 1 + 1 + 1 + 1 + 1 + 1 + 1 := by omega
  rw [e1] at hgs
  rw [e2] at hgo
  rw [← unhide HTl]
  refine left_tail (L := 1) (gs := w.heap.size + 1 + 1) (go := w.heap.size + 1 + 1 + 1 + 1 + 1 + 1 + 1 + 1) hT (by omega) rfl hO hM (by simp) (fun j s o hj => ?_) ((But.of hbA).trans (But.of (ht _).1)) hr (hRA.keep (ht _).1) (hzA.but (But.of (r := r) (ht _).1) (by omega)) ⟨by omega, by rw [(ht _).2]; simp; omega, by omega, by rw [(ht _).2]; simp; omega⟩ (fun j s o hj => ?_) (unhide HQQ)
  · rcases j with _ | j
    · obtain ⟨-, rfl⟩ : _ = s ∧ (18 : Int) = o := by simpa using hj
      decide
    · simp at hj
  · rcases j with _ | j
    · obtain ⟨rfl, rfl⟩ : (⟨#[38, 38]⟩ : ByteArray) = s ∧ (18 : Int) = o := by simpa using hj
      exact ⟨(blk (hgs _ _ _ rfl)).2.1 0 _ rfl, (blk (hgo _ _ _ rfl)).2.1 0 _ rfl⟩
    · simp at hj
set_option maxRecDepth 100000 in
set_option maxHeartbeats 16000000 in
theorem left_2 {r d : Nat} {ts : List (Int × ByteArray × Int)} {O : PS → Ex × PS} (hT : TsOk ts) (hO : ∀ (w : World) (st : PS), PD w r ts st d → Calls Tryd.prog 80 #[.pointer (some ⟨r, 0, none⟩), .int .i64 ((2 : Nat) + 1)] w (DE (O st) r ts d w)) (hM : ∀ S, S.i ≤ (O S).2.i) (w : World) (st : PS) (hR : PD w r ts st d) : Calls Tryd.prog 80 #[.pointer (some ⟨r, 0, none⟩), .int .i64 2] w (DE (levD ts O [(⟨#[61]⟩, 12), (⟨#[60, 62]⟩, 13), (⟨#[60]⟩, 14), (⟨#[60, 61]⟩, 15), (⟨#[62]⟩, 16), (⟨#[62, 61]⟩, 17)] true st) r ts d w) := by
  have hr := hR.rlt
  obtain ⟨A, eA, hbA, hzA, hsA⟩ := zb_new w
  have hRA := hR.keep hbA
  obtain ⟨tl, htl⟩ : ∃ c, lTail Tryd.f80 = c := ⟨_, rfl⟩
  have HE := hide eA
  have HTl := hide htl
  have HW := hide (And.intro hT (And.intro hO (And.intro hM (And.intro hr (And.intro hbA (And.intro hzA (And.intro hsA hRA)))))))
  clear hT hO hM hR hbA hzA hsA hRA eA htl hr
  go_enter Tryd.func80, Tryd.ntmps80
  generalize hQQ : bodyPost Tryd.prog Tryd.f80 (DE (levD ts O [(⟨#[61]⟩, 12), (⟨#[60, 62]⟩, 13), (⟨#[60]⟩, 14), (⟨#[60, 61]⟩, 15), (⟨#[62]⟩, 16), (⟨#[62, 61]⟩, 17)] true st) r ts d w) = QQ
  have HQQ := hide hQQ
  clear hQQ
  change Code.wp _ (.seq (cL_ (Tryd.f80.body.getD .skip)) (.seq (cL_ (cQ_ (Tryd.f80.body.getD .skip))) (.seq (cL_ (cQ_ (cQ_ (Tryd.f80.body.getD .skip)))) (.seq (cL_ (cQ_ (cQ_ (cQ_ (Tryd.f80.body.getD .skip))))) (lTail Tryd.f80))))) _ _ _
  rw [unhide HTl]
  conv => arg 2; arg 1; whnf
  conv => arg 2; arg 2; arg 1; whnf
  conv => arg 2; arg 2; arg 2; arg 1; whnf
  conv => arg 2; arg 2; arg 2; arg 2; arg 1; whnf
  go_wp2_with fail
  change Code.wp _ _ _ _ (tower _ [_, _, _, _, _, _, _, _, _, _, _, _])
  rw [unhide HE]
  obtain ⟨hT, hO, hM, hr, hbA, hzA, hsA, hRA⟩ := unhide HW
  have ht := fun l => tower_below l A
  have hgs := fun l cs ty (h : l[2]? = some (.cells cs ty)) => tower_at l A 2 cs ty h
  have hgo := fun l cs ty (h : l[8]? = some (.cells cs ty)) => tower_at l A 8 cs ty h
  have e1 : A.heap.size + 2 = w.heap.size + 1 + 1 + 1 := by omega
  have e2 : A.heap.size + 8 = w.heap.size + 1 + 1 + 1 + 1 + 1 + 1 + 1 + 1 + 1 := by omega
  rw [e1] at hgs
  rw [e2] at hgo
  rw [← unhide HTl]
  refine left_tail (L := 2) (gs := w.heap.size + 1 + 1 + 1) (go := w.heap.size + 1 + 1 + 1 + 1 + 1 + 1 + 1 + 1 + 1) hT (by omega) rfl hO hM (by simp) (fun j s o hj => ?_) ((But.of hbA).trans (But.of (ht _).1)) hr (hRA.keep (ht _).1) (hzA.but (But.of (r := r) (ht _).1) (by omega)) ⟨by omega, by rw [(ht _).2]; simp; omega, by omega, by rw [(ht _).2]; simp; omega⟩ (fun j s o hj => ?_) (unhide HQQ)
  · rcases j with _ | _ | _ | _ | _ | _ | j
    · obtain ⟨-, rfl⟩ : _ = s ∧ (12 : Int) = o := by simpa using hj
      decide
    · obtain ⟨-, rfl⟩ : _ = s ∧ (13 : Int) = o := by simpa using hj
      decide
    · obtain ⟨-, rfl⟩ : _ = s ∧ (14 : Int) = o := by simpa using hj
      decide
    · obtain ⟨-, rfl⟩ : _ = s ∧ (15 : Int) = o := by simpa using hj
      decide
    · obtain ⟨-, rfl⟩ : _ = s ∧ (16 : Int) = o := by simpa using hj
      decide
    · obtain ⟨-, rfl⟩ : _ = s ∧ (17 : Int) = o := by simpa using hj
      decide
    · simp at hj
  · rcases j with _ | _ | _ | _ | _ | _ | j
    · obtain ⟨rfl, rfl⟩ : (⟨#[61]⟩ : ByteArray) = s ∧ (12 : Int) = o := by simpa using hj
      exact ⟨(blk (hgs _ _ _ rfl)).2.1 0 _ rfl, (blk (hgo _ _ _ rfl)).2.1 0 _ rfl⟩
    · obtain ⟨rfl, rfl⟩ : (⟨#[60, 62]⟩ : ByteArray) = s ∧ (13 : Int) = o := by simpa using hj
      exact ⟨(blk (hgs _ _ _ rfl)).2.1 1 _ rfl, (blk (hgo _ _ _ rfl)).2.1 1 _ rfl⟩
    · obtain ⟨rfl, rfl⟩ : (⟨#[60]⟩ : ByteArray) = s ∧ (14 : Int) = o := by simpa using hj
      exact ⟨(blk (hgs _ _ _ rfl)).2.1 2 _ rfl, (blk (hgo _ _ _ rfl)).2.1 2 _ rfl⟩
    · obtain ⟨rfl, rfl⟩ : (⟨#[60, 61]⟩ : ByteArray) = s ∧ (15 : Int) = o := by simpa using hj
      exact ⟨(blk (hgs _ _ _ rfl)).2.1 3 _ rfl, (blk (hgo _ _ _ rfl)).2.1 3 _ rfl⟩
    · obtain ⟨rfl, rfl⟩ : (⟨#[62]⟩ : ByteArray) = s ∧ (16 : Int) = o := by simpa using hj
      exact ⟨(blk (hgs _ _ _ rfl)).2.1 4 _ rfl, (blk (hgo _ _ _ rfl)).2.1 4 _ rfl⟩
    · obtain ⟨rfl, rfl⟩ : (⟨#[62, 61]⟩ : ByteArray) = s ∧ (17 : Int) = o := by simpa using hj
      exact ⟨(blk (hgs _ _ _ rfl)).2.1 5 _ rfl, (blk (hgo _ _ _ rfl)).2.1 5 _ rfl⟩
    · simp at hj
set_option maxRecDepth 100000 in
set_option maxHeartbeats 16000000 in
theorem left_3 {r d : Nat} {ts : List (Int × ByteArray × Int)} {O : PS → Ex × PS} (hT : TsOk ts) (hO : ∀ (w : World) (st : PS), PD w r ts st d → Calls Tryd.prog 80 #[.pointer (some ⟨r, 0, none⟩), .int .i64 ((3 : Nat) + 1)] w (DE (O st) r ts d w)) (hM : ∀ S, S.i ≤ (O S).2.i) (w : World) (st : PS) (hR : PD w r ts st d) : Calls Tryd.prog 80 #[.pointer (some ⟨r, 0, none⟩), .int .i64 3] w (DE (levD ts O [(⟨#[43]⟩, 10), (⟨#[45]⟩, 11)] false st) r ts d w) := by
  have hr := hR.rlt
  obtain ⟨A, eA, hbA, hzA, hsA⟩ := zb_new w
  have hRA := hR.keep hbA
  obtain ⟨tl, htl⟩ : ∃ c, lTail Tryd.f80 = c := ⟨_, rfl⟩
  have HE := hide eA
  have HTl := hide htl
  have HW := hide (And.intro hT (And.intro hO (And.intro hM (And.intro hr (And.intro hbA (And.intro hzA (And.intro hsA hRA)))))))
  clear hT hO hM hR hbA hzA hsA hRA eA htl hr
  go_enter Tryd.func80, Tryd.ntmps80
  generalize hQQ : bodyPost Tryd.prog Tryd.f80 (DE (levD ts O [(⟨#[43]⟩, 10), (⟨#[45]⟩, 11)] false st) r ts d w) = QQ
  have HQQ := hide hQQ
  clear hQQ
  change Code.wp _ (.seq (cL_ (Tryd.f80.body.getD .skip)) (.seq (cL_ (cQ_ (Tryd.f80.body.getD .skip))) (.seq (cL_ (cQ_ (cQ_ (Tryd.f80.body.getD .skip)))) (.seq (cL_ (cQ_ (cQ_ (cQ_ (Tryd.f80.body.getD .skip))))) (lTail Tryd.f80))))) _ _ _
  rw [unhide HTl]
  conv => arg 2; arg 1; whnf
  conv => arg 2; arg 2; arg 1; whnf
  conv => arg 2; arg 2; arg 2; arg 1; whnf
  conv => arg 2; arg 2; arg 2; arg 2; arg 1; whnf
  go_wp2_with fail
  change Code.wp _ _ _ _ (tower _ [_, _, _, _, _, _, _, _, _, _, _, _])
  rw [unhide HE]
  obtain ⟨hT, hO, hM, hr, hbA, hzA, hsA, hRA⟩ := unhide HW
  have ht := fun l => tower_below l A
  have hgs := fun l cs ty (h : l[3]? = some (.cells cs ty)) => tower_at l A 3 cs ty h
  have hgo := fun l cs ty (h : l[9]? = some (.cells cs ty)) => tower_at l A 9 cs ty h
  have e1 : A.heap.size + 3 = w.heap.size + 1 + 1 + 1 + 1 := by omega
  have e2 : A.heap.size + 9 = w.heap.size + 1 + 1 + 1 + 1 + 1 + 1 + 1 + 1 + 1 + 1 := by omega
  rw [e1] at hgs
  rw [e2] at hgo
  rw [← unhide HTl]
  refine left_tail (L := 3) (gs := w.heap.size + 1 + 1 + 1 + 1) (go := w.heap.size + 1 + 1 + 1 + 1 + 1 + 1 + 1 + 1 + 1 + 1) hT (by omega) rfl hO hM (by simp) (fun j s o hj => ?_) ((But.of hbA).trans (But.of (ht _).1)) hr (hRA.keep (ht _).1) (hzA.but (But.of (r := r) (ht _).1) (by omega)) ⟨by omega, by rw [(ht _).2]; simp; omega, by omega, by rw [(ht _).2]; simp; omega⟩ (fun j s o hj => ?_) (unhide HQQ)
  · rcases j with _ | _ | j
    · obtain ⟨-, rfl⟩ : _ = s ∧ (10 : Int) = o := by simpa using hj
      decide
    · obtain ⟨-, rfl⟩ : _ = s ∧ (11 : Int) = o := by simpa using hj
      decide
    · simp at hj
  · rcases j with _ | _ | j
    · obtain ⟨rfl, rfl⟩ : (⟨#[43]⟩ : ByteArray) = s ∧ (10 : Int) = o := by simpa using hj
      exact ⟨(blk (hgs _ _ _ rfl)).2.1 0 _ rfl, (blk (hgo _ _ _ rfl)).2.1 0 _ rfl⟩
    · obtain ⟨rfl, rfl⟩ : (⟨#[45]⟩ : ByteArray) = s ∧ (11 : Int) = o := by simpa using hj
      exact ⟨(blk (hgs _ _ _ rfl)).2.1 1 _ rfl, (blk (hgo _ _ _ rfl)).2.1 1 _ rfl⟩
    · simp at hj
set_option maxRecDepth 100000 in
set_option maxHeartbeats 16000000 in
theorem left_4 {r d : Nat} {ts : List (Int × ByteArray × Int)} {O : PS → Ex × PS} (hT : TsOk ts) (hO : ∀ (w : World) (st : PS), PD w r ts st d → Calls Tryd.prog 80 #[.pointer (some ⟨r, 0, none⟩), .int .i64 ((4 : Nat) + 1)] w (DE (O st) r ts d w)) (hM : ∀ S, S.i ≤ (O S).2.i) (w : World) (st : PS) (hR : PD w r ts st d) : Calls Tryd.prog 80 #[.pointer (some ⟨r, 0, none⟩), .int .i64 4] w (DE (levD ts O [(⟨#[42]⟩, 9)] false st) r ts d w) := by
  have hr := hR.rlt
  obtain ⟨A, eA, hbA, hzA, hsA⟩ := zb_new w
  have hRA := hR.keep hbA
  obtain ⟨tl, htl⟩ : ∃ c, lTail Tryd.f80 = c := ⟨_, rfl⟩
  have HE := hide eA
  have HTl := hide htl
  have HW := hide (And.intro hT (And.intro hO (And.intro hM (And.intro hr (And.intro hbA (And.intro hzA (And.intro hsA hRA)))))))
  clear hT hO hM hR hbA hzA hsA hRA eA htl hr
  go_enter Tryd.func80, Tryd.ntmps80
  generalize hQQ : bodyPost Tryd.prog Tryd.f80 (DE (levD ts O [(⟨#[42]⟩, 9)] false st) r ts d w) = QQ
  have HQQ := hide hQQ
  clear hQQ
  change Code.wp _ (.seq (cL_ (Tryd.f80.body.getD .skip)) (.seq (cL_ (cQ_ (Tryd.f80.body.getD .skip))) (.seq (cL_ (cQ_ (cQ_ (Tryd.f80.body.getD .skip)))) (.seq (cL_ (cQ_ (cQ_ (cQ_ (Tryd.f80.body.getD .skip))))) (lTail Tryd.f80))))) _ _ _
  rw [unhide HTl]
  conv => arg 2; arg 1; whnf
  conv => arg 2; arg 2; arg 1; whnf
  conv => arg 2; arg 2; arg 2; arg 1; whnf
  conv => arg 2; arg 2; arg 2; arg 2; arg 1; whnf
  go_wp2_with fail
  change Code.wp _ _ _ _ (tower _ [_, _, _, _, _, _, _, _, _, _, _, _])
  rw [unhide HE]
  obtain ⟨hT, hO, hM, hr, hbA, hzA, hsA, hRA⟩ := unhide HW
  have ht := fun l => tower_below l A
  have hgs := fun l cs ty (h : l[4]? = some (.cells cs ty)) => tower_at l A 4 cs ty h
  have hgo := fun l cs ty (h : l[10]? = some (.cells cs ty)) => tower_at l A 10 cs ty h
  have e1 : A.heap.size + 4 = w.heap.size + 1 + 1 + 1 + 1 + 1 := by omega
  have e2 : A.heap.size + 10 = w.heap.size + 1 + 1 + 1 + 1 + 1 + 1 + 1 + 1 + 1 + 1 + 1 := by omega
  rw [e1] at hgs
  rw [e2] at hgo
  rw [← unhide HTl]
  refine left_tail (L := 4) (gs := w.heap.size + 1 + 1 + 1 + 1 + 1) (go := w.heap.size + 1 + 1 + 1 + 1 + 1 + 1 + 1 + 1 + 1 + 1 + 1) hT (by omega) rfl hO hM (by simp) (fun j s o hj => ?_) ((But.of hbA).trans (But.of (ht _).1)) hr (hRA.keep (ht _).1) (hzA.but (But.of (r := r) (ht _).1) (by omega)) ⟨by omega, by rw [(ht _).2]; simp; omega, by omega, by rw [(ht _).2]; simp; omega⟩ (fun j s o hj => ?_) (unhide HQQ)
  · rcases j with _ | j
    · obtain ⟨-, rfl⟩ : _ = s ∧ (9 : Int) = o := by simpa using hj
      decide
    · simp at hj
  · rcases j with _ | j
    · obtain ⟨rfl, rfl⟩ : (⟨#[42]⟩ : ByteArray) = s ∧ (9 : Int) = o := by simpa using hj
      exact ⟨(blk (hgs _ _ _ rfl)).2.1 0 _ rfl, (blk (hgo _ _ _ rfl)).2.1 0 _ rfl⟩
    · simp at hj
end Go.Proofs.YtljhpbjngbbjbaaDoor

/- The document's grammar: the place never goes back. -/
namespace Go.Proofs.YtljhpbjngbbjbaaDoor
section
variable {ts : List (Int × ByteArray × Int)} {g : Ru → PS → Ex × PS}
theorem fail_i (S : PS) (a e : Int) : (S.fail a e).i = S.i := by
  unfold PS.fail
  split <;> rfl
theorem stepD_le (S : PS) : S.i ≤ (stepD ts S).i := by
  unfold stepD
  split
  · exact Nat.le_succ _
  · exact Nat.le_refl _
theorem eatD_le (s : ByteArray) (S : PS) : S.i ≤ (eatD ts s S).i := by
  unfold eatD
  split
  · exact stepD_le S
  · exact Nat.le_refl _
theorem mustD_le (s : ByteArray) (S : PS) : S.i ≤ (mustD ts s S).i := by
  unfold mustD
  split
  · exact stepD_le S
  · rw [fail_i]; exact Nat.le_refl _
theorem nameD_le (S : PS) : S.i ≤ (nameD ts S).2.i := by
  unfold nameD
  split
  · exact stepD_le S
  · show S.i ≤ (S.fail _ _).i
    rw [fail_i]
    exact Nat.le_refl _
theorem argsD_le (hg : ∀ u S, S.i ≤ (g u S).2.i) (most : Nat) : ∀ n l S, S.i ≤ (argsD ts g most n l S).2.i
  | 0, _, _ => Nat.le_refl _
  | n + 1, l, S => by
    unfold argsD
    split
    · split
      · show S.i ≤ (S.fail _ _).i
        rw [fail_i]
        exact Nat.le_refl _
      · exact Nat.le_trans (Nat.le_trans (stepD_le S) (hg _ _)) (argsD_le hg most n _ _)
    · exact mustD_le _ S
theorem callD_le (hg : ∀ u S, S.i ≤ (g u S).2.i) (t : (Int × ByteArray × Int)) (S : PS) : S.i ≤ (callD ts g t S).2.i := by
  unfold callD
  split
  · exact stepD_le S
  · exact Nat.le_trans (hg _ _) (argsD_le hg 8 8 _ _)
theorem primD_le (hg : ∀ u S, S.i ≤ (g u S).2.i) (S : PS) : S.i ≤ (primD ts g S).2.i := by
  unfold primD
  split
  · exact Nat.le_refl _
  · split
    · exact stepD_le S
    · split
      · exact stepD_le S
      · split
        · exact stepD_le S
        · split
          · split
            · exact Nat.le_trans (stepD_le S) (stepD_le _)
            · exact Nat.le_trans (Nat.le_trans (stepD_le S) (hg _ _)) (mustD_le _ _)
          · split
            · exact Nat.le_trans (Nat.le_trans (nameD_le S) (stepD_le _)) (callD_le hg _ _)
            · exact nameD_le S
theorem unaryD_le (hg : ∀ u S, S.i ≤ (g u S).2.i) (S : PS) : S.i ≤ (unaryD ts g S).2.i := by
  unfold unaryD
  split
  · exact Nat.le_trans (stepD_le S) (hg _ _)
  · split
    · exact Nat.le_trans (stepD_le S) (hg _ _)
    · split
      · exact Nat.le_trans (stepD_le S) (nameD_le _)
      · split
        · exact Nat.le_trans (stepD_le S) (nameD_le _)
        · exact primD_le hg S
theorem chD_le {O : PS → Ex × PS} (hO : ∀ S, S.i ≤ (O S).2.i) (sg : List (ByteArray × Int)) (once : Bool) : ∀ n a S, S.i ≤ (chD ts O sg once n a S).2.i
  | 0, _, _ => Nat.le_refl _
  | n + 1, a, S => by
    unfold chD
    split
    · exact Nat.le_refl _
    · split
      · exact Nat.le_trans (stepD_le S) (hO _)
      · exact Nat.le_trans (Nat.le_trans (stepD_le S) (hO _)) (chD_le hO sg once n _ _)
theorem leftD_le (hg : ∀ u S, S.i ≤ (g u S).2.i) : ∀ k S, S.i ≤ (leftD ts g k S).2.i
  | 0, S => unaryD_le hg S
  | k + 1, S => Nat.le_trans (leftD_le hg k S) (chD_le (leftD_le hg k) _ _ _ _ _)
theorem impD_le (hg : ∀ u S, S.i ≤ (g u S).2.i) (S : PS) : S.i ≤ (impD ts g S).2.i := by
  unfold impD
  split
  · exact Nat.le_trans (Nat.le_trans (leftD_le hg 5 S) (stepD_le _)) (hg _ _)
  · exact leftD_le hg 5 S
theorem partD_le (hg : ∀ u S, S.i ≤ (g u S).2.i) (S : PS) : S.i ≤ (partD ts g S).2.i := by
  unfold partD
  split
  · exact Nat.le_trans (Nat.le_trans (stepD_le S) (stepD_le _)) (impD_le hg _)
  · split
    · exact Nat.le_trans (stepD_le S) (impD_le hg _)
    · split
      · exact Nat.le_trans (stepD_le S) (impD_le hg _)
      · exact impD_le hg S
theorem innerD_le (hg : ∀ u S, S.i ≤ (g u S).2.i) (S : PS) : S.i ≤ (innerD ts g S).2.i := by
  unfold innerD
  split
  · exact Nat.le_trans (stepD_le S) (Nat.le_trans (hg _ _) (Nat.le_trans (mustD_le _ _) (Nat.le_trans (hg _ _) (Nat.le_trans (mustD_le _ _) (hg _ _)))))
  · split
    · exact Nat.le_trans (stepD_le S) (Nat.le_trans (nameD_le _) (Nat.le_trans (mustD_le _ _) (Nat.le_trans (hg _ _) (Nat.le_trans (mustD_le _ _) (hg _ _)))))
    · split
      · exact Nat.le_trans (stepD_le S) (Nat.le_trans (hg _ _) (Nat.le_trans (mustD_le _ _) (Nat.le_trans (nameD_le _) (Nat.le_trans (mustD_le _ _) (hg _ _)))))
      · dsimp only
        split
        · exact Nat.le_trans (partD_le hg S) (Nat.le_trans (stepD_le _) (hg _ _))
        · exact partD_le hg S
theorem ruleD_le (hg : ∀ u S, S.i ≤ (g u S).2.i) : ∀ (u : Nat) S, S.i ≤ (ruleD ts g u S).2.i
  | 0, S => innerD_le hg S
  | 1, S => impD_le hg S
  | _ + 2, S => unaryD_le hg S
end
theorem gD_le (ts : List (Int × ByteArray × Int)) : ∀ f u S, S.i ≤ (gD ts f u S).2.i
  | 0, u, S => by
    show S.i ≤ (S.fail _ _).i
    rw [fail_i]
    exact Nat.le_refl _
  | f + 1, u, S => by
    unfold gD
    split
    · exact ruleD_le (gD_le ts f) u S
    · exact Nat.le_refl _
end Go.Proofs.YtljhpbjngbbjbaaDoor

namespace Go.Proofs.YtljhpbjngbbjbaaDoor
open Go Go.RowKit
/-- All rules at a depth. -/
structure DcAll (r : Nat) (ts : List (Int × ByteArray × Int)) (d : Nat) (g : Ru → PS → Ex × PS) : Prop where
  expr : DcC 54 r ts d (g .rE)
  unary : (200 ≤ d ∧ d ≤ 100000 ∧ ∀ S, g .rU S = (zEx, S.fail (tD ts S).2.2 151)) ∨ (d < 200 ∧ ∃ X, (∀ S, S.e = 0 → g .rU S = X S) ∧ DcO 81 r ts (d + 1) X)
  imp : (200 ≤ d ∧ d ≤ 100000 ∧ ∀ S, g .rI S = (zEx, S.fail (tD ts S).2.2 151)) ∨ (d < 200 ∧ ∃ X, (∀ S, S.e = 0 → g .rI S = X S) ∧ DcO 78 r ts (d + 1) X)
theorem all_unary {r d : Nat} {ts : List (Int × ByteArray × Int)} {g : Ru → PS → Ex × PS} (hT : TsOk ts) (h : DcAll r ts d g) : DcC 81 r ts d (unaryD ts g) := dunary_of hT h.unary (dprim_of hT h.expr)
set_option maxRecDepth 100000 in
set_option maxHeartbeats 8000000 in
theorem left_5 {r d : Nat} {ts : List (Int × ByteArray × Int)} {X : PS → Ex × PS} (hU : DcC 81 r ts d X) (w : World) (st : PS) (hR : PD w r ts st d) : Calls Tryd.prog 80 #[.pointer (some ⟨r, 0, none⟩), .int .i64 5] w (DE (X st) r ts d w) := by
  have hr := hR.rlt
  obtain ⟨A, eA, hbA, hzA, hsA⟩ := zb_new w
  have HE := hide eA
  have HC := hide (hU A st (hR.keep hbA))
  have HW := hide (And.intro hr (And.intro hbA hzA))
  obtain ⟨⟨t, S⟩, hX⟩ : ∃ Y, X st = Y := ⟨_, rfl⟩
  rw [hX] at HC ⊢
  clear hU hR hbA hzA hsA eA hr hX
  go_enter Tryd.func80, Tryd.ntmps80
  generalize hQQ : bodyPost Tryd.prog Tryd.f80 (DE (t, S) r ts d w) = QQ
  have HQQ := hide hQQ
  clear hQQ
  go_wp2_with fail
  rw [unhide HE]
  refine (unhide HC).mono ?_
  rintro e w7 ⟨hb7, hR7, v7, rfl, hv7⟩
  obtain ⟨i7, j7, s7, m7, b7, a7, n7, c7, rfl⟩ := hv7.form
  obtain ⟨hr, hbA, hzA⟩ := unhide HW
  have hz7 : ZB w7 w.heap.size := hzA.but hb7 (by omega)
  obtain ⟨y0, y1, y2, y3, y4, y5, y6⟩ := blk7 hz7
  obtain ⟨z0, z1, z2, z3, z4, z5, z6⟩ := frz7 hz7
  have H7 := hide (And.intro ((But.of (r := r) hbA).trans hb7) (And.intro hz7 (And.intro hR7 (And.intro (hv7.keep (lo' := w.heap.size + 1) (Stays.of (Below.refl _ _)) (by have := (blk hzA).1; omega)) hr))))
  clear hb7 hR7 hv7 hz7 hr hbA hzA HC
  go_wp2
  obtain ⟨hbu, hz7, hR7, hv7, hr⟩ := unhide H7
  rw [← unhide HQQ]
  exact dret_put rfl rfl rfl hbu hr hz7 rfl hR7 (Nat.lt_succ_self _) hv7
theorem left_all {r d : Nat} {ts : List (Int × ByteArray × Int)} {g : Ru → PS → Ex × PS} (hT : TsOk ts) (hg : ∀ u S, S.i ≤ (g u S).2.i) (hU : DcC 81 r ts d (unaryD ts g)) (w : World) (st : PS) (hR : PD w r ts st d) : Calls Tryd.prog 80 #[.pointer (some ⟨r, 0, none⟩), .int .i64 0] w (DE (leftD ts g 5 st) r ts d w) := by
  have h0 := left_5 hU
  have h1 := left_4 (O := leftD ts g 0) hT (fun w st h => h0 w st h) (leftD_le hg 0)
  have h2 := left_3 (O := leftD ts g 1) hT (fun w st h => h1 w st h) (leftD_le hg 1)
  have h3 := left_2 (O := leftD ts g 2) hT (fun w st h => h2 w st h) (leftD_le hg 2)
  have h4 := left_1 (O := leftD ts g 3) hT (fun w st h => h3 w st h) (leftD_le hg 3)
  have h5 := left_0 (O := leftD ts g 4) hT (fun w st h => h4 w st h) (leftD_le hg 4)
  exact h5 w st hR
theorem all_imp {r d : Nat} {ts : List (Int × ByteArray × Int)} {g : Ru → PS → Ex × PS} (hT : TsOk ts) (hg : ∀ u S, S.i ≤ (g u S).2.i) (h : DcAll r ts d g) : DcC 78 r ts d (impD ts g) := dimp_of hT h.imp (left_all hT hg (all_unary hT h))
theorem all_inner {r d : Nat} {ts : List (Int × ByteArray × Int)} {g : Ru → PS → Ex × PS} (hT : TsOk ts) (hg : ∀ u S, S.i ≤ (g u S).2.i) (h : DcAll r ts d g) : DcO 66 r ts d (innerD ts g) := dinner_of hT h.expr (dpart_of hT (all_imp hT hg h))
theorem all_rules {r : Nat} {ts : List (Int × ByteArray × Int)} (hT : TsOk ts) : ∀ (f d : Nat), d + f = 200 → DcAll r ts d (gD ts f)
  | 0, d, hd => ⟨dexpr_top hT (by omega) (by omega), .inl ⟨by omega, by omega, fun _ => rfl⟩, .inl ⟨by omega, by omega, fun _ => rfl⟩⟩
  | f + 1, d, hd => by
    have ih := all_rules (r := r) hT f (d + 1) (by omega)
    refine ⟨?_, .inr ⟨by omega, unaryD ts (gD ts f), fun S h => ?_, fun w st _ h => all_unary hT ih w st h⟩, .inr ⟨by omega, impD ts (gD ts f), fun S h => ?_, fun w st _ h => all_imp hT (gD_le ts f) ih w st h⟩⟩
    · exact dexpr_of (by omega) (all_inner hT (gD_le ts f) ih)
    · show (if S.e = 0 then unaryD ts (gD ts f) S else (zEx, S)) = _
      rw [if_pos h]
    · show (if S.e = 0 then impD ts (gD ts f) S else (zEx, S)) = _
      rw [if_pos h]
theorem exD_any {r : Nat} {ts : List (Int × ByteArray × Int)} (hT : TsOk ts) : DcC 54 r ts 0 (exD ts) := (all_rules hT 200 0 rfl).expr
end Go.Proofs.YtljhpbjngbbjbaaDoor
