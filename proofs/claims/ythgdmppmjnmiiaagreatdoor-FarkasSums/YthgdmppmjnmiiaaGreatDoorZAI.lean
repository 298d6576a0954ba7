/- The document's Right and Parse at texts that are not right. -/
import Derived.Test.YthgdmppmjnmiiaaGreatDoorZAH
import Derived.Test.YthgdmppmjnmiiaaGreatDoorZAE
import Derived.Test.YthgdmppmjnmiiaaGreatDoorZAG
import Derived.BigRegion
import Derived.Laws.AppendOwnNone
import Derived.Test.YthgdmppmjnmiiaaGreatDoorZAD
set_option linter.unusedVariables false
set_option linter.unusedSimpArgs false

/- The document's numbers: what Parse and Must make of a right text. -/
namespace Go.Proofs.YthgdmppmjnmiiaaGreatDoor.Nm
open Go Go.RowKit

theorem T4.pw_eq10 (k : Nat) : T4.pw k = (10 : Int) ^ (4 * k) := by
  induction k with
  | zero => rfl
  | succ k ih =>
    rw [show 4 * (k + 1) = 4 * k + 4 by omega, Int.pow_add, ← ih]
    simp only [T4.pw]
    rw [show ((10 : Int) ^ 4) = 10000 by decide]
    exact Int.mul_comm _ _
theorem dec_app (a b : List UInt8) : dec (a ++ b) = dec a * (10 : Int) ^ b.length + dec b := by
  have h : ∀ (b : List UInt8) (x : Int), b.foldl (fun a b => 10 * a + ((b.toNat : Int) - 48)) x = x * (10 : Int) ^ b.length + b.foldl (fun a b => 10 * a + ((b.toNat : Int) - 48)) 0 := by
    intro b
    induction b with
    | nil => intro x; simp
    | cons c b ih =>
      intro x
      rw [List.foldl_cons, List.foldl_cons, ih, ih (10 * 0 + _), List.length_cons, Int.pow_succ]
      grind
  unfold dec
  rw [List.foldl_append]
  exact h b _
theorem extract_one {D : List UInt8} {T : ByteArray} (hT : T.data.toList = txt true D) : (T.extract 1 T.size).data.toList = D := by
  rw [ByteArray.data_extract, Array.toList_extract]
  have hl : T.data.toList.length = T.size := by simp
  rw [hT, show txt true D = 45 :: D from rfl] at *
  simp only [List.extract_eq_take_drop, List.drop_one, List.tail_cons]
  rw [List.take_of_length_le (by simp at hl; omega)]
theorem txt_get {D : List UInt8} {T : ByteArray} (hT : T.data.toList = D) (hD : Dg D) : ∀ i (hi : i < T.size), 48 ≤ ((T[i]'hi).toNat : Int) ∧ ((T[i]'hi).toNat : Int) ≤ 57 ∧ ∃ h : i < D.length, ((T[i]'hi).toNat : Int) = ((D[i]'h).toNat : Int) := by
  intro i hi
  have hl : i < D.length := by rw [← hT]; simpa using hi
  have e : T[i]'hi = D[i]'hl := by
    simp only [← hT]
    rfl
  rw [e]
  have := hD _ (List.getElem_mem hl)
  exact ⟨by omega, by omega, hl, rfl⟩
/-- What stands in x after the letters from e - 4 (or from the first) to i. -/
def Chunk (D : List UInt8) (e x : Int) (i : Nat) : Prop := (max (e - 4) 0).toNat ≤ i ∧ x = dec ((D.drop (max (e - 4) 0).toNat).take (i - (max (e - 4) 0).toNat))
theorem Chunk.start (D : List UInt8) (e : Int) : Chunk D e 0 (max (e - 4) 0).toNat := ⟨Nat.le_refl _, by simp [dec]⟩
theorem Dg.sub {D : List UInt8} (h : Dg D) (a b : Nat) : Dg ((D.drop a).take b) := fun x hx => h x (List.mem_of_mem_drop (List.mem_of_mem_take hx))
theorem Chunk.bd {D : List UInt8} {e x : Int} {i : Nat} (h : Chunk D e x i) (hD : Dg D) (hi : (i : Int) ≤ e) (_h9 : True ∨ True := .inl trivial) : 0 ≤ x ∧ x < 10000 := by
  obtain ⟨h1, rfl⟩ := h
  refine ⟨dec_nonneg (hD.sub _ _), ?_⟩
  have h2 := dec_lt (hD.sub (max (e - 4) 0).toNat (i - (max (e - 4) 0).toNat))
  have h3 := pow_mono10 (show ((D.drop (max (e - 4) 0).toNat).take (i - (max (e - 4) 0).toNat)).length ≤ 4 by rw [List.length_take]; omega)
  rw [show ((10 : Int) ^ 4) = 10000 by decide] at h3
  omega
theorem Chunk.step {D : List UInt8} {e x : Int} {i : Nat} (h : Chunk D e x i) {n : Nat} (hl : D.length = n) (hi : i < n) {c : Int} (hc : ∃ h : i < D.length, c = ((D[i]'h).toNat : Int)) : Chunk D e (10 * x + (c - 48)) (i + 1) := by
  obtain ⟨h1, rfl⟩ := h
  obtain ⟨h2, rfl⟩ := hc
  refine ⟨by omega, ?_⟩
  rw [show i + 1 - (max (e - 4) 0).toNat = (i - (max (e - 4) 0).toNat) + 1 by omega, take_snoc8 _ _ (by rw [List.length_drop]; omega), dec_snoc]
  rw [List.getElem_drop]
  simp only [show (max (e - 4) 0).toNat + (i - (max (e - 4) 0).toNat) = i by omega]
theorem Chunk.done {D : List UInt8} {e x : Int} {i : Nat} {xs : List Int} (h : Chunk D e x i) (hx : T4.Dig xs) (hv : T4.val xs = dec (D.drop e.toNat)) (hD : Dg D) (he : 0 < e) (hi : (i : Int) = e) (hl : 4 * (xs.length : Int) + e = D.length) : T4.Dig (xs ++ [x]) ∧ T4.val (xs ++ [x]) = dec (D.drop (e - 4).toNat) := by
  have hb := h.bd hD (by omega)
  obtain ⟨h1, rfl⟩ := h
  refine ⟨hx.append (T4.Dig.one hb.1 hb.2), ?_⟩
  have h3 : D.drop (e - 4).toNat = (D.drop (max (e - 4) 0).toNat).take (i - (max (e - 4) 0).toNat) ++ D.drop e.toNat := by
    have h4 := (List.take_append_drop (i - (max (e - 4) 0).toNat) (D.drop (max (e - 4) 0).toNat)).symm
    rw [List.drop_drop, show (max (e - 4) 0).toNat + (i - (max (e - 4) 0).toNat) = e.toNat by omega] at h4
    rw [← h4]
    congr 1
    omega
  rw [h3, dec_app, T4.val_snoc, hv, T4.pw_eq10, List.length_drop, show D.length - e.toNat = 4 * xs.length by omega]
  rw [Int.mul_comm]; omega

set_option maxRecDepth 100000 in
set_option maxHeartbeats 1600000 in
theorem parseN_val (neg : Bool) (D : List UInt8) (T : ByteArray) (w : World) (hT : T.data.toList = txt neg D) (h : RT neg D) :
    Calls Tryz.prog 35 #[.string T] w fun e w' => ∃ r, e = .returned (.tuple #[r, .bool true]) ∧ Below w.heap.size w w' ∧ IsN w' r (if neg then - dec D else dec D) := by
  obtain ⟨i0, hi, hz0, hz1, hz2⟩ := info_parts infoInt
  have hsz := txt_size hT
  have hl := h.len
  have hD0 : 0 < D.length := List.length_pos_iff.2 h.ne
  have hat := txt_at hT h.dg 0
  have hpos : 0 < T.size := by omega
  have hls : T.size ≤ 3000 := by cases neg <;> simp at hsz <;> omega
  have HR := hide (fun w => right_yes neg D T w hT h)
  have hdg := h.dg
  have HTT := hide hT
  cases neg with
  | true =>
    have c45 : (((T[0]'hpos).toNat : Int) == 45) = true := by
      rcases hat hpos with ⟨_, _, h9⟩ | ⟨h9, _⟩
      · simp; omega
      · rcases h9 with h9 | h9
        · omega
        · cases h9
    have hS2 : (T.extract 1 T.size).size = T.size - 1 := by simp
    clear hat hT h hsz hl hD0
    go_enter Tryz.func35, Tryz.ntmps35
    go_wp2_with fail
    refine (unhide HR _).mono ?_
    rintro e w1 ⟨rfl, hb1⟩
    go_wp2
    generalize hSS : T.extract 1 T.size = S at *
    have hbox : NB w1 w.heap.size (.agg #[.bool false, .slice none 0 0]) := (NB.new w false none 0 0).below hb1
    have hbw : Below w.heap.size w w1 := ((Below.refl _ w).alloc (Nat.le_refl _) _).trans (hb1.mono (by simp))
    have hw1 : w.heap.size < w1.heap.size := hbox.lt
    have hS3 : S.size ≤ 3000 := by omega
    have HS2 := hide hS2
    have hSd : S.data.toList = D := by rw [← hSS]; exact extract_one (unhide HTT)
    have HSD := hide hSd
    have HXD := hide (txt_get hSd hdg)
    have hDl : D.length = S.size := by rw [← hSd]; simp
    have HDL := hide hDl
    clear hb1 HR hS2 hSS hSd hDl
    go_loopw [5, 6] (fun dv ev wr => ∃ (e : Int) (xs : List Int), ev = .int .i64 e ∧ -4 < e ∧ e ≤ S.size ∧ 4 * (xs.length : Int) + e = S.size ∧ T4.Dig xs ∧ T4.val xs = dec (D.drop e.toNat) ∧ wr.ownsRow w1.heap.size 3 1 dv xs.length (xs.map (Value.int .i64)) ∧ Below w1.heap.size w1 wr) (fun _ ev _ => (intOf ev + 4).toNat)
    case atStart => exact ⟨_, [], rfl, by omega, by have := unhide HS2; omega, by have := unhide HS2; simp; omega, T4.Dig.nil, by rw [List.drop_eq_nil_of_le (by have := unhide HDL; have := unhide HS2; omega)]; rfl, World.ownsRow_nil _ _ _ _, Below.refl _ _⟩
    case round =>
      obtain ⟨e, xs, rfl, e0, e1, e2, hdxs, hvxs, hown, hbel⟩ := hrel
      have HDX := hide hdxs
      have HVX := hide hvxs
      clear hdxs hvxs
      have hxl : xs.length ≤ 900 := by omega
      by_cases he : 0 < e
      · have HE2 := hide e2
        clear e2
        have hw4 : wrap64 (e - 4) = e - 4 := by unfold wrap64; omega
        go_wp2
        go_loopw [7, 8] (fun xv iv wq => ∃ (x : Int) (i : Nat), xv = .int .i64 x ∧ iv = .int .i64 i ∧ (i : Int) ≤ e ∧ Hid (Chunk D e x i) ∧ wq = wr) (fun _ iv _ => (e - intOf iv).toNat)
        case atStart => exact ⟨0, (max (e - 4) 0).toNat, rfl, by congr 1; omega, by omega, hide (Chunk.start D e), rfl⟩
        case round =>
          obtain ⟨x, i, rfl, rfl, hie, hck, rfl⟩ := hrel
          obtain ⟨hx0, hx1⟩ := (unhide hck).bd hdg hie
          by_cases hi9 : (i : Int) < e
          · have hiS : i < S.size := by omega
            obtain ⟨g0, g1, g2⟩ := unhide HXD i hiS
            have hstep := hide ((unhide hck).step (unhide HDL) hiS g2)
            generalize hcc : ((S[i]'hiS).toNat : Int) = cc at *
            go_wp2
            exact ⟨⟨_, i + 1, rfl, by simp, by omega, hstep, trivial⟩, by simp [intOf]; omega⟩
          · go_wp2_with (at_builtin; refine wpList_append_own _ rfl _ _ 56 rfl w1.heap.size 3 i0 (.int .i64 0) 1 8 Tryz.underlying56 hi hz0 hz1 hz2 rfl (by decide) _ _ _ rfl (hown.alloc _) ⟨wr.heap.size, 0, none⟩ 1 1 [.int .i64 x] rfl rfl (cell_one_new _ _ _) (one64 _) ?c3 ?c4 ?c5 ?_)
            case c3 => unfold maxLen; omega
            case c4 => omega
            case c5 => have := hbel.size; simp; omega
            intro v' w2 hown' hgrow _
            have hB := (hbel.alloc hbel.size (.cells #[.int .i64 x] 3)).grown hgrow (by have := hbel.size; simp; omega) (fun k hk => (hown.lt k hk).1)
            have hO := own_snocI hown'
            clear hown' hgrow hown hbel
            have hw4' : wrap64 (e - 4) = e - 4 := hw4
            go_wp2
            obtain ⟨r1, r2⟩ := (unhide hck).done (unhide HDX) (unhide HVX) hdg he (by omega) (by have := unhide HE2; have := unhide HDL; omega)
            exact ⟨⟨e - 4, xs ++ [x], rfl, by omega, by omega, by have := unhide HE2; simp; omega, r1, r2, hO, hB⟩, by simp [intOf]; omega⟩
      · have hm := Ns.of_owns hown
        clear hown e2
        have hbox2 := hbox.below hbel
        go_wp2_with fail
        refine (trimN_is _ _ xs wr hm (unhide HDX) (by omega)).mono ?_
        rintro e3 w3 ⟨r, rfl, hb3, hi3⟩
        rw [unhide HVX, show e.toNat = 0 by omega, List.drop_zero] at hi3
        obtain ⟨b3, a3, l3, c3, rfl⟩ := hi3.form
        have HI := hide hi3
        clear hi3
        have hbox3 := hbox2.below hb3
        obtain ⟨kR0, kR1, kRf0, kRf1⟩ := hbox3.facts
        have hb9 := (hbw.trans (hbel.mono hbw.size)).trans (hb3.mono (Nat.le_trans hbw.size hbel.size))
        go_wp2
        refine bodyPost_ret (v := .tuple #[.agg #[.bool b3, .slice a3 l3 c3], .bool true]) ?_ rfl ?_
        · simp [results, Tryz.results35, go_sem, kR0, kR1]
        · exact ⟨_, rfl, below_put hb9 (Nat.le_refl _) _ _, (unhide HI).putN hbox3 _ _⟩
  | false =>
    have c45 : (((T[0]'hpos).toNat : Int) == 45) = false := by
      rcases hat hpos with ⟨_, h9, _⟩ | ⟨_, h9, _⟩
      · cases h9
      · simp; omega
    clear hat hT h hsz hl hD0
    go_enter Tryz.func35, Tryz.ntmps35
    go_wp2_with fail
    refine (unhide HR _).mono ?_
    rintro e w1 ⟨rfl, hb1⟩
    go_wp2
    have hbox : NB w1 w.heap.size (.agg #[.bool false, .slice none 0 0]) := (NB.new w false none 0 0).below hb1
    have hbw : Below w.heap.size w w1 := ((Below.refl _ w).alloc (Nat.le_refl _) _).trans (hb1.mono (by simp))
    have hw1 : w.heap.size < w1.heap.size := hbox.lt
    have HXD := hide (txt_get (show T.data.toList = D from unhide HTT) hdg)
    have hDl : D.length = T.size := by rw [← (show T.data.toList = D from unhide HTT)]; simp
    have HDL := hide hDl
    clear hb1 HR hDl
    go_loopw [5, 6] (fun dv ev wr => ∃ (e : Int) (xs : List Int), ev = .int .i64 e ∧ -4 < e ∧ e ≤ T.size ∧ 4 * (xs.length : Int) + e = T.size ∧ T4.Dig xs ∧ T4.val xs = dec (D.drop e.toNat) ∧ wr.ownsRow w1.heap.size 3 1 dv xs.length (xs.map (Value.int .i64)) ∧ Below w1.heap.size w1 wr) (fun _ ev _ => (intOf ev + 4).toNat)
    case atStart => exact ⟨_, [], rfl, by omega, by omega, by simp, T4.Dig.nil, by rw [List.drop_eq_nil_of_le (by have := unhide HDL; omega)]; rfl, World.ownsRow_nil _ _ _ _, Below.refl _ _⟩
    case round =>
      obtain ⟨e, xs, rfl, e0, e1, e2, hdxs, hvxs, hown, hbel⟩ := hrel
      have HDX := hide hdxs
      have HVX := hide hvxs
      clear hdxs hvxs
      have hxl : xs.length ≤ 900 := by omega
      by_cases he : 0 < e
      · have HE2 := hide e2
        clear e2
        have hw4 : wrap64 (e - 4) = e - 4 := by unfold wrap64; omega
        go_wp2
        go_loopw [7, 8] (fun xv iv wq => ∃ (x : Int) (i : Nat), xv = .int .i64 x ∧ iv = .int .i64 i ∧ (i : Int) ≤ e ∧ Hid (Chunk D e x i) ∧ wq = wr) (fun _ iv _ => (e - intOf iv).toNat)
        case atStart => exact ⟨0, (max (e - 4) 0).toNat, rfl, by congr 1; omega, by omega, hide (Chunk.start D e), rfl⟩
        case round =>
          obtain ⟨x, i, rfl, rfl, hie, hck, rfl⟩ := hrel
          obtain ⟨hx0, hx1⟩ := (unhide hck).bd hdg hie
          by_cases hi9 : (i : Int) < e
          · have hiS : i < T.size := by omega
            obtain ⟨g0, g1, g2⟩ := unhide HXD i hiS
            have hstep := hide ((unhide hck).step (unhide HDL) hiS g2)
            generalize hcc : ((T[i]'hiS).toNat : Int) = cc at *
            go_wp2
            exact ⟨⟨_, i + 1, rfl, by simp, by omega, hstep, trivial⟩, by simp [intOf]; omega⟩
          · go_wp2_with (at_builtin; refine wpList_append_own _ rfl _ _ 56 rfl w1.heap.size 3 i0 (.int .i64 0) 1 8 Tryz.underlying56 hi hz0 hz1 hz2 rfl (by decide) _ _ _ rfl (hown.alloc _) ⟨wr.heap.size, 0, none⟩ 1 1 [.int .i64 x] rfl rfl (cell_one_new _ _ _) (one64 _) ?c3 ?c4 ?c5 ?_)
            case c3 => unfold maxLen; omega
            case c4 => omega
            case c5 => have := hbel.size; simp; omega
            intro v' w2 hown' hgrow _
            have hB := (hbel.alloc hbel.size (.cells #[.int .i64 x] 3)).grown hgrow (by have := hbel.size; simp; omega) (fun k hk => (hown.lt k hk).1)
            have hO := own_snocI hown'
            clear hown' hgrow hown hbel
            have hw4' : wrap64 (e - 4) = e - 4 := hw4
            go_wp2
            obtain ⟨r1, r2⟩ := (unhide hck).done (unhide HDX) (unhide HVX) hdg he (by omega) (by have := unhide HE2; have := unhide HDL; omega)
            exact ⟨⟨e - 4, xs ++ [x], rfl, by omega, by omega, by have := unhide HE2; simp; omega, r1, r2, hO, hB⟩, by simp [intOf]; omega⟩
      · have hm := Ns.of_owns hown
        clear hown e2
        have hbox2 := hbox.below hbel
        go_wp2_with fail
        refine (trimN_is _ _ xs wr hm (unhide HDX) (by omega)).mono ?_
        rintro e3 w3 ⟨r, rfl, hb3, hi3⟩
        rw [unhide HVX, show e.toNat = 0 by omega, List.drop_zero] at hi3
        obtain ⟨b3, a3, l3, c3, rfl⟩ := hi3.form
        have HI := hide hi3
        clear hi3
        have hbox3 := hbox2.below hb3
        obtain ⟨kR0, kR1, kRf0, kRf1⟩ := hbox3.facts
        have hb9 := (hbw.trans (hbel.mono hbw.size)).trans (hb3.mono (Nat.le_trans hbw.size hbel.size))
        go_wp2
        refine bodyPost_ret (v := .tuple #[.agg #[.bool b3, .slice a3 l3 c3], .bool true]) ?_ rfl ?_
        · simp [results, Tryz.results35, go_sem, kR0, kR1]
        · exact ⟨_, rfl, below_put hb9 (Nat.le_refl _) _ _, (unhide HI).putN hbox3 _ _⟩


set_option maxRecDepth 100000 in
set_option maxHeartbeats 800000 in
theorem must_val (neg : Bool) (D : List UInt8) (T : ByteArray) (w : World) (hT : T.data.toList = txt neg D) (h : RT neg D) :
    Calls Tryz.prog 18 #[.string T] w fun e w' => ∃ r, e = .returned r ∧ Below w.heap.size w w' ∧ IsN w' r (if neg then - dec D else dec D) := by
  obtain ⟨z, hz⟩ : ∃ z, z = (if neg then - dec D else dec D) := ⟨_, rfl⟩
  have HP := hide (fun w => parseN_val neg D T w hT h)
  rw [← hz] at HP ⊢
  clear hT h hz
  go_enter Tryz.func18, Tryz.ntmps18
  go_wp2_with fail
  refine (unhide HP _).mono ?_
  rintro e w1 ⟨r, rfl, hb1, hI⟩
  obtain ⟨b1, a1, l1, c1, rfl⟩ := hI.form
  have HI := hide hI
  clear hI
  have hbox := (NB.new w false none 0 0).below hb1
  have hbw : Below w.heap.size w w1 := ((Below.refl _ w).alloc (Nat.le_refl _) _).trans (hb1.mono (by simp))
  obtain ⟨kR0, kR1, kRf0, kRf1⟩ := hbox.facts
  have hlt := hbox.lt
  go_wp2
  refine bodyPost_ret (v := .agg #[.bool b1, .slice a1 l1 c1]) ?_ rfl ?_
  · simp [results, Tryz.results18, go_sem, kR0, kR1, hlt]
  · refine ⟨_, rfl, (below_put hbw (Nat.le_refl _) _ _).alloc (by simp; omega) _, ((unhide HI).putN hbox _ _).below ((Below.refl _ _).alloc (Nat.le_refl _) _)⟩

end Go.Proofs.YthgdmppmjnmiiaaGreatDoor.Nm

/- The document's numbers: avowlaw1.of, both numbers. -/
namespace Go.Proofs.YthgdmppmjnmiiaaGreatDoor.Nm
open Go Go.RowKit

end Go.Proofs.YthgdmppmjnmiiaaGreatDoor.Nm

/- The document's numbers: their texts. -/
namespace Go.Proofs.YthgdmppmjnmiiaaGreatDoor.Nm
open Go Go.RowKit

/-- The m lowest decimal digits of V, the lowest first. -/
def low : Nat → Nat → List UInt8
  | 0, _ => []
  | m + 1, V => UInt8.ofNat (48 + V % 10) :: low m (V / 10)
theorem low_snoc (m V : Nat) : low (m + 1) V = low m V ++ [UInt8.ofNat (48 + V / 10 ^ m % 10)] := by
  induction m generalizing V with
  | zero => simp [low]
  | succ m ih =>
    rw [low, ih, low, List.cons_append, Nat.div_div_eq_div_mul, Nat.pow_succ, Nat.mul_comm 10]
theorem low_dd (m V : Nat) (h : V < 10 ^ (m + 1)) (h1 : m = 0 ∨ 10 ^ m ≤ V) : low (m + 1) V = (Lib.decDigits V).reverse := by
  induction m generalizing V with
  | zero =>
    have h9 : V < 10 := by simpa using h
    rw [Lib.decDigits, dif_pos h9]
    simp [low, Nat.mod_eq_of_lt h9]
  | succ m ih =>
    have h2 : 10 ^ (m + 1) ≤ V := by rcases h1 with h1 | h1; (· omega); exact h1
    have h3 : 0 < 10 ^ m := Nat.pow_pos (by decide)
    rw [Nat.pow_succ] at h h2
    have h9 : ¬ V < 10 := by omega
    rw [Lib.decDigits, dif_neg h9, List.reverse_append, low, ih (V / 10) (by omega) (.inr (by omega))]
    rfl
theorem digN_of {xs : List Int} (hd : T4.Dig xs) {V : Nat} (hv : T4.val xs = V) (i : Nat) (hi : i < xs.length) : xs[i]?.getD 0 = ((V / 10 ^ (4 * i) % 10000 : Nat) : Int) ∧ (i + 1 = xs.length → V / 10 ^ (4 * i) < 10000) := by
  have h1 := T4.val_append (xs.take i) (xs.drop i)
  rw [List.take_append_drop, List.length_take, Nat.min_eq_left (by omega), List.drop_eq_getElem_cons hi, hv] at h1
  have h2 : T4.val (xs[i] :: xs.drop (i + 1)) = xs[i] + 10000 * T4.val (xs.drop (i + 1)) := rfl
  have h3 := T4.val_lt (hd.take i)
  have h4 := T4.val_nonneg (hd.take i)
  rw [List.length_take, Nat.min_eq_left (by omega), T4.pw_eq10] at h3
  rw [h2, T4.pw_eq10] at h1
  have h5 := hd _ (List.getElem_mem hi)
  have h6 := T4.val_nonneg (hd.drop (i + 1))
  have h7 : i + 1 = xs.length → T4.val (xs.drop (i + 1)) = 0 := fun e => by rw [List.drop_eq_nil_of_le (by omega)]; rfl
  rw [List.getElem?_eq_getElem hi, Option.getD_some]
  generalize T4.val (xs.drop (i + 1)) = t at *
  generalize T4.val (xs.take i) = l at *
  generalize xs[i] = d at *
  have h8 : (0 : Int) < 10 ^ (4 * i) := Int.pow_pos (by decide)
  have h9 : (V : Int) / (10 : Int) ^ (4 * i) = d + 10000 * t := by
    rw [h1, Int.add_mul_ediv_left _ _ (by omega), Int.ediv_eq_zero_of_lt h4 h3]; omega
  have h10 : ((V / 10 ^ (4 * i) : Nat) : Int) = d + 10000 * t := by rw [← h9]; simp
  generalize V / 10 ^ (4 * i) = q at *
  refine ⟨by omega, fun e => ?_⟩
  have := h7 e
  omega
theorem low_step (V i k : Nat) (x : Int) (hk : k < 4) (hx : x = ((V / 10 ^ (4 * i) % 10000 / 10 ^ k : Nat) : Int)) : low (4 * i + (k + 1)) V = low (4 * i + k) V ++ [UInt8.ofNat (48 + x.toNat % 10)] ∧ x / 10 = ((V / 10 ^ (4 * i) % 10000 / 10 ^ (k + 1) : Nat) : Int) := by
  subst hx
  constructor
  · rw [← Nat.add_assoc, low_snoc, Nat.pow_add, ← Nat.div_div_eq_div_mul, Int.toNat_natCast]
    generalize V / 10 ^ (4 * i) = q
    congr 4
    match k, hk with
    | 0, _ => simp <;> omega
    | 1, _ => simp <;> omega
    | 2, _ => simp <;> omega
    | 3, _ => simp <;> omega
  · rw [Nat.pow_succ, ← Nat.div_div_eq_div_mul]
    omega
theorem low_more (V i k : Nat) (x : Int) (hq : V / 10 ^ (4 * i) < 10000) (hx : x = ((V / 10 ^ (4 * i) % 10000 / 10 ^ k : Nat) : Int)) (h0 : 0 < x) : 10 ^ (4 * i + (k + 1) - 1) ≤ V := by
  subst hx
  rw [Nat.mod_eq_of_lt hq, Nat.div_div_eq_div_mul, ← Nat.pow_add] at h0
  rw [show 4 * i + (k + 1) - 1 = 4 * i + k by omega]
  have h1 : 0 < V / 10 ^ (4 * i + k) := by omega
  exact (Nat.div_pos_iff.1 h1).2
theorem low_end (V i k : Nat) (x : Int) (hq : V / 10 ^ (4 * i) < 10000) (h1 : 1 ≤ V / 10 ^ (4 * i)) (hx : x = ((V / 10 ^ (4 * i) % 10000 / 10 ^ k : Nat) : Int)) (hk : k ≤ 4) (h : k = 4 ∨ x = 0) (hm : k = 0 ∨ 10 ^ (4 * i + k - 1) ≤ V) : low (4 * i + k) V = (Lib.decDigits V).reverse := by
  subst hx
  rw [Nat.mod_eq_of_lt hq] at h
  have h3 : V / 10 ^ (4 * i) / 10 ^ k = 0 := by
    rcases h with rfl | h
    · omega
    · omega
  have hk0 : k ≠ 0 := by rintro rfl; simp at h3; omega
  rw [Nat.div_div_eq_div_mul, ← Nat.pow_add] at h3
  have h4 : V < 10 ^ (4 * i + k) := by
    have := Nat.div_eq_zero_iff.1 h3
    rcases this with h | h
    · exact absurd h (Nat.ne_of_gt (Nat.pow_pos (by decide)))
    · exact h
  obtain ⟨m, e⟩ : ∃ m, 4 * i + k = m + 1 := ⟨4 * i + k - 1, by omega⟩
  rw [e] at h4 hm ⊢
  refine low_dd m V h4 (.inr ?_)
  rcases hm with hm | hm
  · exact absurd hm hk0
  · simpa using hm
/-- What stands at j once the i outermost pairs have changed places. -/
def rvAt (L : List UInt8) (i j : Nat) : Int := if j < i ∨ L.length ≤ j + i then ((L[L.length - 1 - j]?.getD 0).toNat : Int) else ((L[j]?.getD 0).toNat : Int)
theorem rv_done {L : List UInt8} {i k : Nat} {W : World} {g : Nat} (h1 : i + k + 1 = L.length) (h2 : ¬ i < k) (h3 : i ≤ k + 1) (h : ∀ j, j < L.length → W.cell? ⟨g, j, none⟩ = some (.int .u8 (rvAt L i j))) : ∀ j (hj : j < L.reverse.length), W.cell? ⟨g, j, none⟩ = some (.int .u8 ((L.reverse[j]'hj).toNat : Int)) := by
  intro j hj
  have hj' : j < L.length := by simpa using hj
  rw [h j hj', List.getElem_reverse]
  congr 2
  unfold rvAt
  have e : L[L.length - 1 - j]?.getD 0 = L[L.length - 1 - j]'(by omega) := by rw [List.getElem?_eq_getElem (by omega), Option.getD_some]
  split
  · rw [e]
  · rw [← e, show L.length - 1 - j = j by omega]
theorem rv_step {L : List UInt8} {i k : Nat} {W : World} {g : Nat} (h1 : i + k + 1 = L.length) (h2 : i < k) (h : ∀ j, j < L.length → W.cell? ⟨g, j, none⟩ = some (.int .u8 (rvAt L i j))) {ci ck : Int} (hi : rvAt L i i = ci) (hk : rvAt L i k = ck) : ∀ j, j < L.length → ((W.setCell ⟨g, i, none⟩ (.int .u8 ck)).setCell ⟨g, k, none⟩ (.int .u8 ci)).cell? ⟨g, j, none⟩ = some (.int .u8 (rvAt L (i + 1) j)) := by
  intro j hj
  have hki := h k (by omega)
  have hii := h i (by omega)
  by_cases e1 : j = k
  · subst e1
    rw [World.cell?_setCell_same _ _ _ (by rw [World.cell?_setCell_other _ _ _ _ (by intro e; injection e; omega)]; exact hki), ← hi]
    unfold rvAt
    rw [if_neg (by omega), if_pos (by omega), show L.length - 1 - j = i by omega]
  · rw [World.cell?_setCell_other _ _ _ _ (by intro e; injection e; omega)]
    by_cases e2 : j = i
    · subst e2
      rw [World.cell?_setCell_same _ _ _ hii, ← hk]
      unfold rvAt
      rw [if_neg (by omega), if_pos (by omega), show L.length - 1 - j = k by omega]
    · rw [World.cell?_setCell_other _ _ _ _ (by intro e; injection e; omega), h j hj]
      unfold rvAt
      by_cases e3 : j < i ∨ L.length ≤ j + i
      · rw [if_pos e3, if_pos (by omega)]
      · rw [if_neg e3, if_neg (by omega)]
theorem u8_48 (x : Int) (h0 : 0 ≤ x) : (48 + x % 10 : Int) = ((UInt8.ofNat (48 + x.toNat % 10)).toNat : Int) := by
  rw [UInt8.toNat_ofNat']
  omega

set_option maxRecDepth 100000 in
set_option maxHeartbeats 1600000 in
theorem textN_any (v : Value) (z : Int) (w : World) (h : IsN w v z) (hz : (z.natAbs : Int) < T4.pw 4000) :
    Calls Tryz.prog 24 #[v] w fun e w' => e = .returned (.string ⟨(Lib.itoa z).toArray⟩) ∧ Below w.heap.size w w' := by
  obtain ⟨i0, hi, hz0, hz1, hz2⟩ := info_parts info8
  obtain ⟨a1, l1, c1, xs, rfl, n1, dx, m1, e1, q1⟩ := h.small hz
  have hl1 := n1.len
  subst hl1
  obtain ⟨_, _, ee1, hcx, hatx⟩ := n1
  simp only [Value.slice.injEq, true_and] at ee1
  obtain ⟨rfl, rfl⟩ := ee1
  have x1 := NB.new w (decide (z < 0)) a1 xs.length c1
  have hB : Below w.heap.size w (w.alloc (.cells #[.bool (decide (z < 0)), .slice a1 xs.length c1] 58)) := (Below.refl _ w).alloc (Nat.le_refl _) _
  by_cases hl : xs.length = 0
  · have hzz : z = 0 := by
      have := List.eq_nil_of_length_eq_zero hl
      subst this
      simp [T4.val] at e1
      omega
    subst hzz
    rw [hl] at *
    clear h e1 m1 hz hatx
    obtain ⟨k10, k11, _, _⟩ := x1.facts
    go_enter Tryz.func24, Tryz.ntmps24
    go_wp2
    go_ret
    exact ⟨by rw [show Lib.itoa 0 = [48] by rw [Lib.itoa, if_neg (by omega), Lib.decDigits, dif_pos (by decide)]; rfl]; rfl, hB⟩
  · have hl0 : ((xs.length : Int) == 0) = false := by simpa using hl
    obtain ⟨V, hV⟩ : ∃ V, V = z.natAbs := ⟨_, rfl⟩
    rw [← hV] at e1
    have HD := hide (digN_of dx e1)
    have hone : Hid (∀ i, i + 1 = xs.length → 1 ≤ V / 10 ^ (4 * i)) := fun i hi => by
      have h1 := digN_of dx e1 i (by omega)
      have h2 := m1 (by intro e; subst e; simp at hl)
      rw [List.getLast_eq_getElem, ] at h2
      have h3 := h1.1
      rw [List.getElem?_eq_getElem (by omega), Option.getD_some] at h3
      simp only [show xs.length - 1 = i by omega] at h2
      rw [h3] at h2
      generalize V / 10 ^ (4 * i) = q at *
      omega
    have HV := hide hV
    clear h e1 m1 hz hV
    go_enter Tryz.func24, Tryz.ntmps24
    have k11 := x1.facts.2.1
    go_wp2
    clear k11
    have Hx1 := hide x1
    generalize hW : (w.alloc (.cells #[.bool (decide (z < 0)), .slice a1 xs.length c1] 58)) = W0 at *
    have HW := hide hW
    clear hW x1
    go_loopw [3, 4] (fun bv iv wr => ∃ (i : Nat) (Bs : List UInt8), i ≤ xs.length ∧ iv = .int .i64 i ∧ Bs.length ≤ 4 * i ∧ wr.ownsRow W0.heap.size 5 1 bv Bs.length (bc Bs) ∧ Below W0.heap.size W0 wr ∧ Hid ((i < xs.length → Bs = low (4 * i) V) ∧ (i = xs.length → Bs = (Lib.decDigits V).reverse))) (fun _ iv _ => xs.length - (intOf iv).toNat)
    case atStart => exact ⟨0, [], Nat.zero_le _, rfl, by simp, World.ownsRow_nil _ _ _ _, Below.refl _ _, hide ⟨fun _ => rfl, fun e => absurd e.symm hl⟩⟩
    case round =>
      obtain ⟨i, Bs, hil, rfl, hbl, hown, hbel, hlow⟩ := hrel
      have hbx := (unhide Hx1).below hbel
      have k11 := hbx.facts.2.1
      by_cases hlt : i < xs.length
      · obtain ⟨bx, ox, rfl, hbx9, hcx9⟩ := hatx (by intro e; subst e; simp at hlt)
        obtain ⟨x, hx⟩ : ∃ x, x = xs[i]?.getD 0 := ⟨_, rfl⟩
        have hcxk : wr.cell? ⟨bx, ox + i, none⟩ = some (.int .i64 x) := by
          rw [hx]
          exact (hbel.cell (p := ⟨bx, ox + i, none⟩) (Nat.lt_of_lt_of_le hbx9 hB.size)).trans ((hB.cell (p := ⟨bx, ox + i, none⟩) hbx9).trans (hcx9 i hlt))
        have hxq := unhide HD i hlt
        rw [← hx] at hxq
        have HQ := hide hxq
        have hilI : (i : Int) < (xs.length : Int) := by omega
        clear hx hxq
        go_wp2
        clear k11 hcxk
        go_loopw [3, 5, 6] (fun bv xv kv wq => ∃ (k : Nat) (x : Int) (Bs : List UInt8), k ≤ 4 ∧ kv = .int .i64 k ∧ xv = .int .i64 x ∧ 0 ≤ x ∧ x < 10000 ∧ Bs.length ≤ 4 * i + k ∧ wq.ownsRow W0.heap.size 5 1 bv Bs.length (bc Bs) ∧ Below W0.heap.size W0 wq ∧ Hid (x = ((V / 10 ^ (4 * i) % 10000 / 10 ^ k : Nat) : Int)) ∧ Hid (Bs = low (4 * i + k) V) ∧ Hid (i + 1 = xs.length → k = 0 ∨ 10 ^ (4 * i + k - 1) ≤ V)) (fun _ _ kv _ => 4 - (intOf kv).toNat)
        case atStart =>
          have h1 := (unhide HQ).1
          exact ⟨0, x, Bs, by omega, rfl, rfl, by omega, by omega, by omega, hown, hbel, hide (by rw [h1]; simp), hide ((unhide hlow).1 hlt), hide (fun _ => .inl rfl)⟩
        case round =>
          obtain ⟨k, x, Bs, hk4, rfl, rfl, hx0, hx1, hbl, hown, hbel, hxv, hbs, hmore⟩ := hrel
          have hbx := (unhide Hx1).below hbel
          have k11 := hbx.facts.2.1
          by_cases hgo : k < 4 ∧ (i + 1 < xs.length ∨ 0 < x)
          · obtain ⟨g1, g2⟩ := hgo
            have g1' : (k : Int) < 4 := by omega
            by_cases g3 : i + 1 < xs.length
            · have g3' : (i : Int) < (xs.length : Int) - 1 := by omega
              go_wp2_with (at_builtin; refine wpList_append_own _ rfl _ _ 90 rfl W0.heap.size 5 i0 (.int .u8 0) 1 1 Tryz.underlying90 hi hz0 hz1 hz2 rfl (by decide) _ _ _ rfl (hown.alloc _) ⟨wr.heap.size, 0, none⟩ 1 1 [.int .u8 (48 + x % 10)] rfl rfl (cell_one_new _ _ _) (one8 _) ?c3 ?c4 ?c5 ?_)
              case c3 => unfold maxLen; omega
              case c4 => omega
              case c5 => have := hbel.size; simp; omega
              intro v' w2 hown' hgrow _
              have hB2 := (hbel.alloc hbel.size (.cells #[.int .u8 (48 + x % 10)] 5)).grown hgrow (by have := hbel.size; simp; omega) (fun k hk => (hown.lt k hk).1)
              rw [u8_48 x hx0] at hown'
              have hO := own_snoc8 hown'
              clear hown' hgrow hown hbel k11
              have hst := hide (low_step V i k x g1 (unhide hxv))
              go_wp2
              exact ⟨⟨k + 1, x / 10, Bs ++ [UInt8.ofNat (48 + x.toNat % 10)], by omega, by simp, rfl, by omega, by omega, by simp; omega, hO, hB2, hide (unhide hst).2, hide (by rw [(unhide hst).1, unhide hbs]), hide (fun h => by omega)⟩, by simp [intOf]; omega⟩
            · have g3' : ¬ ((i : Int) < (xs.length : Int) - 1) := by omega
              have g4' : (0 : Int) < x := by omega
              go_wp2_with (at_builtin; refine wpList_append_own _ rfl _ _ 90 rfl W0.heap.size 5 i0 (.int .u8 0) 1 1 Tryz.underlying90 hi hz0 hz1 hz2 rfl (by decide) _ _ _ rfl (hown.alloc _) ⟨wr.heap.size, 0, none⟩ 1 1 [.int .u8 (48 + x % 10)] rfl rfl (cell_one_new _ _ _) (one8 _) ?c3 ?c4 ?c5 ?_)
              case c3 => unfold maxLen; omega
              case c4 => omega
              case c5 => have := hbel.size; simp; omega
              intro v' w2 hown' hgrow _
              have hB2 := (hbel.alloc hbel.size (.cells #[.int .u8 (48 + x % 10)] 5)).grown hgrow (by have := hbel.size; simp; omega) (fun k hk => (hown.lt k hk).1)
              rw [u8_48 x hx0] at hown'
              have hO := own_snoc8 hown'
              clear hown' hgrow hown hbel k11
              have hst := hide (low_step V i k x g1 (unhide hxv))
              go_wp2
              exact ⟨⟨k + 1, x / 10, Bs ++ [UInt8.ofNat (48 + x.toNat % 10)], by omega, by simp, rfl, by omega, by omega, by simp; omega, hO, hB2, hide (unhide hst).2, hide (by rw [(unhide hst).1, unhide hbs]), hide (fun h => .inr (low_more V i k x ((unhide HQ).2 h) (unhide hxv) g4'))⟩, by simp [intOf]; omega⟩
          · have hend : Hid ((i + 1 < xs.length → Bs = low (4 * (i + 1)) V) ∧ (i + 1 = xs.length → Bs = (Lib.decDigits V).reverse)) := by
              refine ⟨fun h => ?_, fun h => ?_⟩
              · rw [unhide hbs, show 4 * i + k = 4 * (i + 1) by omega]
              · rw [unhide hbs]
                exact low_end V i k x ((unhide HQ).2 h) (unhide hone i h) (unhide hxv) hk4 (by omega) (unhide hmore h)
            by_cases g1 : k < 4
            · have g1' : (k : Int) < 4 := by omega
              have g3' : ¬ ((i : Int) < (xs.length : Int) - 1) := by omega
              have g4' : ¬ ((0 : Int) < x) := by omega
              go_wp2
              exact ⟨⟨i + 1, Bs, by omega, by simp, by omega, hown, hbel, hend⟩, by simp [intOf]; omega⟩
            · have g1' : ¬ ((k : Int) < 4) := by omega
              go_wp2
              exact ⟨⟨i + 1, Bs, by omega, by simp, by omega, hown, hbel, hend⟩, by simp [intOf]; omega⟩
      · obtain rfl : i = xs.length := by omega
        have hbs := (unhide hlow).2 rfl
        have HBS := hide hbs
        have k10 := hbx.facts.1
        by_cases hneg : z < 0
        · rw [decide_eq_true hneg] at k10
          clear hbs
          go_wp2_with (at_builtin; refine wpList_append_own _ rfl _ _ 90 rfl W0.heap.size 5 i0 (.int .u8 0) 1 1 Tryz.underlying90 hi hz0 hz1 hz2 rfl (by decide) _ _ _ rfl (hown.alloc _) ⟨wr.heap.size, 0, none⟩ 1 1 [.int .u8 45] rfl rfl (cell_one_new _ _ _) (one8 _) ?c3 ?c4 ?c5 ?_)
          case c3 => unfold maxLen; omega
          case c4 => omega
          case c5 => have := hbel.size; simp; omega
          intro v' w2 hown' hgrow _
          have hB2 := (hbel.alloc hbel.size (.cells #[.int .u8 45] 5)).grown hgrow (by have := hbel.size; simp; omega) (fun k hk => (hown.lt k hk).1)
          have hO := own_snoc8 (c := 45) hown'
          clear hown' hgrow hown hbel k11 k10 hbx
          have hit : Hid ((Bs ++ [45]).reverse = Lib.itoa z) := by
            show _ = _
            rw [unhide HBS, List.reverse_append, List.reverse_reverse, Lib.itoa, if_pos hneg, unhide HV]
            rfl
          have hlL : (Bs ++ [45]).length ≤ 20000 := by simp; omega
          have hpos : 0 < (Bs ++ [45]).length := by simp
          clear HBS
          generalize Bs ++ [45] = L at *
          obtain ⟨g, cap, rfl, hg0, hgl, hcap, hcell⟩ := own_form8 hO hpos
          have hfz : ∀ o, w2.frozen? ⟨g, o, none⟩ = false := fun o => hO.frozenAt _
          clear hO
          have hBW := hide (hB.trans (hB2.mono hB.size))
          go_wp2
          go_loopw [7, 8] (fun iv kv wq => ∃ (i k : Nat), i + k + 1 = L.length ∧ i ≤ k + 1 ∧ iv = .int .i64 i ∧ kv = .int .i64 k ∧ Hid (∀ j, j < L.length → wq.cell? ⟨g, j, none⟩ = some (.int .u8 (rvAt L i j))) ∧ InBlk g 0 L.length w2 wq) (fun _ kv _ => (intOf kv).toNat)
          case atStart => exact ⟨0, L.length - 1, by omega, by omega, rfl, by congr 1; omega, hide (fun j hj => by rw [rvAt, if_neg (by omega), List.getElem?_eq_getElem hj, Option.getD_some]; exact hcell j hj), InBlk.refl _ _ _ _⟩
          case round =>
            obtain ⟨i, k, hik, hik2, rfl, rfl, hcells, hinb⟩ := hrel
            by_cases hlt2 : i < k
            · have hci := unhide hcells i (by omega)
              have hck := unhide hcells k (by omega)
              have hfi : wr.frozen? ⟨g, i, none⟩ = false := (hinb.frozen _).trans (hfz _)
              have hfk : wr.frozen? ⟨g, k, none⟩ = false := (hinb.frozen _).trans (hfz _)
              generalize hc1 : rvAt L i i = ci at *
              generalize hc2 : rvAt L i k = ck at *
              have hiI : (i : Int) < (L.length : Int) := by omega
              have hkI : (k : Int) < (L.length : Int) := by omega
              have hikI : (i : Int) < (k : Int) := by omega
              have hne : i ≠ k := by omega
              have hne2 : k ≠ i := by omega
              go_wp2_with fail
              go_region
              go_wp2
              exact ⟨⟨i + 1, k - 1, by omega, by omega, by simp, by congr 1; omega, hide (fun j hj => rv_step hik hlt2 (unhide hcells) hc1 hc2 j hj), ((hinb.setCell (by omega) (by omega) _).setCell (by omega) (by omega) _).drew⟩, by simp [intOf]; omega⟩
            · have hikI : ¬ ((i : Int) < (k : Int)) := by omega
              have hcv := conv8 wr g cap L.length L.reverse (by simp) (rv_done hik hlt2 hik2 (unhide hcells))
              rw [unhide hit] at hcv
              have hB9 := hide ((unhide hBW).trans (hinb.below (B := w.heap.size) (by have := hB.size; omega)))
              go_wp2
              go_ret
              exact ⟨rfl, unhide hB9⟩
        · rw [decide_eq_false hneg] at k10
          have hit : Hid (Bs.reverse = Lib.itoa z) := by
            show _ = _
            rw [hbs, List.reverse_reverse, Lib.itoa, if_neg hneg, unhide HV]
            congr 1
            omega
          have hlL : Bs.length ≤ 20000 := by omega
          have hpos : 0 < Bs.length := by rw [hbs, List.length_reverse]; exact dd_pos V
          have hO := hown
          have hB2 := hbel
          clear hbs HBS hown hbel hbx
          generalize Bs = L at *
          obtain ⟨g, cap, rfl, hg0, hgl, hcap, hcell⟩ := own_form8 hO hpos
          have hfz : ∀ o, wr.frozen? ⟨g, o, none⟩ = false := fun o => hO.frozenAt _
          clear hO
          have hBW := hide (hB.trans (hB2.mono hB.size))
          go_wp2
          go_loopw [7, 8] (fun iv kv wq => ∃ (i k : Nat), i + k + 1 = L.length ∧ i ≤ k + 1 ∧ iv = .int .i64 i ∧ kv = .int .i64 k ∧ Hid (∀ j, j < L.length → wq.cell? ⟨g, j, none⟩ = some (.int .u8 (rvAt L i j))) ∧ InBlk g 0 L.length wr wq) (fun _ kv _ => (intOf kv).toNat)
          case atStart => exact ⟨0, L.length - 1, by omega, by omega, rfl, by congr 1; omega, hide (fun j hj => by rw [rvAt, if_neg (by omega), List.getElem?_eq_getElem hj, Option.getD_some]; exact hcell j hj), InBlk.refl _ _ _ _⟩
          case round =>
            obtain ⟨i, k, hik, hik2, rfl, rfl, hcells, hinb⟩ := hrel
            by_cases hlt2 : i < k
            · have hci := unhide hcells i (by omega)
              have hck := unhide hcells k (by omega)
              have hfi : wr.frozen? ⟨g, i, none⟩ = false := (hinb.frozen _).trans (hfz _)
              have hfk : wr.frozen? ⟨g, k, none⟩ = false := (hinb.frozen _).trans (hfz _)
              generalize hc1 : rvAt L i i = ci at *
              generalize hc2 : rvAt L i k = ck at *
              have hiI : (i : Int) < (L.length : Int) := by omega
              have hkI : (k : Int) < (L.length : Int) := by omega
              have hikI : (i : Int) < (k : Int) := by omega
              have hne : i ≠ k := by omega
              have hne2 : k ≠ i := by omega
              go_wp2_with fail
              go_region
              go_wp2
              exact ⟨⟨i + 1, k - 1, by omega, by omega, by simp, by congr 1; omega, hide (fun j hj => rv_step hik hlt2 (unhide hcells) hc1 hc2 j hj), ((hinb.setCell (by omega) (by omega) _).setCell (by omega) (by omega) _).drew⟩, by simp [intOf]; omega⟩
            · have hikI : ¬ ((i : Int) < (k : Int)) := by omega
              have hcv := conv8 wr g cap L.length L.reverse (by simp) (rv_done hik hlt2 hik2 (unhide hcells))
              rw [unhide hit] at hcv
              have hB9 := hide ((unhide hBW).trans (hinb.below (B := w.heap.size) (by have := hB.size; omega)))
              go_wp2
              go_ret
              exact ⟨rfl, unhide hB9⟩

end Go.Proofs.YthgdmppmjnmiiaaGreatDoor.Nm

/- Specs for the document's numbers; avowlaw1.same. -/
namespace Go.Proofs.YthgdmppmjnmiiaaGreatDoor.Nm
open Go Go.RowKit

theorem enter_Str : Enters Tryz.prog 30 := ⟨fun xs w => by go_simp⟩
section
variable {Q : Exit → Act → World → Prop} {a a0 : Act} {w w0 : World} {dst : Option Tmp} {ty : TypeId} {pos : String} {af : Array Edge} {gd : Option (Nat × Bool)} {tys : Array TypeId} {s t : Nat} {y z : Int} {j k : Nat}
end

section
variable {Q : Exit → Act → World → Prop} {a0 : Act} {w0 : World} {z : Int}
end
section
variable {Q : Exit → Act → World → Prop} {a a0 : Act} {w w0 : World} {dst : Option Tmp} {ty : TypeId} {pos : String} {af : Array Edge} {gd : Option (Nat × Bool)} {tys : Array TypeId} {s t : Nat} {z : Int} {j k : Nat}
end

end Go.Proofs.YthgdmppmjnmiiaaGreatDoor.Nm

/- The document's numbers: Of. -/
namespace Go.Proofs.YthgdmppmjnmiiaaGreatDoor.Nm
open Go Go.RowKit

theorem norm_snoc {zs : List Int} {d : Int} (h : d ≠ 0) : T4.Norm (zs ++ [d]) := fun _ => by simpa using h

theorem ofN_len {zs : List Int} (hd : T4.Dig zs) {u V : Int} (hu : 0 < u) (h : T4.val zs + T4.pw zs.length * u = V) (hV : V ≤ 9223372036854775808) : zs.length ≤ 5 := by
  rcases Nat.lt_or_ge 5 zs.length with h5 | h5
  · exfalso
    have h1 := T4.pw_mono (Nat.le_of_lt h5)
    have h2 : T4.pw 5 = 100000000000000000000 := by decide
    have h3 := T4.val_nonneg hd
    have h4 := Int.mul_le_mul_of_nonneg_left (show 1 ≤ u by omega) (Int.le_trans (by omega) h1)
    omega
  · exact h5
theorem ofN_step {zs : List Int} {u V : Int} (h : T4.val zs + T4.pw zs.length * u = V) : T4.val (zs ++ [u % 10000]) + T4.pw (zs ++ [u % 10000]).length * (u / 10000) = V := by
  rw [T4.val_snoc, List.length_append, List.length_singleton]
  simp only [T4.pw]
  have h1 : u = u % 10000 + 10000 * (u / 10000) := by omega
  have h2 : T4.pw zs.length * u = T4.pw zs.length * (u % 10000) + T4.pw zs.length * (10000 * (u / 10000)) := by rw [← Int.mul_add, ← h1]
  have h3 : T4.pw zs.length * (10000 * (u / 10000)) = 10000 * T4.pw zs.length * (u / 10000) := by rw [← Int.mul_assoc, Int.mul_comm (T4.pw zs.length)]
  omega

set_option maxRecDepth 100000 in
set_option maxHeartbeats 1600000 in
theorem ofN_any (z : Int) (w : World) (hz0 : -9223372036854775808 ≤ z) (hz9 : z ≤ 9223372036854775807) :
    Calls Tryz.prog 21 #[.int .i64 z] w fun e w' => ∃ r, e = .returned r ∧ Below w.heap.size w w' ∧ IsN w' r z := by
  obtain ⟨i0, hi, hz0', hz1, hz2⟩ := info_parts infoInt
  have x1 := NB.new w false none 0 0
  have hB : Below w.heap.size w (w.alloc (.cells #[.bool false, .slice none 0 0] 58)) := (Below.refl _ w).alloc (Nat.le_refl _) _
  by_cases hn : z < 0
  · have e1 : IntKind.u64.wrap z = z + 18446744073709551616 := by simp [IntKind.wrap_u64]; omega
    have e2 : IntKind.u64.wrap (-(z + 18446744073709551616)) = -z := by simp [IntKind.wrap_u64]; omega
    go_enter Tryz.func21, Tryz.ntmps21
    go_wp2
    have X1 := hide x1
    have HB := hide hB
    generalize (w.alloc (.cells #[.bool false, .slice none 0 0] 58)) = W0 at *
    go_loopw [4, 5] (fun uv dv wr => ∃ (u : Int) (zs : List Int), uv = .int .u64 u ∧ 0 ≤ u ∧ u ≤ 9223372036854775808 ∧ wr.ownsRow W0.heap.size 3 1 dv zs.length (zs.map (Value.int .i64)) ∧ Below W0.heap.size W0 wr ∧ T4.Dig zs ∧ Hid (u = 0 → T4.Norm zs) ∧ Hid (T4.val zs + T4.pw zs.length * u = -z)) (fun uv _ _ => (intOf uv).toNat)
    case atStart => exact ⟨_, [], rfl, by omega, by omega, World.ownsRow_nil _ _ _ _, Below.refl _ _, T4.Dig.nil, hide (fun _ h => absurd rfl h), hide (by simp [T4.val, T4.pw])⟩
    case round =>
      obtain ⟨u, zs, rfl, hu0, hu1, hown, hbel, hdz, hnm, hval⟩ := hrel
      by_cases hu : 0 < u
      · have hzl : zs.length ≤ 5 := ofN_len hdz hu (unhide hval) (by omega)
        go_wp2_with (at_builtin; refine wpList_append_own _ rfl _ _ 56 rfl W0.heap.size 3 i0 (.int .i64 0) 1 8 Tryz.underlying56 hi hz0' hz1 hz2 rfl (by decide) _ _ _ rfl (hown.alloc _) ⟨wr.heap.size, 0, none⟩ 1 1 [.int .i64 (u % 10000)] rfl rfl (cell_one_new _ _ _) (one64 _) ?c3 ?c4 ?c5 ?_)
        case c3 => unfold maxLen; omega
        case c4 => omega
        case c5 => have := hbel.size; simp; omega
        intro v' w1 hown' hgrow _
        have hB1 := (hbel.alloc hbel.size (.cells #[.int .i64 (u % 10000)] 3)).grown hgrow (by have := hbel.size; simp; omega) (fun k hk => (hown.lt k hk).1)
        have hO := own_snocI hown'
        clear hown' hgrow hown hbel
        go_wp2
        exact ⟨⟨u / 10000, zs ++ [u % 10000], rfl, by omega, by omega, hO, hB1, hdz.append (T4.Dig.one (by omega) (by omega)), hide (fun h => norm_snoc (by omega)), hide (ofN_step (unhide hval))⟩, by simp [intOf]; omega⟩
      · obtain rfl : u = 0 := by omega
        have hm := Ns.of_owns hown
        obtain ⟨a3, c3, rfl, hc3, hat3⟩ := id hm
        have hbx := (unhide X1).below hbel
        obtain ⟨_, _, k30, k31, f30, f31⟩ := hbx.facts0
        have HI := hide (show IsN wr (.agg #[.bool true, .slice a3 zs.length c3]) z from ⟨a3, zs.length, c3, zs, by simp [hn], hm, hdz, unhide hnm rfl, by have := unhide hval; omega⟩)
        have HBX := hide hbx
        clear hown hm hat3 hbx
        go_wp2
        refine bodyPost_ret (res_N rfl rfl ((unhide HBX).set true a3 zs.length c3)) rfl ⟨_, rfl, ?_, (unhide HI).putN (unhide HBX) _ _⟩
        exact below_put ((unhide HB).trans (hbel.mono (unhide HB).size)) (by omega) _ _
  · have e1 : IntKind.u64.wrap z = z := by simp [IntKind.wrap_u64]; omega
    have hn' : decide (z < 0) = false := by simpa using hn
    go_enter Tryz.func21, Tryz.ntmps21
    go_wp2
    have X1 := hide x1
    have HB := hide hB
    generalize (w.alloc (.cells #[.bool false, .slice none 0 0] 58)) = W0 at *
    go_loopw [4, 5] (fun uv dv wr => ∃ (u : Int) (zs : List Int), uv = .int .u64 u ∧ 0 ≤ u ∧ u ≤ 9223372036854775808 ∧ wr.ownsRow W0.heap.size 3 1 dv zs.length (zs.map (Value.int .i64)) ∧ Below W0.heap.size W0 wr ∧ T4.Dig zs ∧ Hid (u = 0 → T4.Norm zs) ∧ Hid (T4.val zs + T4.pw zs.length * u = z)) (fun uv _ _ => (intOf uv).toNat)
    case atStart => exact ⟨_, [], rfl, by omega, by omega, World.ownsRow_nil _ _ _ _, Below.refl _ _, T4.Dig.nil, hide (fun _ h => absurd rfl h), hide (by simp [T4.val, T4.pw])⟩
    case round =>
      obtain ⟨u, zs, rfl, hu0, hu1, hown, hbel, hdz, hnm, hval⟩ := hrel
      by_cases hu : 0 < u
      · have hzl : zs.length ≤ 5 := ofN_len hdz hu (unhide hval) (by omega)
        go_wp2_with (at_builtin; refine wpList_append_own _ rfl _ _ 56 rfl W0.heap.size 3 i0 (.int .i64 0) 1 8 Tryz.underlying56 hi hz0' hz1 hz2 rfl (by decide) _ _ _ rfl (hown.alloc _) ⟨wr.heap.size, 0, none⟩ 1 1 [.int .i64 (u % 10000)] rfl rfl (cell_one_new _ _ _) (one64 _) ?c3 ?c4 ?c5 ?_)
        case c3 => unfold maxLen; omega
        case c4 => omega
        case c5 => have := hbel.size; simp; omega
        intro v' w1 hown' hgrow _
        have hB1 := (hbel.alloc hbel.size (.cells #[.int .i64 (u % 10000)] 3)).grown hgrow (by have := hbel.size; simp; omega) (fun k hk => (hown.lt k hk).1)
        have hO := own_snocI hown'
        clear hown' hgrow hown hbel
        go_wp2
        exact ⟨⟨u / 10000, zs ++ [u % 10000], rfl, by omega, by omega, hO, hB1, hdz.append (T4.Dig.one (by omega) (by omega)), hide (fun h => norm_snoc (by omega)), hide (ofN_step (unhide hval))⟩, by simp [intOf]; omega⟩
      · obtain rfl : u = 0 := by omega
        have hm := Ns.of_owns hown
        obtain ⟨a3, c3, rfl, hc3, hat3⟩ := id hm
        have hbx := (unhide X1).below hbel
        obtain ⟨_, _, k30, k31, f30, f31⟩ := hbx.facts0
        have HI := hide (show IsN wr (.agg #[.bool false, .slice a3 zs.length c3]) z from ⟨a3, zs.length, c3, zs, by simp [hn'], hm, hdz, unhide hnm rfl, by have := unhide hval; omega⟩)
        have HBX := hide hbx
        clear hown hm hat3 hbx
        go_wp2
        refine bodyPost_ret (res_N rfl rfl ((unhide HBX).set false a3 zs.length c3)) rfl ⟨_, rfl, ?_, (unhide HI).putN (unhide HBX) _ _⟩
        exact below_put ((unhide HB).trans (hbel.mono (unhide HB).size)) (by omega) _ _

end Go.Proofs.YthgdmppmjnmiiaaGreatDoor.Nm

namespace Go.Proofs.YthgdmppmjnmiiaaGreatDoor.Nm
open Go Go.RowKit

theorem bad_of {L : List UInt8} (h : ¬ Dg L) : ∃ i, ∃ hi : i < L.length, ¬ (48 ≤ (L[i]'hi).toNat ∧ (L[i]'hi).toNat ≤ 57) := by
  apply Classical.byContradiction
  intro hn
  apply h
  intro b hb
  obtain ⟨i, hi, rfl⟩ := List.mem_iff_getElem.1 hb
  apply Classical.byContradiction
  intro h9
  exact hn ⟨i, hi, h9⟩
theorem get_list {T : ByteArray} {L : List UInt8} (h : T.data.toList = L) (i : Nat) (hi : i < T.size) (hl : i < L.length) : T[i]'hi = L[i]'hl := by
  subst h
  exact (get_toList T i hi hl).symm

set_option maxRecDepth 100000 in
set_option maxHeartbeats 800000 in
theorem right_no (T : ByteArray) (L : List UInt8) (w : World) (hT : T.data.toList = L) (hl : L.length ≤ 2000) (h : ¬ RT (Lib.hasPrefix L [45]) (Lib.trimPrefix L [45])) :
    Calls Tryz.prog 33 #[.string T] w fun e w' => e = .returned (.bool false) ∧ Below w.heap.size w w' := by
  have hsz : T.size = L.length := by rw [← hT]; simp
  cases L with
  | nil =>
    have h0 : (T.size : Int) = 0 := by rw [hsz]; rfl
    clear h hT
    go_enter Tryz.func33, Tryz.ntmps33
    go_wp2
    go_ret
    exact ⟨rfl, Below.refl _ _⟩
  | cons b R =>
    have hpos : 0 < T.size := by rw [hsz]; simp
    have hsz' : T.size = R.length + 1 := by rw [hsz]; simp
    have hl' : R.length ≤ 2000 := by simp at hl; omega
    have hls : T.size ≤ 3000 := by omega
    have hb0 : T[0]'hpos = b := get_list hT 0 hpos (by simp)
    have hposI : (0 : Int) < (T.size : Int) := by omega
    by_cases hb : b = 45
    · subst hb
      have hp : Lib.hasPrefix (45 :: R) [45] = true := by simp [Lib.hasPrefix]
      have hq : Lib.trimPrefix (45 :: R) [45] = R := by simp [Lib.trimPrefix, hp]
      rw [hp, hq] at h
      have h45 : (((T[0]'hpos).toNat : Int) == 45) = true := by rw [hb0]; rfl
      by_cases h1 : 1 < T.size
      · have hR : R ≠ [] := by intro e; subst e; simp at hsz'; omega
        have hb1 : T[1]'h1 = R[0]'(by omega) := get_list hT 1 h1 (by simp; omega)
        have h0L : ((1 : Int) == (T.size : Int)) = false := by simp; omega
        by_cases h48 : (T[1]'h1).toNat = 48
        · have h48' : (((T[1]'h1).toNat : Int) == 48) = true := by simp; omega
          clear h hT hb0 hb1 hsz hsz' hl hl'
          by_cases h2 : (2 : Int) < (T.size : Int)
          · go_enter Tryz.func33, Tryz.ntmps33
            go_wp2
            go_ret
            exact ⟨rfl, Below.refl _ _⟩
          · have h2' : decide ((2 : Int) < (T.size : Int)) = false := by simpa using h2
            go_enter Tryz.func33, Tryz.ntmps33
            go_wp2
            go_ret
            exact ⟨rfl, Below.refl _ _⟩
        · have h48' : (((T[1]'h1).toNat : Int) == 48) = false := by simp; omega
          have hnd : ¬ Dg R := fun hd => h ⟨hd, hR, fun h9 => by
            exfalso
            cases R with
            | nil => exact hR rfl
            | cons c R' =>
              simp only [List.head?_cons, Option.some.injEq] at h9
              rw [hb1] at h48
              simp only [List.getElem_cons_zero] at h48
              rw [h9] at h48
              exact h48 rfl, by omega⟩
          have hbad : ∃ i, ∃ hi : i < T.size, 1 ≤ i ∧ ¬ (48 ≤ (T[i]'hi).toNat ∧ (T[i]'hi).toNat ≤ 57) := by
            obtain ⟨i, hi, h9⟩ := bad_of hnd
            refine ⟨i + 1, by omega, by omega, ?_⟩
            rw [get_list hT (i + 1) (by omega) (by simp; omega)]
            simpa using h9
          have HBAD := hide hbad
          clear hbad h hT hb0 hb1 hnd h48 hsz hsz' hl hl'
          go_enter Tryz.func33, Tryz.ntmps33
          go_wp2
          go_loop [3] (fun iv => ∃ i : Nat, 1 ≤ i ∧ i ≤ T.size ∧ iv = .int .i64 i ∧ Hid (∀ j (hj : j < T.size), 1 ≤ j → j < i → 48 ≤ (T[j]'hj).toNat ∧ (T[j]'hj).toNat ≤ 57)) (fun iv => T.size - (intOf iv).toNat)
          case atStart => exact ⟨1, Nat.le_refl _, by omega, rfl, hide (fun j hj h1 h2 => absurd h2 (by omega))⟩
          case round =>
            obtain ⟨i, hi0, hi1, rfl, hall⟩ := hrel
            by_cases hi : i < T.size
            · by_cases d0 : (T[i]'hi).toNat < 48
              · have t0 : decide (((T[i]'hi).toNat : Int) < 48) = true := by simp; omega
                go_wp2
                go_ret
                exact ⟨rfl, Below.refl _ _⟩
              · have t0 : decide (((T[i]'hi).toNat : Int) < 48) = false := by simp; omega
                by_cases d1 : 57 < (T[i]'hi).toNat
                · have t1 : decide (57 < ((T[i]'hi).toNat : Int)) = true := by simp; omega
                  go_wp2
                  go_ret
                  exact ⟨rfl, Below.refl _ _⟩
                · have t1 : decide (57 < ((T[i]'hi).toNat : Int)) = false := by simp; omega
                  have hall1 := hide (fun j (hj : j < T.size) (h1 : 1 ≤ j) (h2 : j < i + 1) => show 48 ≤ (T[j]'hj).toNat ∧ (T[j]'hj).toNat ≤ 57 from by
                    by_cases e : j = i
                    · subst e; omega
                    · exact unhide hall j hj h1 (by omega))
                  go_wp2
                  exact ⟨⟨i + 1, by omega, by omega, by simp, hall1⟩, by simp [intOf]; omega⟩
            · exfalso
              obtain ⟨j, hj, h1, h2⟩ := unhide HBAD
              exact h2 (unhide hall j hj h1 (by omega))
      · have h0L : (T.size : Int) = 1 := by omega
        clear h hT hb0 hsz hsz' hl hl'
        go_enter Tryz.func33, Tryz.ntmps33
        go_wp2
        go_ret
        exact ⟨rfl, Below.refl _ _⟩
    · have e : ([45] : List UInt8).isPrefixOf (b :: R) = false := by simp [List.isPrefixOf, Ne.symm hb]
      have hp : Lib.hasPrefix (b :: R) [45] = false := by simp [Lib.hasPrefix, e]
      have hq : Lib.trimPrefix (b :: R) [45] = b :: R := by simp [Lib.trimPrefix, Lib.hasPrefix, e]
      rw [hp, hq] at h
      have hbn : b.toNat ≠ 45 := fun h9 => hb (UInt8.toNat_inj.1 h9)
      have h45 : (((T[0]'hpos).toNat : Int) == 45) = false := by rw [hb0]; simp; omega
      have h0L : ((0 : Int) == (T.size : Int)) = false := by simp; omega
      by_cases h48 : (T[0]'hpos).toNat = 48
      · have h48' : (((T[0]'hpos).toNat : Int) == 48) = true := by simp; omega
        have h1 : (1 : Int) < (T.size : Int) := by
          rcases Nat.lt_or_ge 1 T.size with h9 | h9
          · omega
          · exfalso
            have hR : R = [] := List.eq_nil_of_length_eq_zero (by omega)
            subst hR
            rw [hb0] at h48
            have hb8 : b = 48 := UInt8.toNat_inj.1 h48
            subst hb8
            exact h ⟨by intro x hx; simp at hx; subst hx; decide, by simp, fun _ => ⟨rfl, rfl⟩, by decide⟩
        clear h hT hb0 hsz hsz' hl hl'
        go_enter Tryz.func33, Tryz.ntmps33
        go_wp2
        go_ret
        exact ⟨rfl, Below.refl _ _⟩
      · have h48' : (((T[0]'hpos).toNat : Int) == 48) = false := by simp; omega
        have hnd : ¬ Dg (b :: R) := fun hd => h ⟨hd, by simp, fun h9 => by
          exfalso
          simp only [List.head?_cons, Option.some.injEq] at h9
          rw [hb0, h9] at h48
          exact h48 rfl, by simp; omega⟩
        have hbad : ∃ i, ∃ hi : i < T.size, 0 ≤ i ∧ ¬ (48 ≤ (T[i]'hi).toNat ∧ (T[i]'hi).toNat ≤ 57) := by
          obtain ⟨i, hi, h9⟩ := bad_of hnd
          have hi' : i < T.size := by rw [hsz]; exact hi
          refine ⟨i, hi', Nat.zero_le _, ?_⟩
          rw [get_list hT i hi' hi]
          exact h9
        have HBAD := hide hbad
        clear hbad h hT hb0 hnd h48 hsz hsz' hl hl'
        go_enter Tryz.func33, Tryz.ntmps33
        go_wp2
        go_loop [3] (fun iv => ∃ i : Nat, 0 ≤ i ∧ i ≤ T.size ∧ iv = .int .i64 i ∧ Hid (∀ j (hj : j < T.size), 0 ≤ j → j < i → 48 ≤ (T[j]'hj).toNat ∧ (T[j]'hj).toNat ≤ 57)) (fun iv => T.size - (intOf iv).toNat)
        case atStart => exact ⟨0, Nat.le_refl _, by omega, rfl, hide (fun j hj h1 h2 => absurd h2 (by omega))⟩
        case round =>
          obtain ⟨i, hi0, hi1, rfl, hall⟩ := hrel
          by_cases hi : i < T.size
          · by_cases d0 : (T[i]'hi).toNat < 48
            · have t0 : decide (((T[i]'hi).toNat : Int) < 48) = true := by simp; omega
              go_wp2
              go_ret
              exact ⟨rfl, Below.refl _ _⟩
            · have t0 : decide (((T[i]'hi).toNat : Int) < 48) = false := by simp; omega
              by_cases d1 : 57 < (T[i]'hi).toNat
              · have t1 : decide (57 < ((T[i]'hi).toNat : Int)) = true := by simp; omega
                go_wp2
                go_ret
                exact ⟨rfl, Below.refl _ _⟩
              · have t1 : decide (57 < ((T[i]'hi).toNat : Int)) = false := by simp; omega
                have hall1 := hide (fun j (hj : j < T.size) (h1 : 0 ≤ j) (h2 : j < i + 1) => show 48 ≤ (T[j]'hj).toNat ∧ (T[j]'hj).toNat ≤ 57 from by
                  by_cases e : j = i
                  · subst e; omega
                  · exact unhide hall j hj h1 (by omega))
                go_wp2
                exact ⟨⟨i + 1, by omega, by omega, by simp, hall1⟩, by simp [intOf]; omega⟩
          · exfalso
            obtain ⟨j, hj, h1, h2⟩ := unhide HBAD
            exact h2 (unhide hall j hj h1 (by omega))

end Go.Proofs.YthgdmppmjnmiiaaGreatDoor.Nm
