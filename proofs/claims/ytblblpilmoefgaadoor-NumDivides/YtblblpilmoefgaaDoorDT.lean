/- The document's numbers: what Parse and Must make of a right text. -/
import Derived.Test.YtblblpilmoefgaaDoorDN
import Derived.Test.YtblblpilmoefgaaDoorO3
import Derived.Test.YtblblpilmoefgaaDoorSG
import Derived.BigRegion

namespace Go.Proofs.YtblblpilmoefgaaDoor
open Go Go.RowKit

theorem T4.pw_eq10 (k : Nat) : T4.pw k = (10 : Int) ^ (4 * k) := by
  induction k with
  | zero => rfl
  | succ k ih =>
    rw [show 4 * (k + 1) = 4 * k + 4 by omega, Int.pow_add, ← ih]
    simp only [T4.pw]
    rw [show ((10 : Int) ^ 4) = 10000 by decide]
    exact Int.mul_comm _ _
theorem dec_app (a b : List UInt8) : dec (a ++ b) = dec a * (10 : Int) ^ b.length + dec b := by
  have h : ∀ (b : List UInt8) (x : Int), b.foldl (fun a b => 10 * a + ((b.toNat : Int) - 48)) x = x * (10 : Int) ^ b.length + b.foldl (fun a b => 10 * a + ((b.toNat : Int) - 48)) 0 := by
    intro b
    induction b with
    | nil => intro x; simp
    | cons c b ih =>
      intro x
      rw [List.foldl_cons, List.foldl_cons, ih, ih (10 * 0 + _), List.length_cons, Int.pow_succ]
      grind
  unfold dec
  rw [List.foldl_append]
  exact h b _
theorem extract_one {D : List UInt8} {T : ByteArray} (hT : T.data.toList = txt true D) : (T.extract 1 T.size).data.toList = D := by
  rw [ByteArray.data_extract, Array.toList_extract]
  have hl : T.data.toList.length = T.size := by simp
  rw [hT, show txt true D = 45 :: D from rfl] at *
  simp only [List.extract_eq_take_drop, List.drop_one, List.tail_cons]
  rw [List.take_of_length_le (by simp at hl; omega)]
theorem txt_get {D : List UInt8} {T : ByteArray} (hT : T.data.toList = D) (hD : Dg D) : ∀ i (hi : i < T.size), 48 ≤ ((T[i]'hi).toNat : Int) ∧ ((T[i]'hi).toNat : Int) ≤ 57 ∧ ∃ h : i < D.length, ((T[i]'hi).toNat : Int) = ((D[i]'h).toNat : Int) := by
  intro i hi
  have hl : i < D.length := by rw [← hT]; simpa using hi
  have e : T[i]'hi = D[i]'hl := by
    simp only [← hT]
    rfl
  rw [e]
  have := hD _ (List.getElem_mem hl)
  exact ⟨by omega, by omega, hl, rfl⟩
/-- What stands in x after the letters from e - 4 (or from the first) to i. -/
def Chunk (D : List UInt8) (e x : Int) (i : Nat) : Prop := (max (e - 4) 0).toNat ≤ i ∧ x = dec ((D.drop (max (e - 4) 0).toNat).take (i - (max (e - 4) 0).toNat))
theorem Chunk.start (D : List UInt8) (e : Int) : Chunk D e 0 (max (e - 4) 0).toNat := ⟨Nat.le_refl _, by simp [dec]⟩
theorem Dg.sub {D : List UInt8} (h : Dg D) (a b : Nat) : Dg ((D.drop a).take b) := fun x hx => h x (List.mem_of_mem_drop (List.mem_of_mem_take hx))
theorem Chunk.bd {D : List UInt8} {e x : Int} {i : Nat} (h : Chunk D e x i) (hD : Dg D) (hi : (i : Int) ≤ e) (_h9 : True ∨ True := .inl trivial) : 0 ≤ x ∧ x < 10000 := by
  obtain ⟨h1, rfl⟩ := h
  refine ⟨dec_nonneg (hD.sub _ _), ?_⟩
  have h2 := dec_lt (hD.sub (max (e - 4) 0).toNat (i - (max (e - 4) 0).toNat))
  have h3 := pow_mono10 (show ((D.drop (max (e - 4) 0).toNat).take (i - (max (e - 4) 0).toNat)).length ≤ 4 by rw [List.length_take]; omega)
  rw [show ((10 : Int) ^ 4) = 10000 by decide] at h3
  omega
theorem Chunk.step {D : List UInt8} {e x : Int} {i : Nat} (h : Chunk D e x i) {n : Nat} (hl : D.length = n) (hi : i < n) {c : Int} (hc : ∃ h : i < D.length, c = ((D[i]'h).toNat : Int)) : Chunk D e (10 * x + (c - 48)) (i + 1) := by
  obtain ⟨h1, rfl⟩ := h
  obtain ⟨h2, rfl⟩ := hc
  refine ⟨by omega, ?_⟩
  rw [show i + 1 - (max (e - 4) 0).toNat = (i - (max (e - 4) 0).toNat) + 1 by omega, take_snoc8 _ _ (by rw [List.length_drop]; omega), dec_snoc]
  rw [List.getElem_drop]
  simp only [show (max (e - 4) 0).toNat + (i - (max (e - 4) 0).toNat) = i by omega]
theorem Chunk.done {D : List UInt8} {e x : Int} {i : Nat} {xs : List Int} (h : Chunk D e x i) (hx : T4.Dig xs) (hv : T4.val xs = dec (D.drop e.toNat)) (hD : Dg D) (he : 0 < e) (hi : (i : Int) = e) (hl : 4 * (xs.length : Int) + e = D.length) : T4.Dig (xs ++ [x]) ∧ T4.val (xs ++ [x]) = dec (D.drop (e - 4).toNat) := by
  have hb := h.bd hD (by omega)
  obtain ⟨h1, rfl⟩ := h
  refine ⟨hx.append (T4.Dig.one hb.1 hb.2), ?_⟩
  have h3 : D.drop (e - 4).toNat = (D.drop (max (e - 4) 0).toNat).take (i - (max (e - 4) 0).toNat) ++ D.drop e.toNat := by
    have h4 := (List.take_append_drop (i - (max (e - 4) 0).toNat) (D.drop (max (e - 4) 0).toNat)).symm
    rw [List.drop_drop, show (max (e - 4) 0).toNat + (i - (max (e - 4) 0).toNat) = e.toNat by omega] at h4
    rw [← h4]
    congr 1
    omega
  rw [h3, dec_app, T4.val_snoc, hv, T4.pw_eq10, List.length_drop, show D.length - e.toNat = 4 * xs.length by omega]
  rw [Int.mul_comm]; omega

set_option maxRecDepth 100000 in
set_option maxHeartbeats 1600000 in
theorem parseN_val (neg : Bool) (D : List UInt8) (T : ByteArray) (w : World) (hT : T.data.toList = txt neg D) (h : RT neg D) :
    Calls Tryd.prog 12 #[.string T] w fun e w' => ∃ r, e = .returned (.tuple #[r, .bool true]) ∧ Below w.heap.size w w' ∧ IsN w' r (if neg then - dec D else dec D) := by
  obtain ⟨i0, hi, hz0, hz1, hz2⟩ := info_parts infoInt
  have hsz := txt_size hT
  have hl := h.len
  have hD0 : 0 < D.length := List.length_pos_iff.2 h.ne
  have hat := txt_at hT h.dg 0
  have hpos : 0 < T.size := by omega
  have hls : T.size ≤ 1000 := by cases neg <;> simp at hsz <;> omega
  have HR := hide (fun w => right_yes neg D T w hT h)
  have hdg := h.dg
  have HTT := hide hT
  cases neg with
  | true =>
    have c45 : (((T[0]'hpos).toNat : Int) == 45) = true := by
      rcases hat hpos with ⟨_, _, h9⟩ | ⟨h9, _⟩
      · simp; omega
      · rcases h9 with h9 | h9
        · omega
        · cases h9
    have hS2 : (T.extract 1 T.size).size = T.size - 1 := by simp
    clear hat hT h hsz hl hD0
    go_enter Tryd.func12, Tryd.ntmps12
    go_wp2_with fail
    refine (unhide HR _).mono ?_
    rintro e w1 ⟨rfl, hb1⟩
    go_wp2
    generalize hSS : T.extract 1 T.size = S at *
    have hbox : NB w1 w.heap.size (.agg #[.bool false, .slice none 0 0]) := (NB.new w false none 0 0).below hb1
    have hbw : Below w.heap.size w w1 := ((Below.refl _ w).alloc (Nat.le_refl _) _).trans (hb1.mono (by simp))
    have hw1 : w.heap.size < w1.heap.size := hbox.lt
    have hS3 : S.size ≤ 1000 := by omega
    have HS2 := hide hS2
    have hSd : S.data.toList = D := by rw [← hSS]; exact extract_one (unhide HTT)
    have HSD := hide hSd
    have HXD := hide (txt_get hSd hdg)
    have hDl : D.length = S.size := by rw [← hSd]; simp
    have HDL := hide hDl
    clear hb1 HR hS2 hSS hSd hDl
    go_loopw [5, 6] (fun dv ev wr => ∃ (e : Int) (xs : List Int), ev = .int .i64 e ∧ -4 < e ∧ e ≤ S.size ∧ 4 * (xs.length : Int) + e = S.size ∧ T4.Dig xs ∧ T4.val xs = dec (D.drop e.toNat) ∧ wr.ownsRow w1.heap.size 3 1 dv xs.length (xs.map (Value.int .i64)) ∧ Below w1.heap.size w1 wr) (fun _ ev _ => (intOf ev + 4).toNat)
    case atStart => exact ⟨_, [], rfl, by omega, by have := unhide HS2; omega, by have := unhide HS2; simp; omega, T4.Dig.nil, by rw [List.drop_eq_nil_of_le (by have := unhide HDL; have := unhide HS2; omega)]; rfl, World.ownsRow_nil _ _ _ _, Below.refl _ _⟩
    case round =>
      obtain ⟨e, xs, rfl, e0, e1, e2, hdxs, hvxs, hown, hbel⟩ := hrel
      have HDX := hide hdxs
      have HVX := hide hvxs
      clear hdxs hvxs
      have hxl : xs.length ≤ 300 := by omega
      by_cases he : 0 < e
      · have HE2 := hide e2
        clear e2
        have hw4 : wrap64 (e - 4) = e - 4 := by unfold wrap64; omega
        go_wp2
        go_loopw [7, 8] (fun xv iv wq => ∃ (x : Int) (i : Nat), xv = .int .i64 x ∧ iv = .int .i64 i ∧ (i : Int) ≤ e ∧ Hid (Chunk D e x i) ∧ wq = wr) (fun _ iv _ => (e - intOf iv).toNat)
        case atStart => exact ⟨0, (max (e - 4) 0).toNat, rfl, by congr 1; omega, by omega, hide (Chunk.start D e), rfl⟩
        case round =>
          obtain ⟨x, i, rfl, rfl, hie, hck, rfl⟩ := hrel
          obtain ⟨hx0, hx1⟩ := (unhide hck).bd hdg hie
          by_cases hi9 : (i : Int) < e
          · have hiS : i < S.size := by omega
            obtain ⟨g0, g1, g2⟩ := unhide HXD i hiS
            have hstep := hide ((unhide hck).step (unhide HDL) hiS g2)
            generalize hcc : ((S[i]'hiS).toNat : Int) = cc at *
            go_wp2
            exact ⟨⟨_, i + 1, rfl, by simp, by omega, hstep, trivial⟩, by simp [intOf]; omega⟩
          · go_wp2_with (at_builtin; refine wpList_append_own _ rfl _ _ 29 rfl w1.heap.size 3 i0 (.int .i64 0) 1 8 Tryd.underlying29 hi hz0 hz1 hz2 rfl (by decide) _ _ _ rfl (hown.alloc _) ⟨wr.heap.size, 0, none⟩ 1 1 [.int .i64 x] rfl rfl (cell_one_new _ _ _) (one64 _) ?c3 ?c4 ?c5 ?_)
            case c3 => unfold maxLen; omega
            case c4 => omega
            case c5 => have := hbel.size; simp; omega
            intro v' w2 hown' hgrow _
            have hB := (hbel.alloc hbel.size (.cells #[.int .i64 x] 3)).grown hgrow (by have := hbel.size; simp; omega) (fun k hk => (hown.lt k hk).1)
            have hO := own_snocI hown'
            clear hown' hgrow hown hbel
            have hw4' : wrap64 (e - 4) = e - 4 := hw4
            go_wp2
            obtain ⟨r1, r2⟩ := (unhide hck).done (unhide HDX) (unhide HVX) hdg he (by omega) (by have := unhide HE2; have := unhide HDL; omega)
            exact ⟨⟨e - 4, xs ++ [x], rfl, by omega, by omega, by have := unhide HE2; simp; omega, r1, r2, hO, hB⟩, by simp [intOf]; omega⟩
      · have hm := Ns.of_owns hown
        clear hown e2
        have hbox2 := hbox.below hbel
        go_wp2_with fail
        refine (trimN_is _ _ xs wr hm (unhide HDX) (by omega)).mono ?_
        rintro e3 w3 ⟨r, rfl, hb3, hi3⟩
        rw [unhide HVX, show e.toNat = 0 by omega, List.drop_zero] at hi3
        obtain ⟨b3, a3, l3, c3, rfl⟩ := hi3.form
        have HI := hide hi3
        clear hi3
        have hbox3 := hbox2.below hb3
        obtain ⟨kR0, kR1, kRf0, kRf1⟩ := hbox3.facts
        have hb9 := (hbw.trans (hbel.mono hbw.size)).trans (hb3.mono (Nat.le_trans hbw.size hbel.size))
        go_wp2
        refine bodyPost_ret (v := .tuple #[.agg #[.bool b3, .slice a3 l3 c3], .bool true]) ?_ rfl ?_
        · simp [results, Tryd.results12, go_sem, kR0, kR1]
        · exact ⟨_, rfl, below_put hb9 (Nat.le_refl _) _ _, (unhide HI).putN hbox3 _ _⟩
  | false =>
    have c45 : (((T[0]'hpos).toNat : Int) == 45) = false := by
      rcases hat hpos with ⟨_, h9, _⟩ | ⟨_, h9, _⟩
      · cases h9
      · simp; omega
    clear hat hT h hsz hl hD0
    go_enter Tryd.func12, Tryd.ntmps12
    go_wp2_with fail
    refine (unhide HR _).mono ?_
    rintro e w1 ⟨rfl, hb1⟩
    go_wp2
    have hbox : NB w1 w.heap.size (.agg #[.bool false, .slice none 0 0]) := (NB.new w false none 0 0).below hb1
    have hbw : Below w.heap.size w w1 := ((Below.refl _ w).alloc (Nat.le_refl _) _).trans (hb1.mono (by simp))
    have hw1 : w.heap.size < w1.heap.size := hbox.lt
    have HXD := hide (txt_get (show T.data.toList = D from unhide HTT) hdg)
    have hDl : D.length = T.size := by rw [← (show T.data.toList = D from unhide HTT)]; simp
    have HDL := hide hDl
    clear hb1 HR hDl
    go_loopw [5, 6] (fun dv ev wr => ∃ (e : Int) (xs : List Int), ev = .int .i64 e ∧ -4 < e ∧ e ≤ T.size ∧ 4 * (xs.length : Int) + e = T.size ∧ T4.Dig xs ∧ T4.val xs = dec (D.drop e.toNat) ∧ wr.ownsRow w1.heap.size 3 1 dv xs.length (xs.map (Value.int .i64)) ∧ Below w1.heap.size w1 wr) (fun _ ev _ => (intOf ev + 4).toNat)
    case atStart => exact ⟨_, [], rfl, by omega, by omega, by simp, T4.Dig.nil, by rw [List.drop_eq_nil_of_le (by have := unhide HDL; omega)]; rfl, World.ownsRow_nil _ _ _ _, Below.refl _ _⟩
    case round =>
      obtain ⟨e, xs, rfl, e0, e1, e2, hdxs, hvxs, hown, hbel⟩ := hrel
      have HDX := hide hdxs
      have HVX := hide hvxs
      clear hdxs hvxs
      have hxl : xs.length ≤ 300 := by omega
      by_cases he : 0 < e
      · have HE2 := hide e2
        clear e2
        have hw4 : wrap64 (e - 4) = e - 4 := by unfold wrap64; omega
        go_wp2
        go_loopw [7, 8] (fun xv iv wq => ∃ (x : Int) (i : Nat), xv = .int .i64 x ∧ iv = .int .i64 i ∧ (i : Int) ≤ e ∧ Hid (Chunk D e x i) ∧ wq = wr) (fun _ iv _ => (e - intOf iv).toNat)
        case atStart => exact ⟨0, (max (e - 4) 0).toNat, rfl, by congr 1; omega, by omega, hide (Chunk.start D e), rfl⟩
        case round =>
          obtain ⟨x, i, rfl, rfl, hie, hck, rfl⟩ := hrel
          obtain ⟨hx0, hx1⟩ := (unhide hck).bd hdg hie
          by_cases hi9 : (i : Int) < e
          · have hiS : i < T.size := by omega
            obtain ⟨g0, g1, g2⟩ := unhide HXD i hiS
            have hstep := hide ((unhide hck).step (unhide HDL) hiS g2)
            generalize hcc : ((T[i]'hiS).toNat : Int) = cc at *
            go_wp2
            exact ⟨⟨_, i + 1, rfl, by simp, by omega, hstep, trivial⟩, by simp [intOf]; omega⟩
          · go_wp2_with (at_builtin; refine wpList_append_own _ rfl _ _ 29 rfl w1.heap.size 3 i0 (.int .i64 0) 1 8 Tryd.underlying29 hi hz0 hz1 hz2 rfl (by decide) _ _ _ rfl (hown.alloc _) ⟨wr.heap.size, 0, none⟩ 1 1 [.int .i64 x] rfl rfl (cell_one_new _ _ _) (one64 _) ?c3 ?c4 ?c5 ?_)
            case c3 => unfold maxLen; omega
            case c4 => omega
            case c5 => have := hbel.size; simp; omega
            intro v' w2 hown' hgrow _
            have hB := (hbel.alloc hbel.size (.cells #[.int .i64 x] 3)).grown hgrow (by have := hbel.size; simp; omega) (fun k hk => (hown.lt k hk).1)
            have hO := own_snocI hown'
            clear hown' hgrow hown hbel
            have hw4' : wrap64 (e - 4) = e - 4 := hw4
            go_wp2
            obtain ⟨r1, r2⟩ := (unhide hck).done (unhide HDX) (unhide HVX) hdg he (by omega) (by have := unhide HE2; have := unhide HDL; omega)
            exact ⟨⟨e - 4, xs ++ [x], rfl, by omega, by omega, by have := unhide HE2; simp; omega, r1, r2, hO, hB⟩, by simp [intOf]; omega⟩
      · have hm := Ns.of_owns hown
        clear hown e2
        have hbox2 := hbox.below hbel
        go_wp2_with fail
        refine (trimN_is _ _ xs wr hm (unhide HDX) (by omega)).mono ?_
        rintro e3 w3 ⟨r, rfl, hb3, hi3⟩
        rw [unhide HVX, show e.toNat = 0 by omega, List.drop_zero] at hi3
        obtain ⟨b3, a3, l3, c3, rfl⟩ := hi3.form
        have HI := hide hi3
        clear hi3
        have hbox3 := hbox2.below hb3
        obtain ⟨kR0, kR1, kRf0, kRf1⟩ := hbox3.facts
        have hb9 := (hbw.trans (hbel.mono hbw.size)).trans (hb3.mono (Nat.le_trans hbw.size hbel.size))
        go_wp2
        refine bodyPost_ret (v := .tuple #[.agg #[.bool b3, .slice a3 l3 c3], .bool true]) ?_ rfl ?_
        · simp [results, Tryd.results12, go_sem, kR0, kR1]
        · exact ⟨_, rfl, below_put hb9 (Nat.le_refl _) _ _, (unhide HI).putN hbox3 _ _⟩


set_option maxRecDepth 100000 in
set_option maxHeartbeats 800000 in
theorem must_val (neg : Bool) (D : List UInt8) (T : ByteArray) (w : World) (hT : T.data.toList = txt neg D) (h : RT neg D) :
    Calls Tryd.prog 45 #[.string T] w fun e w' => ∃ r, e = .returned r ∧ Below w.heap.size w w' ∧ IsN w' r (if neg then - dec D else dec D) := by
  obtain ⟨z, hz⟩ : ∃ z, z = (if neg then - dec D else dec D) := ⟨_, rfl⟩
  have HP := hide (fun w => parseN_val neg D T w hT h)
  rw [← hz] at HP ⊢
  clear hT h hz
  go_enter Tryd.func45, Tryd.ntmps45
  go_wp2_with fail
  refine (unhide HP _).mono ?_
  rintro e w1 ⟨r, rfl, hb1, hI⟩
  obtain ⟨b1, a1, l1, c1, rfl⟩ := hI.form
  have HI := hide hI
  clear hI
  have hbox := (NB.new w false none 0 0).below hb1
  have hbw : Below w.heap.size w w1 := ((Below.refl _ w).alloc (Nat.le_refl _) _).trans (hb1.mono (by simp))
  obtain ⟨kR0, kR1, kRf0, kRf1⟩ := hbox.facts
  have hlt := hbox.lt
  go_wp2
  refine bodyPost_ret (v := .agg #[.bool b1, .slice a1 l1 c1]) ?_ rfl ?_
  · simp [results, Tryd.results45, go_sem, kR0, kR1, hlt]
  · refine ⟨_, rfl, (below_put hbw (Nat.le_refl _) _ _).alloc (by simp; omega) _, ((unhide HI).putN hbox _ _).below ((Below.refl _ _).alloc (Nat.le_refl _) _)⟩

end Go.Proofs.YtblblpilmoefgaaDoor

/- The document's numbers: avowlaw1.of, both numbers. -/
namespace Go.Proofs.YtblblpilmoefgaaDoor
open Go Go.RowKit

theorem Ns.putX {W : World} {v : Value} {xs : List Int} (h : Ns W v xs) (hn : T4.Norm xs) {R : Nat} (hR : Bx W R (.agg #[.int .i64 0, .slice none 0 0])) (c0 c1 : Value) : Ns ((W.setCell ⟨R, 0, none⟩ c0).setCell ⟨R, 1, none⟩ c1) v xs := by
  obtain ⟨n, a', l', c', e9, hR⟩ := hR
  simp only [Value.agg.injEq, Array.mk.injEq, List.cons.injEq, Value.int.injEq, Value.slice.injEq, true_and, and_true] at e9
  obtain ⟨rfl, rfl, rfl, rfl⟩ := e9
  obtain ⟨a, cap, rfl, hc, hr⟩ := h
  refine ⟨a, cap, rfl, hc, fun hne => ?_⟩
  obtain ⟨b, off, e, hb, hcell⟩ := hr hne
  have hpos := List.length_pos_iff.2 hne
  have hbR : b ≠ R := by
    rintro rfl
    have h0 := hcell (xs.length - 1) (by omega)
    have hl := hn hne
    rw [List.getLast_eq_getElem] at hl
    rw [List.getElem?_eq_getElem (by omega)] at h0
    simp only [Option.getD_some] at h0
    generalize xs[xs.length - 1] = d at *
    generalize off + (xs.length - 1) = k at *
    simp only [World.cell?, hR, Option.isSome_none, Bool.false_eq_true, if_false] at h0
    match k, h0 with
    | 0, h0 => simp at h0; exact hl h0.symm
    | 1, h0 => simp at h0
    | k + 2, h0 => simp at h0
  refine ⟨b, off, e, by simpa using hb, fun j hj => ?_⟩
  rw [World.cell?_setCell_other _ _ _ _ (by intro e; injection e with e1; exact hbR e1.symm), World.cell?_setCell_other _ _ _ _ (by intro e; injection e with e1; exact hbR e1.symm)]
  exact hcell j hj
theorem IsN.putX {W : World} {v : Value} {z : Int} (h : IsN W v z) {R : Nat} (hR : Bx W R (.agg #[.int .i64 0, .slice none 0 0])) (c0 c1 : Value) : IsN ((W.setCell ⟨R, 0, none⟩ c0).setCell ⟨R, 1, none⟩ c1) v z := by
  obtain ⟨a, l, c, xs, e, h1, h2, h3, h4⟩ := h
  exact ⟨a, l, c, xs, e, h1.putX h3 hR c0 c1, h2, h3, h4⟩
theorem val_bound4 {neg : Bool} {D : List UInt8} (h : Dg D) (hl : D.length ≤ 300) : (((if neg then - dec D else dec D) : Int).natAbs : Int) < T4.pw 100 := by
  have h1 := dec_nonneg h
  have h2 := dec_lt h
  have h3 := pow_mono10 (show D.length ≤ 4 * 100 by omega)
  rw [← T4.pw_eq10] at h3
  cases neg <;> simp <;> omega

set_option maxRecDepth 100000 in
set_option maxHeartbeats 1600000 in
theorem ofS_val (s : ByteArray) (w : World) (hl : s.size ≤ 300) :
    Calls Tryd.prog 20 #[.string s] w fun e w' => ∃ v u z, e = .returned (.tuple #[v, u]) ∧ Below w.heap.size w w' ∧ IsI w' v z ∧ IsN w' u z ∧ (z.natAbs : Int) < pw 40 ∧ (z.natAbs : Int) < T4.pw 100 := by
  obtain ⟨i0, hi, hz0, hz1, hz2⟩ := info_parts info8
  have bX := (Bx.new w 0 none 0 0).alloc (.cells #[.bool false, .slice none 0 0] 31)
  have bN := NB.new (w.alloc (.cells #[.int .i64 0, .slice none 0 0] 26)) false none 0 0
  rw [World.size_alloc] at bN
  have hbw : Below w.heap.size w ((w.alloc (.cells #[.int .i64 0, .slice none 0 0] 26)).alloc (.cells #[.bool false, .slice none 0 0] 31)) := ((Below.refl _ w).alloc (Nat.le_refl _) _).alloc (by simp) _
  go_enter Tryd.func20, Tryd.ntmps20
  go_wp2
  generalize ((w.alloc (.cells #[.int .i64 0, .slice none 0 0] 26)).alloc (.cells #[.bool false, .slice none 0 0] 31)) = W0 at *
  go_loopw [4, 5] (fun bv iv wr => ∃ (i : Nat) (Bs : List UInt8), i ≤ s.size ∧ iv = .int .i64 i ∧ wr.ownsRow W0.heap.size 5 1 bv Bs.length (bc Bs) ∧ Below W0.heap.size W0 wr ∧ OB Bs ∧ Bs.length ≤ i ∧ (Bs = [] ∧ bv = .slice none 0 0 ∨ Bs ≠ [] ∧ ∃ g cap, bv = .slice (some ⟨g, 0, none⟩) Bs.length cap)) (fun _ iv _ => s.size - (intOf iv).toNat)
  case atStart => exact ⟨0, [], Nat.zero_le _, rfl, World.ownsRow_nil _ _ _ _, Below.refl _ _, OB.nil, Nat.le_refl _, .inl ⟨rfl, rfl⟩⟩
  case round =>
    obtain ⟨i, Bs, hi0, rfl, hown, hbel, hob, hbl, hform⟩ := hrel
    by_cases his : i < s.size
    · have HF := hide hform
      have HOB := hide hob
      clear hform hob
      by_cases c0 : 48 ≤ (s[i]'his).toNat
      · by_cases c1 : (s[i]'his).toNat ≤ 57
        · rcases unhide HF with ⟨rfl, rfl⟩ | ⟨hne, g, cap, rfl⟩
          · by_cases c2 : 48 < (s[i]'his).toNat
            · have t2 : decide ((48 : Int) < (((s[i]'his).toNat : Nat) : Int)) = true := by simp; omega
              go_wp2_with (at_builtin; refine wpList_append_own _ rfl _ _ 56 rfl W0.heap.size 5 i0 (.int .u8 0) 1 1 Tryd.underlying56 hi hz0 hz1 hz2 rfl (by decide) _ _ _ rfl (hown.alloc _) ⟨wr.heap.size, 0, none⟩ 1 1 [.int .u8 (((s[i]'his).toNat : Nat) : Int)] rfl rfl (cell_one_new _ _ _) (one8 _) ?c3 ?c4 ?c5 ?_)
              case c3 => unfold maxLen; omega
              case c5 => have := hbel.size; simp; omega
              intro v' w2 hown' hgrow _
              have hB := (hbel.alloc hbel.size (.cells #[.int .u8 (((s[i]'his).toNat : Nat) : Int)] 5)).grown hgrow (by have := hbel.size; simp; omega) (fun k hk => (hown.lt k hk).1)
              have hO := own_snoc8 hown'
              obtain ⟨g, cap, rfl, _, _, _, _⟩ := own_form8 hO (by simp)
              clear hown' hgrow hown hbel
              go_wp2
              exact ⟨⟨i + 1, [] ++ [s[i]'his], by omega, by simp, hO, hB, (unhide HOB).snoc (by omega) (by omega) (.inr c2), by simp, .inr ⟨by simp, g, cap, rfl⟩⟩, by simp [intOf]; omega⟩
            · have t2 : decide ((48 : Int) < (((s[i]'his).toNat : Nat) : Int)) = false := by simp; omega
              go_wp2
              exact ⟨⟨i + 1, [], by omega, by simp, hown, hbel, unhide HOB, by omega, unhide HF⟩, by simp [intOf]; omega⟩
          · have hpos : 0 < Bs.length := List.length_pos_iff.2 hne
            have hpos' : (0 : Int) < (Bs.length : Int) := by omega
            go_wp2_with (at_builtin; refine wpList_append_own _ rfl _ _ 56 rfl W0.heap.size 5 i0 (.int .u8 0) 1 1 Tryd.underlying56 hi hz0 hz1 hz2 rfl (by decide) _ _ _ rfl (hown.alloc _) ⟨wr.heap.size, 0, none⟩ 1 1 [.int .u8 (((s[i]'his).toNat : Nat) : Int)] rfl rfl (cell_one_new _ _ _) (one8 _) ?d3 ?d4 ?d5 ?_)
            case d3 => unfold maxLen; omega
            case d4 => omega
            case d5 => have := hbel.size; simp; omega
            intro v' w2 hown' hgrow _
            have hB := (hbel.alloc hbel.size (.cells #[.int .u8 (((s[i]'his).toNat : Nat) : Int)] 5)).grown hgrow (by have := hbel.size; simp; omega) (fun k hk => (hown.lt k hk).1)
            have hO := own_snoc8 hown'
            obtain ⟨g, cap, rfl, _, _, _, _⟩ := own_form8 hO (by simp)
            clear hown' hgrow hown hbel
            go_wp2
            exact ⟨⟨i + 1, Bs ++ [s[i]'his], by omega, by simp, hO, hB, (unhide HOB).snoc (by omega) (by omega) (.inl hne), by simp; omega, .inr ⟨by simp, g, cap, rfl⟩⟩, by simp [intOf]; omega⟩
        · have t1 : decide ((((s[i]'his).toNat : Nat) : Int) ≤ 57) = false := by simp; omega
          go_wp2
          exact ⟨⟨i + 1, Bs, by omega, by simp, hown, hbel, unhide HOB, by omega, unhide HF⟩, by simp [intOf]; omega⟩
      · have t0 : decide (48 ≤ (((s[i]'his).toNat : Nat) : Int)) = false := by simp; omega
        go_wp2
        exact ⟨⟨i + 1, Bs, by omega, by simp, hown, hbel, unhide HOB, by omega, unhide HF⟩, by simp [intOf]; omega⟩
    · obtain rfl : i = s.size := by omega
      rcases hform with ⟨rfl, rfl⟩ | ⟨hne, g, cap, rfl⟩
      · have hcell : ∀ j (hj : j < (txt false [48]).length), (wr.alloc (.cells #[.int .u8 48] 5)).cell? ⟨wr.heap.size, j, none⟩ = some (.int .u8 (((txt false [48])[j]'hj).toNat : Int)) := fun j hj => by
          have : j = 0 := by simp [txt] at hj; omega
          subst this
          rw [World.cell?_alloc_at _ _ _ _ rfl]; rfl
        have hlen : (txt false [48]).length = 1 := rfl
        have hRTl : ([48] : List UInt8).length ≤ 300 := by decide
        have hbelW : Below W0.heap.size W0 (wr.alloc (.cells #[.int .u8 48] 5)) := hbel.alloc hbel.size _
        have hRT : RT false [48] := ⟨by intro b hb; simp at hb; subst hb; decide, by simp, fun _ => ⟨rfl, rfl⟩, by decide⟩
        have hD300 : [48].length ≤ 300 := hRTl
        have hcv := conv8 (wr.alloc (.cells #[.int .u8 48] 5)) wr.heap.size 1 1 (txt false [48]) hlen hcell
        obtain ⟨T, hT⟩ : ∃ T : ByteArray, T = ⟨(txt false [48]).toArray⟩ := ⟨_, rfl⟩
        have hTd : T.data.toList = txt false [48] := by rw [hT]
        have HP := hide (fun w => parse_yes false [48] w hRT.dg hRT.ne hRT.z hRT.len)
        rw [← hT] at hcv HP
        have HT := hide hTd
        clear hT hTd
        go_wp2_with fail
        refine (unhide HP _).mono ?_
        rintro e w4 ⟨r, rfl, hb4, hI⟩
        obtain ⟨n4, a4, l4, c4, rfl⟩ := hI.form
        have hb5 : Below (wr.alloc (.cells #[.int .u8 48] 5)).heap.size (wr.alloc (.cells #[.int .u8 48] 5)) (w4.alloc (.cells #[.int .i64 n4, .slice a4 l4 c4] 26)) := hb4.alloc hb4.size _
        have hcv2 := conv8 (w4.alloc (.cells #[.int .i64 n4, .slice a4 l4 c4] 26)) wr.heap.size 1 1 (txt false [48]) hlen (fun j hj => (hb5.cell (p := ⟨wr.heap.size, j, none⟩) (by simp)).trans (hcell j hj))
        rw [show (⟨(txt false [48]).toArray⟩ : ByteArray) = T by rw [← unhide HT]] at hcv2
        have HI := hide (hI.below ((Below.refl _ w4).alloc (Nat.le_refl _) (.cells #[.int .i64 n4, .slice a4 l4 c4] 26)))
        have bL := Bx.new w4 n4 a4 l4 c4
        obtain ⟨kL0, kL1, _, _⟩ := bL.facts
        clear hcv hI
        have hbT : Below W0.heap.size W0 (w4.alloc (.cells #[.int .i64 n4, .slice a4 l4 c4] 26)) := hbelW.trans (hb5.mono hbelW.size)
        have bX5 := bX.below hbT
        have bN5 := bN.below hbT
        have hbw5 := hbw.trans (hbT.mono hbw.size)
        go_wp2_with fail
        generalize (w4.alloc (.cells #[.int .i64 n4, .slice a4 l4 c4] 26)) = W5 at *
        have hcv3 : (convert 56 9 (.slice (some ⟨wr.heap.size, 0, none⟩) 1 1)).run Tryd.prog W5.drew = .ok (.string T) W5.drew := by
          have := conv8 W5.drew wr.heap.size 1 1 (txt false [48]) hlen (fun j hj => (hb5.cell (p := ⟨wr.heap.size, j, none⟩) (by simp)).trans (hcell j hj))
          rwa [show (⟨(txt false [48]).toArray⟩ : ByteArray) = T by rw [← unhide HT]] at this
        have HM := hide (fun w => must_val false [48] T w (unhide HT) hRT)
        have hXN : w.heap.size ≠ w.heap.size + 1 := by omega
        have hltL := bL.lt
        clear hcv2
        go_region_with (go_at_call 45; refine (unhide HM _).mono ?_; rintro e w6 ⟨r6, rfl, hb6, hi6⟩; obtain ⟨b6, a6, l6, c6, rfl⟩ := hi6.form; have HN6 := hide hi6; clear hi6; have yX := bX5.drew.below hb6; have yN := bN5.drew.below hb6; have yL := bL.drew.below hb6; obtain ⟨kX0, kX1, kXf0, kXf1⟩ := yX.facts; obtain ⟨kN0, kN1, kNf0, kNf1⟩ := yN.facts; obtain ⟨mL0, mL1, _, _⟩ := yL.facts; have HI6 := hide ((unhide HI).below ((drew_below W5).trans (hb6.mono (Nat.le_refl _)))))
        all_goals
          go_wp2
          have pN := (yN.other (p := ⟨w.heap.size, 0, none⟩) hXN (.int .i64 n4)).other (p := ⟨w.heap.size, 1, none⟩) hXN (.slice a4 l4 c4)
          have hfin := ((unhide HI6).put yX (.int .i64 n4) (.slice a4 l4 c4)).putN pN (.bool b6) (.slice a6 l6 c6)
          have hbl6 := (hbw5.trans (((drew_below W5).trans (hb6.mono (Nat.le_refl _))).mono hbw5.size))
          refine bodyPost_ret (v := .tuple #[.agg #[.int .i64 n4, .slice a4 l4 c4], .agg #[.bool b6, .slice a6 l6 c6]]) ?_ rfl ?_
          · simp [results, Tryd.results20, go_sem, kX0, kX1, kN0, kN1]
          · exact ⟨_, _, _, rfl, below_put (below_put hbl6 (Nat.le_refl _) _ _) (Nat.le_succ _) _ _, hfin, ((unhide HN6).putX yX _ _).putN pN _ _, val_bound (neg := false) (D := [48]) hRT.dg hD300, val_bound4 (neg := false) (D := [48]) hRT.dg hD300⟩
      · obtain ⟨g', cap', e', _, hgl, hcap, hcell⟩ := own_form8 hown (List.length_pos_iff.2 hne)
        simp only [Value.slice.injEq, Option.some.injEq, Addr.mk.injEq, true_and, and_true] at e'
        obtain ⟨rfl, rfl⟩ := e'
        have hposB : 0 < Bs.length := List.length_pos_iff.2 hne
        have hpos : 0 < s.size := by omega
        have hlz : ((Bs.length : Int) == 0) = false := by simp; omega
        have hRTl : Bs.length ≤ 300 := by omega
        by_cases c45 : (s[0]'hpos).toNat = 45
        · have t45 : ((((s[0]'hpos).toNat : Nat) : Int) == 45) = true := by simp; omega
          have hRT : RT true Bs := ⟨hob.dg, hne, fun h => absurd h hob.h, by omega⟩
          go_wp2_with (at_builtin; refine wpList_append_own _ rfl _ _ 56 rfl W0.heap.size 5 i0 (.int .u8 0) 1 1 Tryd.underlying56 hi hz0 hz1 hz2 rfl (by decide) _ _ _ rfl (own_one8 wr _ hbel.size) ⟨g, 0, none⟩ Bs.length cap (bc Bs) rfl (by simp [bc]) ?f1 ?f2 ?f3 ?f4 ?f5 ?_)
          case f1 =>
            intro j u hj
            have hjl : j < Bs.length := by
              have := (List.getElem?_eq_some_iff.1 hj).1
              simpa [bc] using this
            rw [Addr.add_lit, Nat.zero_add, World.cell?_alloc_past _ _ _ hgl, hcell j hjl]
            simpa [bc, hjl] using hj
          case f2 =>
            intro u hu
            simp only [bc, List.mem_map] at hu
            obtain ⟨b, _, rfl⟩ := hu
            rfl
          case f3 => unfold maxLen; omega
          case f4 => omega
          case f5 => have := hbel.size; simp; omega
          intro v' w3 hown3 hgrow _
          have hB3 : Below W0.heap.size W0 w3 := (hbel.alloc hbel.size (.cells #[.int .u8 45] 5)).grown hgrow (by have := hbel.size; simp; omega) (fun k hk => by simp [Value.ownBlock] at hk; subst hk; exact hbel.size)
          have hO3 : w3.ownsRow W0.heap.size 5 1 v' (txt true Bs).length (bc (txt true Bs)) := by
            have e1 : (txt true Bs).length = 1 + Bs.length := by simp [txt]; omega
            rw [e1]
            exact hown3
          obtain ⟨g3, cap3, rfl, _, hgl3, hcap3, hcell3⟩ := own_form8 hO3 (by simp [txt])
          have hlen : (txt true Bs).length = Bs.length + 1 := by simp [txt]
          rw [hlen] at hcap3
          have hbelW := hB3
          clear hgrow hown3 hown hbel hcell hcap
          simp only [hlen]
          have hD300 : Bs.length ≤ 300 := hRTl
          have hcv := conv8 w3 g3 cap3 (Bs.length + 1) (txt true Bs) hlen hcell3
          obtain ⟨T, hT⟩ : ∃ T : ByteArray, T = ⟨(txt true Bs).toArray⟩ := ⟨_, rfl⟩
          have hTd : T.data.toList = txt true Bs := by rw [hT]
          have HP := hide (fun w => parse_yes true Bs w hRT.dg hRT.ne hRT.z hRT.len)
          rw [← hT] at hcv HP
          have HT := hide hTd
          clear hT hTd
          go_wp2_with fail
          refine (unhide HP _).mono ?_
          rintro e w4 ⟨r, rfl, hb4, hI⟩
          obtain ⟨n4, a4, l4, c4, rfl⟩ := hI.form
          have hb5 : Below w3.heap.size w3 (w4.alloc (.cells #[.int .i64 n4, .slice a4 l4 c4] 26)) := hb4.alloc hb4.size _
          have hcv2 := conv8 (w4.alloc (.cells #[.int .i64 n4, .slice a4 l4 c4] 26)) g3 cap3 (Bs.length + 1) (txt true Bs) hlen (fun j hj => (hb5.cell (p := ⟨g3, j, none⟩) hgl3).trans (hcell3 j hj))
          rw [show (⟨(txt true Bs).toArray⟩ : ByteArray) = T by rw [← unhide HT]] at hcv2
          have HI := hide (hI.below ((Below.refl _ w4).alloc (Nat.le_refl _) (.cells #[.int .i64 n4, .slice a4 l4 c4] 26)))
          have bL := Bx.new w4 n4 a4 l4 c4
          obtain ⟨kL0, kL1, _, _⟩ := bL.facts
          clear hcv hI
          have hbT : Below W0.heap.size W0 (w4.alloc (.cells #[.int .i64 n4, .slice a4 l4 c4] 26)) := hbelW.trans (hb5.mono hbelW.size)
          have bX5 := bX.below hbT
          have bN5 := bN.below hbT
          have hbw5 := hbw.trans (hbT.mono hbw.size)
          go_wp2_with fail
          generalize (w4.alloc (.cells #[.int .i64 n4, .slice a4 l4 c4] 26)) = W5 at *
          have hcv3 : (convert 56 9 (.slice (some ⟨g3, 0, none⟩) (Bs.length + 1) cap3)).run Tryd.prog W5.drew = .ok (.string T) W5.drew := by
            have := conv8 W5.drew g3 cap3 (Bs.length + 1) (txt true Bs) hlen (fun j hj => (hb5.cell (p := ⟨g3, j, none⟩) hgl3).trans (hcell3 j hj))
            rwa [show (⟨(txt true Bs).toArray⟩ : ByteArray) = T by rw [← unhide HT]] at this
          have HM := hide (fun w => must_val true Bs T w (unhide HT) hRT)
          have hXN : w.heap.size ≠ w.heap.size + 1 := by omega
          have hltL := bL.lt
          clear hcv2
          go_region_with (go_at_call 45; refine (unhide HM _).mono ?_; rintro e w6 ⟨r6, rfl, hb6, hi6⟩; obtain ⟨b6, a6, l6, c6, rfl⟩ := hi6.form; have HN6 := hide hi6; clear hi6; have yX := bX5.drew.below hb6; have yN := bN5.drew.below hb6; have yL := bL.drew.below hb6; obtain ⟨kX0, kX1, kXf0, kXf1⟩ := yX.facts; obtain ⟨kN0, kN1, kNf0, kNf1⟩ := yN.facts; obtain ⟨mL0, mL1, _, _⟩ := yL.facts; have HI6 := hide ((unhide HI).below ((drew_below W5).trans (hb6.mono (Nat.le_refl _)))))
          all_goals
            go_wp2
            have pN := (yN.other (p := ⟨w.heap.size, 0, none⟩) hXN (.int .i64 n4)).other (p := ⟨w.heap.size, 1, none⟩) hXN (.slice a4 l4 c4)
            have hfin := ((unhide HI6).put yX (.int .i64 n4) (.slice a4 l4 c4)).putN pN (.bool b6) (.slice a6 l6 c6)
            have hbl6 := (hbw5.trans (((drew_below W5).trans (hb6.mono (Nat.le_refl _))).mono hbw5.size))
            refine bodyPost_ret (v := .tuple #[.agg #[.int .i64 n4, .slice a4 l4 c4], .agg #[.bool b6, .slice a6 l6 c6]]) ?_ rfl ?_
            · simp [results, Tryd.results20, go_sem, kX0, kX1, kN0, kN1]
            · exact ⟨_, _, _, rfl, below_put (below_put hbl6 (Nat.le_refl _) _ _) (Nat.le_succ _) _ _, hfin, ((unhide HN6).putX yX _ _).putN pN _ _, val_bound (neg := true) (D := Bs) hRT.dg hD300, val_bound4 (neg := true) (D := Bs) hRT.dg hD300⟩
        · have t45 : ((((s[0]'hpos).toNat : Nat) : Int) == 45) = false := by simp; omega
          have hRT : RT false Bs := ⟨hob.dg, hne, fun h => absurd h hob.h, by omega⟩
          have hlen : (txt false Bs).length = Bs.length := rfl
          have hbelW := hbel
          have hD300 : Bs.length ≤ 300 := hRTl
          have hcv := conv8 wr g cap Bs.length (txt false Bs) hlen hcell
          obtain ⟨T, hT⟩ : ∃ T : ByteArray, T = ⟨(txt false Bs).toArray⟩ := ⟨_, rfl⟩
          have hTd : T.data.toList = txt false Bs := by rw [hT]
          have HP := hide (fun w => parse_yes false Bs w hRT.dg hRT.ne hRT.z hRT.len)
          rw [← hT] at hcv HP
          have HT := hide hTd
          clear hT hTd
          go_wp2_with fail
          refine (unhide HP _).mono ?_
          rintro e w4 ⟨r, rfl, hb4, hI⟩
          obtain ⟨n4, a4, l4, c4, rfl⟩ := hI.form
          have hb5 : Below wr.heap.size wr (w4.alloc (.cells #[.int .i64 n4, .slice a4 l4 c4] 26)) := hb4.alloc hb4.size _
          have hcv2 := conv8 (w4.alloc (.cells #[.int .i64 n4, .slice a4 l4 c4] 26)) g cap Bs.length (txt false Bs) hlen (fun j hj => (hb5.cell (p := ⟨g, j, none⟩) hgl).trans (hcell j hj))
          rw [show (⟨(txt false Bs).toArray⟩ : ByteArray) = T by rw [← unhide HT]] at hcv2
          have HI := hide (hI.below ((Below.refl _ w4).alloc (Nat.le_refl _) (.cells #[.int .i64 n4, .slice a4 l4 c4] 26)))
          have bL := Bx.new w4 n4 a4 l4 c4
          obtain ⟨kL0, kL1, _, _⟩ := bL.facts
          clear hcv hI
          have hbT : Below W0.heap.size W0 (w4.alloc (.cells #[.int .i64 n4, .slice a4 l4 c4] 26)) := hbelW.trans (hb5.mono hbelW.size)
          have bX5 := bX.below hbT
          have bN5 := bN.below hbT
          have hbw5 := hbw.trans (hbT.mono hbw.size)
          go_wp2_with fail
          generalize (w4.alloc (.cells #[.int .i64 n4, .slice a4 l4 c4] 26)) = W5 at *
          have hcv3 : (convert 56 9 (.slice (some ⟨g, 0, none⟩) Bs.length cap)).run Tryd.prog W5.drew = .ok (.string T) W5.drew := by
            have := conv8 W5.drew g cap Bs.length (txt false Bs) hlen (fun j hj => (hb5.cell (p := ⟨g, j, none⟩) hgl).trans (hcell j hj))
            rwa [show (⟨(txt false Bs).toArray⟩ : ByteArray) = T by rw [← unhide HT]] at this
          have HM := hide (fun w => must_val false Bs T w (unhide HT) hRT)
          have hXN : w.heap.size ≠ w.heap.size + 1 := by omega
          have hltL := bL.lt
          clear hcv2
          go_region_with (go_at_call 45; refine (unhide HM _).mono ?_; rintro e w6 ⟨r6, rfl, hb6, hi6⟩; obtain ⟨b6, a6, l6, c6, rfl⟩ := hi6.form; have HN6 := hide hi6; clear hi6; have yX := bX5.drew.below hb6; have yN := bN5.drew.below hb6; have yL := bL.drew.below hb6; obtain ⟨kX0, kX1, kXf0, kXf1⟩ := yX.facts; obtain ⟨kN0, kN1, kNf0, kNf1⟩ := yN.facts; obtain ⟨mL0, mL1, _, _⟩ := yL.facts; have HI6 := hide ((unhide HI).below ((drew_below W5).trans (hb6.mono (Nat.le_refl _)))))
          all_goals
            go_wp2
            have pN := (yN.other (p := ⟨w.heap.size, 0, none⟩) hXN (.int .i64 n4)).other (p := ⟨w.heap.size, 1, none⟩) hXN (.slice a4 l4 c4)
            have hfin := ((unhide HI6).put yX (.int .i64 n4) (.slice a4 l4 c4)).putN pN (.bool b6) (.slice a6 l6 c6)
            have hbl6 := (hbw5.trans (((drew_below W5).trans (hb6.mono (Nat.le_refl _))).mono hbw5.size))
            refine bodyPost_ret (v := .tuple #[.agg #[.int .i64 n4, .slice a4 l4 c4], .agg #[.bool b6, .slice a6 l6 c6]]) ?_ rfl ?_
            · simp [results, Tryd.results20, go_sem, kX0, kX1, kN0, kN1]
            · exact ⟨_, _, _, rfl, below_put (below_put hbl6 (Nat.le_refl _) _ _) (Nat.le_succ _) _ _, hfin, ((unhide HN6).putX yX _ _).putN pN _ _, val_bound (neg := false) (D := Bs) hRT.dg hD300, val_bound4 (neg := false) (D := Bs) hRT.dg hD300⟩

end Go.Proofs.YtblblpilmoefgaaDoor

/- The document's numbers: their texts. -/
namespace Go.Proofs.YtblblpilmoefgaaDoor
open Go Go.RowKit

/-- The m lowest decimal digits of V, the lowest first. -/
def low : Nat → Nat → List UInt8
  | 0, _ => []
  | m + 1, V => UInt8.ofNat (48 + V % 10) :: low m (V / 10)
theorem low_length (m V : Nat) : (low m V).length = m := by
  induction m generalizing V with
  | zero => rfl
  | succ m ih => simp [low, ih]
theorem low_snoc (m V : Nat) : low (m + 1) V = low m V ++ [UInt8.ofNat (48 + V / 10 ^ m % 10)] := by
  induction m generalizing V with
  | zero => simp [low]
  | succ m ih =>
    rw [low, ih, low, List.cons_append, Nat.div_div_eq_div_mul, Nat.pow_succ, Nat.mul_comm 10]
theorem low_dd (m V : Nat) (h : V < 10 ^ (m + 1)) (h1 : m = 0 ∨ 10 ^ m ≤ V) : low (m + 1) V = (Lib.decDigits V).reverse := by
  induction m generalizing V with
  | zero =>
    have h9 : V < 10 := by simpa using h
    rw [Lib.decDigits, dif_pos h9]
    simp [low, Nat.mod_eq_of_lt h9]
  | succ m ih =>
    have h2 : 10 ^ (m + 1) ≤ V := by rcases h1 with h1 | h1; (· omega); exact h1
    have h3 : 0 < 10 ^ m := Nat.pow_pos (by decide)
    rw [Nat.pow_succ] at h h2
    have h9 : ¬ V < 10 := by omega
    rw [Lib.decDigits, dif_neg h9, List.reverse_append, low, ih (V / 10) (by omega) (.inr (by omega))]
    rfl
theorem digN_of {xs : List Int} (hd : T4.Dig xs) {V : Nat} (hv : T4.val xs = V) (i : Nat) (hi : i < xs.length) : xs[i]?.getD 0 = ((V / 10 ^ (4 * i) % 10000 : Nat) : Int) ∧ (i + 1 = xs.length → V / 10 ^ (4 * i) < 10000) := by
  have h1 := T4.val_append (xs.take i) (xs.drop i)
  rw [List.take_append_drop, List.length_take, Nat.min_eq_left (by omega), List.drop_eq_getElem_cons hi, hv] at h1
  have h2 : T4.val (xs[i] :: xs.drop (i + 1)) = xs[i] + 10000 * T4.val (xs.drop (i + 1)) := rfl
  have h3 := T4.val_lt (hd.take i)
  have h4 := T4.val_nonneg (hd.take i)
  rw [List.length_take, Nat.min_eq_left (by omega), T4.pw_eq10] at h3
  rw [h2, T4.pw_eq10] at h1
  have h5 := hd _ (List.getElem_mem hi)
  have h6 := T4.val_nonneg (hd.drop (i + 1))
  have h7 : i + 1 = xs.length → T4.val (xs.drop (i + 1)) = 0 := fun e => by rw [List.drop_eq_nil_of_le (by omega)]; rfl
  rw [List.getElem?_eq_getElem hi, Option.getD_some]
  generalize T4.val (xs.drop (i + 1)) = t at *
  generalize T4.val (xs.take i) = l at *
  generalize xs[i] = d at *
  have h8 : (0 : Int) < 10 ^ (4 * i) := Int.pow_pos (by decide)
  have h9 : (V : Int) / (10 : Int) ^ (4 * i) = d + 10000 * t := by
    rw [h1, Int.add_mul_ediv_left _ _ (by omega), Int.ediv_eq_zero_of_lt h4 h3]; omega
  have h10 : ((V / 10 ^ (4 * i) : Nat) : Int) = d + 10000 * t := by rw [← h9]; simp
  generalize V / 10 ^ (4 * i) = q at *
  refine ⟨by omega, fun e => ?_⟩
  have := h7 e
  omega
theorem low_step (V i k : Nat) (x : Int) (hk : k < 4) (hx : x = ((V / 10 ^ (4 * i) % 10000 / 10 ^ k : Nat) : Int)) : low (4 * i + (k + 1)) V = low (4 * i + k) V ++ [UInt8.ofNat (48 + x.toNat % 10)] ∧ x / 10 = ((V / 10 ^ (4 * i) % 10000 / 10 ^ (k + 1) : Nat) : Int) := by
  subst hx
  constructor
  · rw [← Nat.add_assoc, low_snoc, Nat.pow_add, ← Nat.div_div_eq_div_mul, Int.toNat_natCast]
    generalize V / 10 ^ (4 * i) = q
    congr 4
    match k, hk with
    | 0, _ => simp <;> omega
    | 1, _ => simp <;> omega
    | 2, _ => simp <;> omega
    | 3, _ => simp <;> omega
  · rw [Nat.pow_succ, ← Nat.div_div_eq_div_mul]
    omega
theorem low_more (V i k : Nat) (x : Int) (hq : V / 10 ^ (4 * i) < 10000) (hx : x = ((V / 10 ^ (4 * i) % 10000 / 10 ^ k : Nat) : Int)) (h0 : 0 < x) : 10 ^ (4 * i + (k + 1) - 1) ≤ V := by
  subst hx
  rw [Nat.mod_eq_of_lt hq, Nat.div_div_eq_div_mul, ← Nat.pow_add] at h0
  rw [show 4 * i + (k + 1) - 1 = 4 * i + k by omega]
  have h1 : 0 < V / 10 ^ (4 * i + k) := by omega
  exact (Nat.div_pos_iff.1 h1).2
theorem low_end (V i k : Nat) (x : Int) (hq : V / 10 ^ (4 * i) < 10000) (h1 : 1 ≤ V / 10 ^ (4 * i)) (hx : x = ((V / 10 ^ (4 * i) % 10000 / 10 ^ k : Nat) : Int)) (hk : k ≤ 4) (h : k = 4 ∨ x = 0) (hm : k = 0 ∨ 10 ^ (4 * i + k - 1) ≤ V) : low (4 * i + k) V = (Lib.decDigits V).reverse := by
  subst hx
  rw [Nat.mod_eq_of_lt hq] at h
  have h3 : V / 10 ^ (4 * i) / 10 ^ k = 0 := by
    rcases h with rfl | h
    · omega
    · omega
  have hk0 : k ≠ 0 := by rintro rfl; simp at h3; omega
  rw [Nat.div_div_eq_div_mul, ← Nat.pow_add] at h3
  have h4 : V < 10 ^ (4 * i + k) := by
    have := Nat.div_eq_zero_iff.1 h3
    rcases this with h | h
    · exact absurd h (Nat.ne_of_gt (Nat.pow_pos (by decide)))
    · exact h
  obtain ⟨m, e⟩ : ∃ m, 4 * i + k = m + 1 := ⟨4 * i + k - 1, by omega⟩
  rw [e] at h4 hm ⊢
  refine low_dd m V h4 (.inr ?_)
  rcases hm with hm | hm
  · exact absurd hm hk0
  · simpa using hm
/-- What stands at j once the i outermost pairs have changed places. -/
def rvAt (L : List UInt8) (i j : Nat) : Int := if j < i ∨ L.length ≤ j + i then ((L[L.length - 1 - j]?.getD 0).toNat : Int) else ((L[j]?.getD 0).toNat : Int)
theorem rv_done {L : List UInt8} {i k : Nat} {W : World} {g : Nat} (h1 : i + k + 1 = L.length) (h2 : ¬ i < k) (h3 : i ≤ k + 1) (h : ∀ j, j < L.length → W.cell? ⟨g, j, none⟩ = some (.int .u8 (rvAt L i j))) : ∀ j (hj : j < L.reverse.length), W.cell? ⟨g, j, none⟩ = some (.int .u8 ((L.reverse[j]'hj).toNat : Int)) := by
  intro j hj
  have hj' : j < L.length := by simpa using hj
  rw [h j hj', List.getElem_reverse]
  congr 2
  unfold rvAt
  have e : L[L.length - 1 - j]?.getD 0 = L[L.length - 1 - j]'(by omega) := by rw [List.getElem?_eq_getElem (by omega), Option.getD_some]
  split
  · rw [e]
  · rw [← e, show L.length - 1 - j = j by omega]
theorem rv_step {L : List UInt8} {i k : Nat} {W : World} {g : Nat} (h1 : i + k + 1 = L.length) (h2 : i < k) (h : ∀ j, j < L.length → W.cell? ⟨g, j, none⟩ = some (.int .u8 (rvAt L i j))) {ci ck : Int} (hi : rvAt L i i = ci) (hk : rvAt L i k = ck) : ∀ j, j < L.length → ((W.setCell ⟨g, i, none⟩ (.int .u8 ck)).setCell ⟨g, k, none⟩ (.int .u8 ci)).cell? ⟨g, j, none⟩ = some (.int .u8 (rvAt L (i + 1) j)) := by
  intro j hj
  have hki := h k (by omega)
  have hii := h i (by omega)
  by_cases e1 : j = k
  · subst e1
    rw [World.cell?_setCell_same _ _ _ (by rw [World.cell?_setCell_other _ _ _ _ (by intro e; injection e; omega)]; exact hki), ← hi]
    unfold rvAt
    rw [if_neg (by omega), if_pos (by omega), show L.length - 1 - j = i by omega]
  · rw [World.cell?_setCell_other _ _ _ _ (by intro e; injection e; omega)]
    by_cases e2 : j = i
    · subst e2
      rw [World.cell?_setCell_same _ _ _ hii, ← hk]
      unfold rvAt
      rw [if_neg (by omega), if_pos (by omega), show L.length - 1 - j = k by omega]
    · rw [World.cell?_setCell_other _ _ _ _ (by intro e; injection e; omega), h j hj]
      unfold rvAt
      by_cases e3 : j < i ∨ L.length ≤ j + i
      · rw [if_pos e3, if_pos (by omega)]
      · rw [if_neg e3, if_neg (by omega)]
theorem u8_48 (x : Int) (h0 : 0 ≤ x) : (48 + x % 10 : Int) = ((UInt8.ofNat (48 + x.toNat % 10)).toNat : Int) := by
  rw [UInt8.toNat_ofNat']
  omega

set_option maxRecDepth 100000 in
set_option maxHeartbeats 1600000 in
theorem textN_any (v : Value) (z : Int) (w : World) (h : IsN w v z) (hz : (z.natAbs : Int) < T4.pw 4000) :
    Calls Tryd.prog 19 #[v] w fun e w' => e = .returned (.string ⟨(Lib.itoa z).toArray⟩) ∧ Below w.heap.size w w' := by
  obtain ⟨i0, hi, hz0, hz1, hz2⟩ := info_parts info8
  obtain ⟨a1, l1, c1, xs, rfl, n1, dx, m1, e1, q1⟩ := h.small hz
  have hl1 := n1.len
  subst hl1
  obtain ⟨_, _, ee1, hcx, hatx⟩ := n1
  simp only [Value.slice.injEq, true_and] at ee1
  obtain ⟨rfl, rfl⟩ := ee1
  have x1 := NB.new w (decide (z < 0)) a1 xs.length c1
  have hB : Below w.heap.size w (w.alloc (.cells #[.bool (decide (z < 0)), .slice a1 xs.length c1] 31)) := (Below.refl _ w).alloc (Nat.le_refl _) _
  by_cases hl : xs.length = 0
  · have hzz : z = 0 := by
      have := List.eq_nil_of_length_eq_zero hl
      subst this
      simp [T4.val] at e1
      omega
    subst hzz
    rw [hl] at *
    clear h e1 m1 hz hatx
    obtain ⟨k10, k11, _, _⟩ := x1.facts
    go_enter Tryd.func19, Tryd.ntmps19
    go_wp2
    go_ret
    exact ⟨by rw [show Lib.itoa 0 = [48] by rw [Lib.itoa, if_neg (by omega), Lib.decDigits, dif_pos (by decide)]; rfl]; rfl, hB⟩
  · have hl0 : ((xs.length : Int) == 0) = false := by simpa using hl
    obtain ⟨V, hV⟩ : ∃ V, V = z.natAbs := ⟨_, rfl⟩
    rw [← hV] at e1
    have HD := hide (digN_of dx e1)
    have hone : Hid (∀ i, i + 1 = xs.length → 1 ≤ V / 10 ^ (4 * i)) := fun i hi => by
      have h1 := digN_of dx e1 i (by omega)
      have h2 := m1 (by intro e; subst e; simp at hl)
      rw [List.getLast_eq_getElem, ] at h2
      have h3 := h1.1
      rw [List.getElem?_eq_getElem (by omega), Option.getD_some] at h3
      simp only [show xs.length - 1 = i by omega] at h2
      rw [h3] at h2
      generalize V / 10 ^ (4 * i) = q at *
      omega
    have HV := hide hV
    clear h e1 m1 hz hV
    go_enter Tryd.func19, Tryd.ntmps19
    have k11 := x1.facts.2.1
    go_wp2
    clear k11
    have Hx1 := hide x1
    generalize hW : (w.alloc (.cells #[.bool (decide (z < 0)), .slice a1 xs.length c1] 31)) = W0 at *
    have HW := hide hW
    clear hW x1
    go_loopw [3, 4] (fun bv iv wr => ∃ (i : Nat) (Bs : List UInt8), i ≤ xs.length ∧ iv = .int .i64 i ∧ Bs.length ≤ 4 * i ∧ wr.ownsRow W0.heap.size 5 1 bv Bs.length (bc Bs) ∧ Below W0.heap.size W0 wr ∧ Hid ((i < xs.length → Bs = low (4 * i) V) ∧ (i = xs.length → Bs = (Lib.decDigits V).reverse))) (fun _ iv _ => xs.length - (intOf iv).toNat)
    case atStart => exact ⟨0, [], Nat.zero_le _, rfl, by simp, World.ownsRow_nil _ _ _ _, Below.refl _ _, hide ⟨fun _ => rfl, fun e => absurd e.symm hl⟩⟩
    case round =>
      obtain ⟨i, Bs, hil, rfl, hbl, hown, hbel, hlow⟩ := hrel
      have hbx := (unhide Hx1).below hbel
      have k11 := hbx.facts.2.1
      by_cases hlt : i < xs.length
      · obtain ⟨bx, ox, rfl, hbx9, hcx9⟩ := hatx (by intro e; subst e; simp at hlt)
        obtain ⟨x, hx⟩ : ∃ x, x = xs[i]?.getD 0 := ⟨_, rfl⟩
        have hcxk : wr.cell? ⟨bx, ox + i, none⟩ = some (.int .i64 x) := by
          rw [hx]
          exact (hbel.cell (p := ⟨bx, ox + i, none⟩) (Nat.lt_of_lt_of_le hbx9 hB.size)).trans ((hB.cell (p := ⟨bx, ox + i, none⟩) hbx9).trans (hcx9 i hlt))
        have hxq := unhide HD i hlt
        rw [← hx] at hxq
        have HQ := hide hxq
        have hilI : (i : Int) < (xs.length : Int) := by omega
        clear hx hxq
        go_wp2
        clear k11 hcxk
        go_loopw [3, 5, 6] (fun bv xv kv wq => ∃ (k : Nat) (x : Int) (Bs : List UInt8), k ≤ 4 ∧ kv = .int .i64 k ∧ xv = .int .i64 x ∧ 0 ≤ x ∧ x < 10000 ∧ Bs.length ≤ 4 * i + k ∧ wq.ownsRow W0.heap.size 5 1 bv Bs.length (bc Bs) ∧ Below W0.heap.size W0 wq ∧ Hid (x = ((V / 10 ^ (4 * i) % 10000 / 10 ^ k : Nat) : Int)) ∧ Hid (Bs = low (4 * i + k) V) ∧ Hid (i + 1 = xs.length → k = 0 ∨ 10 ^ (4 * i + k - 1) ≤ V)) (fun _ _ kv _ => 4 - (intOf kv).toNat)
        case atStart =>
          have h1 := (unhide HQ).1
          exact ⟨0, x, Bs, by omega, rfl, rfl, by omega, by omega, by omega, hown, hbel, hide (by rw [h1]; simp), hide ((unhide hlow).1 hlt), hide (fun _ => .inl rfl)⟩
        case round =>
          obtain ⟨k, x, Bs, hk4, rfl, rfl, hx0, hx1, hbl, hown, hbel, hxv, hbs, hmore⟩ := hrel
          have hbx := (unhide Hx1).below hbel
          have k11 := hbx.facts.2.1
          by_cases hgo : k < 4 ∧ (i + 1 < xs.length ∨ 0 < x)
          · obtain ⟨g1, g2⟩ := hgo
            have g1' : (k : Int) < 4 := by omega
            by_cases g3 : i + 1 < xs.length
            · have g3' : (i : Int) < (xs.length : Int) - 1 := by omega
              go_wp2_with (at_builtin; refine wpList_append_own _ rfl _ _ 56 rfl W0.heap.size 5 i0 (.int .u8 0) 1 1 Tryd.underlying56 hi hz0 hz1 hz2 rfl (by decide) _ _ _ rfl (hown.alloc _) ⟨wr.heap.size, 0, none⟩ 1 1 [.int .u8 (48 + x % 10)] rfl rfl (cell_one_new _ _ _) (one8 _) ?c3 ?c4 ?c5 ?_)
              case c3 => unfold maxLen; omega
              case c4 => omega
              case c5 => have := hbel.size; simp; omega
              intro v' w2 hown' hgrow _
              have hB2 := (hbel.alloc hbel.size (.cells #[.int .u8 (48 + x % 10)] 5)).grown hgrow (by have := hbel.size; simp; omega) (fun k hk => (hown.lt k hk).1)
              rw [u8_48 x hx0] at hown'
              have hO := own_snoc8 hown'
              clear hown' hgrow hown hbel k11
              have hst := hide (low_step V i k x g1 (unhide hxv))
              go_wp2
              exact ⟨⟨k + 1, x / 10, Bs ++ [UInt8.ofNat (48 + x.toNat % 10)], by omega, by simp, rfl, by omega, by omega, by simp; omega, hO, hB2, hide (unhide hst).2, hide (by rw [(unhide hst).1, unhide hbs]), hide (fun h => by omega)⟩, by simp [intOf]; omega⟩
            · have g3' : ¬ ((i : Int) < (xs.length : Int) - 1) := by omega
              have g4' : (0 : Int) < x := by omega
              go_wp2_with (at_builtin; refine wpList_append_own _ rfl _ _ 56 rfl W0.heap.size 5 i0 (.int .u8 0) 1 1 Tryd.underlying56 hi hz0 hz1 hz2 rfl (by decide) _ _ _ rfl (hown.alloc _) ⟨wr.heap.size, 0, none⟩ 1 1 [.int .u8 (48 + x % 10)] rfl rfl (cell_one_new _ _ _) (one8 _) ?c3 ?c4 ?c5 ?_)
              case c3 => unfold maxLen; omega
              case c4 => omega
              case c5 => have := hbel.size; simp; omega
              intro v' w2 hown' hgrow _
              have hB2 := (hbel.alloc hbel.size (.cells #[.int .u8 (48 + x % 10)] 5)).grown hgrow (by have := hbel.size; simp; omega) (fun k hk => (hown.lt k hk).1)
              rw [u8_48 x hx0] at hown'
              have hO := own_snoc8 hown'
              clear hown' hgrow hown hbel k11
              have hst := hide (low_step V i k x g1 (unhide hxv))
              go_wp2
              exact ⟨⟨k + 1, x / 10, Bs ++ [UInt8.ofNat (48 + x.toNat % 10)], by omega, by simp, rfl, by omega, by omega, by simp; omega, hO, hB2, hide (unhide hst).2, hide (by rw [(unhide hst).1, unhide hbs]), hide (fun h => .inr (low_more V i k x ((unhide HQ).2 h) (unhide hxv) g4'))⟩, by simp [intOf]; omega⟩
          · have hend : Hid ((i + 1 < xs.length → Bs = low (4 * (i + 1)) V) ∧ (i + 1 = xs.length → Bs = (Lib.decDigits V).reverse)) := by
              refine ⟨fun h => ?_, fun h => ?_⟩
              · rw [unhide hbs, show 4 * i + k = 4 * (i + 1) by omega]
              · rw [unhide hbs]
                exact low_end V i k x ((unhide HQ).2 h) (unhide hone i h) (unhide hxv) hk4 (by omega) (unhide hmore h)
            by_cases g1 : k < 4
            · have g1' : (k : Int) < 4 := by omega
              have g3' : ¬ ((i : Int) < (xs.length : Int) - 1) := by omega
              have g4' : ¬ ((0 : Int) < x) := by omega
              go_wp2
              exact ⟨⟨i + 1, Bs, by omega, by simp, by omega, hown, hbel, hend⟩, by simp [intOf]; omega⟩
            · have g1' : ¬ ((k : Int) < 4) := by omega
              go_wp2
              exact ⟨⟨i + 1, Bs, by omega, by simp, by omega, hown, hbel, hend⟩, by simp [intOf]; omega⟩
      · obtain rfl : i = xs.length := by omega
        have hbs := (unhide hlow).2 rfl
        have HBS := hide hbs
        have k10 := hbx.facts.1
        by_cases hneg : z < 0
        · rw [decide_eq_true hneg] at k10
          clear hbs
          go_wp2_with (at_builtin; refine wpList_append_own _ rfl _ _ 56 rfl W0.heap.size 5 i0 (.int .u8 0) 1 1 Tryd.underlying56 hi hz0 hz1 hz2 rfl (by decide) _ _ _ rfl (hown.alloc _) ⟨wr.heap.size, 0, none⟩ 1 1 [.int .u8 45] rfl rfl (cell_one_new _ _ _) (one8 _) ?c3 ?c4 ?c5 ?_)
          case c3 => unfold maxLen; omega
          case c4 => omega
          case c5 => have := hbel.size; simp; omega
          intro v' w2 hown' hgrow _
          have hB2 := (hbel.alloc hbel.size (.cells #[.int .u8 45] 5)).grown hgrow (by have := hbel.size; simp; omega) (fun k hk => (hown.lt k hk).1)
          have hO := own_snoc8 (c := 45) hown'
          clear hown' hgrow hown hbel k11 k10 hbx
          have hit : Hid ((Bs ++ [45]).reverse = Lib.itoa z) := by
            show _ = _
            rw [unhide HBS, List.reverse_append, List.reverse_reverse, Lib.itoa, if_pos hneg, unhide HV]
            rfl
          have hlL : (Bs ++ [45]).length ≤ 20000 := by simp; omega
          have hpos : 0 < (Bs ++ [45]).length := by simp
          clear HBS
          generalize Bs ++ [45] = L at *
          obtain ⟨g, cap, rfl, hg0, hgl, hcap, hcell⟩ := own_form8 hO hpos
          have hfz : ∀ o, w2.frozen? ⟨g, o, none⟩ = false := fun o => hO.frozenAt _
          clear hO
          have hBW := hide (hB.trans (hB2.mono hB.size))
          go_wp2
          go_loopw [7, 8] (fun iv kv wq => ∃ (i k : Nat), i + k + 1 = L.length ∧ i ≤ k + 1 ∧ iv = .int .i64 i ∧ kv = .int .i64 k ∧ Hid (∀ j, j < L.length → wq.cell? ⟨g, j, none⟩ = some (.int .u8 (rvAt L i j))) ∧ InBlk g 0 L.length w2 wq) (fun _ kv _ => (intOf kv).toNat)
          case atStart => exact ⟨0, L.length - 1, by omega, by omega, rfl, by congr 1; omega, hide (fun j hj => by rw [rvAt, if_neg (by omega), List.getElem?_eq_getElem hj, Option.getD_some]; exact hcell j hj), InBlk.refl _ _ _ _⟩
          case round =>
            obtain ⟨i, k, hik, hik2, rfl, rfl, hcells, hinb⟩ := hrel
            by_cases hlt2 : i < k
            · have hci := unhide hcells i (by omega)
              have hck := unhide hcells k (by omega)
              have hfi : wr.frozen? ⟨g, i, none⟩ = false := (hinb.frozen _).trans (hfz _)
              have hfk : wr.frozen? ⟨g, k, none⟩ = false := (hinb.frozen _).trans (hfz _)
              generalize hc1 : rvAt L i i = ci at *
              generalize hc2 : rvAt L i k = ck at *
              have hiI : (i : Int) < (L.length : Int) := by omega
              have hkI : (k : Int) < (L.length : Int) := by omega
              have hikI : (i : Int) < (k : Int) := by omega
              have hne : i ≠ k := by omega
              have hne2 : k ≠ i := by omega
              go_wp2_with fail
              go_region
              go_wp2
              exact ⟨⟨i + 1, k - 1, by omega, by omega, by simp, by congr 1; omega, hide (fun j hj => rv_step hik hlt2 (unhide hcells) hc1 hc2 j hj), ((hinb.setCell (by omega) (by omega) _).setCell (by omega) (by omega) _).drew⟩, by simp [intOf]; omega⟩
            · have hikI : ¬ ((i : Int) < (k : Int)) := by omega
              have hcv := conv8 wr g cap L.length L.reverse (by simp) (rv_done hik hlt2 hik2 (unhide hcells))
              rw [unhide hit] at hcv
              have hB9 := hide ((unhide hBW).trans (hinb.below (B := w.heap.size) (by have := hB.size; omega)))
              go_wp2
              go_ret
              exact ⟨rfl, unhide hB9⟩
        · rw [decide_eq_false hneg] at k10
          have hit : Hid (Bs.reverse = Lib.itoa z) := by
            show _ = _
            rw [hbs, List.reverse_reverse, Lib.itoa, if_neg hneg, unhide HV]
            congr 1
            omega
          have hlL : Bs.length ≤ 20000 := by omega
          have hpos : 0 < Bs.length := by rw [hbs, List.length_reverse]; exact dd_pos V
          have hO := hown
          have hB2 := hbel
          clear hbs HBS hown hbel hbx
          generalize Bs = L at *
          obtain ⟨g, cap, rfl, hg0, hgl, hcap, hcell⟩ := own_form8 hO hpos
          have hfz : ∀ o, wr.frozen? ⟨g, o, none⟩ = false := fun o => hO.frozenAt _
          clear hO
          have hBW := hide (hB.trans (hB2.mono hB.size))
          go_wp2
          go_loopw [7, 8] (fun iv kv wq => ∃ (i k : Nat), i + k + 1 = L.length ∧ i ≤ k + 1 ∧ iv = .int .i64 i ∧ kv = .int .i64 k ∧ Hid (∀ j, j < L.length → wq.cell? ⟨g, j, none⟩ = some (.int .u8 (rvAt L i j))) ∧ InBlk g 0 L.length wr wq) (fun _ kv _ => (intOf kv).toNat)
          case atStart => exact ⟨0, L.length - 1, by omega, by omega, rfl, by congr 1; omega, hide (fun j hj => by rw [rvAt, if_neg (by omega), List.getElem?_eq_getElem hj, Option.getD_some]; exact hcell j hj), InBlk.refl _ _ _ _⟩
          case round =>
            obtain ⟨i, k, hik, hik2, rfl, rfl, hcells, hinb⟩ := hrel
            by_cases hlt2 : i < k
            · have hci := unhide hcells i (by omega)
              have hck := unhide hcells k (by omega)
              have hfi : wr.frozen? ⟨g, i, none⟩ = false := (hinb.frozen _).trans (hfz _)
              have hfk : wr.frozen? ⟨g, k, none⟩ = false := (hinb.frozen _).trans (hfz _)
              generalize hc1 : rvAt L i i = ci at *
              generalize hc2 : rvAt L i k = ck at *
              have hiI : (i : Int) < (L.length : Int) := by omega
              have hkI : (k : Int) < (L.length : Int) := by omega
              have hikI : (i : Int) < (k : Int) := by omega
              have hne : i ≠ k := by omega
              have hne2 : k ≠ i := by omega
              go_wp2_with fail
              go_region
              go_wp2
              exact ⟨⟨i + 1, k - 1, by omega, by omega, by simp, by congr 1; omega, hide (fun j hj => rv_step hik hlt2 (unhide hcells) hc1 hc2 j hj), ((hinb.setCell (by omega) (by omega) _).setCell (by omega) (by omega) _).drew⟩, by simp [intOf]; omega⟩
            · have hikI : ¬ ((i : Int) < (k : Int)) := by omega
              have hcv := conv8 wr g cap L.length L.reverse (by simp) (rv_done hik hlt2 hik2 (unhide hcells))
              rw [unhide hit] at hcv
              have hB9 := hide ((unhide hBW).trans (hinb.below (B := w.heap.size) (by have := hB.size; omega)))
              go_wp2
              go_ret
              exact ⟨rfl, unhide hB9⟩

end Go.Proofs.YtblblpilmoefgaaDoor

/- Specs for the document's numbers; avowlaw1.same. -/
namespace Go.Proofs.YtblblpilmoefgaaDoor
open Go Go.RowKit

def Sp.doc (z : Int) : Sp := ⟨fun w v => IsN w v z, fun _ _ _ h hb => h.below hb⟩
/-- A slot points to a number of the document's in a box. -/
def PD (a0 : Act) (w0 : World) (t : Nat) (z : Int) : Prop := ∃ r, a0.tmps[t]? = some (.pointer (some ⟨r, 0, none⟩)) ∧ ∃ v, NB w0 r v ∧ IsN w0 v z
theorem T4.le9 {z : Int} {k : Nat} (h : (z.natAbs : Int) < T4.pw k) (hk : k ≤ 4000) : (z.natAbs : Int) < T4.pw 9000 := Int.lt_of_lt_of_le h (T4.pw_mono (Nat.le_trans hk (by decide)))
theorem T4.le4 {z : Int} {k : Nat} (h : (z.natAbs : Int) < T4.pw k) (hk : k ≤ 4000) : (z.natAbs : Int) < T4.pw 4000 := Int.lt_of_lt_of_le h (T4.pw_mono hk)
theorem T4.add_lt2 {y z : Int} {a b : Nat} (h : (y.natAbs : Int) < T4.pw a) (k : (z.natAbs : Int) < T4.pw b) : ((y + z).natAbs : Int) < T4.pw (max a b + 1) := by
  have h1 : T4.pw (max a b + 1) = 10000 * T4.pw (max a b) := rfl
  have h2 := T4.pw_mono (Nat.le_max_left a b)
  have h3 := T4.pw_mono (Nat.le_max_right a b)
  omega
theorem T4.sub_lt2 {y z : Int} {a b : Nat} (h : (y.natAbs : Int) < T4.pw a) (k : (z.natAbs : Int) < T4.pw b) : ((y - z).natAbs : Int) < T4.pw (max a b + 1) := by
  have h1 : T4.pw (max a b + 1) = 10000 * T4.pw (max a b) := rfl
  have h2 := T4.pw_mono (Nat.le_max_left a b)
  have h3 := T4.pw_mono (Nat.le_max_right a b)
  omega
theorem T4.mul_lt {y z : Int} {a b : Nat} (h : (y.natAbs : Int) < T4.pw a) (k : (z.natAbs : Int) < T4.pw b) : ((y * z).natAbs : Int) < T4.pw (a + b) := by
  rw [Int.natAbs_mul, T4.pw_add, Int.natCast_mul]
  have h1 : (y.natAbs : Int) * (z.natAbs : Int) ≤ (y.natAbs : Int) * T4.pw b := Int.mul_le_mul_of_nonneg_left (Int.le_of_lt k) (by omega)
  have h2 : (y.natAbs : Int) * T4.pw b < T4.pw a * T4.pw b := Int.mul_lt_mul_of_pos_right h (T4.pw_pos b)
  omega
theorem T4.neg_lt {y : Int} {a : Nat} (h : (y.natAbs : Int) < T4.pw a) : ((-y).natAbs : Int) < T4.pw a := by rwa [Int.natAbs_neg]

theorem enter_subN : Enters Tryd.prog 24 := ⟨fun xs w => by go_simp⟩
theorem enter_mulN : Enters Tryd.prog 26 := ⟨fun xs w => by go_simp⟩
theorem enter_cmpN : Enters Tryd.prog 30 := ⟨fun xs w => by go_simp⟩
theorem enter_signN : Enters Tryd.prog 32 := ⟨fun xs w => by go_simp⟩
theorem enter_textN : Enters Tryd.prog 19 := ⟨fun xs w => by go_simp⟩
theorem enter_Str : Enters Tryd.prog 14 := ⟨fun xs w => by go_simp⟩
theorem enter_same : Enters Tryd.prog 13 := ⟨fun xs w => by go_simp⟩

section
variable {Q : Exit → Act → World → Prop} {a a0 : Act} {w w0 : World} {dst : Option Tmp} {ty : TypeId} {pos : String} {af : Array Edge} {gd : Option (Nat × Bool)} {tys : Array TypeId} {s t : Nat} {y z : Int} {j k : Nat}
theorem st_loadN {t : Nat} {z : Int} (hk : a.tmps[t]? = a0.tmps[t]?) (hp : PD a0 w0 t z) (hb : Below w0.heap.size w0 w) :
    Oper.wp Tryd.prog ⟨dst, .load 31 (.tmp t), ty, pos, af, gd⟩ a w (fun a' w' => ∃ v, a' = a.put dst v ∧ Below w.heap.size w w' ∧ (Sp.doc z).ok w' v) Q := by
  obtain ⟨r, ht, v, h1, h2⟩ := hp
  have he : a.eval (.tmp t) = .pointer (some ⟨r, 0, none⟩) := by simp [Act.eval, hk, ht]
  exact op_load he (load_NB (h1.below hb)) ⟨v, rfl, Below.refl _ _, h2.below hb⟩
set_option maxRecDepth 100000 in
theorem st_AddN (p : (Sp.doc y).ok w (a.tmps.getD s undef)) (q : (Sp.doc z).ok w (a.tmps.getD t undef)) (b : (y.natAbs : Int) < T4.pw j) (c : (z.natAbs : Int) < T4.pw k) (hj : j ≤ 4000) (hk : k ≤ 4000) :
    Oper.wp Tryd.prog ⟨dst, .call ⟨.value (.func 22), #[.tmp s, .tmp t], tys⟩, ty, pos, af, gd⟩ a w (fun a' w' => ∃ v, a' = a.put dst v ∧ Below w.heap.size w w' ∧ (Sp.doc (y + z)).ok w' v) Q :=
  st_call2 enter_addN (Calls.mono (addN_any _ _ y z w p q (T4.le9 b hj) (T4.le9 c hk)) fun _ _ h => h)
set_option maxRecDepth 100000 in
theorem st_SubN (p : (Sp.doc y).ok w (a.tmps.getD s undef)) (q : (Sp.doc z).ok w (a.tmps.getD t undef)) (b : (y.natAbs : Int) < T4.pw j) (c : (z.natAbs : Int) < T4.pw k) (hj : j ≤ 4000) (hk : k ≤ 4000) :
    Oper.wp Tryd.prog ⟨dst, .call ⟨.value (.func 24), #[.tmp s, .tmp t], tys⟩, ty, pos, af, gd⟩ a w (fun a' w' => ∃ v, a' = a.put dst v ∧ Below w.heap.size w w' ∧ (Sp.doc (y - z)).ok w' v) Q :=
  st_call2 enter_subN (Calls.mono (subN_any _ _ y z w p q (T4.le9 b hj) (T4.le9 c hk)) fun _ _ h => h)
set_option maxRecDepth 100000 in
theorem st_MulN (p : (Sp.doc y).ok w (a.tmps.getD s undef)) (q : (Sp.doc z).ok w (a.tmps.getD t undef)) (b : (y.natAbs : Int) < T4.pw j) (c : (z.natAbs : Int) < T4.pw k) (hj : j ≤ 4000) (hk : k ≤ 4000) :
    Oper.wp Tryd.prog ⟨dst, .call ⟨.value (.func 26), #[.tmp s, .tmp t], tys⟩, ty, pos, af, gd⟩ a w (fun a' w' => ∃ v, a' = a.put dst v ∧ Below w.heap.size w w' ∧ (Sp.doc (y * z)).ok w' v) Q :=
  st_call2 enter_mulN (Calls.mono (mulN_any _ _ y z w p q (T4.le4 b hj) (T4.le4 c hk)) fun _ _ h => h)
set_option maxRecDepth 100000 in
theorem st_NegN (p : (Sp.doc y).ok w (a.tmps.getD s undef)) :
    Oper.wp Tryd.prog ⟨dst, .call ⟨.value (.func 28), #[.tmp s], tys⟩, ty, pos, af, gd⟩ a w (fun a' w' => ∃ v, a' = a.put dst v ∧ Below w.heap.size w w' ∧ (Sp.doc (-y)).ok w' v) Q :=
  st_call1 enter_negN (Calls.mono (negN_any _ y w p) fun _ _ h => h)
set_option maxRecDepth 100000 in
theorem st_CmpN {n : Int} (p : (Sp.doc y).ok w (a.tmps.getD s undef)) (q : (Sp.doc z).ok w (a.tmps.getD t undef)) (b : (y.natAbs : Int) < T4.pw j) (c : (z.natAbs : Int) < T4.pw k) (hj : j ≤ 4000) (hk : k ≤ 4000) (hn : sgn (y - z) = n) :
    Oper.wp Tryd.prog ⟨dst, .call ⟨.value (.func 30), #[.tmp s, .tmp t], tys⟩, ty, pos, af, gd⟩ a w (fun a' w' => ∃ v, a' = a.put dst v ∧ Below w.heap.size w w' ∧ (Sp.int n).ok w' v) Q :=
  st_call2 enter_cmpN (Calls.mono (cmpN_any _ _ y z w p q (T4.le9 b hj) (T4.le9 c hk)) fun _ _ ⟨h1, h2⟩ => ⟨_, h1, h2, by subst hn; rfl⟩)
set_option maxRecDepth 100000 in
theorem st_SignN {n : Int} (p : (Sp.doc y).ok w (a.tmps.getD s undef)) (hn : sgn y = n) :
    Oper.wp Tryd.prog ⟨dst, .call ⟨.value (.func 32), #[.tmp s], tys⟩, ty, pos, af, gd⟩ a w (fun a' w' => ∃ v, a' = a.put dst v ∧ Below w.heap.size w w' ∧ (Sp.int n).ok w' v) Q :=
  st_call1 enter_signN (Calls.mono (signN_any _ y w p) fun _ _ ⟨h1, h2⟩ => ⟨_, h1, h2, by subst hn; rfl⟩)
set_option maxRecDepth 100000 in
theorem st_Str (hT : Tab w) (p : (Sp.num y).ok w (a.tmps.getD s undef)) (b : (y.natAbs : Int) < pw j) (hj : j ≤ 4000) :
    Oper.wp Tryd.prog ⟨dst, .call ⟨.value (.func 14), #[.tmp s], tys⟩, ty, pos, af, gd⟩ a w (fun a' w' => ∃ v, a' = a.put dst v ∧ Below w.heap.size w w' ∧ (Sp.val (.string ⟨(Lib.itoa y).toArray⟩)).ok w' v) Q :=
  st_call1 enter_Str (Calls.mono (str_any _ y w hT p (le4 b hj)) fun _ _ ⟨h1, h2⟩ => ⟨_, h1, h2, rfl⟩)
set_option maxRecDepth 100000 in
theorem st_Text (p : (Sp.doc y).ok w (a.tmps.getD s undef)) (b : (y.natAbs : Int) < T4.pw j) (hj : j ≤ 4000) :
    Oper.wp Tryd.prog ⟨dst, .call ⟨.value (.func 19), #[.tmp s], tys⟩, ty, pos, af, gd⟩ a w (fun a' w' => ∃ v, a' = a.put dst v ∧ Below w.heap.size w w' ∧ (Sp.val (.string ⟨(Lib.itoa y).toArray⟩)).ok w' v) Q :=
  st_call1 enter_textN (Calls.mono (textN_any _ y w p (T4.le4 b hj)) fun _ _ ⟨h1, h2⟩ => ⟨_, h1, h2, rfl⟩)
theorem st_neg {n : Int} (p : (Sp.int n).ok w (a.tmps.getD s undef)) (h0 : -1 ≤ n) (h1 : n ≤ 1) :
    Oper.wp Tryd.prog ⟨dst, .unOp .neg 3 (.tmp s), ty, pos, af, gd⟩ a w (fun a' w' => ∃ v, a' = a.put dst v ∧ Below w.heap.size w w' ∧ (Sp.int (-n)).ok w' v) Q := by
  have he : a.eval (.tmp s) = .int .i64 n := p
  unfold Oper.wp
  simp only [execOp, he]
  go_simp
  refine ⟨_, rfl, Below.refl _ _, ?_⟩
  show Value.int .i64 (IntKind.i64.wrap (-n)) = .int .i64 (-n)
  simp [IntKind.wrap_i64]
  omega
theorem st_eqlS {S : ByteArray} (p : (Sp.val (.string S)).ok w (a.tmps.getD s undef)) (q : (Sp.val (.string S)).ok w (a.tmps.getD t undef)) :
    Oper.wp Tryd.prog ⟨dst, .binOp .eql 9 (.tmp s) (.tmp t) 9, ty, pos, af, gd⟩ a w (fun a' w' => ∃ v, a' = a.put dst v ∧ Below w.heap.size w w' ∧ (Sp.bool true).ok w' v) Q := by
  have he : a.eval (.tmp s) = .string S := p
  have hf : a.eval (.tmp t) = .string S := q
  unfold Oper.wp
  simp only [execOp, he, hf]
  go_simp
  exact ⟨_, rfl, Below.refl _ _, by simp [Sp.bool]⟩
end

structure SameE (a0 : Act) (w0 : World) (z : Int) : Prop where
  tab : Tab w0
  h1 : (z.natAbs : Int) < pw 4000
  h2 : (z.natAbs : Int) < T4.pw 4000
  tA : PB a0 w0 2 z
  tB : PD a0 w0 3 z
def sameSp (z : Int) : List Sp := [Sp.num z, Sp.val (.string ⟨(Lib.itoa z).toArray⟩), Sp.doc z, Sp.val (.string ⟨(Lib.itoa z).toArray⟩), Sp.bool true, Sp.bool true]
section
variable {Q : Exit → Act → World → Prop} {a0 : Act} {w0 : World} {z : Int}
set_option maxRecDepth 100000 in
theorem same_s0 (E : SameE a0 w0 z) : StepOk Tryd.prog Q (regionOf Tryd.f13 1) (sameSp z) a0 w0 [2, 3] 0 := by
  intro a w hb hk _hp
  exact st_want (wanted_none rfl) (st_load (hk 2 (by decide)) E.tA hb)
set_option maxRecDepth 100000 in
theorem same_s1 (E : SameE a0 w0 z) : StepOk Tryd.prog Q (regionOf Tryd.f13 1) (sameSp z) a0 w0 [2, 3] 1 := by
  intro a w hb _hk hp
  have p0 : (Sp.num z).ok w (a.tmps.getD 5 undef) := hp 0 rfl
  exact st_want (wanted_none rfl) (st_Str (E.tab.below hb) p0 E.h1 (Nat.le_refl _))
set_option maxRecDepth 100000 in
theorem same_s2 (E : SameE a0 w0 z) : StepOk Tryd.prog Q (regionOf Tryd.f13 1) (sameSp z) a0 w0 [2, 3] 2 := by
  intro a w hb hk _hp
  exact st_want (wanted_none rfl) (st_loadN (hk 3 (by decide)) E.tB hb)
set_option maxRecDepth 100000 in
theorem same_s3 (E : SameE a0 w0 z) : StepOk Tryd.prog Q (regionOf Tryd.f13 1) (sameSp z) a0 w0 [2, 3] 3 := by
  intro a w _hb _hk hp
  have p0 : (Sp.doc z).ok w (a.tmps.getD 7 undef) := hp 2 rfl
  exact st_want (wanted_none rfl) (st_Text p0 E.h2 (Nat.le_refl _))
set_option maxRecDepth 100000 in
theorem same_s4 (_E : SameE a0 w0 z) : StepOk Tryd.prog Q (regionOf Tryd.f13 1) (sameSp z) a0 w0 [2, 3] 4 := by
  intro a w _hb _hk hp
  have p0 : (Sp.val (.string ⟨(Lib.itoa z).toArray⟩)).ok w (a.tmps.getD 6 undef) := hp 1 rfl
  have p1 : (Sp.val (.string ⟨(Lib.itoa z).toArray⟩)).ok w (a.tmps.getD 8 undef) := hp 3 rfl
  exact st_want (wanted_none rfl) (st_eqlS p0 p1)
set_option maxRecDepth 100000 in
theorem same_s5 (_E : SameE a0 w0 z) : StepOk Tryd.prog Q (regionOf Tryd.f13 1) (sameSp z) a0 w0 [2, 3] 5 := by
  intro a w _hb _hk hp
  have p0 : (Sp.bool true).ok w (a.tmps.getD 9 undef) := hp 4 rfl
  exact st_want (wanted_none rfl) (st_assign p0)
set_option maxRecDepth 100000 in
theorem same_last (E : SameE a0 w0 z) (hN : a0.tmps.size = 10)
    (hQ : ∀ (a : Act) (w : World), Below w0.heap.size w0 w → a.defers = a0.defers → a.tmps.getD 4 undef = .bool true → Q .normal a w) :
    (Code.region 1 (regionOf Tryd.f13 1).toArray true).wp Tryd.prog Q a0 w0 :=
  region_sp 10 [2, 3] (sameSp z) (by kernel_rfl) (by kernel_rfl) hN 6 (by kernel_rfl) (flip lt_step (same_s5 E) <| flip lt_step (same_s4 E) <| flip lt_step (same_s3 E) <| flip lt_step (same_s2 E) <| flip lt_step (same_s1 E) <| flip lt_step (same_s0 E) <| lt_zero) (fun a w hb hd _ _ h => hQ a w hb hd (h 5 (by decide)))
end
set_option maxRecDepth 100000 in
set_option maxHeartbeats 800000 in
theorem same_any (va vb : Value) (z : Int) (w : World) (hT : Tab w) (h1 : IsI w va z) (h2 : IsN w vb z) (b1 : (z.natAbs : Int) < pw 4000) (b2 : (z.natAbs : Int) < T4.pw 4000) :
    Calls Tryd.prog 13 #[va, vb] w fun e w' => e = .returned (.bool true) ∧ Below w.heap.size w w' := by
  obtain ⟨c1, c2, c3, c4, rfl⟩ := h1.form
  obtain ⟨d1, d2, d3, d4, rfl⟩ := h2.form
  have hB : Below w.heap.size w ((w.alloc (.cells #[.int .i64 c1, .slice c2 c3 c4] 26)).alloc (.cells #[.bool d1, .slice d2 d3 d4] 31)) := ((Below.refl _ w).alloc (Nat.le_refl _) _).alloc (by simp) _
  have x1 := (Bx.new w c1 c2 c3 c4).alloc (.cells #[.bool d1, .slice d2 d3 d4] 31)
  have x2 := NB.new (w.alloc (.cells #[.int .i64 c1, .slice c2 c3 c4] 26)) d1 d2 d3 d4
  rw [World.size_alloc] at x2
  have HE := hide (fun a0 (t1 : a0.tmps[2]? = some (.pointer (some ⟨w.heap.size, 0, none⟩))) (t2 : a0.tmps[3]? = some (.pointer (some ⟨w.heap.size + 1, 0, none⟩))) => (⟨hT.below hB, b1, b2, ⟨_, t1, _, x1, h1.below hB⟩, ⟨_, t2, _, x2, h2.below hB⟩⟩ : SameE a0 _ z))
  have HB := hide hB
  clear hT h1 h2 b1 b2 x1 x2 hB
  go_enter Tryd.func13, Tryd.ntmps13
  go_wp2_with fail
  refine same_last (unhide HE _ rfl rfl) rfl ?_
  intro a w' hb hd h4
  have HB2 := (unhide HB).trans (hb.mono (unhide HB).size)
  clear hb
  go_wp2
  exact bodyPost_ret (results_tmp rfl _ _ _) hd ⟨by rw [h4], HB2⟩
section
variable {Q : Exit → Act → World → Prop} {a a0 : Act} {w w0 : World} {dst : Option Tmp} {ty : TypeId} {pos : String} {af : Array Edge} {gd : Option (Nat × Bool)} {tys : Array TypeId} {s t : Nat} {z : Int} {j k : Nat}
set_option maxRecDepth 100000 in
theorem st_same (hT : Tab w) (p : (Sp.num z).ok w (a.tmps.getD s undef)) (q : (Sp.doc z).ok w (a.tmps.getD t undef)) (b : (z.natAbs : Int) < pw j) (c : (z.natAbs : Int) < T4.pw k) (hj : j ≤ 4000) (hk : k ≤ 4000) :
    Oper.wp Tryd.prog ⟨dst, .call ⟨.value (.func 13), #[.tmp s, .tmp t], tys⟩, ty, pos, af, gd⟩ a w (fun a' w' => ∃ v, a' = a.put dst v ∧ Below w.heap.size w w' ∧ (Sp.bool true).ok w' v) Q :=
  st_call2 enter_same (Calls.mono (same_any _ _ z w hT p q (le4 b hj) (T4.le4 c hk)) fun _ _ ⟨h1, h2⟩ => ⟨_, h1, h2, rfl⟩)
end

end Go.Proofs.YtblblpilmoefgaaDoor
