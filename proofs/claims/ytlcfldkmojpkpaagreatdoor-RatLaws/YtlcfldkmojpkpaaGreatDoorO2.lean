/- The document's numbers: trim, Parse, Must at right texts: that they return, and what form. -/
import Derived.Test.YtlcfldkmojpkpaaGreatDoorO1
namespace Go.Proofs.YtlcfldkmojpkpaaGreatDoor
open Go.RowKit

theorem infoInt : (Tryz.prog.info? 3).map (fun i => (i.zero, i.size, i.bytes)) = some (some (.int .i64 0), 1, 8) := by kernel_rfl
/-- The slice value reads as the ints xs. -/
def Ns (w : World) (v : Value) (xs : List Int) : Prop :=
  ∃ a cap, v = .slice a xs.length cap ∧ xs.length ≤ cap ∧ (xs ≠ [] → ∃ b off, a = some ⟨b, off, none⟩ ∧ b < w.heap.size ∧ ∀ j, j < xs.length → w.cell? ⟨b, off + j, none⟩ = some (.int .i64 (xs[j]?.getD 0)))
theorem Ns.below {w w' : World} {v : Value} {xs : List Int} (h : Ns w v xs) (hb : Below w.heap.size w w') : Ns w' v xs := by
  obtain ⟨a, cap, e, hc, hr⟩ := h
  refine ⟨a, cap, e, hc, fun hne => ?_⟩
  obtain ⟨b, off, ea, hlt, hcell⟩ := hr hne
  exact ⟨b, off, ea, Nat.lt_of_lt_of_le hlt hb.size, fun j hj => (hb.cell (p := ⟨b, off + j, none⟩) hlt).trans (hcell j hj)⟩
theorem Ns.of_owns {w : World} {base : Nat} {v : Value} {xs : List Int} (h : w.ownsRow base 3 1 v xs.length (xs.map (Value.int .i64))) : Ns w v xs := by
  rcases h.2 with ⟨rfl, h0⟩ | ⟨g, cap, cur, rfl, hb, hg, hn, hc, hs, ht⟩
  · rw [List.eq_nil_of_length_eq_zero h0]; exact ⟨_, _, rfl, Nat.zero_le _, fun h => absurd rfl h⟩
  · refine ⟨_, cap, rfl, hn, fun hne => ⟨g, 0, rfl, (Array.getElem?_eq_some_iff.1 hg).1, fun j hj => ?_⟩⟩
    have := h.cells (g := g) rfl j (.int .i64 (xs[j]?.getD 0)) (by simp [hj])
    have e : (⟨g, 0, none⟩ : Addr).add j = ⟨g, 0 + j, none⟩ := by unfold Addr.add; split <;> simp_all
    rw [e] at this
    exact this
/-- The form of a number of the document's. -/
def NV (v : Value) : Prop := ∃ b a l c, v = .agg #[.bool b, .slice a l c]

/-- The block R holds the document's number v. -/
def NB (W : World) (R : Nat) (v : Value) : Prop := ∃ b a l c, v = .agg #[.bool b, .slice a l c] ∧ W.heap[R]? = some (.cells #[.bool b, .slice a l c] 31)
theorem NB.lt {W : World} {R : Nat} {v : Value} (h : NB W R v) : R < W.heap.size := by
  obtain ⟨_, _, _, _, _, h⟩ := h
  exact (Array.getElem?_eq_some_iff.1 h).1
theorem NB.facts {W : World} {R : Nat} {b : Bool} {a : Option Addr} {l c : Nat} (h : NB W R (.agg #[.bool b, .slice a l c])) : W.cell? ⟨R, 0, none⟩ = some (.bool b) ∧ W.cell? ⟨R, 1, none⟩ = some (.slice a l c) ∧ W.frozen? ⟨R, 0, none⟩ = false ∧ W.frozen? ⟨R, 1, none⟩ = false := by
  obtain ⟨n', a', l', c', e, h⟩ := h
  simp only [Value.agg.injEq, Array.mk.injEq, List.cons.injEq, Value.bool.injEq, Value.slice.injEq, and_true] at e
  obtain ⟨rfl, rfl, rfl, rfl⟩ := e
  refine ⟨?_, ?_, ?_, ?_⟩
  · simp [World.cell?, h]
  · simp [World.cell?, h]
  · simp [World.frozen?, h]
  · simp [World.frozen?, h]
theorem NB.below {W W' : World} {R : Nat} {v : Value} (h : NB W R v) (hb : Below W.heap.size W W') : NB W' R v := by
  have hl := h.lt
  obtain ⟨n, a, l, c, e, h⟩ := h
  exact ⟨n, a, l, c, e, (hb.block R hl).trans h⟩
theorem NB.new (W : World) (b : Bool) (a : Option Addr) (l c : Nat) : NB (W.alloc (.cells #[.bool b, .slice a l c] 31)) W.heap.size (.agg #[.bool b, .slice a l c]) := ⟨b, a, l, c, rfl, heap_alloc_new W _⟩
theorem NB.alloc {W : World} {R : Nat} {v : Value} (h : NB W R v) (o : Obj) : NB (W.alloc o) R v := h.below ((Below.refl _ W).alloc (Nat.le_refl _) _)
theorem NB.drew {W : World} {R : Nat} {v : Value} (h : NB W R v) : NB W.drew R v := h
theorem NB.set {W : World} {R : Nat} {v : Value} (h : NB W R v) (b : Bool) (a : Option Addr) (l c : Nat) : NB ((W.setCell ⟨R, 0, none⟩ (.bool b)).setCell ⟨R, 1, none⟩ (.slice a l c)) R (.agg #[.bool b, .slice a l c]) := by
  obtain ⟨_, _, _, _, _, h⟩ := h
  exact ⟨b, a, l, c, rfl, heap_set h⟩
theorem NB.other {W : World} {R : Nat} {v : Value} (h : NB W R v) {p : Addr} (hp : p.block ≠ R) (x : Value) : NB (W.setCell p x) R v := by
  obtain ⟨n, a, l, c, e, h⟩ := h
  exact ⟨n, a, l, c, e, (Below.heap_setCell _ _ _ _ (fun e => hp e.symm)).trans h⟩

theorem one64 (d : Int) : ∀ u ∈ [Value.int .i64 d], u.oneCell' = true := by
  intro u hu
  simp at hu
  subst hu
  rfl
theorem own_snocI {w : World} {base : Nat} {v : Value} {xs : List Int} {d : Int} (h : w.ownsRow base 3 1 v (xs.length + 1) (xs.map (Value.int .i64) ++ [.int .i64 d])) :
    w.ownsRow base 3 1 v (xs ++ [d]).length ((xs ++ [d]).map (Value.int .i64)) := by simpa using h

set_option maxRecDepth 100000 in
set_option maxHeartbeats 800000 in
theorem trimN_any (neg : Bool) (v : Value) (xs : List Int) (w : World) (hm : Ns w v xs) (hl : xs.length ≤ 100000) :
    Calls Tryz.prog 39 #[.bool neg, v] w fun e w' => ∃ r, e = .returned r ∧ NV r ∧ Below w.heap.size w w' := by
  obtain ⟨a, cap, rfl, hcap, hat⟩ := hm
  go_enter Tryz.func39, Tryz.ntmps39
  go_wp2
  go_loop [1] (fun sv => ∃ k : Nat, k ≤ xs.length ∧ sv = .slice a k cap) (fun sv => lenOf sv)
  case atStart => exact ⟨xs.length, Nat.le_refl _, rfl⟩
  case round =>
    obtain ⟨k, hk, rfl⟩ := hrel
    have hcap' : k ≤ cap := by omega
    by_cases hk0 : 0 < k
    · obtain ⟨b, off, rfl, hb, hc⟩ := hat (by intro e; subst e; simp at hk; omega)
      have hck := hc (k - 1) (by omega)
      have hin : (k : Int) - 1 = ((k - 1 : Nat) : Int) := by omega
      generalize xs[k - 1]?.getD 0 = d at hck
      clear hc hat
      by_cases hv : d = 0
      · have hv' : (d == 0) = true := by simp [hv]
        clear hv
        go_wp2
        exact ⟨⟨k - 1, by omega, rfl⟩, by simp [lenOf]; omega⟩
      · have hv' : (d == 0) = false := by simp [hv]
        clear hv
        cases neg with
        | true =>
          go_wp2
          exact bodyPost_ret (v := .agg #[.bool true, .slice (some ⟨b, off, none⟩) k cap]) (by simp [results, Tryz.results39, go_sem]) rfl ⟨_, rfl, ⟨_, _, _, _, rfl⟩, (Below.refl _ w).alloc (Nat.le_refl _) _⟩
        | false =>
          go_wp2
          exact bodyPost_ret (v := .agg #[.bool false, .slice (some ⟨b, off, none⟩) k cap]) (by simp [results, Tryz.results39, go_sem]) rfl ⟨_, rfl, ⟨_, _, _, _, rfl⟩, (Below.refl _ w).alloc (Nat.le_refl _) _⟩
    · obtain rfl : k = 0 := by omega
      clear hat
      go_wp2
      all_goals exact bodyPost_ret (v := .agg #[.bool false, .slice a 0 cap]) (by simp [results, Tryz.results39, go_sem]) rfl ⟨_, rfl, ⟨_, _, _, _, rfl⟩, (Below.refl _ w).alloc (Nat.le_refl _) _⟩

set_option maxRecDepth 100000 in
set_option maxHeartbeats 1600000 in
theorem parseN_yes (neg : Bool) (D : List UInt8) (T : ByteArray) (w : World) (hT : T.data.toList = txt neg D) (h : RT neg D) :
    Calls Tryz.prog 91 #[.string T] w fun e w' => ∃ r, e = .returned (.tuple #[r, .bool true]) ∧ NV r ∧ Below w.heap.size w w' := by
  obtain ⟨i0, hi, hz0, hz1, hz2⟩ := info_parts infoInt
  have hsz := txt_size hT
  have hl := h.len
  have hD0 : 0 < D.length := List.length_pos_iff.2 h.ne
  have hat := txt_at hT h.dg 0
  have hpos : 0 < T.size := by omega
  have hls : T.size ≤ 1000 := by cases neg <;> simp at hsz <;> omega
  have HR := hide (fun w => right_yes neg D T w hT h)
  cases neg with
  | true =>
    have c45 : (((T[0]'hpos).toNat : Int) == 45) = true := by
      rcases hat hpos with ⟨_, _, h9⟩ | ⟨h9, _⟩
      · simp; omega
      · rcases h9 with h9 | h9
        · omega
        · cases h9
    have hS2 : (T.extract 1 T.size).size = T.size - 1 := by simp
    clear hat hT h hsz hl hD0
    go_enter Tryz.func91, Tryz.ntmps91
    go_wp2_with fail
    refine (unhide HR _).mono ?_
    rintro e w1 ⟨rfl, hb1⟩
    go_wp2
    generalize hSS : T.extract 1 T.size = S at *
    have hbox : NB w1 w.heap.size (.agg #[.bool false, .slice none 0 0]) := (NB.new w false none 0 0).below hb1
    have hbw : Below w.heap.size w w1 := ((Below.refl _ w).alloc (Nat.le_refl _) _).trans (hb1.mono (by simp))
    have hw1 : w.heap.size < w1.heap.size := hbox.lt
    have hS3 : S.size ≤ 1000 := by omega
    have HS2 := hide hS2
    clear hb1 HR hS2 hSS
    go_loopw [5, 6] (fun dv ev wr => ∃ (e : Int) (xs : List Int), ev = .int .i64 e ∧ -4 < e ∧ e ≤ S.size ∧ 4 * (xs.length : Int) + e = S.size ∧ wr.ownsRow w1.heap.size 3 1 dv xs.length (xs.map (Value.int .i64)) ∧ Below w1.heap.size w1 wr) (fun _ ev _ => (intOf ev + 4).toNat)
    case atStart => exact ⟨_, [], rfl, by omega, by have := unhide HS2; omega, by have := unhide HS2; simp; omega, World.ownsRow_nil _ _ _ _, Below.refl _ _⟩
    case round =>
      obtain ⟨e, xs, rfl, e0, e1, e2, hown, hbel⟩ := hrel
      have hxl : xs.length ≤ 300 := by omega
      by_cases he : 0 < e
      · have HE2 := hide e2
        clear e2
        have hw4 : wrap64 (e - 4) = e - 4 := by unfold wrap64; omega
        go_wp2
        go_loopw [7, 8] (fun xv iv wq => ∃ (x : Int) (i : Nat), xv = .int .i64 x ∧ iv = .int .i64 i ∧ (i : Int) ≤ e ∧ wq = wr) (fun _ iv _ => (e - intOf iv).toNat)
        case atStart => exact ⟨0, (max (e - 4) 0).toNat, rfl, by congr 1; omega, by omega, rfl⟩
        case round =>
          obtain ⟨x, i, rfl, rfl, hie, rfl⟩ := hrel
          by_cases hi9 : (i : Int) < e
          · have hiS : i < S.size := by omega
            go_wp2
            exact ⟨⟨_, i + 1, rfl, by simp, by omega, trivial⟩, by simp [intOf]; omega⟩
          · go_wp2_with (at_builtin; refine wpList_append_own _ rfl _ _ 29 rfl w1.heap.size 3 i0 (.int .i64 0) 1 8 Tryz.underlying29 hi hz0 hz1 hz2 rfl (by decide) _ _ _ rfl (hown.alloc _) ⟨wr.heap.size, 0, none⟩ 1 1 [.int .i64 x] rfl rfl (cell_one_new _ _ _) (one64 _) ?c3 ?c4 ?c5 ?_)
            case c3 => unfold maxLen; omega
            case c4 => omega
            case c5 => have := hbel.size; simp; omega
            intro v' w2 hown' hgrow _
            have hB := (hbel.alloc hbel.size (.cells #[.int .i64 x] 3)).grown hgrow (by have := hbel.size; simp; omega) (fun k hk => (hown.lt k hk).1)
            have hO := own_snocI hown'
            clear hown' hgrow hown hbel
            have hw4' : wrap64 (e - 4) = e - 4 := hw4
            go_wp2
            exact ⟨⟨e - 4, xs ++ [x], rfl, by omega, by omega, by have := unhide HE2; simp; omega, hO, hB⟩, by simp [intOf]; omega⟩
      · have hm := Ns.of_owns hown
        clear hown e2
        have hbox2 := hbox.below hbel
        go_wp2_with fail
        refine (trimN_any _ _ xs wr hm (by omega)).mono ?_
        rintro e3 w3 ⟨r, rfl, ⟨b3, a3, l3, c3, rfl⟩, hb3⟩
        have hbox3 := hbox2.below hb3
        obtain ⟨kR0, kR1, kRf0, kRf1⟩ := hbox3.facts
        have hb9 := (hbw.trans (hbel.mono hbw.size)).trans (hb3.mono (Nat.le_trans hbw.size hbel.size))
        go_wp2
        refine bodyPost_ret (v := .tuple #[.agg #[.bool b3, .slice a3 l3 c3], .bool true]) ?_ rfl ?_
        · simp [results, Tryz.results91, go_sem, kR0, kR1]
        · exact ⟨_, rfl, ⟨_, _, _, _, rfl⟩, below_put hb9 (Nat.le_refl _) _ _⟩
  | false =>
    have c45 : (((T[0]'hpos).toNat : Int) == 45) = false := by
      rcases hat hpos with ⟨_, h9, _⟩ | ⟨_, h9, _⟩
      · cases h9
      · simp; omega
    clear hat hT h hsz hl hD0
    go_enter Tryz.func91, Tryz.ntmps91
    go_wp2_with fail
    refine (unhide HR _).mono ?_
    rintro e w1 ⟨rfl, hb1⟩
    go_wp2
    have hbox : NB w1 w.heap.size (.agg #[.bool false, .slice none 0 0]) := (NB.new w false none 0 0).below hb1
    have hbw : Below w.heap.size w w1 := ((Below.refl _ w).alloc (Nat.le_refl _) _).trans (hb1.mono (by simp))
    have hw1 : w.heap.size < w1.heap.size := hbox.lt
    clear hb1 HR
    go_loopw [5, 6] (fun dv ev wr => ∃ (e : Int) (xs : List Int), ev = .int .i64 e ∧ -4 < e ∧ e ≤ T.size ∧ 4 * (xs.length : Int) + e = T.size ∧ wr.ownsRow w1.heap.size 3 1 dv xs.length (xs.map (Value.int .i64)) ∧ Below w1.heap.size w1 wr) (fun _ ev _ => (intOf ev + 4).toNat)
    case atStart => exact ⟨_, [], rfl, by omega, by omega, by simp, World.ownsRow_nil _ _ _ _, Below.refl _ _⟩
    case round =>
      obtain ⟨e, xs, rfl, e0, e1, e2, hown, hbel⟩ := hrel
      have hxl : xs.length ≤ 300 := by omega
      by_cases he : 0 < e
      · have HE2 := hide e2
        clear e2
        have hw4 : wrap64 (e - 4) = e - 4 := by unfold wrap64; omega
        go_wp2
        go_loopw [7, 8] (fun xv iv wq => ∃ (x : Int) (i : Nat), xv = .int .i64 x ∧ iv = .int .i64 i ∧ (i : Int) ≤ e ∧ wq = wr) (fun _ iv _ => (e - intOf iv).toNat)
        case atStart => exact ⟨0, (max (e - 4) 0).toNat, rfl, by congr 1; omega, by omega, rfl⟩
        case round =>
          obtain ⟨x, i, rfl, rfl, hie, rfl⟩ := hrel
          by_cases hi9 : (i : Int) < e
          · have hiS : i < T.size := by omega
            go_wp2
            exact ⟨⟨_, i + 1, rfl, by simp, by omega, trivial⟩, by simp [intOf]; omega⟩
          · go_wp2_with (at_builtin; refine wpList_append_own _ rfl _ _ 29 rfl w1.heap.size 3 i0 (.int .i64 0) 1 8 Tryz.underlying29 hi hz0 hz1 hz2 rfl (by decide) _ _ _ rfl (hown.alloc _) ⟨wr.heap.size, 0, none⟩ 1 1 [.int .i64 x] rfl rfl (cell_one_new _ _ _) (one64 _) ?c3 ?c4 ?c5 ?_)
            case c3 => unfold maxLen; omega
            case c4 => omega
            case c5 => have := hbel.size; simp; omega
            intro v' w2 hown' hgrow _
            have hB := (hbel.alloc hbel.size (.cells #[.int .i64 x] 3)).grown hgrow (by have := hbel.size; simp; omega) (fun k hk => (hown.lt k hk).1)
            have hO := own_snocI hown'
            clear hown' hgrow hown hbel
            have hw4' : wrap64 (e - 4) = e - 4 := hw4
            go_wp2
            exact ⟨⟨e - 4, xs ++ [x], rfl, by omega, by omega, by have := unhide HE2; simp; omega, hO, hB⟩, by simp [intOf]; omega⟩
      · have hm := Ns.of_owns hown
        clear hown e2
        have hbox2 := hbox.below hbel
        go_wp2_with fail
        refine (trimN_any _ _ xs wr hm (by omega)).mono ?_
        rintro e3 w3 ⟨r, rfl, ⟨b3, a3, l3, c3, rfl⟩, hb3⟩
        have hbox3 := hbox2.below hb3
        obtain ⟨kR0, kR1, kRf0, kRf1⟩ := hbox3.facts
        have hb9 := (hbw.trans (hbel.mono hbw.size)).trans (hb3.mono (Nat.le_trans hbw.size hbel.size))
        go_wp2
        refine bodyPost_ret (v := .tuple #[.agg #[.bool b3, .slice a3 l3 c3], .bool true]) ?_ rfl ?_
        · simp [results, Tryz.results91, go_sem, kR0, kR1]
        · exact ⟨_, rfl, ⟨_, _, _, _, rfl⟩, below_put hb9 (Nat.le_refl _) _ _⟩

end Go.Proofs.YtlcfldkmojpkpaaGreatDoor
