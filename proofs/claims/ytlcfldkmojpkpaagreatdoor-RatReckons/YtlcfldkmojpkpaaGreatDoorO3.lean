/- Must; avowlaw1.of: the number of any text. -/
import Derived.Test.YtlcfldkmojpkpaaGreatDoorO2
import Derived.Laws.IdiomStrings
namespace Go.Proofs.YtlcfldkmojpkpaaGreatDoor
open Go.RowKit

set_option maxRecDepth 100000 in
set_option maxHeartbeats 800000 in
theorem must_yes (neg : Bool) (D : List UInt8) (T : ByteArray) (w : World) (hT : T.data.toList = txt neg D) (h : RT neg D) :
    Calls Tryz.prog 63 #[.string T] w fun e w' => ∃ r, e = .returned r ∧ NV r ∧ Below w.heap.size w w' := by
  have HP := hide (fun w => parseN_yes neg D T w hT h)
  clear hT h
  go_enter Tryz.func63, Tryz.ntmps63
  go_wp2_with fail
  refine (unhide HP _).mono ?_
  rintro e w1 ⟨r, rfl, ⟨b1, a1, l1, c1, rfl⟩, hb1⟩
  have hbox := (NB.new w false none 0 0).below hb1
  have hbw : Below w.heap.size w w1 := ((Below.refl _ w).alloc (Nat.le_refl _) _).trans (hb1.mono (by simp))
  obtain ⟨kR0, kR1, kRf0, kRf1⟩ := hbox.facts
  have hlt := hbox.lt
  go_wp2
  refine bodyPost_ret (v := .agg #[.bool b1, .slice a1 l1 c1]) ?_ rfl ?_
  · simp [results, Tryz.results63, go_sem, kR0, kR1, hlt]
  · exact ⟨_, rfl, ⟨_, _, _, _, rfl⟩, (below_put hbw (Nat.le_refl _) _ _).alloc (by simp; omega) _⟩

theorem info8 : (Tryz.prog.info? 5).map (fun i => (i.zero, i.size, i.bytes)) = some (some (.int .u8 0), 1, 1) := by kernel_rfl
/-- A number is kept while a box of the document's is written. -/
theorem IsI.putN {W : World} {v u : Value} {z : Int} (h : IsI W v z) {R : Nat} (hR : NB W R u) (c0 c1 : Value) : IsI ((W.setCell ⟨R, 0, none⟩ c0).setCell ⟨R, 1, none⟩ c1) v z := by
  obtain ⟨n, a, l, c, _, hR⟩ := hR
  rcases h with h | ⟨b, off, cap, xs, e, h1, h2, h3, h4, h5, h6, h7⟩
  · exact .inl h
  · have hbR : b ≠ R := by
      rintro rfl
      have h0 := h3 0 (List.length_pos_iff.2 (IsI.ne_nil h6 h7))
      simp only [World.cell?, hR, Nat.add_zero, Option.isSome_none, Bool.false_eq_true, if_false] at h0
      match off, h0 with
      | 0, h0 => simp at h0
      | 1, h0 => simp at h0
      | k + 2, h0 => simp at h0
    refine .inr ⟨b, off, cap, xs, e, h1, by simpa using h2, fun j hj => ?_, h4, h5, h6, h7⟩
    rw [World.cell?_setCell_other _ _ _ _ (by intro e; injection e with e1; exact hbR e1.symm), World.cell?_setCell_other _ _ _ _ (by intro e; injection e with e1; exact hbR e1.symm)]
    exact h3 j hj
/-- The cells of bytes. -/
def bc (l : List UInt8) : List Value := l.map (fun b => Value.int .u8 (b.toNat : Int))

theorem one8 (d : Int) : ∀ u ∈ [Value.int .u8 d], u.oneCell' = true := by
  intro u hu
  simp at hu
  subst hu
  rfl
theorem own_one8 {base : Nat} (w : World) (d : Int) (hb : base ≤ w.heap.size) : (w.alloc (.cells #[.int .u8 d] 5)).ownsRow base 5 1 (.slice (some ⟨w.heap.size, 0, none⟩) 1 1) 1 [.int .u8 d] :=
  ⟨by simp, .inr ⟨w.heap.size, 1, #[.int .u8 d], rfl, hb, heap_alloc_new w _, Nat.le_refl _, by unfold maxLen; omega, rfl, by simp⟩⟩
theorem own_snoc8 {w : World} {base : Nat} {v : Value} {Bs : List UInt8} {c : UInt8} (h : w.ownsRow base 5 1 v (Bs.length + 1) (bc Bs ++ [.int .u8 (c.toNat : Int)])) :
    w.ownsRow base 5 1 v (Bs ++ [c]).length (bc (Bs ++ [c])) := by simpa [bc] using h
/-- A row of bytes that isn't empty lies in memory. -/
theorem own_form8 {w : World} {base : Nat} {v : Value} {l : List UInt8} (h : w.ownsRow base 5 1 v l.length (bc l)) (hl : 0 < l.length) : ∃ g cap, v = .slice (some ⟨g, 0, none⟩) l.length cap ∧ base ≤ g ∧ g < w.heap.size ∧ l.length ≤ cap ∧ ∀ j (hj : j < l.length), w.cell? ⟨g, j, none⟩ = some (.int .u8 ((l[j]'hj).toNat : Int)) := by
  rcases h.2 with ⟨rfl, h0⟩ | ⟨g, cap, cur, rfl, hb, hg, hn, _⟩
  · omega
  · refine ⟨g, cap, rfl, hb, (Array.getElem?_eq_some_iff.1 hg).1, by omega, fun j hj => ?_⟩
    have := h.cells (g := g) rfl j (.int .u8 ((l[j]'hj).toNat : Int)) (by simp [bc, hj])
    rw [Addr.add_lit, Nat.zero_add] at this
    exact this
/-- Digits, no nought ahead. -/
structure OB (Bs : List UInt8) : Prop where
  dg : Dg Bs
  h : Bs.head? ≠ some 48
theorem OB.nil : OB [] := ⟨(fun _ h => by simp at h), by simp⟩
theorem OB.snoc {Bs : List UInt8} {c : UInt8} (h : OB Bs) (c0 : 48 ≤ c.toNat) (c1 : c.toNat ≤ 57) (hc : Bs ≠ [] ∨ 48 < c.toNat) : OB (Bs ++ [c]) := by
  refine ⟨fun b hb => ?_, ?_⟩
  · rcases List.mem_append.1 hb with hb | hb
    · exact h.dg b hb
    · simp at hb; subst hb; exact ⟨c0, c1⟩
  · cases Bs with
    | nil =>
      rcases hc with hc | hc
      · exact absurd rfl hc
      · simp only [List.nil_append, List.head?_cons, ne_eq, Option.some.injEq]
        rintro rfl
        simp at hc
    | cons b Bs => simpa using h.h

theorem drew_below (W : World) : Below W.heap.size W W.drew := (Below.refl _ W).drew
theorem conv8 (W : World) (g cap n : Nat) (l : List UInt8) (hn : l.length = n) (hc : ∀ j (hj : j < l.length), W.cell? ⟨g, j, none⟩ = some (.int .u8 ((l[j]'hj).toNat : Int))) :
    (convert 76 9 (.slice (some ⟨g, 0, none⟩) n cap)).run Tryz.prog W = .ok (.string ⟨l.toArray⟩) W := by
  subst hn
  exact run_convert_bytes_back (P := Tryz.prog) W 76 9 5 ⟨g, 0, none⟩ cap l Tryz.underlying76 Tryz.underlying5 Tryz.underlying9 (fun j hj => by
    rw [Addr.add_lit, Nat.zero_add]
    exact hc j hj)
theorem val_bound {neg : Bool} {D : List UInt8} (h : Dg D) (hl : D.length ≤ 300) : (((if neg then - dec D else dec D) : Int).natAbs : Int) < pw 40 := by
  have h0 := dec_nonneg h
  have h1 := dec_lt h
  have h2 := pow_mono10 (show D.length ≤ 9 * 40 by omega)
  rw [← pw_eq] at h2
  cases neg <;> simp <;> omega

end Go.Proofs.YtlcfldkmojpkpaaGreatDoor
