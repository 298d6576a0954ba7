/- The walk of TermInsts. -/
import Derived.Test.YtegmckpcchhmdaaDoorZAY
import Derived.OwnWalk
set_option linter.unusedVariables false
set_option linter.unusedSimpArgs false

namespace Go.Proofs.YtegmckpcchhmdaaDoor
open Go Go.RowKit Go.ChangeShapes Go.WideShapes Go.ChangeAt
theorem bytes_term120 : Tryd.prog.bytesOf 25 = 120 := by kernel_rfl
section
variable {H : Type} {enc : TypeId × Value → H} {W : World} {base : Nat} {sp : Nat → Bool} {held : Bool}
/-- A list of terms that came in: its bytes are no more than memory has. -/
theorem list_bytes {n : Nat} {c : Value} {x : DataW H × List MemPlace} (h : DataW.trod enc Tryd.prog W base sp held n 22 [c] = some x) (hz : ∀ m ∈ x.1.weights Tryd.prog 22, m ≤ reachBytes) {a : Option Addr} {len cap : Nat} (hc : c = .slice a len cap) : (1 + len) * 120 ≤ 140737488355328 := by
  subst hc
  rcases DataW.trod_slice Tryd.underlying22 h with ⟨hcs, _⟩ | ⟨a', len', cap', elems, rest, m, hm, hcs, hx, _, hl, hcap, hlen, hel, _⟩
  · simp at hcs
    omega
  · simp at hcs
    rw [hx] at hz
    have hz1 := hz _ (by simp only [DataW.weights, Tryd.underlying22]; exact List.mem_cons_self ..)
    simp only [List.length_map, reachBytes, bytes_term120] at hz1
    have : len * 120 ≤ (elems.length + rest.length) * 120 := Nat.mul_le_mul (by omega) (Nat.le_refl _)
    omega
end
theorem isT_one {w : World} {B d : Nat} {y0 y1 y2 y3 y4 y5 y6 : Value} {t : Tm} (h : IsT w B d (.agg #[y0, y1, y2, y3, y4, y5, y6]) t) : ∀ u ∈ [y0, y1, y2, y3, y4, y5, y6], u.oneCell' = true := by
  obtain ⟨_, _, aL, aV, aP, cL, cV, cP, e, _⟩ := h
  simp only [tcells, List.toArray, Value.agg.injEq, Array.mk.injEq, List.cons.injEq] at e
  obtain ⟨rfl, rfl, rfl, rfl, rfl, rfl, rfl, _⟩ := e
  intro u hu
  simp only [List.mem_cons, List.not_mem_nil, or_false] at hu
  rcases hu with rfl | rfl | rfl | rfl | rfl | rfl | rfl <;> rfl
theorem isT_seven {w : World} {B d : Nat} {v : Value} {t : Tm} (h : IsT w B d v t) : ∃ (i0 i2 : Int) (s1 s3 : ByteArray) (a4 a5 a6 : Option Addr) (n4 n5 n6 c4 c5 c6 : Nat), v = .agg #[.int .i64 i0, .string s1, .int .i64 i2, .string s3, .slice a4 n4 c4, .slice a5 n5 c5, .slice a6 n6 c6] := by
  obtain ⟨_, _, aL, aV, aP, cL, cV, cP, e, _⟩ := h
  exact ⟨_, _, _, _, _, _, _, _, _, _, _, _, _, e⟩
set_option maxRecDepth 100000 in
set_option maxHeartbeats 16000000 in
theorem insts_walk {W : World} {d1 d2 m cm : Nat} {am : Option Addr} {v : Value} {t : Tm} {lm : List Tm} (hT0 : IsT W W.heap.size d1 v t) (hl0 : Row W.heap.size am m cm 7 (fun b o j => ∀ u, lm[j]? = some u → TmAt W W.heap.size d2 b o u)) (hm : m = lm.length) (hby : (1 + m) * 120 ≤ 140737488355328) (hR : RL W) (h0 : 0 < W.heap.size) : Calls Tryd.prog 3 #[v, .slice am m cm] W (VPost (.bool true) W) := by
  obtain ⟨d, hd⟩ : ∃ d, max d1 d2 = d := ⟨_, rfl⟩
  have hT : IsT W W.heap.size d v t := hT0.more (Below.refl _ _) (Nat.le_refl _) (by omega)
  have hl : Row W.heap.size am m cm 7 (fun b o j => ∀ u, lm[j]? = some u → TmAt W W.heap.size d b o u) := hl0.mono (Nat.le_refl _) fun b o j _ h u hu => (h u hu).more (Below.refl _ _) (Nat.le_refl _) (by omega)
  clear hT0 hl0 hd
  have hTw := hT
  obtain ⟨y0, y1, y2, y3, y4, y5, y6, rfl⟩ := hT.form
  have HOne := hide (isT_one hT)
  obtain ⟨w0, e0, hb0, hs0, hc0, hh⟩ := box_new W #[y0, y1, y2, y3, y4, y5, y6] 25
  have HAll : Hid (∀ V, Below w0.heap.size w0 V → (V.cell? ⟨W.heap.size, 0, none⟩ = some y0 ∧ V.cell? ⟨W.heap.size, 1, none⟩ = some y1 ∧ V.cell? ⟨W.heap.size, 2, none⟩ = some y2 ∧ V.cell? ⟨W.heap.size, 3, none⟩ = some y3 ∧ V.cell? ⟨W.heap.size, 4, none⟩ = some y4 ∧ V.cell? ⟨W.heap.size, 5, none⟩ = some y5 ∧ V.cell? ⟨W.heap.size, 6, none⟩ = some y6) ∧ Below W.heap.size W V ∧ IsT V W.heap.size d (.agg #[y0, y1, y2, y3, y4, y5, y6]) t ∧ Row W.heap.size am m cm 7 (fun b o j => ∀ u, lm[j]? = some u → TmAt V W.heap.size d b o u) ∧ RL V) := fun V h => by
    have hq : W.heap.size < w0.heap.size := by omega
    have hbW : Below W.heap.size W V := hb0.trans (h.mono (by omega))
    exact ⟨⟨(h.cell (p := ⟨W.heap.size, 0, none⟩) hq).trans (hc0 0 _ rfl), (h.cell (p := ⟨W.heap.size, 1, none⟩) hq).trans (hc0 1 _ rfl), (h.cell (p := ⟨W.heap.size, 2, none⟩) hq).trans (hc0 2 _ rfl), (h.cell (p := ⟨W.heap.size, 3, none⟩) hq).trans (hc0 3 _ rfl), (h.cell (p := ⟨W.heap.size, 4, none⟩) hq).trans (hc0 4 _ rfl), (h.cell (p := ⟨W.heap.size, 5, none⟩) hq).trans (hc0 5 _ rfl), (h.cell (p := ⟨W.heap.size, 6, none⟩) hq).trans (hc0 6 _ rfl)⟩, hbW, hTw.more hbW (Nat.le_refl _) (Nat.le_refl _), hl.below hbW, hR.below hbW h0⟩
  have HE := hide e0
  have HI := hide (And.intro hm hby)
  have HK := hide (known_any (w := w0) (unhide HAll w0 (Below.refl _ _)).2.2.2.2 (by omega))
  clear hT hTw hl hm hby hR e0 hb0 hs0 hc0 hh h0
  go_enter Tryd.func3, Tryd.ntmps3
  go_wp2_with fail
  rw [unhide HE]
  refine (unhide HK).mono ?_
  rintro e w1 ⟨rfl, hb1⟩
  obtain ⟨⟨k0, k1, k2, k3, k4, k5, k6⟩, hbw1, hI1, hl1, hR1⟩ := unhide HAll w1 hb1
  have HB1 := hide hb1
  obtain ⟨v', wA, hr, hbA, aA, cA, rfl, hrow⟩ := join_all (y := [y0, y1, y2, y3, y4, y5, y6]) hI1 rfl (unhide HOne) hl1 (unhide HI).1 hbw1.size (unhide HI).2 22
  have HRun := hide hr
  have HBA := hide hbA
  have HL := hide (light_any 300 (by omega) (d := d + 1) (l := t :: lm) hrow (by have := (unhide HI).1; simp; omega) (Nat.le_refl _))
  clear hb1 hbw1 hI1 hl1 hR1 hr hbA hrow HK
  go_wp2_with (at_builtin; refine app_run _ _ _ rfl rfl rfl rfl (unhide HRun) ?_; clear HRun)
  refine (unhide HL).mono ?_
  rintro e w2 ⟨bl, rfl, hbl, hb2⟩
  have hb02 : Below w0.heap.size w0 w2 := (unhide HB1).trans (((unhide HBA).trans (hb2.mono (unhide HBA).size)).mono (unhide HB1).size)
  obtain ⟨⟨l0, l1, l2, l3, l4, l5, l6⟩, hbw2, hI2, hl2, hR2⟩ := unhide HAll w2 hb02
  have HBl := hide hbl
  have HB2 := hide hb02
  have HBw2 := hide hbw2
  have HI2 := hide (And.intro hI2 hl2)
  clear hb2 hbl hb02 hbw2 hI2 hl2 hR2 HL k0 k1 k2 k3 k4 k5 k6
  cases bl with
  | false =>
    go_wp2
    go_ret
    exact ⟨rfl, unhide HBw2⟩
  | true =>
    obtain ⟨hwl, hlt⟩ := unhide HBl rfl
    obtain ⟨E, U1, U2, hE, hsame, hboth⟩ := inst_both hwl hlt
    have HC1 := hide (hboth w2 _ _ _ _ _ _ (unhide HI2).1 (unhide HI2).2 (unhide HI).1 (unhide HBw2).size).1
    have HBo := hide hboth
    have HSm := hide (And.intro hE hsame)
    clear hwl hlt hboth hsame hE
    go_wp2_with fail
    refine (unhide HC1).mono ?_
    rintro e w3 ⟨r, rfl, hb3, hI3⟩
    have hI3w := hI3
    obtain ⟨x0, x2, x1, x3, a4, a5, a6, n4, n5, n6, c4, c5, c6, rfl⟩ := isT_seven hI3
    obtain ⟨w4, ee4, hb4, hs4, hc4, hh4⟩ := box_new w3 #[.int .i64 x0, .string x1, .int .i64 x2, .string x3, .slice a4 n4 c4, .slice a5 n5 c5, .slice a6 n6 c6] 25
    have hb04 : Below w0.heap.size w0 w4 := (unhide HB2).trans ((hb3.trans (hb4.mono hb3.size)).mono (unhide HB2).size)
    obtain ⟨⟨m0, m1, m2, m3, m4, m5, m6⟩, hbw4, hI4, hl4, hR4⟩ := unhide HAll w4 hb04
    have HC2 := hide (unhide HBo w4 _ _ _ _ _ _ hI4 hl4 (unhide HI).1 hbw4.size).2
    have HX : Hid (∀ V, Below w4.heap.size w4 V → (V.cell? ⟨w3.heap.size, 0, none⟩ = some (.int .i64 x0) ∧ V.cell? ⟨w3.heap.size, 1, none⟩ = some (.string x1) ∧ V.cell? ⟨w3.heap.size, 2, none⟩ = some (.int .i64 x2) ∧ V.cell? ⟨w3.heap.size, 3, none⟩ = some (.string x3) ∧ V.cell? ⟨w3.heap.size, 4, none⟩ = some (.slice a4 n4 c4) ∧ V.cell? ⟨w3.heap.size, 5, none⟩ = some (.slice a5 n5 c5) ∧ V.cell? ⟨w3.heap.size, 6, none⟩ = some (.slice a6 n6 c6)) ∧ IsT V V.heap.size 700 (.agg #[.int .i64 x0, .string x1, .int .i64 x2, .string x3, .slice a4 n4 c4, .slice a5 n5 c5, .slice a6 n6 c6]) U1) := fun V h => by
      have hq : w3.heap.size < w4.heap.size := by omega
      exact ⟨⟨(h.cell (p := ⟨w3.heap.size, 0, none⟩) hq).trans (hc4 0 _ rfl), (h.cell (p := ⟨w3.heap.size, 1, none⟩) hq).trans (hc4 1 _ rfl), (h.cell (p := ⟨w3.heap.size, 2, none⟩) hq).trans (hc4 2 _ rfl), (h.cell (p := ⟨w3.heap.size, 3, none⟩) hq).trans (hc4 3 _ rfl), (h.cell (p := ⟨w3.heap.size, 4, none⟩) hq).trans (hc4 4 _ rfl), (h.cell (p := ⟨w3.heap.size, 5, none⟩) hq).trans (hc4 5 _ rfl), (h.cell (p := ⟨w3.heap.size, 6, none⟩) hq).trans (hc4 6 _ rfl)⟩, hI3w.more (hb4.trans (h.mono (by omega))) (by have := h.size; omega) (Nat.le_refl _)⟩
    have HE4 := hide ee4
    have HB4 := hide hb04
    clear hb3 hI3 hI3w ee4 hb4 hs4 hc4 hh4 hb04 hbw4 hI4 hl4 hR4 HC1 l0 l1 l2 l3 l4 l5 l6
    rw [← unhide HE4] at m0 m1 m2 m3 m4 m5 m6
    go_wp2_with fail
    rw [unhide HE4]
    refine (unhide HC2).mono ?_
    rintro e w5 ⟨r, rfl, hb5, hI5⟩
    have hI5w := hI5
    obtain ⟨z0, z2, z1, z3, b4, b5, b6, q4, q5, q6, e4, e5, e6, rfl⟩ := isT_seven hI5
    obtain ⟨w6, ee6, hb6, hs6, hc6, hh6⟩ := box_new w5 #[.int .i64 z0, .string z1, .int .i64 z2, .string z3, .slice b4 q4 e4, .slice b5 q5 e5, .slice b6 q6 e6] 25
    have hb46 : Below w4.heap.size w4 w6 := hb5.trans (hb6.mono hb5.size)
    obtain ⟨⟨n0, n1, n2, n3, n4', n5', n6'⟩, hX⟩ := unhide HX w6 hb46
    have p0 := hc6 0 _ rfl
    have p1 := hc6 1 _ rfl
    have p2 := hc6 2 _ rfl
    have p3 := hc6 3 _ rfl
    have p4 := hc6 4 _ rfl
    have p5 := hc6 5 _ rfl
    have p6 := hc6 6 _ rfl
    have HS := hide (sm_any 700 w6.heap.size _ _ U1 U2 w6 hX (hI5w.more hb6 (by omega) (Nat.le_refl _)) (Nat.le_refl _) (unhide HSm).2)
    have HE6 := hide ee6
    have HB6 := hide ((unhide HB4).trans (hb46.mono (unhide HB4).size))
    clear hb5 hI5 hI5w ee6 hb6 hs6 hc6 hh6 hb46 hX HC2 m0 m1 m2 m3 m4 m5 m6
    rw [← unhide HE6] at n0 n1 n2 n3 n4' n5' n6' p0 p1 p2 p3 p4 p5 p6
    go_wp2_with fail
    rw [unhide HE6]
    refine (unhide HS).mono ?_
    rintro e w7 ⟨rfl, hb7⟩
    have HB7 := hide ((unhide HB6).trans (hb7.mono (unhide HB6).size))
    obtain ⟨hE0, hE34⟩ := (unhide HSm).1
    have HBW7 := hide (unhide HAll w7 (unhide HB7)).2.1
    clear hb7 HS n0 n1 n2 n3 n4' n5' n6' p0 p1 p2 p3 p4 p5 p6
    go_wp2
    go_ret
    exact ⟨rfl, unhide HBW7⟩
end Go.Proofs.YtegmckpcchhmdaaDoor
