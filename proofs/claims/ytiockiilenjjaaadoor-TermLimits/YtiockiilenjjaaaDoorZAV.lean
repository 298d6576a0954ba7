/- TermLimits: the region that makes its formula. -/
import Derived.Test.YtiockiilenjjaaaDoorZAU
import Derived.Test.YtiockiilenjjaaaDoorRows
import Derived.Lib.LaidTab
import Derived.MakeChecks
import Derived.ChangeArms
import Derived.FnData
set_option linter.unusedVariables false
set_option linter.unusedSimpArgs false

/- known. -/
namespace Go.Proofs.YtiockiilenjjaaaDoor
open Go Go.RowKit
theorem lit93 {a : Act} (hn : a.tmps.size = 93) (hd : a.defers = []) : ∃ u : Nat → Value, a = ⟨#[u 0, u 1, u 2, u 3, u 4, u 5, u 6, u 7, u 8, u 9, u 10, u 11, u 12, u 13, u 14, u 15, u 16, u 17, u 18, u 19, u 20, u 21, u 22, u 23, u 24, u 25, u 26, u 27, u 28, u 29, u 30, u 31, u 32, u 33, u 34, u 35, u 36, u 37, u 38, u 39, u 40, u 41, u 42, u 43, u 44, u 45, u 46, u 47, u 48, u 49, u 50, u 51, u 52, u 53, u 54, u 55, u 56, u 57, u 58, u 59, u 60, u 61, u 62, u 63, u 64, u 65, u 66, u 67, u 68, u 69, u 70, u 71, u 72, u 73, u 74, u 75, u 76, u 77, u 78, u 79, u 80, u 81, u 82, u 83, u 84, u 85, u 86, u 87, u 88, u 89, u 90, u 91, u 92], []⟩ ∧ ∀ k, u k = a.tmps.getD k undef := by
  obtain ⟨tmps, dfr⟩ := a
  have hd' : dfr = [] := hd
  subst hd'
  have hl := arr_lit (show tmps.size = 93 from hn)
  have e : ((List.range 93).map fun i => tmps.getD i undef).toArray = #[tmps.getD 0 undef, tmps.getD 1 undef, tmps.getD 2 undef, tmps.getD 3 undef, tmps.getD 4 undef, tmps.getD 5 undef, tmps.getD 6 undef, tmps.getD 7 undef, tmps.getD 8 undef, tmps.getD 9 undef, tmps.getD 10 undef, tmps.getD 11 undef, tmps.getD 12 undef, tmps.getD 13 undef, tmps.getD 14 undef, tmps.getD 15 undef, tmps.getD 16 undef, tmps.getD 17 undef, tmps.getD 18 undef, tmps.getD 19 undef, tmps.getD 20 undef, tmps.getD 21 undef, tmps.getD 22 undef, tmps.getD 23 undef, tmps.getD 24 undef, tmps.getD 25 undef, tmps.getD 26 undef, tmps.getD 27 undef, tmps.getD 28 undef, tmps.getD 29 undef, tmps.getD 30 undef, tmps.getD 31 undef, tmps.getD 32 undef, tmps.getD 33 undef, tmps.getD 34 undef, tmps.getD 35 undef, tmps.getD 36 undef, tmps.getD 37 undef, tmps.getD 38 undef, tmps.getD 39 undef, tmps.getD 40 undef, tmps.getD 41 undef, tmps.getD 42 undef, tmps.getD 43 undef, tmps.getD 44 undef, tmps.getD 45 undef, tmps.getD 46 undef, tmps.getD 47 undef, tmps.getD 48 undef, tmps.getD 49 undef, tmps.getD 50 undef, tmps.getD 51 undef, tmps.getD 52 undef, tmps.getD 53 undef, tmps.getD 54 undef, tmps.getD 55 undef, tmps.getD 56 undef, tmps.getD 57 undef, tmps.getD 58 undef, tmps.getD 59 undef, tmps.getD 60 undef, tmps.getD 61 undef, tmps.getD 62 undef, tmps.getD 63 undef, tmps.getD 64 undef, tmps.getD 65 undef, tmps.getD 66 undef, tmps.getD 67 undef, tmps.getD 68 undef, tmps.getD 69 undef, tmps.getD 70 undef, tmps.getD 71 undef, tmps.getD 72 undef, tmps.getD 73 undef, tmps.getD 74 undef, tmps.getD 75 undef, tmps.getD 76 undef, tmps.getD 77 undef, tmps.getD 78 undef, tmps.getD 79 undef, tmps.getD 80 undef, tmps.getD 81 undef, tmps.getD 82 undef, tmps.getD 83 undef, tmps.getD 84 undef, tmps.getD 85 undef, tmps.getD 86 undef, tmps.getD 87 undef, tmps.getD 88 undef, tmps.getD 89 undef, tmps.getD 90 undef, tmps.getD 91 undef, tmps.getD 92 undef] := rfl
  rw [e] at hl
  refine ⟨fun i => tmps.getD i undef, ?_, fun _ => rfl⟩
  congr 1
theorem TmAt.seven {w : World} {B d b : Nat} {t : Tm} (h : TmAt w B (d + 1) b 0 t) : b < B ∧ ∃ (a4 a5 a6 : Option Addr) (c4 c5 c6 : Nat), (∀ (k : Nat) v, (tcells t a4 a5 a6 c4 c5 c6)[k]? = some v → w.cell? ⟨b, k, none⟩ = some v) ∧ IsT w B d (.agg (tcells t a4 a5 a6 c4 c5 c6).toArray) t := by
  obtain ⟨h0, h1, h2, aL, aV, aP, cL, cV, cP, hr, hL, hV, hP, _⟩ := h
  refine ⟨h0, aL, aV, aP, cL, cV, cP, fun k v hv => ?_, h1, h2, aL, aV, aP, cL, cV, cP, rfl, hL, hV, hP⟩
  have := hr k v hv
  rw [Nat.zero_add] at this
  exact this
theorem ok_known {P : ByteArray → Prop} (h : P ⟨#[48]⟩) : OkT P 5 tAll := by
  have hx : OkT P 2 tX := ⟨fun h => absurd h (by decide), by decide, by simp [tX], by rw [sz_tX]; omega, by rw [dp_tX]; omega, by simp [tX], by simp [tX]⟩
  have hx3 : OkT P 1 tX := ⟨fun h => absurd h (by decide), by decide, by simp [tX], by rw [sz_tX]; omega, by rw [dp_tX]; omega, by simp [tX], by simp [tX]⟩
  have h03 : OkT P 3 t0 := ⟨fun _ => h, by decide, by simp [t0], by rw [sz_t0]; omega, by rw [dp_t0]; omega, by simp [t0], by simp [t0]⟩
  have hf3 : OkT P 3 tFX := ⟨fun h => absurd h (by decide), by decide, by simp [tFX], by rw [sz_tFX]; omega, by rw [dp_tFX]; omega, fun u hu => by rw [List.mem_singleton.1 hu]; exact hx, by simp [tFX]⟩
  have hf4 : OkT P 4 tFX := ⟨fun h => absurd h (by decide), by decide, by simp [tFX], by rw [sz_tFX]; omega, by rw [dp_tFX]; omega, fun u hu => by
    rw [List.mem_singleton.1 hu]
    exact ⟨fun h => absurd h (by decide), by decide, by simp [tX], by rw [sz_tX]; omega, by rw [dp_tX]; omega, by simp [tX], by simp [tX]⟩, by simp [tFX]⟩
  have hle : OkT P 4 tLe := ⟨fun h => absurd h (by decide), by decide, by simp [tLe], by rw [sz_tLe]; omega, by rw [dp_tLe]; omega, fun u hu => by
    have hu' : u = t0 ∨ u = tFX := by simpa [tLe] using hu
    rcases hu' with rfl | rfl
    · exact h03
    · exact hf3, by simp [tLe]⟩
  exact ⟨fun h => absurd h (by decide), by decide, fun v hv => by rw [List.mem_singleton.1 hv]; decide, by rw [sz_tAll]; omega, by rw [dp_tAll]; omega, fun u hu => by rw [List.mem_singleton.1 hu]; exact hle, fun u hu => by rw [List.mem_singleton.1 hu]; exact hf4⟩
set_option maxRecDepth 1000000 in
set_option maxHeartbeats 16000000 in
theorem known_any {w : World} (hR : RL w) (h0 : 0 < w.heap.size) : Calls Tryd.prog 12 #[] w (VPost (.bool true) w) := by
  obtain ⟨X, eX, hbX, hsX, hcX, hhX⟩ := box_new w xC 26
  have HX := hide (And.intro hbX (And.intro hsX hhX))
  have HE := hide eX
  have HR := hide hR
  clear hbX hsX hcX hhX eX hR
  go_enter Tryd.func12, Tryd.ntmps12
  go_wp2_with fail
  rw [show w.alloc (.cells #[.int .i64 18, .string { data := #[120] }, .int .i64 1, .string { data := #[] }, .slice none 0 0, .slice none 0 0, .slice none 0 0] 26) = X from unhide HE]
  refine known_r2 (b1 := w.heap.size) rfl rfl (unhide HX).2.2 ?_
  intro a2 w2 hd2 hn2 _ hJ2
  obtain ⟨u, rfl, hu⟩ := lit93 hn2 hd2
  obtain ⟨r2, e2, hr2, hb2, hT2⟩ := hJ2
  have u2 : u 2 = .pointer (some ⟨r2, 0, none⟩) := (hu 2).trans e2
  rw [u2]
  obtain ⟨hlt2, a4, a5, a6, c4, c5, c6, hc2, hI2⟩ := hT2.seven
  have hb02 : Below w.heap.size w w2 := (unhide HX).1.trans (hb2.mono (by have := (unhide HX).2.1; omega))
  have f2 : ∀ x y, (((w2.alloc x).alloc y).cell? ⟨r2, 0, none⟩ = some (.int .i64 19) ∧ ((w2.alloc x).alloc y).cell? ⟨r2, 1, none⟩ = some (.string ⟨#[]⟩) ∧ ((w2.alloc x).alloc y).cell? ⟨r2, 2, none⟩ = some (.int .i64 0) ∧ ((w2.alloc x).alloc y).cell? ⟨r2, 3, none⟩ = some (.string ⟨#[]⟩) ∧ ((w2.alloc x).alloc y).cell? ⟨r2, 4, none⟩ = some (.slice a4 1 c4) ∧ ((w2.alloc x).alloc y).cell? ⟨r2, 5, none⟩ = some (.slice a5 1 c5) ∧ ((w2.alloc x).alloc y).cell? ⟨r2, 6, none⟩ = some (.slice a6 1 c6)) := fun x y => by
    have hb := ((Below.refl w2.heap.size w2).alloc (Nat.le_refl _) x).alloc (by simp) y
    exact ⟨(hb.cell (p := ⟨r2, 0, none⟩) hlt2).trans (hc2 0 _ rfl), (hb.cell (p := ⟨r2, 1, none⟩) hlt2).trans (hc2 1 _ rfl), (hb.cell (p := ⟨r2, 2, none⟩) hlt2).trans (hc2 2 _ rfl), (hb.cell (p := ⟨r2, 3, none⟩) hlt2).trans (hc2 3 _ rfl), (hb.cell (p := ⟨r2, 4, none⟩) hlt2).trans (hc2 4 _ rfl), (hb.cell (p := ⟨r2, 5, none⟩) hlt2).trans (hc2 5 _ rfl), (hb.cell (p := ⟨r2, 6, none⟩) hlt2).trans (hc2 6 _ rfl)⟩
  have g0 := fun x y => (f2 x y).1
  have g1 := fun x y => (f2 x y).2.1
  have g2 := fun x y => (f2 x y).2.2.1
  have g3 := fun x y => (f2 x y).2.2.2.1
  have g4 := fun x y => (f2 x y).2.2.2.2.1
  have g5 := fun x y => (f2 x y).2.2.2.2.2.1
  have g6 := fun x y => (f2 x y).2.2.2.2.2.2
  obtain ⟨Y, eY, hbY, hsY, hcY, hhY⟩ := box_new w2 #[.int .i64 1] 3
  obtain ⟨Z, eZ, hbZ, hsZ, hcZ, hhZ⟩ := box_new Y #[.string bF, .slice (some ⟨w2.heap.size, 0, none⟩) 1 1, .int .i64 1] 56
  have hb2Z : Below w2.heap.size w2 Z := hbY.trans (hbZ.mono (by omega))
  have hRZ : RL Z := (unhide HR).below (hb02.trans (hb2Z.mono hb02.size)) h0
  have hIZ : IsT Z Z.heap.size 4 (.agg #[.int .i64 19, .string ⟨#[]⟩, .int .i64 0, .string ⟨#[]⟩, .slice a4 1 c4, .slice a5 1 c5, .slice a6 1 c6]) tAll := (hI2.more hb2Z hb2Z.size (by omega))
  have hSig : Row Z.heap.size (some ⟨w2.heap.size + 1, 0, none⟩) 1 1 3 (SigR Z Z.heap.size sigF) := by
    refine ⟨Nat.le_refl _, by omega, fun _ => ⟨w2.heap.size + 1, 0, rfl, by omega, fun j hj f hf => ?_⟩⟩
    have hj0 : j = 0 := by omega
    subst hj0
    have hf' : f = ⟨bF, [1], 1⟩ := by simpa [sigF] using hf.symm
    subst hf'
    have hh : Z.heap[w2.heap.size + 1]? = some (.cells [.string bF, .slice (some ⟨w2.heap.size, 0, none⟩) 1 1, .int .i64 1].toArray 56) := by rw [← hsY]; exact hhZ
    refine ⟨some ⟨w2.heap.size, 0, none⟩, 1, range_block hh, (show fits 1 by unfold fits; omega), Nat.le_refl _, by simp, fun _ => ⟨w2.heap.size, 0, rfl, by omega, fun i hi x hx => ?_⟩⟩
    have hi0 : i = 0 := by simp at hi; omega
    subst hi0
    have hx' : x = 1 := by simpa using hx.symm
    subst hx'
    have hh2 : Z.heap[w2.heap.size]? = some (.cells #[.int .i64 1] 3) := (hbZ.block _ (by omega)).trans hhY
    exact ⟨(blk hh2).2.1 0 _ rfl, show fits 1 by unfold fits; omega⟩
  have HCk := hide (Check_any (rt := rtT) (B := Z.heap.size) (d := 4) (sig := sigF) hIZ hSig rfl (Nat.le_refl _) (by omega) hRZ (ok_known (pc_digit 48 (by decide))) (by rw [wt_tAll]; omega))
  rw [c_chk] at HCk
  have HEY := hide (And.intro eY eZ)
  have H2 := hide (And.intro hb02 (And.intro hT2 (And.intro hb2Z (And.intro hc2 hlt2))))
  clear hd2 hn2 hu e2 hr2 hb2 hT2 hlt2 hc2 hI2 hb02 f2 hbY hsY hcY hhY hbZ hsZ hcZ hhZ hb2Z hRZ hIZ hSig eY eZ u2
  go_wp2_with fail
  rw [show w2.alloc (.cells #[.int .i64 1] 3) = Y from (unhide HEY).1, show Y.alloc (.cells #[.string { data := #[102] }, .slice (some ⟨w2.heap.size, 0, none⟩) 1 1, .int .i64 1] 56) = Z from (unhide HEY).2]
  refine (unhide HCk).mono ?_
  rintro e w3 ⟨rfl, hb3⟩
  obtain ⟨hb02, hT2, hb2Z, hc2, hlt2⟩ := unhide H2
  have hb23 : Below w2.heap.size w2 w3 := hb2Z.trans (hb3.mono hb2Z.size)
  have hT3 := hT2.more hb23 hb23.size (Nat.le_refl _)
  have H3 := hide (And.intro (hb02.trans (hb23.mono hb02.size)) hb23)
  clear hb02 hT2 hb2Z hc2 hlt2 hb23 hb3 g0 g1 g2 g3 g4 g5 g6
  unfold pairV
  go_wp2_with fail
  refine known_r5 (b2 := r2) rfl rfl hT3 ?_
  intro a5 w5 hd5 hn5 hk5 hu7 hJ5
  obtain ⟨v, rfl, hv⟩ := lit93 hn5 hd5
  obtain ⟨r6, e6, hr6, hb5, hT5⟩ := hJ5
  have v6 : v 6 = .pointer (some ⟨r6, 0, none⟩) := (hv 6).trans e6
  have v7 : v 7 = .int .i64 0 := (hv 7).trans hu7
  have v2 : v 2 = .pointer (some ⟨r2, 0, none⟩) := Option.some.inj (hk5 2 (by decide))
  have v4 : v 4 = .int .i64 2 := Option.some.inj (hk5 4 (by decide))
  have v5 : v 5 = .int .i64 0 := Option.some.inj (hk5 5 (by decide))
  rw [v2, v4, v5, v6, v7]
  have hT25 := hT3.more hb5 hb5.size (Nat.le_refl _)
  obtain ⟨hlt2, a4, a5, a6, c4, c5, c6, hc2, hI2⟩ := hT25.seven
  obtain ⟨hlt6, b4, b5, b6, d4, d5, d6, hc6, hI6⟩ := hT5.seven
  have hb05 : Below w.heap.size w w5 := (unhide H3).1.trans (hb5.mono (unhide H3).1.size)
  have HC : Hid (∀ W, Below w5.heap.size w5 W → ((W.cell? ⟨r2, 0, none⟩ = some (.int .i64 19) ∧ W.cell? ⟨r2, 1, none⟩ = some (.string ⟨#[]⟩) ∧ W.cell? ⟨r2, 2, none⟩ = some (.int .i64 0) ∧ W.cell? ⟨r2, 3, none⟩ = some (.string ⟨#[]⟩) ∧ W.cell? ⟨r2, 4, none⟩ = some (.slice a4 1 c4) ∧ W.cell? ⟨r2, 5, none⟩ = some (.slice a5 1 c5) ∧ W.cell? ⟨r2, 6, none⟩ = some (.slice a6 1 c6)) ∧ (W.cell? ⟨r6, 0, none⟩ = some (.int .i64 10) ∧ W.cell? ⟨r6, 1, none⟩ = some (.string ⟨#[]⟩) ∧ W.cell? ⟨r6, 2, none⟩ = some (.int .i64 0) ∧ W.cell? ⟨r6, 3, none⟩ = some (.string ⟨#[]⟩) ∧ W.cell? ⟨r6, 4, none⟩ = some (.slice b4 2 d4) ∧ W.cell? ⟨r6, 5, none⟩ = some (.slice b5 0 d5) ∧ W.cell? ⟨r6, 6, none⟩ = some (.slice b6 0 d6)) ∧ IsT W W.heap.size 4 (.agg #[.int .i64 19, .string ⟨#[]⟩, .int .i64 0, .string ⟨#[]⟩, .slice a4 1 c4, .slice a5 1 c5, .slice a6 1 c6]) tAll ∧ IsT W W.heap.size 6 (.agg #[.int .i64 10, .string ⟨#[]⟩, .int .i64 0, .string ⟨#[]⟩, .slice b4 2 d4, .slice b5 0 d5, .slice b6 0 d6]) tR ∧ RL W ∧ Below w.heap.size w W)) := fun W hb => by
    refine ⟨⟨(hb.cell (p := ⟨r2, 0, none⟩) hlt2).trans (hc2 0 _ rfl), (hb.cell (p := ⟨r2, 1, none⟩) hlt2).trans (hc2 1 _ rfl), (hb.cell (p := ⟨r2, 2, none⟩) hlt2).trans (hc2 2 _ rfl), (hb.cell (p := ⟨r2, 3, none⟩) hlt2).trans (hc2 3 _ rfl), (hb.cell (p := ⟨r2, 4, none⟩) hlt2).trans (hc2 4 _ rfl), (hb.cell (p := ⟨r2, 5, none⟩) hlt2).trans (hc2 5 _ rfl), (hb.cell (p := ⟨r2, 6, none⟩) hlt2).trans (hc2 6 _ rfl)⟩, ⟨(hb.cell (p := ⟨r6, 0, none⟩) hlt6).trans (hc6 0 _ rfl), (hb.cell (p := ⟨r6, 1, none⟩) hlt6).trans (hc6 1 _ rfl), (hb.cell (p := ⟨r6, 2, none⟩) hlt6).trans (hc6 2 _ rfl), (hb.cell (p := ⟨r6, 3, none⟩) hlt6).trans (hc6 3 _ rfl), (hb.cell (p := ⟨r6, 4, none⟩) hlt6).trans (hc6 4 _ rfl), (hb.cell (p := ⟨r6, 5, none⟩) hlt6).trans (hc6 5 _ rfl), (hb.cell (p := ⟨r6, 6, none⟩) hlt6).trans (hc6 6 _ rfl)⟩, hI2.more hb hb.size (by omega), hI6.more hb hb.size (by omega), (unhide HR).below (hb05.trans (hb.mono hb05.size)) h0, hb05.trans (hb.mono hb05.size)⟩
  have HZ := hide (show 0 < w5.heap.size by omega)
  clear hd5 hn5 hk5 hu7 hv e6 hr6 hb5 hT5 hT25 hlt2 hc2 hI2 hlt6 hc6 hI6 hb05 hT3 v2 v4 v5 v6 v7 H3 H2 HCk
  obtain ⟨⟨p0a, p1a, p2a, p3a, p4a, p5a, p6a⟩, ⟨q0a, q1a, q2a, q3a, q4a, q5a, q6a⟩, IAa, IRa, RLa, _⟩ := unhide HC w5 (Below.refl _ w5)
  have HK := hide (Check_any (rt := rtT) (B := w5.heap.size) (d := 4) (sig := []) IAa (row_nil (k := 3)) rfl (Nat.le_refl _) (unhide HZ) RLa (ok_known (pc_digit 48 (by decide))) (by rw [wt_tAll]; omega))
  rw [c_chk0] at HK
  clear IAa IRa RLa
  go_wp2_with fail
  refine (unhide HK).mono ?_
  rintro e w6 ⟨rfl, hb9⟩
  have hb : Below w5.heap.size w5 w6 := hb9
  clear p0a q0a p1a q1a p2a q2a p3a q3a p4a q4a p5a q5a p6a q6a
  obtain ⟨⟨p0b, p1b, p2b, p3b, p4b, p5b, p6b⟩, ⟨q0b, q1b, q2b, q3b, q4b, q5b, q6b⟩, IAb, IRb, RLb, _⟩ := unhide HC w6 hb
  have HK := hide (Text_any (B := w6.heap.size) (d := 6) IRb (Nat.le_refl _) (by have := hb.size; have := unhide HZ; omega) RLb (by omega) (by rw [tx_tR]; decide))
  rw [tx_tR] at HK
  have HBB := hide hb
  clear IAb IRb RLb hb hb9
  unfold pairV
  go_wp2_with fail
  refine (unhide HK).mono ?_
  rintro e w7 ⟨rfl, hb9⟩
  have hb : Below w5.heap.size w5 w7 := (unhide HBB).trans (hb9.mono (unhide HBB).size)
  clear p0b q0b p1b q1b p2b q2b p3b q3b p4b q4b p5b q5b p6b q6b
  obtain ⟨⟨p0c, p1c, p2c, p3c, p4c, p5c, p6c⟩, ⟨q0c, q1c, q2c, q3c, q4c, q5c, q6c⟩, IAc, IRc, RLc, _⟩ := unhide HC w7 hb
  have HK := hide (Text_any (B := w7.heap.size) (d := 4) IAc (Nat.le_refl _) (by have := hb.size; have := unhide HZ; omega) RLc (by omega) (by rw [tx_tAll]; decide))
  rw [tx_tAll] at HK
  have HBB := hide hb
  clear IAc IRc RLc hb hb9
  go_wp2_with fail
  refine (unhide HK).mono ?_
  rintro e w8 ⟨rfl, hb9⟩
  have hb : Below w5.heap.size w5 w8 := (unhide HBB).trans (hb9.mono (unhide HBB).size)
  clear p0c q0c p1c q1c p2c q2c p3c q3c p4c q4c p5c q5c p6c q6c
  obtain ⟨⟨p0d, p1d, p2d, p3d, p4d, p5d, p6d⟩, ⟨q0d, q1d, q2d, q3d, q4d, q5d, q6d⟩, IAd, IRd, RLd, _⟩ := unhide HC w8 hb
  have HK := hide (Ground_any (B := w8.heap.size) (d := 4) IAd (Nat.le_refl _) (by rw [sz_tAll]; omega) (by rw [dp_tAll]; omega))
  rw [gr_tAll] at HK
  have HBB := hide hb
  clear IAd IRd RLd hb hb9
  go_wp2_with fail
  refine (unhide HK).mono ?_
  rintro e w9 ⟨rfl, hb9⟩
  have hb : Below w5.heap.size w5 w9 := (unhide HBB).trans (hb9.mono (unhide HBB).size)
  clear p0d q0d p1d q1d p2d q2d p3d q3d p4d q4d p5d q5d p6d q6d
  obtain ⟨⟨p0e, p1e, p2e, p3e, p4e, p5e, p6e⟩, ⟨q0e, q1e, q2e, q3e, q4e, q5e, q6e⟩, IAe, IRe, RLe, _⟩ := unhide HC w9 hb
  have HK := hide (Ground_any (B := w9.heap.size) (d := 6) IRe (Nat.le_refl _) (by rw [sz_tR]; omega) (by rw [dp_tR]; omega))
  rw [gr_tR] at HK
  have HBB := hide hb
  clear IAe IRe RLe hb hb9
  go_wp2_with fail
  refine (unhide HK).mono ?_
  rintro e w10 ⟨rfl, hb9⟩
  have hb : Below w5.heap.size w5 w10 := (unhide HBB).trans (hb9.mono (unhide HBB).size)
  clear p0e q0e p1e q1e p2e q2e p3e q3e p4e q4e p5e q5e p6e q6e
  obtain ⟨⟨p0f, p1f, p2f, p3f, p4f, p5f, p6f⟩, ⟨q0f, q1f, q2f, q3f, q4f, q5f, q6f⟩, IAf, IRf, RLf, _⟩ := unhide HC w10 hb
  have HK := hide (Apps_any (B := w10.heap.size) (d := 6) IRf (Nat.le_refl _) (by omega) (by rw [sz_tR]; omega) (by rw [c_apps]; unfold szs; simp only [List.map_cons, List.map_nil, sz_tF3]; decide) (by rw [wt_tR]; omega))
  rw [c_apps] at HK
  have HBB := hide hb
  clear IAf IRf RLf hb hb9
  go_wp2_with fail
  refine (unhide HK).mono ?_
  rintro e w11 ⟨aa, ca, rfl, _, hb9⟩
  have hb : Below w5.heap.size w5 w11 := (unhide HBB).trans (hb9.mono (unhide HBB).size)
  clear p0f q0f p1f q1f p2f q2f p3f q3f p4f q4f p5f q5f p6f q6f
  obtain ⟨⟨p0g, p1g, p2g, p3g, p4g, p5g, p6g⟩, ⟨q0g, q1g, q2g, q3g, q4g, q5g, q6g⟩, IAg, IRg, RLg, _⟩ := unhide HC w11 hb
  have HK := hide (Size_any (B := w11.heap.size) (d := 6) IRg (Nat.le_refl _) (by rw [sz_tR]; omega) (by rw [dp_tR]; omega))
  rw [sz_tR] at HK
  have HBB := hide hb
  clear IAg IRg RLg hb hb9
  go_wp2_with fail
  refine (unhide HK).mono ?_
  rintro e w12 ⟨rfl, hb9⟩
  have hb : Below w5.heap.size w5 w12 := (unhide HBB).trans (hb9.mono (unhide HBB).size)
  clear p0g q0g p1g q1g p2g q2g p3g q3g p4g q4g p5g q5g p6g q6g
  obtain ⟨⟨p0h, p1h, p2h, p3h, p4h, p5h, p6h⟩, ⟨q0h, q1h, q2h, q3h, q4h, q5h, q6h⟩, IAh, IRh, RLh, _⟩ := unhide HC w12 hb
  have HK := hide (Depth_any (B := w12.heap.size) (d := 6) IRh (Nat.le_refl _) (by rw [sz_tR]; omega) (by rw [dp_tR]; omega))
  rw [dp_tR] at HK
  have HBB := hide hb
  clear IAh IRh RLh hb hb9
  go_wp2_with fail
  refine (unhide HK).mono ?_
  rintro e w13 ⟨rfl, hb9⟩
  have hb : Below w5.heap.size w5 w13 := (unhide HBB).trans (hb9.mono (unhide HBB).size)
  obtain ⟨_, _, _, _, _, hfin⟩ := unhide HC w13 hb
  have HFin := hide hfin
  clear hb hb9 hfin HC
  clear p0h q0h p1h q1h p2h q2h p3h q3h p4h q4h p5h q5h p6h q6h
  go_wp2
  go_ret
  exact ⟨rfl, unhide HFin⟩
end Go.Proofs.YtiockiilenjjaaaDoor

/- TermWords: its walk. -/
namespace Go.Proofs.YtiockiilenjjaaaDoor
open Go Go.RowKit
/-- A place among n, of any number. -/
def plc (k n : Int) : Int := if Int.tmod k n < 0 then Int.tmod k n + n else Int.tmod k n
theorem tmod_lt {k n : Int} (hn : 0 < n) : -n < Int.tmod k n ∧ Int.tmod k n < n := by
  have h1 := Int.tmod_lt_of_pos k hn
  have h2 : Int.tmod (-k) n < n := Int.tmod_lt_of_pos (-k) hn
  rw [Int.neg_tmod] at h2
  omega
theorem plc_in (k : Int) {n : Int} (hn : 0 < n) : 0 ≤ plc k n ∧ plc k n < n := by
  have h := tmod_lt (k := k) hn
  unfold plc
  split <;> omega
set_option maxRecDepth 100000 in
set_option maxHeartbeats 4000000 in
theorem place_any (k n : Int) (w : World) (hn : 0 < n) (hn2 : n ≤ 1000000000) : Calls Tryd.prog 30 #[.int .i64 k, .int .i64 n] w fun e w' => e = .returned (.int .i64 (plc k n)) ∧ w' = w := by
  have hr := tmod_lt (k := k) hn
  have n0 : ¬ n = 0 := by omega
  have n1 : (n == 0) = false := by simpa using n0
  have e1 : IntKind.i64.wrap (Int.tmod k n) = Int.tmod k n := by rw [IntKind.wrap_i64]; omega
  by_cases h : Int.tmod k n < 0
  · have hp : Hid (plc k n = Int.tmod k n + n) := if_pos h
    have e2 : IntKind.i64.wrap (Int.tmod k n + n) = Int.tmod k n + n := by rw [IntKind.wrap_i64]; omega
    rw [unhide hp]
    go_enter Tryd.func30, Tryd.ntmps30
    go_wp2
    go_ret
    exact ⟨rfl, rfl⟩
  · have hp : Hid (plc k n = Int.tmod k n) := if_neg h
    have hd : decide (Int.tmod k n < 0) = false := by simp; omega
    rw [unhide hp]
    go_enter Tryd.func30, Tryd.ntmps30
    go_wp2
    go_ret
    exact ⟨rfl, rfl⟩
def tA (s : ByteArray) : Tm := ⟨17, s, 0, .empty, [], [], []⟩
theorem sz_tA (s : ByteArray) : (tA s).size = 1 := by rw [Tm.size_eq]; rfl
theorem dp_tA (s : ByteArray) : (tA s).depth = 1 := by rw [Tm.depth_eq]; rfl
theorem wt_tA (s : ByteArray) : (tA s).wt = 1 := by rw [Tm.wt_eq]; rfl
theorem c_app (s : ByteArray) : (tA s).check rtT [⟨s, [], 1⟩] = if wordB s then (1, 0) else (0, 30) := by
  have hlim : limE (tA s) = 0 := by unfold limE; rw [dp_tA, sz_tA]; rfl
  unfold Tm.check
  rw [hlim]
  simp only [ne_eq, not_true_eq_false, if_false]
  rw [Tm.chk_eq]
  have hf : findF s [⟨s, [], 1⟩] = some ⟨s, [], 1⟩ := by simp [findF]
  by_cases h : wordB s = true
  · have hs : shapeE rtT [⟨s, [], 1⟩] (tA s).op (tA s).name (tA s).num (tA s).l.length (headOp (tA s).l) (tA s).vars (tA s).pat.length = 0 := by
      show appE [⟨s, [], 1⟩] s 0 = 0
      unfold appE
      rw [h, hf]
      rfl
    rw [hs, if_pos h]
    show (match sortOfT [⟨s, [], 1⟩] 17 s [] with | some s => ((s, 0) : Int × Int) | none => (0, 31)) = (1, 0)
    have : sortOfT [⟨s, [], 1⟩] 17 s [] = some 1 := by
      unfold sortOfT
      rw [if_pos rfl, hf]
      rfl
    rw [this]
  · have hs : shapeE rtT [⟨s, [], 1⟩] (tA s).op (tA s).name (tA s).num (tA s).l.length (headOp (tA s).l) (tA s).vars (tA s).pat.length = 30 := by
      show appE [⟨s, [], 1⟩] s 0 = 30
      unfold appE
      rw [if_neg h]
    rw [hs, if_neg h]
    rfl
/-- So many w. -/
def ws (n : Nat) : ByteArray := ⟨(List.replicate n 119).toArray⟩
theorem ws_size (n : Nat) : (ws n).size = n := by simp [ws, ByteArray.size]
theorem ws_succ (n : Nat) : ws (n + 1) = ws n ++ ⟨#[119]⟩ := by
  unfold ws
  apply ByteArray.ext
  apply Array.ext'
  simp [List.replicate_succ', ByteArray.data_append]
theorem ws_word (n : Nat) (h : 39 ≤ n) : wordB (ws n) = decide (n ≤ 40) := by
  have hr : isRes (ws n) = false := by
    have hl : ∀ l : List UInt8, l.length ≤ 38 → ((ws n).toList == l) = false := fun l hl => by
      rw [ByteArray.toList_eq, beq_eq_false_iff_ne]
      intro e
      have := congrArg List.length e
      simp [ws] at this
      omega
    unfold isRes
    simp [hl]
  unfold wordB
  rw [hr, ws_size]
  have ha : ((List.range n).all fun i => letB (byteOf (ws n) i) || (digB (byteOf (ws n) i) && !(i == 0))) = true := by
    rw [List.all_eq_true]
    intro i hi
    have hin : i < n := List.mem_range.1 hi
    have hb : byteOf (ws n) i = 119 := by
      unfold byteOf ws
      simp [List.getD_eq_getElem?_getD, List.getElem?_replicate, hin]
    rw [hb]
    rfl
  rw [ha]
  have : decide (0 < n) = true := by simp; omega
  rw [this]
  simp
end Go.Proofs.YtiockiilenjjaaaDoor

/- TermWords: its walk. -/
namespace Go.Proofs.YtiockiilenjjaaaDoor
open Go Go.RowKit
/-- Check of a name's application, with that name alone. -/
theorem check_name (s : ByteArray) (hs : s.size ≤ 9223372036854775807) {W : World} (hR : RL W) (h0 : 0 < W.heap.size) {g : Nat} (hg : W.heap[g]? = some (.cells #[.string s, .slice none 0 0, .int .i64 1] 56)) :
    Calls Tryd.prog 14 #[.slice (some ⟨g, 0, none⟩) 1 1, .agg #[.int .i64 17, .string s, .int .i64 0, .string .empty, .slice none 0 0, .slice none 0 0, .slice none 0 0]] W (VPost (.tuple #[.int .i64 (if wordB s then 1 else 0), .int .i64 (if wordB s then 0 else 30)]) W) := by
  have hlt := (Array.getElem?_eq_some_iff.1 hg).1
  have hI : IsT W W.heap.size 0 (.agg #[.int .i64 17, .string s, .int .i64 0, .string .empty, .slice none 0 0, .slice none 0 0, .slice none 0 0]) (tA s) := IsT.mk (t := tA s) (show fits 17 by unfold fits; omega) (show fits 0 by unfold fits; omega) row_nil row_nil row_nil
  have hSig : Row W.heap.size (some ⟨g, 0, none⟩) 1 1 3 (SigR W W.heap.size [⟨s, [], 1⟩]) := by
    refine ⟨Nat.le_refl _, by omega, fun _ => ⟨g, 0, rfl, hlt, fun j hj f hf => ?_⟩⟩
    have hj0 : j = 0 := by omega
    subst hj0
    have hf' : f = ⟨s, [], 1⟩ := by simpa using hf.symm
    subst hf'
    have hh : W.heap[g]? = some (.cells [.string s, .slice none 0 0, .int .i64 1].toArray 56) := hg
    exact ⟨none, 0, range_block hh, (show fits 1 by unfold fits; omega), row_nil⟩
  have h := Check_any (rt := rtT) (B := W.heap.size) (d := 0) (sig := [⟨s, [], 1⟩]) hI hSig rfl (Nat.le_refl _) h0 hR ⟨fun h => absurd h (show ¬ (17 : Int) = 1 by decide), hs, by simp [tA], by rw [sz_tA]; omega, by rw [dp_tA]; omega, by simp [tA], by simp [tA]⟩ (by rw [wt_tA]; omega)
  rw [c_app] at h
  have e : pairV (if wordB s then ((1, 0) : Int × Int) else (0, 30)) = .tuple #[.int .i64 (if wordB s then 1 else 0), .int .i64 (if wordB s then 0 else 30)] := by
    unfold pairV
    split <;> rfl
  rw [e] at h
  exact h
theorem check_e (s : ByteArray) (hs : s.size ≤ 9223372036854775807) : ∃ e1 e2 : Int, (∀ (W : World) (g : Nat), RL W → 0 < W.heap.size → W.heap[g]? = some (.cells #[.string s, .slice none 0 0, .int .i64 1] 56) → Calls Tryd.prog 14 #[.slice (some ⟨g, 0, none⟩) 1 1, .agg #[.int .i64 17, .string s, .int .i64 0, .string .empty, .slice none 0 0, .slice none 0 0, .slice none 0 0]] W (VPost (.tuple #[.int .i64 e1, .int .i64 e2]) W)) ∧ ((e2 = 0 ∧ wordB s = true) ∨ (e2 = 30 ∧ wordB s = false)) := by
  refine ⟨if wordB s then 1 else 0, if wordB s then 0 else 30, fun W g hR h0 hg => check_name s hs hR h0 hg, ?_⟩
  cases wordB s
  · exact .inr ⟨rfl, rfl⟩
  · exact .inl ⟨rfl, rfl⟩
set_option maxRecDepth 1000000 in
set_option maxHeartbeats 16000000 in
theorem words_walk (s : ByteArray) (n : Int) (w : World) (hs : s.size ≤ 9223372036854775807) (hR : RL w) (h0 : 0 < w.heap.size) : Calls Tryd.prog 10 #[.string s, .int .i64 n] w (VPost (.bool true) w) := by
  have HK := hide (known_any hR h0)
  have HR := hide hR
  clear hR
  obtain ⟨hp0, hp1⟩ := plc_in n (n := 3) (by omega)
  obtain ⟨p, ep⟩ : ∃ p : Nat, plc n 3 = (p : Int) := ⟨(plc n 3).toNat, by omega⟩
  have hp3 : p < 3 := by omega
  have HP : Hid (∀ w : World, Calls Tryd.prog 30 #[.int .i64 n, .int .i64 3] w fun e w' => e = .returned (.int .i64 (p : Int)) ∧ w' = w) := fun w => by
    have := place_any n 3 w (by omega) (by omega)
    rw [ep] at this
    exact this
  clear ep hp0 hp1
  by_cases hl : 100 < s.size
  · have hd1 : decide ((100 : Int) < (s.size : Int)) = true := by simp; omega
    clear hl
    go_enter Tryd.func10, Tryd.ntmps10
    go_wp2_with fail
    refine (unhide HK).mono ?_
    rintro e w1 ⟨rfl, hb1⟩
    have HB1 := hide hb1
    clear hb1
    go_wp2
    go_ret
    exact ⟨rfl, unhide HB1⟩
  have hd1 : decide ((100 : Int) < (s.size : Int)) = false := by simp; omega
  have hsI : (s.size : Int) ≤ 100 := by omega
  clear hl
  go_enter Tryd.func10, Tryd.ntmps10
  go_wp2_with fail
  refine (unhide HK).mono ?_
  rintro e w1 ⟨rfl, hb1⟩
  have HB1 := hide hb1
  clear hb1
  go_wp2
  go_loopw [6, 5] (fun iv sv wr => ∃ i : Nat, i ≤ 39 + p ∧ iv = .int .i64 (i : Int) ∧ sv = .string (ws i) ∧ wr = w1) (fun iv _ _ => (39 + p - (intOf iv).toNat))
  case atStart => exact ⟨0, Nat.zero_le _, rfl, rfl, rfl⟩
  case round =>
    obtain ⟨i, hi, rfl, rfl, rfl⟩ := hrel
    have hwsz := ws_size i
    by_cases hlt : i < 39 + p
    · have hdi : decide ((i : Int) < 39 + (p : Int)) = true := by simp; omega
      have hcat : (9223372036854775807 < (ws i).size + 1) = False := by simp; omega
      have hsc := hide (ws_succ i)
      clear hwsz
      go_wp2_with fail
      refine (unhide HP wr).mono ?_
      rintro e w2 ⟨rfl, rfl⟩
      go_wp2
      exact ⟨⟨i + 1, by omega, rfl, by rw [unhide hsc], trivial⟩, by simp only [intOf]; omega⟩
    · obtain rfl : i = 39 + p := by omega
      have hdi : decide (((39 + p : Nat) : Int) < 39 + (p : Int)) = false := by simp
      go_wp2_with fail
      refine (unhide HP wr).mono ?_
      rintro e w2 ⟨rfl, rfl⟩
      obtain ⟨e1, e2, hc, he⟩ := check_e s hs
      obtain ⟨m, hm⟩ : ∃ m : Nat, 39 + p = m := ⟨_, rfl⟩
      rw [hm] at hwsz ⊢
      have hdm : decide ((m : Int) < 39 + (p : Int)) = false := by simp; omega
      obtain ⟨f1, f2, hcf, hf⟩ := check_e (ws m) (by omega)
      have hwm := ws_word m (by omega)
      have HCE := hide hc
      have HCF := hide hcf
      have HMM := hide (And.intro hwm (show m ≤ 41 by omega))
      obtain ⟨A, eA, hbA, hsA, hcA, hhA⟩ := box_new w2 #[.string s, .slice none 0 0, .int .i64 1] 56
      have HA := hide (And.intro hbA hhA)
      have HEA := hide eA
      have HAp := hide (app_any s none 0 0 A)
      clear hc hcf hwm hbA hsA hcA hhA eA hm hdi
      go_wp2_with fail
      rw [unhide HEA]
      refine (unhide HAp).mono ?_
      rintro e w3 ⟨rfl, hb3⟩
      have hA3 := ((hb3.block _ (Array.getElem?_eq_some_iff.1 (unhide HA).2).1).trans (unhide HA).2)
      have hb13 : Below w2.heap.size w2 w3 := (unhide HA).1.trans (hb3.mono (unhide HA).1.size)
      have hb03 : Below w.heap.size w w3 := (unhide HB1).trans (hb13.mono (unhide HB1).size)
      have HC3 := hide (unhide HCE w3 w2.heap.size ((unhide HR).below hb03 h0) (by have := hb03.size; omega) hA3)
      have H3 := hide hb03
      clear hb3 hA3 hb13 hb03 HAp
      go_wp2_with fail
      refine (unhide HC3).mono ?_
      rintro e w4 ⟨rfl, hb4⟩
      have hb04 : Below w.heap.size w w4 := (unhide H3).trans (hb4.mono (unhide H3).size)
      obtain ⟨D, eD, hbD, hsD, hcD, hhD⟩ := box_new w4 #[.string (ws m), .slice none 0 0, .int .i64 1] 56
      have HD := hide (And.intro hbD (And.intro hhD hb04))
      have HED := hide eD
      have HAp := hide (app_any (ws m) none 0 0 D)
      clear hb4 hb04 hbD hsD hcD hhD eD HC3
      go_wp2_with fail
      rw [unhide HED]
      refine (unhide HAp).mono ?_
      rintro e w5 ⟨rfl, hb5⟩
      obtain ⟨hbD, hhD, hb04⟩ := unhide HD
      have hD5 := ((hb5.block _ (Array.getElem?_eq_some_iff.1 hhD).1).trans hhD)
      have hb45 : Below w4.heap.size w4 w5 := hbD.trans (hb5.mono hbD.size)
      have hb05 : Below w.heap.size w w5 := hb04.trans (hb45.mono hb04.size)
      have HC5 := hide (unhide HCF w5 w4.heap.size ((unhide HR).below hb05 h0) (by have := hb05.size; omega) hD5)
      have H5 := hide hb05
      clear hb5 hD5 hb45 hb05 HAp hbD hhD hb04
      go_wp2_with fail
      refine (unhide HC5).mono ?_
      rintro e w6 ⟨rfl, hb6⟩
      have H6 := hide ((unhide H5).trans (hb6.mono (unhide H5).size))
      have HW := hide (Word_any s w6 hs)
      clear hb6 HC5
      go_wp2_with fail
      refine (unhide HW).mono ?_
      rintro e w7 ⟨bw, rfl, hbw, hb7⟩
      have H7 := hide ((unhide H6).trans (hb7.mono (unhide H6).size))
      have hbe : bw = wordB s := by
        have h1 := wordB_iff s
        cases hb : bw <;> cases hw : wordB s <;> simp_all
      clear hb7 hbw
      have hmI : (m : Int) ≤ 41 := by have := (unhide HMM).2; omega
      have hml : ((ws m).size : Int) = (m : Int) := by rw [ws_size]
      rcases he with ⟨rfl, hw⟩ | ⟨rfl, hw⟩
      · rw [hw] at hbe
        subst hbe
        by_cases h40 : m ≤ 40
        · have hd4 : decide ((m : Int) ≤ 40) = true := by simp; omega
          have hf2 : f2 = 0 := by
            rcases hf with ⟨h, _⟩ | ⟨_, h⟩
            · exact h
            · rw [(unhide HMM).1] at h
              simp at h
              omega
          subst hf2
          clear hf hw h40
          go_wp2
          go_ret
          exact ⟨rfl, unhide H7⟩
        · have hd4 : decide ((m : Int) ≤ 40) = false := by simp; omega
          have hf2 : f2 = 30 := by
            rcases hf with ⟨_, h⟩ | ⟨h, _⟩
            · rw [(unhide HMM).1] at h
              simp at h
              omega
            · exact h
          subst hf2
          clear hf hw h40
          go_wp2
          go_ret
          exact ⟨rfl, unhide H7⟩
      · rw [hw] at hbe
        subst hbe
        by_cases h40 : m ≤ 40
        · have hd4 : decide ((m : Int) ≤ 40) = true := by simp; omega
          have hf2 : f2 = 0 := by
            rcases hf with ⟨h, _⟩ | ⟨_, h⟩
            · exact h
            · rw [(unhide HMM).1] at h
              simp at h
              omega
          subst hf2
          clear hf hw h40
          go_wp2
          go_ret
          exact ⟨rfl, unhide H7⟩
        · have hd4 : decide ((m : Int) ≤ 40) = false := by simp; omega
          have hf2 : f2 = 30 := by
            rcases hf with ⟨_, h⟩ | ⟨h, _⟩
            · rw [(unhide HMM).1] at h
              simp at h
              omega
            · exact h
          subst hf2
          clear hf hw h40
          go_wp2
          go_ret
          exact ⟨rfl, unhide H7⟩
end Go.Proofs.YtiockiilenjjaaaDoor

/- The table of rules, as the rows read it. -/
namespace Go.Proofs.YtiockiilenjjaaaDoor
open Go Go.RowKit
theorem ru_g : Tryd.prog.globalNamed "avow/term.rules" = some 0 := by kernel_rfl
theorem ru_gt : (Tryd.prog.globals[0]?).map (·.type) = some 176 := by kernel_rfl
theorem ru_arr : Tryd.prog.underlying 176 = some (.array 17 175) := by kernel_rfl
theorem ru_ca : Tryd.prog.cellsOf 176 = 68 := by kernel_rfl
theorem ru_ce : Tryd.prog.cellsOf 175 = 4 := by kernel_rfl
theorem ru_cs : Tryd.prog.cellsOf 9 = 1 := by kernel_rfl
theorem ru_ci : Tryd.prog.cellsOf 3 = 1 := by kernel_rfl
theorem ru_str : Tryd.prog.underlying 9 = some .string := by kernel_rfl
theorem ru_int : Tryd.prog.underlying 3 = some (.int .i64) := by kernel_rfl
theorem ru_fs : ((Tryd.prog.underlying 175).map fun d => match d with | .struct fs => fs.toList.map (fun f => (f.type, f.offset)) | _ => []) = some [(9, 0), (3, 1), (3, 2), (3, 3)] := by kernel_rfl
set_option maxRecDepth 100000 in
theorem ru_un : ∃ f0 f1 f2 f3 : Field, Tryd.prog.underlying 175 = some (.struct #[f0, f1, f2, f3]) ∧ f0.type = 9 ∧ f0.offset = 0 ∧ f1.type = 3 ∧ f1.offset = 1 ∧ f2.type = 3 ∧ f2.offset = 2 ∧ f3.type = 3 ∧ f3.offset = 3 := by
  obtain ⟨fs, hfs⟩ : ∃ fs, Tryd.prog.underlying 175 = some (.struct fs) := struct_of (by kernel_rfl)
  have h := ru_fs
  rw [hfs] at h
  simp only [Option.map_some, Option.some.injEq] at h
  obtain ⟨l, rfl⟩ : ∃ l : List Field, fs = l.toArray := ⟨fs.toList, by simp⟩
  match l, h with
  | [f0, f1, f2, f3], h =>
    simp at h
    obtain ⟨⟨a1, a2⟩, ⟨b1, b2⟩, ⟨c1, c2⟩, d1, d2⟩ := h
    exact ⟨f0, f1, f2, f3, hfs, a1, a2, b1, b2, c1, c2, d1, d2⟩
/-- One rule's cells. -/
theorem rule_cells {H : Type} {enc : TypeId × Value → H} {w : World} {base : Nat} {sp : Nat → Bool} {held : Bool} {fuel : Nat} {cs : List Value} {s : List UInt8} {a b c : Int} {p : List MemPlace} (h : DataW.trod enc Tryd.prog w base sp held fuel 175 cs = some (.agg [.lit (.string s), .lit (.int .i64 a), .lit (.int .i64 b), .lit (.int .i64 c)], p)) :
    cs[0]? = some (.string ⟨s.toArray⟩) ∧ cs[1]? = some (.int .i64 a) ∧ cs[2]? = some (.int .i64 b) ∧ cs[3]? = some (.int .i64 c) := by
  obtain ⟨f0, f1, f2, f3, hu, t0, o0, t1, o1, t2, o2, t3, o3⟩ := ru_un
  obtain ⟨xs, n, _, hx, hl, hlen, hf⟩ := DataW.trod_struct hu h
  match xs, hlen with
  | [y0, y1, y2, y3], _ =>
    have k0 := hf 0 f0 rfl
    have k1 := hf 1 f1 rfl
    have k2 := hf 2 f2 rfl
    have k3 := hf 3 f3 rfl
    rw [t0, o0, ru_cs] at k0
    rw [t1, o1, ru_ci] at k1
    rw [t2, o2, ru_ci] at k2
    rw [t3, o3, ru_ci] at k3
    obtain ⟨s', c0, e0, _⟩ := DataW.trod_string ru_str k0
    obtain ⟨n1, c1, e1, _⟩ := DataW.trod_int ru_int k1
    obtain ⟨n2, c2, e2, _⟩ := DataW.trod_int ru_int k2
    obtain ⟨n3, c3, e3, _⟩ := DataW.trod_int ru_int k3
    subst e0 e1 e2 e3
    simp only [Prod.mk.injEq, DataW.agg.injEq, List.map_cons, List.map_nil, List.cons.injEq, DataW.lit.injEq, Lit.string.injEq, Lit.int.injEq, true_and, and_true] at hx
    obtain ⟨⟨rfl, rfl, rfl, rfl⟩, _⟩ := hx
    have g : ∀ (o : Nat) (v : Value), (cs.drop o).take 1 = [v] → cs[o]? = some v := fun o v hv => by
      have := congrArg (·[0]?) hv
      simpa [List.getElem?_take, List.getElem?_drop] using this
    exact ⟨g 0 _ c0, g 1 _ c1, g 2 _ c2, g 3 _ c3⟩
theorem rules_at (n : Nat) (h1 : 4 ≤ n) (h2 : n ≤ 16) (ps : List (DataW Unit)) (h : (Rows.laid_avow_term_rules : DataW Unit) = .agg ps) : ps[n]? = some (.agg [.lit (.string (opWord n)), .lit (.int .i64 (opCount n)), .lit (.int .i64 (opEach n)), .lit (.int .i64 (opOwn n))]) := by
  unfold Rows.laid_avow_term_rules at h
  injection h with h
  subst h
  rcases (by omega : n = 4 ∨ n = 5 ∨ n = 6 ∨ n = 7 ∨ n = 8 ∨ n = 9 ∨ n = 10 ∨ n = 11 ∨ n = 12 ∨ n = 13 ∨ n = 14 ∨ n = 15 ∨ n = 16) with rfl | rfl | rfl | rfl | rfl | rfl | rfl | rfl | rfl | rfl | rfl | rfl | rfl <;> rfl
theorem rules_met {W : World} (h : laidMetH Tryd.prog [("avow/term.rules", Rows.laid_avow_term_rules)] W) : RL W := by
  have h : laidMet Tryd.prog [("avow/term.rules", Rows.laid_avow_term_rules)] W := h
  obtain ⟨_, ⟨g', t', cs, fuel, p, q, hg', ht', hvar, hd, _, _⟩, _⟩ := h
  obtain rfl := Option.some.inj (ru_g.symm.trans hg')
  obtain rfl := Option.some.inj (ru_gt.symm.trans ht')
  obtain ⟨ps, hps⟩ : ∃ ps, (Rows.laid_avow_term_rules : DataW Unit) = .agg ps := ⟨_, rfl⟩
  cases fuel with
  | zero => simp [DataW.trod] at hd
  | succ fuel =>
    simp only [DataW.trod, ru_arr, ru_ce, ru_ca] at hd
    split at hd
    · rename_i hl
      obtain ⟨xs, hm, hx⟩ := Option.map_eq_some_iff.1 hd
      have hxs : xs.map (·.1) = ps := by
        have := congrArg Prod.fst hx
        rw [hps] at this
        simpa using this
      intro n h1 h2
      obtain ⟨b, hb, hf⟩ := Lib.mapM_at hm n n (by rw [List.getElem?_range (by omega)])
      have hbn : b.1 = .agg [.lit (.string (opWord n)), .lit (.int .i64 (opCount n)), .lit (.int .i64 (opEach n)), .lit (.int .i64 (opOwn n))] := by
        have h3 := rules_at n h1 h2 ps hps
        rw [← hxs, List.getElem?_map, hb] at h3
        exact Option.some.inj h3
      obtain ⟨b1, b2⟩ := b
      simp only at hbn
      subst hbn
      obtain ⟨c0, c1, c2, c3⟩ := rule_cells hf
      have cell : ∀ (k : Nat) (v : Value), k < 4 → ((cs.toList.drop (n * 4)).take 4)[k]? = some v → W.cell? ⟨0, n * 4 + k, none⟩ = some v := fun k v hk hv => by
        rw [World.var?_cell ru_g hvar (n * 4 + k)]
        rw [List.getElem?_take, if_pos hk, List.getElem?_drop, Array.getElem?_toList] at hv
        exact hv
      exact ⟨cell 0 _ (by omega) c0, cell 1 _ (by omega) c1, cell 2 _ (by omega) c2, cell 3 _ (by omega) c3⟩
    · cases hd
end Go.Proofs.YtiockiilenjjaaaDoor

/- TermLimits: facts on its terms. -/
namespace Go.Proofs.YtiockiilenjjaaaDoor
open Go Go.RowKit
def t1 : Tm := ⟨1, .empty, 0, ⟨#[49]⟩, [], [], []⟩
def wideT (m : Nat) : Tm := ⟨12, .empty, 0, .empty, List.replicate m t1, [], []⟩
def negT (t : Tm) : Tm := ⟨14, .empty, 0, .empty, [t], [], []⟩
def deepT : Nat → Tm
  | 0 => t1
  | k + 1 => negT (deepT k)
def tAllN : Tm := ⟨19, .empty, 0, .empty, [negT tX], [(bX, 1)], [tFX]⟩
theorem sz_t1 : t1.size = 1 := by rw [Tm.size_eq]; rfl
theorem dp_t1 : t1.depth = 1 := by rw [Tm.depth_eq]; rfl
theorem wt_t1 : t1.wt = 1 := by rw [Tm.wt_eq]; rfl
theorem gr_t1 : t1.ground = true := by rw [Tm.ground_eq]; rfl
theorem maxOf_rep (m a : Nat) (h : 0 < m) : maxOf (List.replicate m a) = a := by
  unfold maxOf
  have : ∀ (m b : Nat), b ≤ a → 0 < m → (List.replicate m a).foldl max b = a := fun m => by
    induction m with
    | zero => intro b _ h; omega
    | succ m ih =>
      intro b hb _
      rw [List.replicate_succ, List.foldl_cons]
      have e : max b a = a := by omega
      rw [e]
      rcases Nat.eq_zero_or_pos m with h0 | h0
      · rw [h0]; rfl
      · exact ih a (Nat.le_refl _) h0
  exact this m 0 (Nat.zero_le _) h
theorem sz_wide (m : Nat) : (wideT m).size = m + 1 := by
  rw [Tm.size_eq]
  simp only [wideT, List.map_replicate, sz_t1, List.sum_replicate_nat]
  omega
theorem wt_wide (m : Nat) : (wideT m).wt = m + 1 := by
  rw [Tm.wt_eq]
  simp only [wideT, List.map_replicate, wt_t1, List.sum_replicate_nat, List.length_nil, List.map_nil, List.sum_nil]
  omega
theorem dp_wide (m : Nat) (h : 0 < m) : (wideT m).depth = 2 := by
  rw [Tm.depth_eq]
  simp only [wideT, List.map_replicate, dp_t1, maxOf_rep m 1 h]
theorem gr_wide (m : Nat) : (wideT m).ground = true := by
  rw [Tm.ground_iff]
  refine ⟨by simp [wideT], by simp [wideT], fun u hu => ?_⟩
  rw [(List.mem_replicate.1 hu).2, gr_t1]
theorem sz_neg (t : Tm) : (negT t).size = t.size + 1 := by
  rw [Tm.size_eq]
  simp [negT]
  omega
theorem dp_neg (t : Tm) : (negT t).depth = t.depth + 1 := by
  rw [Tm.depth_eq]
  simp [negT, maxOf]
theorem wt_neg (t : Tm) : (negT t).wt = t.wt + 1 := by
  rw [Tm.wt_eq]
  simp [negT]
  omega
theorem gr_neg (t : Tm) (h : t.ground = true) : (negT t).ground = true := by
  rw [Tm.ground_iff]
  refine ⟨by simp [negT], by simp [negT], fun u hu => ?_⟩
  rw [List.mem_singleton.1 hu, h]
theorem sz_deep (k : Nat) : (deepT k).size = k + 1 := by
  induction k with
  | zero => exact sz_t1
  | succ k ih => rw [deepT, sz_neg, ih]
theorem dp_deep (k : Nat) : (deepT k).depth = k + 1 := by
  induction k with
  | zero => exact dp_t1
  | succ k ih => rw [deepT, dp_neg, ih]
theorem wt_deep (k : Nat) : (deepT k).wt = k + 1 := by
  induction k with
  | zero => exact wt_t1
  | succ k ih => rw [deepT, wt_neg, ih]
theorem gr_deep (k : Nat) : (deepT k).ground = true := by
  induction k with
  | zero => exact gr_t1
  | succ k ih => exact gr_neg _ ih
theorem ok_t1 (e : Nat) : OkT (PC rtT) (e + 1) t1 := ⟨fun _ => pc_digit 49 (by decide), by simp [t1], by simp [t1], by rw [sz_t1]; omega, by rw [dp_t1]; omega, by simp [t1], by simp [t1]⟩
theorem ok_wide (e m : Nat) (h : 0 < m) (hm : m ≤ 60000) : OkT (PC rtT) (e + 2) (wideT m) := by
  refine ⟨fun h => absurd h (show ¬ (12 : Int) = 1 by decide), by simp [wideT], by simp [wideT], by rw [sz_wide]; omega, by rw [dp_wide m h]; omega, fun u hu => ?_, by simp [wideT]⟩
  rw [(List.mem_replicate.1 hu).2]
  exact ok_t1 e
theorem ok_deep (k e : Nat) (hk : k ≤ 1000) : OkT (PC rtT) (e + k + 1) (deepT k) := by
  induction k with
  | zero => exact ok_t1 e
  | succ k ih =>
    refine ⟨fun h => absurd h (show ¬ (14 : Int) = 1 by decide), by simp [deepT, negT], by simp [deepT, negT], by rw [sz_deep]; omega, by rw [dp_deep]; omega, fun u hu => ?_, by simp [deepT, negT]⟩
    rw [show u = deepT k from List.mem_singleton.1 hu]
    exact ih (by omega)
def lowE (e : Int) : Prop := e ≠ 33 ∧ e ≠ 34
theorem low_shape (rt : ByteArray → Bool) (op : Int) (name num : ByteArray) (n : Nat) (h : Int) (vars : List (ByteArray × Int)) (np : Nat) (h17 : op ≠ 17) : lowE (shapeE rt [] op name num n h vars np) := by
  unfold shapeE
  rw [if_neg h17]
  split <;> exact ⟨by decide, by decide⟩
theorem low_list (env : ByteArray → List Int) : ∀ (fs : List ((ByteArray → List Int) → Int × Int)), (∀ f ∈ fs, lowE (f env).2) → lowE (chkL fs env).2
  | [], _ => ⟨by simp [chkL], by simp [chkL]⟩
  | f :: fs, h => by
    rw [chkL]
    split
    · exact h f (List.mem_cons_self ..)
    · exact low_list env fs fun g hg => h g (List.mem_cons_of_mem _ hg)
theorem low_chk (t : Tm) (env : ByteArray → List Int) (h17 : t.op ≠ 17) (h18 : t.op ≠ 18) (h19 : t.op ≠ 19) (h : ∀ u ∈ t.l, lowE (u.chk rtT [] env).2) : lowE (t.chk rtT [] env).2 := by
  rw [Tm.chk_eq]
  have hs := low_shape rtT t.op t.name t.num t.l.length (headOp t.l) t.vars t.pat.length h17
  have hl := low_list env (t.l.map (Tm.chk rtT [])) (fun f hf => by
    obtain ⟨u, hu, rfl⟩ := List.mem_map.1 hf
    exact h u hu)
  split
  · exact hs
  · split
    · exact hl
    · split <;> exact ⟨by simp, by simp⟩
theorem low_t1 (env : ByteArray → List Int) : lowE (t1.chk rtT [] env).2 := low_chk t1 env (by decide) (by decide) (by decide) (by simp [t1])
theorem low_wide (m : Nat) (env : ByteArray → List Int) : lowE ((wideT m).chk rtT [] env).2 := low_chk _ env (show (12 : Int) ≠ 17 by decide) (show (12 : Int) ≠ 18 by decide) (show (12 : Int) ≠ 19 by decide) (fun u hu => by
  rw [(List.mem_replicate.1 hu).2]
  exact low_t1 env)
theorem low_deep (k : Nat) (env : ByteArray → List Int) : lowE ((deepT k).chk rtT [] env).2 := by
  induction k with
  | zero => exact low_t1 env
  | succ k ih => exact low_chk _ env (show (14 : Int) ≠ 17 by decide) (show (14 : Int) ≠ 18 by decide) (show (14 : Int) ≠ 19 by decide) (fun u hu => by
      rw [show u = deepT k from List.mem_singleton.1 hu]
      exact ih)
theorem ck_wide (m : Nat) (h : 0 < m) : ((wideT m).check rtT []).2 = 34 ↔ 50000 < m + 1 := by
  unfold Tm.check limE
  rw [dp_wide m h, sz_wide]
  by_cases h5 : 50000 < m + 1
  · simp [h5]
  · simp only [h5, if_false]
    have := (low_wide m fun _ => []).2
    simp [this]
theorem ck_deep (k : Nat) (h : k ≤ 1000) : ((deepT k).check rtT []).2 = 33 ↔ 200 < k + 1 := by
  unfold Tm.check limE
  rw [dp_deep, sz_deep]
  by_cases h5 : 200 < k + 1
  · simp [h5]
  · have h6 : ¬ 50000 < k + 1 := by omega
    simp only [h5, h6, if_false]
    have := (low_deep k fun _ => []).1
    simp [this]
theorem rp_N (u : Tm) : rep (subV [(bX, 1)] [u]) (fun _ => 0) 18 bX = some u := by rfl
theorem rp_neg (u : Tm) : rep (subV [(bX, 1)] [u]) (fun _ => 0) (negT tX).op (negT tX).name = none := by rfl
theorem is_neg (u : Tm) : (negT tX).isz (subV [(bX, 1)] [u]) (fun _ => 0) = u.size + 1 ∧ (negT tX).idp (subV [(bX, 1)] [u]) (fun _ => 0) = u.depth + 1 := by
  obtain ⟨a, b⟩ := isz_none (rp_neg u)
  obtain ⟨c, d⟩ := isz_some (t := tX) (rp_N u)
  have hw : within (negT tX).op (negT tX).vars (fun _ => 0) = fun _ => 0 := rfl
  rw [a, b, hw]
  have e : (negT tX).l = [tX] := rfl
  rw [e]
  unfold iszL idpL
  simp only [List.map_cons, List.map_nil, c, d]
  constructor
  · simp; omega
  · simp [maxOf]
theorem ic_neg (u : Tm) (h : u.ground = true) : (negT tX).icp (subV [(bX, 1)] [u]) (fun _ => 0) = u.size := by
  rw [(inst_none (rp_neg u) (show (14 : Int) ≠ 19 by decide)).2]
  have e : (negT tX).l = [tX] := rfl
  rw [e]
  unfold icpL
  simp only [List.map_cons, List.map_nil, (inst_some (t := tX) (rp_N u)).2]
  have := u.icp_ground h
  simp
  omega
theorem wt_allN : tAllN.wt = 6 := by
  rw [Tm.wt_eq]
  simp only [tAllN, List.map_cons, List.map_nil, wt_neg, wt_tX, wt_tFX]
  rfl
/-- Inst of the law's formula at a ground term: its error. -/
theorem inst_limit {w : World} {d c : Nat} {v : Value} {a : Option Addr} {u : Tm} (hT : IsT w w.heap.size d v tAllN) (hl : Row w.heap.size a 1 c 7 (RT7 w w.heap.size d [u])) (hd : d ≤ 30000) (hg : u.ground = true) (hs : u.size ≤ 65536) (hdp : u.depth ≤ 65536) (hw : u.wt ≤ 400000) :
    Calls Tryd.prog 26 #[v, .slice a 1 c] w fun e w' => ∃ (x0 : Int) (x1 : ByteArray) (x2 : Int) (x3 : ByteArray) (y4 : Option Addr) (n4 c4 : Nat) (y5 : Option Addr) (n5 c5 : Nat) (y6 : Option Addr) (n6 c6 : Nat) (er : Int), e = .returned (.tuple #[.agg #[.int .i64 x0, .string x1, .int .i64 x2, .string x3, .slice y4 n4 c4, .slice y5 n5 c5, .slice y6 n6 c6], .int .i64 er]) ∧ Below w.heap.size w w' ∧ (er = 34 ↔ 50000 < u.size + 1) ∧ (u.size < 50000 → (er = 33 ↔ 200 < u.depth + 1)) := by
  refine (Inst_any (d := d) (t := tAllN) (lm := [u]) hT hl rfl (Nat.le_refl _) (by omega) (by rw [wt_allN]; omega) (fun x hx => by
    rw [List.mem_singleton.1 hx]
    omega) (fun x hx _ => by
    have e : x = negT tX := by
      have : [negT tX] = [x] := hx
      injection this with h _
      exact h.symm
    rw [e]
    have : (negT tX).icp (subV tAllN.vars [u]) (fun _ => 0) = u.size := ic_neg u hg
    omega)).mono ?_
  rintro e w' ⟨v', er, rfl, hb, hR⟩
  rcases hR with ⟨hno, _⟩ | ⟨_, _, x, hx, hF⟩
  · exact absurd ⟨rfl, rfl, rfl⟩ hno
  · have e : x = negT tX := by
      have : [negT tX] = [x] := hx
      injection this with h _
      exact h.symm
    rw [e] at hF
    have e1 : (negT tX).isz (subV tAllN.vars [u]) (fun _ => 0) = u.size + 1 := (is_neg u).1
    have e2 : (negT tX).idp (subV tAllN.vars [u]) (fun _ => 0) = u.depth + 1 := (is_neg u).2
    rw [e1, e2] at hF
    obtain ⟨x0, x1, x2, x3, y4, n4, c4, y5, n5, c5, y6, n6, c6, hv⟩ := hF.form
    refine ⟨x0, x1, x2, x3, y4, n4, c4, y5, n5, c5, y6, n6, c6, er, by rw [hv.1], hb, ?_⟩
    rcases hF with ⟨h, rfl, _⟩ | ⟨h, h2, rfl, _⟩ | ⟨h, h2, rfl, _⟩
    · exact ⟨by simp; omega, fun _ => by simp; omega⟩
    · exact ⟨by simp; omega, fun _ => by simp; omega⟩
    · exact ⟨by simp; omega, fun _ => by simp; omega⟩
end Go.Proofs.YtiockiilenjjaaaDoor

namespace Go.Proofs.YtiockiilenjjaaaDoor
open Go Go.RowKit
theorem nz_allN : NZ 4 tAllN := by
  simp [NZ, tAllN, negT, tFX, tX, bX, bF]
def kept17 : List Nat := [0, 1, 2, 3, 4, 5, 6, 7, 8, 9, 10, 11, 12, 13, 15, 16, 17, 18, 19, 20, 21, 22, 23, 24, 25, 26, 27, 28, 29, 30, 31, 32, 33, 34, 35, 36, 37, 38, 39, 40, 41, 42, 43, 44, 45, 46, 47, 48, 49, 50, 51, 52, 53, 54, 55, 56, 57, 58, 59, 60, 61, 73, 74, 75, 76, 77, 78, 79, 80, 81, 82, 83, 84, 85, 86, 87, 88, 89, 90, 91, 92, 93, 94, 95, 96, 97, 98, 99, 100, 101, 102, 103, 104, 105, 106, 107, 108, 109, 110, 111, 112, 113, 114]
def sps17 (B : Nat) : List Mx := [.val (.agg #[.string bX, .int .i64 1]), .vs [(bX, 1)], .val (.agg xC), .ls 1 [tX], .tm 1 tFX, .ls 2 [tFX], .val (.agg xC), .ls 1 [tX], .tm 1 (negT tX), .ls 2 [negT tX], .tm 2 tAllN, .bx B]
def J17 (B : Nat) (w0 w : World) (v : Value) : Prop := ∃ r, v = .pointer (some ⟨r, 0, none⟩) ∧ B ≤ r ∧ Below B w0 w ∧ TmAt w w.heap.size 3 r 0 tAllN
set_option maxRecDepth 100000 in
set_option maxHeartbeats 4000000 in
theorem limits_r17 {Q : Exit → Act → World → Prop} {a0 : Act} {w0 : World} {b1 : Nat} (hN : a0.tmps.size = 115) (h1 : a0.tmps[13]? = some (.pointer (some ⟨b1, 0, none⟩))) (hx : w0.heap[b1]? = some (.cells xC 26))
    (hend : ∀ (a : Act) (w : World), a.defers = a0.defers → a.tmps.size = 115 → (∀ k, k ∈ kept17 → a.tmps[k]? = a0.tmps[k]?) → J17 w0.heap.size w0 w (a.tmps.getD 14 undef) → Q .normal a w) :
    (Code.region 17 (regionOf Tryd.f8 17).toArray true).wp Tryd.prog Q a0 w0 := by
  have hD : Below w0.heap.size w0 w0.drew := (Below.refl _ w0).drew
  refine wp_region_any (by kernel_rfl) ?_
  refine one_store2 (l := regionOf Tryd.f8 17) (w0 := w0.drew) 115 w0.heap.size 12 11 kept17 [0, 1, 2, 3, 4, 5, 6, 7, 8, 9, 10, 11] (fun i => ((sps17 w0.heap.size).getD i .any).ok) (fun _ _ => True) (J17 w0.heap.size w0) (by kernel_rfl) hN (Nat.le_refl _) (by decide) (by kernel_rfl) (by kernel_rfl) (by kernel_rfl) (by decide) (by decide) (by kernel_rfl) (fun i w w' v h hb => ((sps17 w0.heap.size).getD i .any).mono w w' v h hb) (fun _ => trivial) ?_ ?_ ?_ ?_
  · intro i hi a w hb hn hk hp
    have hb0 : Below w0.heap.size w0 w := hD.trans hb
    have hxw : w.heap[b1]? = some (.cells xC 26) := (hb0.block b1 (Array.getElem?_eq_some_iff.1 hx).1).trans hx
    have hld : (Instr.loadAt 26 (.pointer (some ⟨b1, 0, none⟩))).run Tryd.prog w = .ok (.agg xC) w := run_loadAt_mid (P := Tryd.prog) w b1 0 26 xC.toList _ (range_block hxw) rfl rfl rfl
    have k1 : a.eval (.tmp 13) = .pointer (some ⟨b1, 0, none⟩) := by
      have := (hk 13 (by decide)).trans h1
      simp [Act.eval, this]
    have hi' : i = 0 ∨ i = 1 ∨ i = 2 ∨ i = 3 ∨ i = 4 ∨ i = 5 ∨ i = 6 ∨ i = 7 ∨ i = 8 ∨ i = 9 ∨ i = 10 ∨ i = 11 := by simpa using hi
    rcases hi' with rfl | rfl | rfl | rfl | rfl | rfl | rfl | rfl | rfl | rfl | rfl | rfl
    · exact st_want (wnone rfl) (op_bldV ⟨_, rfl, Below.refl _ _, rfl, trivial⟩)
    · exact st_want (wnone rfl) (op_bsV (s := bX) (n := 1) (by unfold fits; omega) (hp 0 rfl (by decide)) fun v w' h1 h2 => ⟨v, rfl, h1, h2, trivial⟩)
    · exact st_want (wnone rfl) (op_load k1 hld ⟨_, rfl, Below.refl _ _, rfl, trivial⟩)
    · exact st_want (wnone rfl) (op_bs1 (d := 0) (t := tX) (by have e : a.tmps.getD 64 undef = .agg xC := hp 2 rfl (by decide); rw [e]; exact isX w _ 0) fun v w' h1 h2 => ⟨v, rfl, h1, h2, trivial⟩)
    · obtain ⟨al, cl, e, hR⟩ : (Mx.ls 1 [tX]).ok w (a.tmps.getD 65 undef) := hp 3 rfl (by decide)
      refine st_want (wnone rfl) (op_call enter_app ?_)
      have hargs : (#[Operand.const (.string ⟨#[102]⟩), .tmp 65]).map a.eval = #[.string bF, .slice al 1 cl] := by
        simp only [List.map_toArray, List.map_cons, List.map_nil, Act.eval, e]
        rfl
      rw [hargs]
      refine (app_any bF al 1 cl w).mono ?_
      rintro e w' ⟨rfl, hb'⟩
      exact ⟨_, rfl, _, rfl, hb', (IsT.mk (t := tFX) (show fits 17 by unfold fits; omega) (show fits 0 by unfold fits; omega) hR row_nil row_nil).more hb' hb'.size (Nat.le_refl _), trivial⟩
    · exact st_want (wnone rfl) (op_bs1 (d := 1) (t := tFX) (hp 4 rfl (by decide)) fun v w' h1 h2 => ⟨v, rfl, h1, h2, trivial⟩)
    · exact st_want (wnone rfl) (op_load k1 hld ⟨_, rfl, Below.refl _ _, rfl, trivial⟩)
    · exact st_want (wnone rfl) (op_bs1 (d := 0) (t := tX) (by have e : a.tmps.getD 68 undef = .agg xC := hp 6 rfl (by decide); rw [e]; exact isX w _ 0) fun v w' h1 h2 => ⟨v, rfl, h1, h2, trivial⟩)
    · exact st_want (wnone rfl) (op_bldL (d := 1) (op := 14) (l := [tX]) (by unfold fits; omega) (hp 7 rfl (by decide)) fun v h2 => ⟨v, rfl, Below.refl _ _, h2, trivial⟩)
    · exact st_want (wnone rfl) (op_bs1 (d := 1) (t := negT tX) (hp 8 rfl (by decide)) fun v w' h1 h2 => ⟨v, rfl, h1, h2, trivial⟩)
    · exact st_want (wnone rfl) (op_bldA (d := 2) (l := [negT tX]) (p := [tFX]) (x := [(bX, 1)]) (hp 1 rfl (by decide)) (hp 5 rfl (by decide)) (hp 9 rfl (by decide)) fun v h2 => ⟨v, rfl, Below.refl _ _, h2, trivial⟩)
    · exact st_want (wnone rfl) (op_box fun v w' h1 ⟨r, h2, h3, h4⟩ => ⟨v, rfl, h1, ⟨r, h2, Nat.le_trans hb0.size h3, h4⟩, trivial⟩)
  · intro i hi hi1 hi2
    exfalso
    have hl : (regionOf Tryd.f8 17).length = 13 := by kernel_rfl
    rw [hl] at hi
    have hi1' : ¬ (i = 0 ∨ i = 1 ∨ i = 2 ∨ i = 3 ∨ i = 4 ∨ i = 5 ∨ i = 6 ∨ i = 7 ∨ i = 8 ∨ i = 9 ∨ i = 10 ∨ i = 11) := by simpa using hi1
    omega
  · intro a w hb hn hk hp
    have hb0 : Below w0.heap.size w0 w := hD.trans hb
    obtain ⟨r, e, hr, hz⟩ : (Mx.bx w0.heap.size).ok w (a.tmps.getD 14 undef) := hp 11 (by decide)
    have h24 : (Mx.tm 2 tAllN).ok w (a.tmps.getD 72 undef) := hp 10 (by decide)
    refine op_storeT (r := r) hz e h24 fun w' cs ecs hput hh => ⟨rfl, r, e, hr, ⟨hput.os.trans hb0.os, hput.tape.trans hb0.tape, hput.output.trans hb0.output, by rw [hput.size]; exact hb0.size, fun k hk => (hput.block k (by omega)).trans (hb0.block k hk)⟩, ?_⟩
    have hI : IsT w w.heap.size 2 (a.tmps.getD 72 undef) tAllN := h24
    rw [ecs] at hI
    exact hI.put hz nz_allN hput hh
  · intro a w hd hn hk _ hJ
    exact hend a w hd hn hk hJ
end Go.Proofs.YtiockiilenjjaaaDoor
