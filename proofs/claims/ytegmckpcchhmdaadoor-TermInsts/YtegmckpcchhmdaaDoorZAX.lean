/- The document's Inst. -/
import Derived.Test.YtegmckpcchhmdaaDoorZAW
set_option linter.unusedVariables false
set_option linter.unusedSimpArgs false

/- measure: its contract, and its end. -/
namespace Go.Proofs.YtegmckpcchhmdaaDoor
open Go Go.RowKit
/-- Numbers between zero and M. -/
def NR (w : World) (H : Nat) (a : Option Addr) (n c M : Nat) : Prop := Row H a n c 1 (fun b o _ => ∃ z : Int, 0 ≤ z ∧ z ≤ (M : Int) ∧ w.cell? ⟨b, o, none⟩ = some (.int .i64 z))
theorem NR.below {w w' : World} {H H' n c M : Nat} {a : Option Addr} (h : NR w H a n c M) (hw : Below H w w') (hH : H ≤ H') : NR w' H' a n c M := Row.mono h hH fun b o j hb hp => by
  obtain ⟨z, h1, h2, h3⟩ := hp
  exact ⟨z, h1, h2, (hw.cell (p := ⟨b, o, none⟩) hb).trans h3⟩
theorem NR.at {w : World} {H n c M i : Nat} {a : Option Addr} (h : NR w H a n c M) (hi : i < n) : ∃ b o, a = some ⟨b, o, none⟩ ∧ b < H ∧ ∃ z : Int, 0 ≤ z ∧ z ≤ (M : Int) ∧ w.cell? ⟨b, o + i, none⟩ = some (.int .i64 z) := by
  obtain ⟨b, o, ha, hb, hj⟩ := h.2.2 (by omega)
  obtain ⟨z, h1, h2, h3⟩ := hj i hi
  rw [Nat.mul_one] at h3
  exact ⟨b, o, ha, hb, z, h1, h2, h3⟩
theorem dep_mem {t u : Tm} (h : u ∈ t.l) : u.depth + 1 ≤ t.depth := by
  rw [t.depth_eq]
  have : u.depth ≤ maxOf (t.l.map Tm.depth) := by
    refine (?_ : ∀ (l : List Nat) (x a : Nat), (x ∈ l ∨ x ≤ a) → x ≤ l.foldl max a) _ _ _ (.inl (List.mem_map_of_mem h))
    intro l
    induction l with
    | nil => intro x a h; simpa using h
    | cons y l ih =>
      intro x a h
      refine ih x (max a y) ?_
      rcases h with h | h
      · rcases List.mem_cons.1 h with rfl | h
        · exact .inr (Nat.le_max_right _ _)
        · exact .inl h
      · exact .inr (Nat.le_trans h (Nat.le_max_left _ _))
  omega
/-- measure, of terms no deeper than d: no more than that. -/
def MeC (d : Nat) : Prop := ∀ (w : World) (B : Nat) (v : Value) (t : Tm) (vs : List (ByteArray × Int)) (aX aM aS aD : Option Addr) (n nM cX cM cS cD M D : Nat), IsT w B d v t → Row w.heap.size aX n cX 2 (BR w vs) → n = vs.length → NR w w.heap.size aS n cS M → NR w w.heap.size aD n cD D → B ≤ w.heap.size → 1 ≤ M → t.size * M ≤ 1000000 → t.depth + D ≤ 1000000 → n ≤ 1000000 → t.wt ≤ 1000000 → Calls Tryd.prog 23 #[v, .slice aX n cX, .slice aM nM cM, .slice aS n cS, .slice aD n cD] w fun ex w' => ∃ x y : Int, ex = .returned (.tuple #[.int .i64 x, .int .i64 y]) ∧ 0 ≤ x ∧ x ≤ ((t.size * M : Nat) : Int) ∧ 0 ≤ y ∧ y ≤ ((t.depth + D : Nat) : Int) ∧ Below w.heap.size w w'
set_option maxRecDepth 100000 in
theorem lit139 {a : Act} (hn : a.tmps.size = 139) (hd : a.defers = []) : ∃ u : Nat → Value, a = ⟨#[u 0, u 1, u 2, u 3, u 4, u 5, u 6, u 7, u 8, u 9, u 10, u 11, u 12, u 13, u 14, u 15, u 16, u 17, u 18, u 19, u 20, u 21, u 22, u 23, u 24, u 25, u 26, u 27, u 28, u 29, u 30, u 31, u 32, u 33, u 34, u 35, u 36, u 37, u 38, u 39, u 40, u 41, u 42, u 43, u 44, u 45, u 46, u 47, u 48, u 49, u 50, u 51, u 52, u 53, u 54, u 55, u 56, u 57, u 58, u 59, u 60, u 61, u 62, u 63, u 64, u 65, u 66, u 67, u 68, u 69, u 70, u 71, u 72, u 73, u 74, u 75, u 76, u 77, u 78, u 79, u 80, u 81, u 82, u 83, u 84, u 85, u 86, u 87, u 88, u 89, u 90, u 91, u 92, u 93, u 94, u 95, u 96, u 97, u 98, u 99, u 100, u 101, u 102, u 103, u 104, u 105, u 106, u 107, u 108, u 109, u 110, u 111, u 112, u 113, u 114, u 115, u 116, u 117, u 118, u 119, u 120, u 121, u 122, u 123, u 124, u 125, u 126, u 127, u 128, u 129, u 130, u 131, u 132, u 133, u 134, u 135, u 136, u 137, u 138], []⟩ ∧ ∀ i, u i = a.tmps.getD i undef := by
  obtain ⟨tmps, dfr⟩ := a
  have hd' : dfr = [] := hd
  subst hd'
  have hl := arr_lit (show tmps.size = 139 from hn)
  have e : ((List.range 139).map fun i => tmps.getD i undef).toArray = #[tmps.getD 0 undef, tmps.getD 1 undef, tmps.getD 2 undef, tmps.getD 3 undef, tmps.getD 4 undef, tmps.getD 5 undef, tmps.getD 6 undef, tmps.getD 7 undef, tmps.getD 8 undef, tmps.getD 9 undef, tmps.getD 10 undef, tmps.getD 11 undef, tmps.getD 12 undef, tmps.getD 13 undef, tmps.getD 14 undef, tmps.getD 15 undef, tmps.getD 16 undef, tmps.getD 17 undef, tmps.getD 18 undef, tmps.getD 19 undef, tmps.getD 20 undef, tmps.getD 21 undef, tmps.getD 22 undef, tmps.getD 23 undef, tmps.getD 24 undef, tmps.getD 25 undef, tmps.getD 26 undef, tmps.getD 27 undef, tmps.getD 28 undef, tmps.getD 29 undef, tmps.getD 30 undef, tmps.getD 31 undef, tmps.getD 32 undef, tmps.getD 33 undef, tmps.getD 34 undef, tmps.getD 35 undef, tmps.getD 36 undef, tmps.getD 37 undef, tmps.getD 38 undef, tmps.getD 39 undef, tmps.getD 40 undef, tmps.getD 41 undef, tmps.getD 42 undef, tmps.getD 43 undef, tmps.getD 44 undef, tmps.getD 45 undef, tmps.getD 46 undef, tmps.getD 47 undef, tmps.getD 48 undef, tmps.getD 49 undef, tmps.getD 50 undef, tmps.getD 51 undef, tmps.getD 52 undef, tmps.getD 53 undef, tmps.getD 54 undef, tmps.getD 55 undef, tmps.getD 56 undef, tmps.getD 57 undef, tmps.getD 58 undef, tmps.getD 59 undef, tmps.getD 60 undef, tmps.getD 61 undef, tmps.getD 62 undef, tmps.getD 63 undef, tmps.getD 64 undef, tmps.getD 65 undef, tmps.getD 66 undef, tmps.getD 67 undef, tmps.getD 68 undef, tmps.getD 69 undef, tmps.getD 70 undef, tmps.getD 71 undef, tmps.getD 72 undef, tmps.getD 73 undef, tmps.getD 74 undef, tmps.getD 75 undef, tmps.getD 76 undef, tmps.getD 77 undef, tmps.getD 78 undef, tmps.getD 79 undef, tmps.getD 80 undef, tmps.getD 81 undef, tmps.getD 82 undef, tmps.getD 83 undef, tmps.getD 84 undef, tmps.getD 85 undef, tmps.getD 86 undef, tmps.getD 87 undef, tmps.getD 88 undef, tmps.getD 89 undef, tmps.getD 90 undef, tmps.getD 91 undef, tmps.getD 92 undef, tmps.getD 93 undef, tmps.getD 94 undef, tmps.getD 95 undef, tmps.getD 96 undef, tmps.getD 97 undef, tmps.getD 98 undef, tmps.getD 99 undef, tmps.getD 100 undef, tmps.getD 101 undef, tmps.getD 102 undef, tmps.getD 103 undef, tmps.getD 104 undef, tmps.getD 105 undef, tmps.getD 106 undef, tmps.getD 107 undef, tmps.getD 108 undef, tmps.getD 109 undef, tmps.getD 110 undef, tmps.getD 111 undef, tmps.getD 112 undef, tmps.getD 113 undef, tmps.getD 114 undef, tmps.getD 115 undef, tmps.getD 116 undef, tmps.getD 117 undef, tmps.getD 118 undef, tmps.getD 119 undef, tmps.getD 120 undef, tmps.getD 121 undef, tmps.getD 122 undef, tmps.getD 123 undef, tmps.getD 124 undef, tmps.getD 125 undef, tmps.getD 126 undef, tmps.getD 127 undef, tmps.getD 128 undef, tmps.getD 129 undef, tmps.getD 130 undef, tmps.getD 131 undef, tmps.getD 132 undef, tmps.getD 133 undef, tmps.getD 134 undef, tmps.getD 135 undef, tmps.getD 136 undef, tmps.getD 137 undef, tmps.getD 138 undef] := rfl
  rw [e] at hl
  refine ⟨fun i => tmps.getD i undef, ?_, fun _ => rfl⟩
  congr 1
set_option maxRecDepth 1000000 in
set_option maxHeartbeats 16000000 in
theorem meas_tail {d : Nat} (ih : ∀ d', d = d' + 1 → MeC d') {a : Act} {w w1 : World} {B nL nV nP cL cV cP n nM cX cM cS cD M D : Nat} {t : Tm} {aL aV aP aX aM aS aD : Option Addr} {vs : List (ByteArray × Int)}
    (hd : a.defers = []) (hN : a.tmps.size = 139) (h1 : a.tmps[1]? = some (.slice aX n cX)) (h2 : a.tmps[2]? = some (.slice aM nM cM)) (h3 : a.tmps[3]? = some (.slice aS n cS)) (h4 : a.tmps[4]? = some (.slice aD n cD)) (h5 : a.tmps[5]? = some (.pointer (some ⟨w.heap.size, 0, none⟩)))
    (hb3 : w1.heap[w.heap.size]? = some (.cells #[.int .i64 t.op, .string t.name, .int .i64 t.sort, .string t.num, .slice aL nL cL, .slice aV nV cV, .slice aP nP cP] 25)) (hB : B ≤ w.heap.size) (hnL : t.l.length = nL) (hwt : t.wt ≤ 1000000) (hl1 : nL ≤ 1000000)
    (hL : Row B aL nL cL 7 (fun b o j => ∀ u, t.l[j]? = some u → TmAt w B d b o u)) (hw1 : Below w.heap.size w w1) (hVs : Row w1.heap.size aX n cX 2 (BR w1 vs)) (hn1 : n = vs.length) (hS : NR w1 w1.heap.size aS n cS M) (hD : NR w1 w1.heap.size aD n cD D)
    (hM : 1 ≤ M) (hsz : t.size * M ≤ 1000000) (hdp : t.depth + D ≤ 1000000) (hn : n ≤ 1000000) :
    Code.wp Tryd.prog (pTail Tryd.f23) (bodyPost Tryd.prog Tryd.f23 fun ex w' => ∃ x y : Int, ex = .returned (.tuple #[.int .i64 x, .int .i64 y]) ∧ 0 ≤ x ∧ x ≤ ((t.size * M : Nat) : Int) ∧ 0 ≤ y ∧ y ≤ ((t.depth + D : Nat) : Int) ∧ Below w.heap.size w w') a w1 := by
  obtain ⟨u, rfl, hu⟩ := lit139 hN hd
  have u1 : u 1 = .slice aX n cX := (hu 1).trans (getD_of h1)
  have u2 : u 2 = .slice aM nM cM := (hu 2).trans (getD_of h2)
  have u3 : u 3 = .slice aS n cS := (hu 3).trans (getD_of h3)
  have u4 : u 4 = .slice aD n cD := (hu 4).trans (getD_of h4)
  have u5 : u 5 = .pointer (some ⟨w.heap.size, 0, none⟩) := (hu 5).trans (getD_of h5)
  clear hu h1 h2 h3 h4 h5 hN hd
  rw [u1, u2, u3, u4, u5]
  clear u1 u2 u3 u4 u5
  have x4 : w1.cell? ⟨w.heap.size, 4, none⟩ = some (.slice aL nL cL) := (blk hb3).2.1 4 _ rfl
  have hlt := (blk hb3).1
  have hmL : (nL : Int) ≤ 1000000 := by omega
  have HI := hide (And.intro hB (And.intro hL (And.intro hw1 (And.intro hVs (And.intro hS (And.intro hD (And.intro ih (And.intro hn1 (And.intro hnL hwt)))))))))
  have HM := hide (And.intro hM (And.intro hsz hdp))
  clear hB hL hw1 hVs hS hD ih hb3 hn1 hnL hwt hM hsz hdp
  conv => arg 2; whnf
  go_wp2_with fail
  go_loopw [19, 20, 21] (fun xv yv iv wr => ∃ (i : Nat) (x y : Int), i ≤ nL ∧ iv = .int .i64 (i : Int) ∧ xv = .int .i64 x ∧ yv = .int .i64 y ∧ 0 ≤ x ∧ x ≤ (((1 + ((t.l.take i).map Tm.size).sum) * M : Nat) : Int) ∧ 0 ≤ y ∧ y + 1 ≤ ((t.depth + D : Nat) : Int) ∧ Below w1.heap.size w1 wr) (fun _ _ iv _ => nL - (intOf iv).toNat)
  case atStart =>
    obtain ⟨hM, hsz, hdp⟩ := unhide HM
    have hd1 := t.depth_eq
    exact ⟨0, 1, 0, Nat.zero_le _, rfl, rfl, rfl, by omega, by simp; omega, by omega, by omega, Below.refl _ _⟩
  case round =>
    obtain ⟨i, x, y, hi0, rfl, rfl, rfl, hx0, hx1, hy0, hy1, hb⟩ := hrel
    obtain ⟨hB, hL, hw1, hVs, hS, hD, ih, hn1, hnL, hwt⟩ := unhide HI
    obtain ⟨hM, hsz, hdp⟩ := unhide HM
    have y4 := (hb.cell (p := ⟨w.heap.size, 4, none⟩) hlt).trans x4
    have hbw : Below w.heap.size w wr := hw1.trans (hb.mono hw1.size)
    have hsz2 : (1 + ((t.l.take i).map Tm.size).sum) * M ≤ t.size * M := Nat.mul_le_mul_right M (sum_some t i)
    have hx2 : x ≤ 1000000 := by omega
    have hy2 : y ≤ 1000000 := by omega
    by_cases hi : i < nL
    · by_cases hx : x ≤ 50000
      · have hil : i < t.l.length := by omega
        obtain ⟨b1, o1, rfl, hb1, hA1⟩ := (hL.below (hbw.mono hB)).at hnL.symm hi
        obtain ⟨d', bL, bV, bP, mL, mV, mP, kL, kV, kP, rfl, ⟨c0, c1, c2, c3, c4, c5, c6⟩, hT⟩ := hA1.cells
        have hmem := List.getElem_mem hil
        have hsm := sum_more hil
        have hdm := dep_mem hmem
        have hwm := wt_mem hmem
        have hmul : (1 + ((t.l.take (i + 1)).map Tm.size).sum) * M = (1 + ((t.l.take i).map Tm.size).sum) * M + t.l[i].size * M := by rw [hsm, ← Nat.add_mul]; congr 1; omega
        have hsz3 : (1 + ((t.l.take (i + 1)).map Tm.size).sum) * M ≤ t.size * M := Nat.mul_le_mul_right M (sum_some t (i + 1))
        have HCa := hide (fun (W : World) (h : Below wr.heap.size wr W) => ih d' rfl W B _ t.l[i] vs aX aM aS aD n nM cX cM cS cD M D (hT.more (h.mono (Nat.le_trans hB hbw.size)) (Nat.le_refl _) (Nat.le_refl _)) (BR.below hVs (hb.trans (h.mono hb.size)) (Nat.le_trans hb.size h.size)) hn1 (hS.below (hb.trans (h.mono hb.size)) (Nat.le_trans hb.size h.size)) (hD.below (hb.trans (h.mono hb.size)) (Nat.le_trans hb.size h.size)) (Nat.le_trans hB (Nat.le_trans hbw.size h.size)) hM (by omega) (by omega) hn (by omega))
        generalize t.l[i] = ti at *
        unfold tval at HCa
        have hi2 : (i : Int) < (nL : Int) := by omega
        have HR := hide (And.intro hb (And.intro hx1 (And.intro hy1 (And.intro hmul hdm))))
        clear hB hL hw1 hVs hS hD ih hn1 hnL hwt hM hsz hdp hbw hsz2 hb hx1 hy1 hA1 hT hmem hsm hdm hwm hmul hsz3 hil
        go_wp2_with fail
        refine (unhide HCa wr (Below.refl _ _)).mono ?_
        rintro ex w2 ⟨p, q, rfl, hp0, hp1, hq0, hq1, hb2⟩
        obtain ⟨hb, hx1, hy1, hmul, hdm⟩ := unhide HR
        obtain ⟨hM, hsz, hdp⟩ := unhide HM
        have hsz3 : (1 + ((t.l.take (i + 1)).map Tm.size).sum) * M ≤ t.size * M := Nat.mul_le_mul_right M (sum_some t (i + 1))
        have hp2 : p ≤ 1000000 := by omega
        have hq2 : q ≤ 1000000 := by omega
        have H9 : Hid (0 ≤ x + p ∧ x + p ≤ (((1 + ((t.l.take (i + 1)).map Tm.size).sum) * M : Nat) : Int) ∧ 0 ≤ max y q ∧ max y q + 1 ≤ ((t.depth + D : Nat) : Int) ∧ Below w1.heap.size w1 w2) := ⟨by omega, by rw [hmul]; omega, by omega, by omega, hb.trans (hb2.mono hb.size)⟩
        clear hb hx1 hy1 hmul hdm hM hsz hdp hsz3 hp1 hq1 hb2 HR HCa
        go_wp2
        obtain ⟨r1, r2, r3, r4, r5⟩ := unhide H9
        exact ⟨⟨i + 1, x + p, max y q, by omega, by simp, by simp, by simp, r1, r2, r3, r4, r5⟩, by simp [intOf]; omega⟩
      · have hd9 : decide (x ≤ 50000) = false := by simp [hx]
        have hd8 : decide ((i : Int) < (nL : Int)) = true := by simp; omega
        have H9 : Hid (0 ≤ x ∧ x ≤ ((t.size * M : Nat) : Int) ∧ 0 ≤ y + 1 ∧ y + 1 ≤ ((t.depth + D : Nat) : Int) ∧ Below w.heap.size w wr) := ⟨hx0, by omega, by omega, hy1, hbw⟩
        clear hB hL hw1 hVs hS hD ih hn1 hnL hwt hM hsz hdp hbw hsz2 hb hx1 hy1
        go_wp2
        go_ret2
        exact ⟨x, y + 1, rfl, unhide H9⟩
    · obtain rfl : i = nL := by omega
      have hd8 : decide ((i : Int) < (i : Int)) = false := by simp
      have H9 : Hid (0 ≤ x ∧ x ≤ ((t.size * M : Nat) : Int) ∧ 0 ≤ y + 1 ∧ y + 1 ≤ ((t.depth + D : Nat) : Int) ∧ Below w.heap.size w wr) := ⟨hx0, by omega, by omega, hy1, hbw⟩
      clear hB hL hw1 hVs hS hD ih hn1 hnL hwt hM hsz hdp hbw hsz2 hb hx1 hy1 hi
      go_wp2
      go_ret2
      exact ⟨x, y + 1, rfl, unhide H9⟩
end Go.Proofs.YtegmckpcchhmdaaDoor

/- measure: terms of all kinds. -/
namespace Go.Proofs.YtegmckpcchhmdaaDoor
open Go Go.RowKit
set_option maxRecDepth 1000000 in
set_option maxHeartbeats 16000000 in
theorem meas_plain {d : Nat} (ih : ∀ d', d = d' + 1 → MeC d') (w : World) (B : Nat) (v : Value) (t : Tm) (vs : List (ByteArray × Int)) (aX aM aS aD : Option Addr) (n nM cX cM cS cD M D : Nat) (hT : IsT w B d v t) (hVs : Row w.heap.size aX n cX 2 (BR w vs)) (hn1 : n = vs.length) (hS : NR w w.heap.size aS n cS M) (hD : NR w w.heap.size aD n cD D) (hB : B ≤ w.heap.size) (hM : 1 ≤ M) (hsz : t.size * M ≤ 1000000) (hdp : t.depth + D ≤ 1000000) (hn : n ≤ 1000000) (hwt : t.wt ≤ 1000000) (h18 : t.op ≠ 18) (h19 : t.op ≠ 19) : Calls Tryd.prog 23 #[v, .slice aX n cX, .slice aM nM cM, .slice aS n cS, .slice aD n cD] w fun ex w' => ∃ x y : Int, ex = .returned (.tuple #[.int .i64 x, .int .i64 y]) ∧ 0 ≤ x ∧ x ≤ ((t.size * M : Nat) : Int) ∧ 0 ≤ y ∧ y ≤ ((t.depth + D : Nat) : Int) ∧ Below w.heap.size w w' := by
  obtain ⟨f1, f2, aL, aV, aP, cL, cV, cP, rfl, hL, hV, hP⟩ := hT
  simp only [tcells, List.toArray]
  have hwl := t.wt_eq
  have hl1 : t.l.length ≤ 1000000 := by have := len_wt t.l; omega
  have hl3 : t.vars.length ≤ 1000000 := by omega
  obtain ⟨nL, hnL⟩ : ∃ n, t.l.length = n := ⟨_, rfl⟩
  obtain ⟨nV, hnV⟩ : ∃ n, t.vars.length = n := ⟨_, rfl⟩
  obtain ⟨nP, hnP⟩ : ∃ n, t.pat.length = n := ⟨_, rfl⟩
  rw [hnL] at hL hl1 ⊢
  rw [hnV] at hV hl3 ⊢
  rw [hnP] at hP ⊢
  obtain ⟨w1, e1, hbw1, hs1, hc1, hh1⟩ := box_new w #[.int .i64 t.op, .string t.name, .int .i64 t.sort, .string t.num, .slice aL nL cL, .slice aV nV cV, .slice aP nP cP] 25
  have hn' : (n : Int) ≤ 1000000 := by omega
  have hV' : (nV : Int) ≤ 1000000 := by omega
  have HE := hide e1
  have x0 : w1.cell? ⟨w.heap.size, 0, none⟩ = some (.int .i64 t.op) := (blk hh1).2.1 0 _ rfl
  have x1 : w1.cell? ⟨w.heap.size, 1, none⟩ = some (.string t.name) := (blk hh1).2.1 1 _ rfl
  have x2 : w1.cell? ⟨w.heap.size, 2, none⟩ = some (.int .i64 t.sort) := (blk hh1).2.1 2 _ rfl
  have x3 : w1.cell? ⟨w.heap.size, 3, none⟩ = some (.string t.num) := (blk hh1).2.1 3 _ rfl
  have x4 : w1.cell? ⟨w.heap.size, 4, none⟩ = some (.slice aL nL cL) := (blk hh1).2.1 4 _ rfl
  have x5 : w1.cell? ⟨w.heap.size, 5, none⟩ = some (.slice aV nV cV) := (blk hh1).2.1 5 _ rfl
  have x6 : w1.cell? ⟨w.heap.size, 6, none⟩ = some (.slice aP nP cP) := (blk hh1).2.1 6 _ rfl
  have HI := hide (And.intro hL (And.intro hV (And.intro hh1 (And.intro hbw1 (And.intro hVs (And.intro hS (And.intro hD (And.intro hB ih))))))))
  have HN := hide (And.intro hnL (And.intro hnV (And.intro hn1 (And.intro hwt (And.intro hM (And.intro hsz hdp))))))
  clear hL hV hP hh1 hbw1 hVs hS hD hB ih hnL hnV hnP hn1 hwt f1 f2 e1 hc1 hwl hM hsz hdp
  go_enter Tryd.func23, Tryd.ntmps23
  change Code.wp Tryd.prog (.seq (Go.Proofs.YtegmckpcchhmdaaDoor.cL (pAll Tryd.f23)) (.seq (Go.Proofs.YtegmckpcchhmdaaDoor.cL (Go.Proofs.YtegmckpcchhmdaaDoor.cR (pAll Tryd.f23))) (.seq (Go.Proofs.YtegmckpcchhmdaaDoor.cL (Go.Proofs.YtegmckpcchhmdaaDoor.cR (Go.Proofs.YtegmckpcchhmdaaDoor.cR (pAll Tryd.f23)))) (pTail Tryd.f23)))) _ _ _
  conv => arg 2; arg 1; whnf
  conv => arg 2; arg 2; arg 1; whnf
  conv => arg 2; arg 2; arg 2; arg 1; whnf
  have q18 : (t.op == 18) = false := by simp [h18]
  have q19 : (t.op == 19) = false := by simp [h19]
  clear h18 h19
  go_wp2_with fail
  show Code.wp _ _ _ _ (w.alloc (.cells #[.int .i64 t.op, .string t.name, .int .i64 t.sort, .string t.num, .slice aL nL cL, .slice aV nV cV, .slice aP nP cP] 25))
  rw [show (w.alloc (.cells #[.int .i64 t.op, .string t.name, .int .i64 t.sort, .string t.num, .slice aL nL cL, .slice aV nV cV, .slice aP nP cP] 25)) = w1 from unhide HE]
  obtain ⟨hL, hV, hh1, hbw1, hVs, hS, hD, hB, ih⟩ := unhide HI
  obtain ⟨hnL, hnV, hn1, hwt, hM, hsz, hdp⟩ := unhide HN
  exact meas_tail (t := t) ih rfl rfl rfl rfl rfl rfl rfl hh1 hB hnL hwt hl1 hL hbw1 (BR.below hVs hbw1 hbw1.size) hn1 (hS.below hbw1 hbw1.size) (hD.below hbw1 hbw1.size) hM hsz hdp hn
set_option maxRecDepth 1000000 in
set_option maxHeartbeats 16000000 in
theorem meas_var {d : Nat} (ih : ∀ d', d = d' + 1 → MeC d') (w : World) (B : Nat) (v : Value) (t : Tm) (vs : List (ByteArray × Int)) (aX aM aS aD : Option Addr) (n nM cX cM cS cD M D : Nat) (hT : IsT w B d v t) (hVs : Row w.heap.size aX n cX 2 (BR w vs)) (hn1 : n = vs.length) (hS : NR w w.heap.size aS n cS M) (hD : NR w w.heap.size aD n cD D) (hB : B ≤ w.heap.size) (hM : 1 ≤ M) (hsz : t.size * M ≤ 1000000) (hdp : t.depth + D ≤ 1000000) (hn : n ≤ 1000000) (hwt : t.wt ≤ 1000000) (h18 : t.op = 18) : Calls Tryd.prog 23 #[v, .slice aX n cX, .slice aM nM cM, .slice aS n cS, .slice aD n cD] w fun ex w' => ∃ x y : Int, ex = .returned (.tuple #[.int .i64 x, .int .i64 y]) ∧ 0 ≤ x ∧ x ≤ ((t.size * M : Nat) : Int) ∧ 0 ≤ y ∧ y ≤ ((t.depth + D : Nat) : Int) ∧ Below w.heap.size w w' := by
  obtain ⟨f1, f2, aL, aV, aP, cL, cV, cP, rfl, hL, hV, hP⟩ := hT
  simp only [tcells, List.toArray]
  have hwl := t.wt_eq
  have hl1 : t.l.length ≤ 1000000 := by have := len_wt t.l; omega
  have hl3 : t.vars.length ≤ 1000000 := by omega
  obtain ⟨nL, hnL⟩ : ∃ n, t.l.length = n := ⟨_, rfl⟩
  obtain ⟨nV, hnV⟩ : ∃ n, t.vars.length = n := ⟨_, rfl⟩
  obtain ⟨nP, hnP⟩ : ∃ n, t.pat.length = n := ⟨_, rfl⟩
  rw [hnL] at hL hl1 ⊢
  rw [hnV] at hV hl3 ⊢
  rw [hnP] at hP ⊢
  obtain ⟨w1, e1, hbw1, hs1, hc1, hh1⟩ := box_new w #[.int .i64 t.op, .string t.name, .int .i64 t.sort, .string t.num, .slice aL nL cL, .slice aV nV cV, .slice aP nP cP] 25
  have hn' : (n : Int) ≤ 1000000 := by omega
  have hV' : (nV : Int) ≤ 1000000 := by omega
  have HE := hide e1
  have x0 : w1.cell? ⟨w.heap.size, 0, none⟩ = some (.int .i64 t.op) := (blk hh1).2.1 0 _ rfl
  have x1 : w1.cell? ⟨w.heap.size, 1, none⟩ = some (.string t.name) := (blk hh1).2.1 1 _ rfl
  have x2 : w1.cell? ⟨w.heap.size, 2, none⟩ = some (.int .i64 t.sort) := (blk hh1).2.1 2 _ rfl
  have x3 : w1.cell? ⟨w.heap.size, 3, none⟩ = some (.string t.num) := (blk hh1).2.1 3 _ rfl
  have x4 : w1.cell? ⟨w.heap.size, 4, none⟩ = some (.slice aL nL cL) := (blk hh1).2.1 4 _ rfl
  have x5 : w1.cell? ⟨w.heap.size, 5, none⟩ = some (.slice aV nV cV) := (blk hh1).2.1 5 _ rfl
  have x6 : w1.cell? ⟨w.heap.size, 6, none⟩ = some (.slice aP nP cP) := (blk hh1).2.1 6 _ rfl
  have HI := hide (And.intro hL (And.intro hV (And.intro hh1 (And.intro hbw1 (And.intro hVs (And.intro hS (And.intro hD (And.intro hB ih))))))))
  have HN := hide (And.intro hnL (And.intro hnV (And.intro hn1 (And.intro hwt (And.intro hM (And.intro hsz hdp))))))
  clear hL hV hP hh1 hbw1 hVs hS hD hB ih hnL hnV hnP hn1 hwt f1 f2 e1 hc1 hwl hM hsz hdp
  go_enter Tryd.func23, Tryd.ntmps23
  change Code.wp Tryd.prog (.seq (Go.Proofs.YtegmckpcchhmdaaDoor.cL (pAll Tryd.f23)) (.seq (Go.Proofs.YtegmckpcchhmdaaDoor.cL (Go.Proofs.YtegmckpcchhmdaaDoor.cR (pAll Tryd.f23))) (.seq (Go.Proofs.YtegmckpcchhmdaaDoor.cL (Go.Proofs.YtegmckpcchhmdaaDoor.cR (Go.Proofs.YtegmckpcchhmdaaDoor.cR (pAll Tryd.f23)))) (pTail Tryd.f23)))) _ _ _
  conv => arg 2; arg 1; whnf
  conv => arg 2; arg 2; arg 1; whnf
  conv => arg 2; arg 2; arg 2; arg 1; whnf
  have q18 : (t.op == 18) = true := by simp [h18]
  have q19 : (t.op == 19) = false := by simp [h18]
  have hs2 : w1.heap.size = w.heap.size + 1 := hs1
  clear h18
  go_wp2_with fail
  show Code.wp _ _ _ _ (w.alloc (.cells #[.int .i64 t.op, .string t.name, .int .i64 t.sort, .string t.num, .slice aL nL cL, .slice aV nV cV, .slice aP nP cP] 25))
  rw [show (w.alloc (.cells #[.int .i64 t.op, .string t.name, .int .i64 t.sort, .string t.num, .slice aL nL cL, .slice aV nV cV, .slice aP nP cP] 25)) = w1 from unhide HE]
  clear HE x2 x3 x4 x5 x6
  go_loopw [12] (fun iv wr => ∃ i : Nat, i ≤ n ∧ iv = .int .i64 (i : Int) ∧ Below w1.heap.size w1 wr) (fun iv _ => n - (intOf iv).toNat)
  case atStart => exact ⟨0, Nat.zero_le _, rfl, Below.refl _ _⟩
  case round =>
    obtain ⟨i, hi0, rfl, hb⟩ := hrel
    obtain ⟨hL, hV, hh1, hbw1, hVs, hS, hD, hB, ih⟩ := unhide HI
    obtain ⟨hnL, hnV, hn1, hwt, hM, hsz, hdp⟩ := unhide HN
    have hbw : Below w.heap.size w wr := hbw1.trans (hb.mono (by omega))
    by_cases hi : i < n
    · have hiv : i < vs.length := by omega
      obtain ⟨bX, oX, rfl, hbX, cx, -⟩ := (hVs.belowV hbw).atV hn1 hi
      obtain ⟨bS, oS, rfl, hbS, zs, s0, s1, cs⟩ := (hS.below hbw (Nat.le_refl _)).at hi
      obtain ⟨bD, oD, rfl, hbD, zd, d0, d1, cd⟩ := (hD.below hbw (Nat.le_refl _)).at hi
      have y1 := (hb.cell (p := ⟨w.heap.size, 1, none⟩) (show w.heap.size < w1.heap.size by omega)).trans x1
      have hi2 : (i : Int) < (n : Int) := by omega
      by_cases heq : vs[i].1 = t.name
      · rw [heq] at cx
        have hsp : 1 ≤ t.size := by rw [t.size_eq]; omega
        have hsm : M ≤ t.size * M := Nat.le_mul_of_pos_left M hsp
        have H9 : Hid (0 ≤ zs ∧ zs ≤ ((t.size * M : Nat) : Int) ∧ 0 ≤ zd ∧ zd ≤ ((t.depth + D : Nat) : Int) ∧ Below w.heap.size w wr) := ⟨s0, by omega, d0, by omega, hbw⟩
        clear heq hsp hsm hiv
        clear hL hV hh1 hbw1 hVs hS hD hB ih hnL hnV hn1 hwt hM hsz hdp hbw hb
        go_wp2
        go_quiet (fail)
        go_wp2
        go_quiet (fail)
        go_wp2
        go_ret2
        obtain ⟨r1, r2, r3, r4, r5⟩ := unhide H9
        exact ⟨zs, zd, rfl, r1, r2, r3, r4, below_drewN (below_drewN r5 _) _⟩
      · have hne : (vs[i].1.toList == t.name.toList) = false := str_ne heq
        have HR := hide hb
        clear heq
        generalize vs[i].1 = x at *
        clear hL hV hh1 hbw1 hVs hS hD hB ih hnL hnV hn1 hwt hM hsz hdp hbw hb
        go_wp2
        go_quiet (fail)
        go_wp2
        exact ⟨⟨i + 1, by omega, by simp, below_drewN (unhide HR) _⟩, by simp [intOf]; omega⟩
    · obtain rfl : i = n := by omega
      have hd9 : decide ((i : Int) < (i : Int)) = false := by simp
      have y0 := (hb.cell (p := ⟨w.heap.size, 0, none⟩) (show w.heap.size < w1.heap.size by omega)).trans x0
      have HR := hide (And.intro hb hbw)
      clear hL hV hh1 hbw1 hVs hS hD hB ih hnL hnV hn1 hwt hM hsz hdp hbw hb hi
      go_wp2_with fail
      obtain ⟨hb, hbw⟩ := unhide HR
      obtain ⟨hL, hV, hh1, hbw1, hVs, hS, hD, hB, ih⟩ := unhide HI
      obtain ⟨hnL, hnV, hn1, hwt, hM, hsz, hdp⟩ := unhide HN
      exact meas_tail (t := t) ih rfl rfl rfl rfl rfl rfl rfl ((hb.block _ (by omega)).trans hh1) hB hnL hwt hl1 hL hbw (BR.below hVs hbw hbw.size) hn1 (hS.below hbw hbw.size) (hD.below hbw hbw.size) hM hsz hdp hn
end Go.Proofs.YtegmckpcchhmdaaDoor

/- measure: universal terms. -/
namespace Go.Proofs.YtegmckpcchhmdaaDoor
open Go Go.RowKit
def AllN (M : Nat) (ys : List Value) : Prop := ∀ y ∈ ys, ∃ z : Int, y = .int .i64 z ∧ 0 ≤ z ∧ z ≤ (M : Int)
theorem nr_own {w : World} {E n M : Nat} {v : Value} {ys : List Value} (h : w.ownsRow E 3 1 v n ys) (hy : AllN M ys) (hl : n ≤ 281474976710656) : ∃ a c, v = .slice a n c ∧ NR w w.heap.size a n c M := by
  have hlen : ys.length = n * 1 := h.1
  obtain ⟨a, c, rfl, hc, hr⟩ := own_cells h
  refine ⟨a, c, rfl, hc, hl, fun h0 => ?_⟩
  obtain ⟨g, rfl, _, hg, hj⟩ := hr h0
  refine ⟨g, 0, rfl, hg, fun j hjn => ?_⟩
  have hjl : j < ys.length := by omega
  obtain ⟨z, e, z0, z1⟩ := hy _ (List.getElem_mem hjl)
  refine ⟨z, z0, z1, ?_⟩
  have := hj j ys[j] (List.getElem?_eq_getElem hjl)
  rw [e] at this
  rw [show 0 + j * 1 = j by omega]
  exact this
/-- How far the filter has come. -/
def KM (w : World) (E i M D : Nat) (v8 v9 v10 : Value) : Prop := ∃ (m : Nat) (x : List (ByteArray × Int)) (ys zs : List Value), m ≤ i ∧ m = x.length ∧ w.ownsRow E 36 2 v8 m (bcells x) ∧ w.ownsRow E 3 1 v9 m ys ∧ w.ownsRow E 3 1 v10 m zs ∧ (∀ u ∈ x, fits u.2) ∧ AllN M ys ∧ AllN D zs ∧ (∀ g, v8.ownBlock = some g → v9.ownBlock ≠ some g) ∧ (∀ g, v8.ownBlock = some g → v10.ownBlock ≠ some g) ∧ (∀ g, v9.ownBlock = some g → v10.ownBlock ≠ some g)
theorem KM.below {w w' : World} {E i i' M D : Nat} {v8 v9 v10 : Value} (h : KM w E i M D v8 v9 v10) (hw : Below w.heap.size w w') (hi : i ≤ i') : KM w' E i' M D v8 v9 v10 := by
  obtain ⟨m, x, ys, zs, h0, h1, o8, o9, o10, hf, a1, a2, p1, p2, p3⟩ := h
  exact ⟨m, x, ys, zs, by omega, h1, own_sameK o8 fun g hg => hw.block g (o8.lt g hg).2, own_sameK o9 fun g hg => hw.block g (o9.lt g hg).2, own_sameK o10 fun g hg => hw.block g (o10.lt g hg).2, hf, a1, a2, p1, p2, p3⟩
set_option maxRecDepth 1000000 in
set_option maxHeartbeats 16000000 in
theorem meas_all {d : Nat} (ih : ∀ d', d = d' + 1 → MeC d') (w : World) (B : Nat) (v : Value) (t : Tm) (vs : List (ByteArray × Int)) (aX aM aS aD : Option Addr) (n nM cX cM cS cD M D : Nat) (hT : IsT w B d v t) (hVs : Row w.heap.size aX n cX 2 (BR w vs)) (hn1 : n = vs.length) (hS : NR w w.heap.size aS n cS M) (hD : NR w w.heap.size aD n cD D) (hB : B ≤ w.heap.size) (hM : 1 ≤ M) (hsz : t.size * M ≤ 1000000) (hdp : t.depth + D ≤ 1000000) (hn : n ≤ 1000000) (hwt : t.wt ≤ 1000000) (h19 : t.op = 19) : Calls Tryd.prog 23 #[v, .slice aX n cX, .slice aM nM cM, .slice aS n cS, .slice aD n cD] w fun ex w' => ∃ x y : Int, ex = .returned (.tuple #[.int .i64 x, .int .i64 y]) ∧ 0 ≤ x ∧ x ≤ ((t.size * M : Nat) : Int) ∧ 0 ≤ y ∧ y ≤ ((t.depth + D : Nat) : Int) ∧ Below w.heap.size w w' := by
  obtain ⟨f1, f2, aL, aV, aP, cL, cV, cP, rfl, hL, hV, hP⟩ := hT
  simp only [tcells, List.toArray]
  have hwl := t.wt_eq
  have hl1 : t.l.length ≤ 1000000 := by have := len_wt t.l; omega
  have hl3 : t.vars.length ≤ 1000000 := by omega
  obtain ⟨nL, hnL⟩ : ∃ n, t.l.length = n := ⟨_, rfl⟩
  obtain ⟨nV, hnV⟩ : ∃ n, t.vars.length = n := ⟨_, rfl⟩
  obtain ⟨nP, hnP⟩ : ∃ n, t.pat.length = n := ⟨_, rfl⟩
  rw [hnL] at hL hl1 ⊢
  rw [hnV] at hV hl3 ⊢
  rw [hnP] at hP ⊢
  obtain ⟨w1, e1, hbw1, hs1, hc1, hh1⟩ := box_new w #[.int .i64 t.op, .string t.name, .int .i64 t.sort, .string t.num, .slice aL nL cL, .slice aV nV cV, .slice aP nP cP] 25
  have hn' : (n : Int) ≤ 1000000 := by omega
  have hV' : (nV : Int) ≤ 1000000 := by omega
  have HE := hide e1
  have x0 : w1.cell? ⟨w.heap.size, 0, none⟩ = some (.int .i64 t.op) := (blk hh1).2.1 0 _ rfl
  have x1 : w1.cell? ⟨w.heap.size, 1, none⟩ = some (.string t.name) := (blk hh1).2.1 1 _ rfl
  have x2 : w1.cell? ⟨w.heap.size, 2, none⟩ = some (.int .i64 t.sort) := (blk hh1).2.1 2 _ rfl
  have x3 : w1.cell? ⟨w.heap.size, 3, none⟩ = some (.string t.num) := (blk hh1).2.1 3 _ rfl
  have x4 : w1.cell? ⟨w.heap.size, 4, none⟩ = some (.slice aL nL cL) := (blk hh1).2.1 4 _ rfl
  have x5 : w1.cell? ⟨w.heap.size, 5, none⟩ = some (.slice aV nV cV) := (blk hh1).2.1 5 _ rfl
  have x6 : w1.cell? ⟨w.heap.size, 6, none⟩ = some (.slice aP nP cP) := (blk hh1).2.1 6 _ rfl
  have HI := hide (And.intro hL (And.intro hV (And.intro hh1 (And.intro hbw1 (And.intro hVs (And.intro hS (And.intro hD (And.intro hB ih))))))))
  have HN := hide (And.intro hnL (And.intro hnV (And.intro hn1 (And.intro hwt (And.intro hM (And.intro hsz hdp))))))
  clear hL hV hP hh1 hbw1 hVs hS hD hB ih hnL hnV hnP hn1 hwt f1 f2 e1 hc1 hwl hM hsz hdp
  go_enter Tryd.func23, Tryd.ntmps23
  change Code.wp Tryd.prog (.seq (Go.Proofs.YtegmckpcchhmdaaDoor.cL (pAll Tryd.f23)) (.seq (Go.Proofs.YtegmckpcchhmdaaDoor.cL (Go.Proofs.YtegmckpcchhmdaaDoor.cR (pAll Tryd.f23))) (.seq (Go.Proofs.YtegmckpcchhmdaaDoor.cL (Go.Proofs.YtegmckpcchhmdaaDoor.cR (Go.Proofs.YtegmckpcchhmdaaDoor.cR (pAll Tryd.f23)))) (pTail Tryd.f23)))) _ _ _
  conv => arg 2; arg 1; whnf
  conv => arg 2; arg 2; arg 1; whnf
  conv => arg 2; arg 2; arg 2; arg 1; whnf
  have q18 : (t.op == 18) = false := by simp [h19]
  have q19 : (t.op == 19) = true := by simp [h19]
  have hs2 : w1.heap.size = w.heap.size + 1 := hs1
  clear h19
  go_wp2_with fail
  show Code.wp _ _ _ _ (w.alloc (.cells #[.int .i64 t.op, .string t.name, .int .i64 t.sort, .string t.num, .slice aL nL cL, .slice aV nV cV, .slice aP nP cP] 25))
  rw [show (w.alloc (.cells #[.int .i64 t.op, .string t.name, .int .i64 t.sort, .string t.num, .slice aL nL cL, .slice aV nV cV, .slice aP nP cP] 25)) = w1 from unhide HE]
  clear HE x1 x2 x3 x4 x6 x0 q18 q19
  go_loopw [13, 14, 15, 16] (fun v8 v9 v10 iv wr => ∃ i : Nat, i ≤ n ∧ iv = .int .i64 (i : Int) ∧ Below w1.heap.size w1 wr ∧ KM wr w1.heap.size i M D v8 v9 v10) (fun _ _ _ iv _ => n - (intOf iv).toNat)
  case atStart => exact ⟨0, Nat.zero_le _, rfl, Below.refl _ _, 0, [], [], [], Nat.le_refl _, rfl, own_nilK _ _ _ _, own_nilK _ _ _ _, own_nilK _ _ _ _, fun u hu => (by cases hu), fun u hu => (by cases hu), fun u hu => (by cases hu), fun g hg => by simp [Value.ownBlock] at hg, fun g hg => by simp [Value.ownBlock] at hg, fun g hg => by simp [Value.ownBlock] at hg⟩
  case round =>
    obtain ⟨i, hi0, rfl, hb, hK⟩ := hrel
    obtain ⟨hL, hV, hh1, hbw1, hVs, hS, hD, hB, ih⟩ := unhide HI
    obtain ⟨hnL, hnV, hn1, hwt, hM, hsz, hdp⟩ := unhide HN
    have hbw : Below w.heap.size w wr := hbw1.trans (hb.mono (by omega))
    have hsr := hb.size
    by_cases hi : i < n
    · have hiv : i < vs.length := by omega
      have hfx : fits (vs[i]).2 := by
        obtain ⟨b, o, _, _, h⟩ := hVs.2.2 (by omega)
        exact (h i hi _ (List.getElem?_eq_getElem hiv)).2
      obtain ⟨bX, oX, rfl, hbX, cx, cx1⟩ := (hVs.belowV hbw).atV hn1 hi
      obtain ⟨bS, oS, rfl, hbS, zs, s0, s1, cs⟩ := (hS.below hbw (Nat.le_refl _)).at hi
      obtain ⟨bD, oD, rfl, hbD, zd, d0, d1, cd⟩ := (hD.below hbw (Nat.le_refl _)).at hi
      have hi2 : (i : Int) < (n : Int) := by omega
      generalize vs[i] = xv at *
      obtain ⟨xs0, xz⟩ := xv
      have HR := hide (And.intro hbw (And.intro hb (And.intro hK (And.intro cx (And.intro cx1 (And.intro cs (And.intro cd (And.intro hV (And.intro hnV (And.intro hB (And.intro s0 (And.intro s1 (And.intro d0 (And.intro d1 hfx))))))))))))))
      clear hL hV hh1 hbw1 hVs hS hD hB ih hnL hnV hn1 hwt hM hsz hdp hbw hb hK cx cx1 cs cd s0 s1 d0 d1 hfx
      obtain ⟨wi, ewi⟩ : ∃ W, W = wr := ⟨_, rfl⟩
      subst ewi
      go_wp2_with fail
      go_loopw [17, 18] (fun hv kv wq => ∃ (k : Nat) (so : Bool), k ≤ nV ∧ kv = .int .i64 (k : Int) ∧ hv = .bool so ∧ Below wi.heap.size wi wq) (fun _ kv _ => nV - (intOf kv).toNat)
      case atStart => exact ⟨0, false, Nat.zero_le _, rfl, rfl, Below.refl _ _⟩
      case round =>
        obtain ⟨k, so, hk0, rfl, rfl, hb2⟩ := hrel
        obtain ⟨hbw, hb, hK, cx, cx1, cs, cd, hV, hnV, hB, s0, s1, d0, d1, hfx⟩ := unhide HR
        have hb02 : Below w1.heap.size w1 wr := hb.trans (hb2.mono hb.size)
        have y5 := (hb02.cell (p := ⟨w.heap.size, 5, none⟩) (show w.heap.size < w1.heap.size by omega)).trans x5
        have hs2r := hb2.size
        by_cases hk : k < nV
        · have hkl : k < t.vars.length := by omega
          have cx' := (hb2.cell (p := ⟨bX, oX + i * 2, none⟩) (show bX < wi.heap.size by omega)).trans cx
          obtain ⟨b', o', rfl, hbB', cv, -⟩ := (hV.belowV ((hbw.trans (hb2.mono hbw.size)).mono hB)).atV hnV.symm hk
          generalize t.vars[k] = yv at *
          obtain ⟨ys0, yz⟩ := yv
          have hk2 : (k : Int) < (nV : Int) := by omega
          have HB2 := hide hb2
          clear hbw hb hK cx cx1 cs cd hV hnV hB hb2 hb02 s0 s1 d0 d1 hfx
          cases so with
          | true =>
            go_wp2
            go_quiet (fail)
            go_wp2
            exact ⟨⟨k + 1, true, by omega, by simp, rfl, below_drewN (unhide HB2) _⟩, by simp [intOf]; omega⟩
          | false =>
            by_cases heq : ys0 = xs0
            · subst heq
              go_wp2
              go_quiet (fail)
              go_wp2
              exact ⟨⟨k + 1, true, by omega, by simp, by simp, below_drewN (unhide HB2) _⟩, by simp [intOf]; omega⟩
            · have hne : (ys0.toList == xs0.toList) = false := str_ne heq
              clear heq
              go_wp2
              go_quiet (fail)
              go_wp2
              exact ⟨⟨k + 1, false, by omega, by simp, rfl, below_drewN (unhide HB2) _⟩, by simp [intOf]; omega⟩
        · obtain rfl : k = nV := by omega
          have hd9 : decide ((k : Int) < (k : Int)) = false := by simp
          cases so with
          | true =>
            have H9 := hide (And.intro hb02 (hK.below hb2 (Nat.le_succ i)))
            clear hbw hb hK cx cx1 cs cd hV hnV hB hb2 hb02 s0 s1 d0 d1 hfx
            go_wp2
            obtain ⟨q1, q2⟩ := unhide H9
            exact ⟨⟨i + 1, by omega, by simp, q1, q2⟩, by simp [intOf]; omega⟩
          | false =>
            have hcx : wr.rangeAt bX (oX + i * 2) [.string xs0, .int .i64 xz] := fun j v hv => by
              have hj2 : j < 2 := by
                have := (List.getElem?_eq_some_iff.1 hv).1
                simpa using this
              rcases (by omega : j = 0 ∨ j = 1) with rfl | rfl
              · obtain rfl : Value.string xs0 = v := by simpa using hv
                exact (hb2.cell (p := ⟨bX, oX + i * 2, none⟩) (show bX < wi.heap.size by omega)).trans cx
              · obtain rfl : Value.int .i64 xz = v := by simpa using hv
                exact (hb2.cell (p := ⟨bX, oX + i * 2 + 1, none⟩) (show bX < wi.heap.size by omega)).trans cx1
            have cs2 := (hb2.cell (p := ⟨bS, oS + i, none⟩) (show bS < wi.heap.size by omega)).trans cs
            have cd2 := (hb2.cell (p := ⟨bD, oD + i, none⟩) (show bD < wi.heap.size by omega)).trans cd
            have H9 := hide (And.intro hb02 (And.intro (hK.below hb2 (Nat.le_refl i)) (And.intro hcx (And.intro cs2 (And.intro cd2 (And.intro s0 (And.intro s1 (And.intro d0 (And.intro d1 hfx)))))))))
            clear hbw hb hK cx cx1 cs cd hV hnV hB hb2 hb02 s0 s1 d0 d1 hfx hcx cs2 cd2
            go_wp2_with fail
            obtain ⟨hb02, ⟨m, x, ys, ds, h0, hm, o8, o9, o10, hf, a1, a2, p1, p2, p3⟩, hcx, cs2, cd2, s0, s1, d0, d1, hfx⟩ := unhide H9
            refine meas_r19 (w0 := wr) (B := w1.heap.size) (i := i) (n := m) (s := xs0) (z := xz) (zs := zs) (zd := zd) rfl (by omega) rfl rfl rfl rfl rfl rfl rfl hi hi hi (by omega) (by omega) (by omega) hcx cs2 cd2 o8 o9 o10 p1 p2 p3 (by omega) ?_
            intro a w' hdf hna hk9 hB' o8' o9' o10' p1' p2' p3'
            obtain ⟨y, ea, hy⟩ := act_set [13, 14, 15, 82, 83, 84, 85, 86, 87, 88, 89, 90, 91, 92, 93, 94, 95, 96, 97, 98, 99, 100, 101, 102] (by kernel_rfl) hdf hna rfl hk9
            rw [← hy 13] at o8' p1' p2'
            rw [← hy 14] at o9' p1' p3'
            rw [← hy 15] at o10' p2' p3'
            subst ea
            have hK9 : KM w' w1.heap.size (i + 1) M D (y 13) (y 14) (y 15) := by
              refine ⟨m + 1, x ++ [(xs0, xz)], ys ++ [.int .i64 zs], ds ++ [.int .i64 zd], by omega, by simp [hm], by rw [bcells_app]; exact o8', o9', o10', fun u hu => ?_, fun u hu => ?_, fun u hu => ?_, p1', p2', p3'⟩
              · rcases List.mem_append.1 hu with h | h
                · exact hf u h
                · obtain rfl := List.mem_singleton.1 h
                  exact hfx
              · rcases List.mem_append.1 hu with h | h
                · exact a1 u h
                · exact ⟨zs, List.mem_singleton.1 h, s0, s1⟩
              · rcases List.mem_append.1 hu with h | h
                · exact a2 u h
                · exact ⟨zd, List.mem_singleton.1 h, d0, d1⟩
            have H10 := hide (And.intro (hb02.trans hB') hK9)
            clear hy hdf hna hk9 hB' o8' o9' o10' p1' p2' p3' hK9 hb02 h0 hm o8 o9 o10 hf a1 a2 p1 p2 p3 hcx cs2 cd2 s0 s1 d0 d1 hfx H9
            simp only [setAll]
            go_wp2
            obtain ⟨q1, q2⟩ := unhide H10
            exact ⟨⟨i + 1, by omega, by simp, q1, q2⟩, by simp [intOf]; omega⟩
    · obtain rfl : i = n := by omega
      have hd9 : decide ((i : Int) < (i : Int)) = false := by simp
      obtain ⟨m, x, ys, ds, h0, hm, o8, o9, o10, hf, a1, a2, p1, p2, p3⟩ := hK
      obtain ⟨a8, c8, rfl, r8⟩ := row_own o8 hm hf (by omega)
      obtain ⟨a9, c9, rfl, r9⟩ := nr_own o9 a1 (by omega)
      obtain ⟨a0, c0, rfl, r0⟩ := nr_own o10 a2 (by omega)
      have H9 := hide (And.intro hb (And.intro hbw (And.intro r8 (And.intro r9 (And.intro r0 (And.intro hm h0))))))
      clear hL hV hh1 hbw1 hVs hS hD hB ih hnL hnV hn1 hwt hM hsz hdp hbw hb hi o8 o9 o10 hf a1 a2 p1 p2 p3 r8 r9 r0 hm h0
      go_wp2_with fail
      obtain ⟨hb, hbw, r8, r9, r0, hm, h0⟩ := unhide H9
      obtain ⟨hL, hV, hh1, hbw1, hVs, hS, hD, hB, ih⟩ := unhide HI
      obtain ⟨hnL, hnV, hn1, hwt, hM, hsz, hdp⟩ := unhide HN
      exact meas_tail (t := t) ih rfl rfl rfl rfl rfl rfl rfl ((hb.block _ (by omega)).trans hh1) hB hnL hwt hl1 hL hbw r8 hm r9 r0 hM hsz hdp (by omega)
/-- measure, whatever is measured. -/
theorem meas_any : ∀ d, MeC d := fun d => by
  induction d with
  | zero =>
    intro w B v t vs aX aM aS aD n nM cX cM cS cD M D hT hVs hn1 hS hD hB hM hsz hdp hn hwt
    have ih : ∀ d', 0 = d' + 1 → MeC d' := fun d' h => absurd h (by omega)
    by_cases h18 : t.op = 18
    · exact meas_var ih w B v t vs aX aM aS aD n nM cX cM cS cD M D hT hVs hn1 hS hD hB hM hsz hdp hn hwt h18
    · by_cases h19 : t.op = 19
      · exact meas_all ih w B v t vs aX aM aS aD n nM cX cM cS cD M D hT hVs hn1 hS hD hB hM hsz hdp hn hwt h19
      · exact meas_plain ih w B v t vs aX aM aS aD n nM cX cM cS cD M D hT hVs hn1 hS hD hB hM hsz hdp hn hwt h18 h19
  | succ d ihd =>
    intro w B v t vs aX aM aS aD n nM cX cM cS cD M D hT hVs hn1 hS hD hB hM hsz hdp hn hwt
    have ih : ∀ d', d + 1 = d' + 1 → MeC d' := fun d' h => by
      obtain rfl : d = d' := by omega
      exact ihd
    by_cases h18 : t.op = 18
    · exact meas_var ih w B v t vs aX aM aS aD n nM cX cM cS cD M D hT hVs hn1 hS hD hB hM hsz hdp hn hwt h18
    · by_cases h19 : t.op = 19
      · exact meas_all ih w B v t vs aX aM aS aD n nM cX cM cS cD M D hT hVs hn1 hS hD hB hM hsz hdp hn hwt h19
      · exact meas_plain ih w B v t vs aX aM aS aD n nM cX cM cS cD M D hT hVs hn1 hS hD hB hM hsz hdp hn hwt h18 h19
end Go.Proofs.YtegmckpcchhmdaaDoor

/- The document's Inst: region 7. -/
namespace Go.Proofs.YtegmckpcchhmdaaDoor
open Go Go.RowKit
theorem enter_Size : Enters Tryd.prog 21 := ⟨fun xs w => by go_simp⟩
theorem enter_Depth : Enters Tryd.prog 22 := ⟨fun xs w => by go_simp⟩
def keptS : List Nat := (List.range 78).filter fun i => !(i == 6 || i == 7 || (decide (35 ≤ i) && decide (i ≤ 50)))
def chnS (i : Nat) : Option Nat := if i = 0 ∨ i = 5 ∨ i = 6 ∨ i = 7 ∨ i = 16 then some 0 else if i = 8 ∨ i = 13 ∨ i = 14 ∨ i = 15 ∨ i = 17 then some 1 else none
def phiS (vL ve : Value) (bL oL i : Nat) (zs zd : Int) (j : Nat) (v : Value) : Prop := (j = 1 ∨ j = 9 → v = vL) ∧ (j = 2 ∨ j = 10 → v = .int .i64 (i : Int)) ∧ (j = 3 ∨ j = 11 → v = .pointer (some ⟨bL, oL + i * 7, none⟩)) ∧ (j = 4 ∨ j = 12 → v = ve) ∧ (j = 5 → v = .int .i64 zs) ∧ (j = 13 → v = .int .i64 zd)
set_option maxRecDepth 100000 in
set_option maxHeartbeats 4000000 in
theorem inst_r7 {X : Exit → Act → World → Prop} {a0 : Act} {w0 : World} {B bL oL nL cL i n : Nat} {v8 v9 : Value} {xs ys : List Value} {zs zd i0 i2 : Int} {s1 s3 : ByteArray} {a4 a5 a6 : Option Addr} {n4 n5 n6 c4 c5 c6 : Nat}
    (hN : a0.tmps.size = 78) (hB : B ≤ w0.heap.size) (h1 : a0.tmps[1]? = some (.slice (some ⟨bL, oL, none⟩) nL cL)) (h8 : a0.tmps[8]? = some (.int .i64 (i : Int))) (h6 : a0.tmps[6]? = some v8) (h7 : a0.tmps[7]? = some v9)
    (hiL : i < nL) (hbL : bL < B) (cL0 : w0.rangeAt bL (oL + i * 7) [.int .i64 i0, .string s1, .int .i64 i2, .string s3, .slice a4 n4 c4, .slice a5 n5 c5, .slice a6 n6 c6])
    (hSize : ∀ W, Below B w0 W → Calls Tryd.prog 21 #[.agg #[.int .i64 i0, .string s1, .int .i64 i2, .string s3, .slice a4 n4 c4, .slice a5 n5 c5, .slice a6 n6 c6]] W (VPost (.int .i64 zs) W)) (hDepth : ∀ W, Below B w0 W → Calls Tryd.prog 22 #[.agg #[.int .i64 i0, .string s1, .int .i64 i2, .string s3, .slice a4 n4 c4, .slice a5 n5 c5, .slice a6 n6 c6]] W (VPost (.int .i64 zd) W))
    (o8 : w0.ownsRow B 3 1 v8 n xs) (o9 : w0.ownsRow B 3 1 v9 n ys) (p1 : ∀ g, v8.ownBlock = some g → v9.ownBlock ≠ some g) (hn : n ≤ 1000000)
    (hend : ∀ (a : Act) (w : World), a.defers = a0.defers → a.tmps.size = 78 → (∀ k, k ∈ keptS → a.tmps[k]? = a0.tmps[k]?) → Below B w0 w → w.ownsRow B 3 1 (a.tmps.getD 6 undef) (n + 1) (xs ++ [.int .i64 zs]) → w.ownsRow B 3 1 (a.tmps.getD 7 undef) (n + 1) (ys ++ [.int .i64 zd]) → (∀ g, (a.tmps.getD 6 undef).ownBlock = some g → (a.tmps.getD 7 undef).ownBlock ≠ some g) → X .normal a w) :
    (Code.region 7 (regionOf Tryd.f7 7).toArray true).wp Tryd.prog X a0 w0 := by
  have hD : Below B w0 w0.drew := ((Below.refl w0.heap.size w0).drew).mono hB
  obtain ⟨iI, hiI, hzI, hsI, hbI⟩ := inf_of infInt
  have hl : (regionOf Tryd.f7 7).length = 18 := by kernel_rfl
  refine wp_region_any (by kernel_rfl) ?_
  refine chains2 (l := (regionOf Tryd.f7 7)) (w0 := w0.drew) 78 B 2 keptS (phiS (.slice (some ⟨bL, oL, none⟩) nL cL) (.agg #[.int .i64 i0, .string s1, .int .i64 i2, .string s3, .slice a4 n4 c4, .slice a5 n5 c5, .slice a6 n6 c6]) bL oL i zs zd) chnS
    (fun c => if c = 0 then AQ B 3 1 v8 n xs [.int .i64 zs] 0 6 7 16 else AQ B 3 1 v9 n ys [.int .i64 zd] 8 14 15 17)
    (by kernel_rfl) hN hB (by kernel_rfl) ?_ ?_ ?_ ?_ ?_ ?_
  · intro j c hj
    unfold chnS at hj
    split at hj
    · have := Option.some.inj hj; omega
    · split at hj
      · have := Option.some.inj hj; omega
      · cases hj
  · refine ⟨fun c => if c = 0 then ownL v8 else ownL v9, fun c hc => ?_, ?_⟩
    · rcases (by omega : c = 0 ∨ c = 1) with rfl | rfl
      · exact AQ.start (w := w0.drew) (own_sameK o8 fun _ _ => rfl) (getD_of h6)
      · exact AQ.start (w := w0.drew) (own_sameK o9 fun _ _ => rfl) (getD_of h7)
    · refine ⟨fun c c' hc hc' hne k hk hk' => ?_, fun c hc k hk => ?_⟩
      · rcases (by omega : c = 0 ∧ c' = 1 ∨ c = 1 ∧ c' = 0) with ⟨rfl, rfl⟩ | ⟨rfl, rfl⟩
        · exact ownL_dis p1 k hk hk'
        · exact ownL_dis p1 k hk' hk
      · rcases (by omega : c = 0 ∨ c = 1) with rfl | rfl
        · exact ownL_ge o8 k hk
        · exact ownL_ge o9 k hk
  · intro c hc V L L' s s' w hloc h
    rcases (by omega : c = 0 ∨ c = 1) with rfl | rfl
    · exact AQ.loc h (hloc 6 rfl) (hloc 7 rfl) (hloc 16 rfl) (hloc 0 rfl)
    · exact AQ.loc h (hloc 14 rfl) (hloc 15 rfl) (hloc 17 rfl) (hloc 8 rfl)
  · intro j hj hcn a w hb hn' hk hp
    rw [hl] at hj
    have hbw : Below B w0 w := hD.trans hb
    have hj' : j = 1 ∨ j = 2 ∨ j = 3 ∨ j = 4 ∨ j = 9 ∨ j = 10 ∨ j = 11 ∨ j = 12 := by
      unfold chnS at hcn
      split at hcn
      · cases hcn
      · split at hcn
        · cases hcn
        · omega
    rcases hj' with rfl | rfl | rfl | rfl | rfl | rfl | rfl | rfl
    · refine st_want (wnone rfl) (op_move ⟨_, rfl, rfl, ?_⟩)
      have : a.eval (.tmp 1) = .slice (some ⟨bL, oL, none⟩) nL cL := getD_of ((hk 1 (by decide)).trans h1)
      rw [this]
      simp [phiS]
    · refine st_want (wnone rfl) (op_move ⟨_, rfl, rfl, ?_⟩)
      have : a.eval (.tmp 8) = .int .i64 (i : Int) := getD_of ((hk 8 (by decide)).trans h8)
      rw [this]
      simp [phiS]
    · have e1 : a.tmps.getD 36 undef = .slice (some ⟨bL, oL, none⟩) nL cL := (hp 1 rfl).1 (.inl rfl)
      have e2 : a.tmps.getD 37 undef = .int .i64 (i : Int) := (hp 2 rfl).2.1 (.inl rfl)
      exact st_want (wnone rfl) (op_idx e1 e2 (idxT hiL w) ⟨_, rfl, rfl, by simp [phiS]⟩)
    · have e1 : a.eval (.tmp 38) = .pointer (some ⟨bL, oL + i * 7, none⟩) := (hp 3 rfl).2.2.1 (.inl rfl)
      exact st_want (wnone rfl) (op_load e1 (run_loadAt_mid (P := Tryd.prog) w bL (oL + i * 7) 25 _ _ (rangeAt_below cL0 hbL hbw) rfl rfl rfl) ⟨_, rfl, rfl, by simp [phiS]⟩)
    · refine st_want (wnone rfl) (op_move ⟨_, rfl, rfl, ?_⟩)
      have : a.eval (.tmp 1) = .slice (some ⟨bL, oL, none⟩) nL cL := getD_of ((hk 1 (by decide)).trans h1)
      rw [this]
      simp [phiS]
    · refine st_want (wnone rfl) (op_move ⟨_, rfl, rfl, ?_⟩)
      have : a.eval (.tmp 8) = .int .i64 (i : Int) := getD_of ((hk 8 (by decide)).trans h8)
      rw [this]
      simp [phiS]
    · have e1 : a.tmps.getD 44 undef = .slice (some ⟨bL, oL, none⟩) nL cL := (hp 9 rfl).1 (.inr rfl)
      have e2 : a.tmps.getD 45 undef = .int .i64 (i : Int) := (hp 10 rfl).2.1 (.inr rfl)
      exact st_want (wnone rfl) (op_idx e1 e2 (idxT hiL w) ⟨_, rfl, rfl, by simp [phiS]⟩)
    · have e1 : a.eval (.tmp 46) = .pointer (some ⟨bL, oL + i * 7, none⟩) := (hp 11 rfl).2.2.1 (.inr rfl)
      exact st_want (wnone rfl) (op_load e1 (run_loadAt_mid (P := Tryd.prog) w bL (oL + i * 7) 25 _ _ (rangeAt_below cL0 hbL hbw) rfl rfl rfl) ⟨_, rfl, rfl, by simp [phiS]⟩)
  · intro j c hcn a w L U hb hn' hk hp hLj hd hO hU
    have hBw : B ≤ w.heap.size := Nat.le_trans hB hb.size
    have dn : ∀ j k, j < 18 → (preds ((regionOf Tryd.f7 7).getD j default)).contains k = true → L k = false → L j = false := fun j k hj hk hLk => by
      cases hL : L j with
      | false => rfl
      | true => rw [hd j (by rw [hl]; exact hj) hL k hk] at hLk; cases hLk
    have hj' : (c = 0 ∧ (j = 0 ∨ j = 5 ∨ j = 6 ∨ j = 7 ∨ j = 16)) ∨ (c = 1 ∧ (j = 8 ∨ j = 13 ∨ j = 14 ∨ j = 15 ∨ j = 17)) := by
      unfold chnS at hcn
      split at hcn
      · have := Option.some.inj hcn; omega
      · split at hcn
        · have := Option.some.inj hcn; omega
        · cases hcn
    rcases hj' with ⟨rfl, hj'⟩ | ⟨rfl, hj'⟩
    · have hO : OwnS w U (AQ B 3 1 v8 n xs [.int .i64 zs] 0 6 7 16 U L (slotOf (regionOf Tryd.f7 7).toArray a)) := hO
      rcases hj' with rfl | rfl | rfl | rfl | rfl
      · have lp := dn 7 0 (by decide) rfl hLj
        have lq := dn 16 7 (by decide) rfl lp
        obtain ⟨eq, hO'⟩ := AQ.take hO lp (by cases L 6 <;> simp) lq (by decide) (by decide) (by decide)
        have e8 : a.eval (.tmp 6) = v8 := eq
        refine ⟨wnone rfl, op_move ⟨_, U, rfl, by simp [phiS], Below.refl _ _, fun _ _ _ => rfl, fun _ h => .inl h, ?_⟩⟩
        rw [e8]
        exact hO'
      · have e1 : a.tmps.getD 39 undef = .agg #[.int .i64 i0, .string s1, .int .i64 i2, .string s3, .slice a4 n4 c4, .slice a5 n5 c5, .slice a6 n6 c6] := (hp 4 rfl).2.2.2.2.1 (.inl rfl)
        refine ⟨wnone rfl, op_call enter_Size ?_⟩
        have hargs : (#[Operand.tmp 39]).map a.eval = #[.agg #[.int .i64 i0, .string s1, .int .i64 i2, .string s3, .slice a4 n4 c4, .slice a5 n5 c5, .slice a6 n6 c6]] := by
          simp only [List.map_toArray, List.map_cons, List.map_nil, Act.eval]
          rw [e1]
        rw [hargs]
        refine (hSize w (hD.trans hb)).mono ?_
        rintro e w' ⟨rfl, hb'⟩
        refine ⟨_, rfl, _, U, rfl, by simp [phiS], hb'.mono hBw, fun k hk _ => hb'.block k hk, fun _ h => .inl h, ?_⟩
        refine (OwnS.grow hO hb').imp fun w2 h2 => ?_
        exact AQ.loc h2 ⟨(upL_other (by decide)).symm, (upS_other (by decide)).symm⟩ ⟨(upL_other (by decide)).symm, (upS_other (by decide)).symm⟩ ⟨(upL_other (by decide)).symm, (upS_other (by decide)).symm⟩ ⟨(upL_other (by decide)).symm, (upS_other (by decide)).symm⟩
      · have lp := dn 7 6 (by decide) rfl hLj
        have lq := dn 16 7 (by decide) rfl lp
        have e9 : a.tmps.getD 40 undef = .int .i64 zs := (hp 5 rfl).2.2.2.2.2.1 rfl
        obtain ⟨U', k1, k2, k3, k4⟩ := AQ.bs hO hU hBw lp lq (by decide) (by decide) (by decide)
        exact ⟨wnone rfl, op_bsI e9 ⟨_, U', rfl, by simp [phiS], k1, k2, k3, k4⟩⟩
      · have lq := dn 16 7 (by decide) rfl hLj
        obtain ⟨v', w', U', hr, k1, k2, k3, k4⟩ := AQ.ap (t := 39) tInts hiI hzI hsI hbI rfl (by omega) (by omega) rfl (by simp [Value.oneCell']) hn 39 hO hU hBw (hp 6 rfl).1 hLj lq (hp 0 rfl).1 (by decide) (by decide)
        exact ⟨wnone rfl, op_app rfl rfl hr ⟨_, U', rfl, by simp [phiS], k1, k2, k3, k4⟩⟩
      · have hO' := AQ.asg hO (hp 7 rfl).1 (hd 7 (by rw [hl]; decide) (hp 7 rfl).1 6 rfl) (by decide) (by decide)
        exact ⟨wnone rfl, op_assign ⟨_, U, rfl, by simp [phiS], Below.refl _ _, fun _ _ _ => rfl, fun _ h => .inl h, hO'⟩⟩
    · have hO : OwnS w U (AQ B 3 1 v9 n ys [.int .i64 zd] 8 14 15 17 U L (slotOf (regionOf Tryd.f7 7).toArray a)) := hO
      rcases hj' with rfl | rfl | rfl | rfl | rfl
      · have lp := dn 15 8 (by decide) rfl hLj
        have lq := dn 17 15 (by decide) rfl lp
        obtain ⟨eq, hO'⟩ := AQ.take hO lp (by cases L 14 <;> simp) lq (by decide) (by decide) (by decide)
        have e8 : a.eval (.tmp 7) = v9 := eq
        refine ⟨wnone rfl, op_move ⟨_, U, rfl, by simp [phiS], Below.refl _ _, fun _ _ _ => rfl, fun _ h => .inl h, ?_⟩⟩
        rw [e8]
        exact hO'
      · have e1 : a.tmps.getD 47 undef = .agg #[.int .i64 i0, .string s1, .int .i64 i2, .string s3, .slice a4 n4 c4, .slice a5 n5 c5, .slice a6 n6 c6] := (hp 12 rfl).2.2.2.2.1 (.inr rfl)
        refine ⟨wnone rfl, op_call enter_Depth ?_⟩
        have hargs : (#[Operand.tmp 47]).map a.eval = #[.agg #[.int .i64 i0, .string s1, .int .i64 i2, .string s3, .slice a4 n4 c4, .slice a5 n5 c5, .slice a6 n6 c6]] := by
          simp only [List.map_toArray, List.map_cons, List.map_nil, Act.eval]
          rw [e1]
        rw [hargs]
        refine (hDepth w (hD.trans hb)).mono ?_
        rintro e w' ⟨rfl, hb'⟩
        refine ⟨_, rfl, _, U, rfl, by simp [phiS], hb'.mono hBw, fun k hk _ => hb'.block k hk, fun _ h => .inl h, ?_⟩
        refine (OwnS.grow hO hb').imp fun w2 h2 => ?_
        exact AQ.loc h2 ⟨(upL_other (by decide)).symm, (upS_other (by decide)).symm⟩ ⟨(upL_other (by decide)).symm, (upS_other (by decide)).symm⟩ ⟨(upL_other (by decide)).symm, (upS_other (by decide)).symm⟩ ⟨(upL_other (by decide)).symm, (upS_other (by decide)).symm⟩
      · have lp := dn 15 14 (by decide) rfl hLj
        have lq := dn 17 15 (by decide) rfl lp
        have e9 : a.tmps.getD 48 undef = .int .i64 zd := (hp 13 rfl).2.2.2.2.2.2 rfl
        obtain ⟨U', k1, k2, k3, k4⟩ := AQ.bs hO hU hBw lp lq (by decide) (by decide) (by decide)
        exact ⟨wnone rfl, op_bsI e9 ⟨_, U', rfl, by simp [phiS], k1, k2, k3, k4⟩⟩
      · have lq := dn 17 15 (by decide) rfl hLj
        obtain ⟨v', w', U', hr, k1, k2, k3, k4⟩ := AQ.ap (t := 39) tInts hiI hzI hsI hbI rfl (by omega) (by omega) rfl (by simp [Value.oneCell']) hn 39 hO hU hBw (hp 14 rfl).1 hLj lq (hp 8 rfl).1 (by decide) (by decide)
        exact ⟨wnone rfl, op_app rfl rfl hr ⟨_, U', rfl, by simp [phiS], k1, k2, k3, k4⟩⟩
      · have hO' := AQ.asg hO (hp 15 rfl).1 (hd 15 (by rw [hl]; decide) (hp 15 rfl).1 14 rfl) (by decide) (by decide)
        exact ⟨wnone rfl, op_assign ⟨_, U, rfl, by simp [phiS], Below.refl _ _, fun _ _ _ => rfl, fun _ h => .inl h, hO'⟩⟩
  · intro a w hdf hn' hk _ hb ⟨U, hUo, hA⟩
    have k0 : AQ B 3 1 v8 n xs [.int .i64 zs] 0 6 7 16 (U 0) (fun _ => true) (slotOf (regionOf Tryd.f7 7).toArray a) w := (hUo 0 (by decide)).now
    have k1 : AQ B 3 1 v9 n ys [.int .i64 zd] 8 14 15 17 (U 1) (fun _ => true) (slotOf (regionOf Tryd.f7 7).toArray a) w := (hUo 1 (by decide)).now
    have q0 : a.tmps.getD 6 undef = slotOf (regionOf Tryd.f7 7).toArray a 7 := k0.2.2.2.1 rfl
    have q1 : a.tmps.getD 7 undef = slotOf (regionOf Tryd.f7 7).toArray a 15 := k1.2.2.2.1 rfl
    refine hend a w hdf hn' hk (hD.trans hb) ?_ ?_ ?_
    · rw [q0]; exact (k0.2.2.1 rfl).1
    · rw [q1]; exact (k1.2.2.1 rfl).1
    · rw [q0, q1]
      exact fun g h1 h2 => hA.1 0 1 (by decide) (by decide) (by decide) g ((k0.2.2.1 rfl).2 g h1) ((k1.2.2.1 rfl).2 g h2)
end Go.Proofs.YtegmckpcchhmdaaDoor

namespace Go.Proofs.YtegmckpcchhmdaaDoor
open Go Go.RowKit
set_option maxRecDepth 1000000 in
set_option maxHeartbeats 16000000 in
theorem instD_no {w : World} {B d m cm : Nat} {am : Option Addr} {v : Value} {t : Tm} {lm : List Tm} (hT : IsT w B d v t) (hl : Row B am m cm 7 (fun b o j => ∀ u, lm[j]? = some u → TmAt w B d b o u)) (hm : m = lm.length) (hB : B ≤ w.heap.size) (hwt : t.wt ≤ 1000000) (hm' : m ≤ 1000000) (hno : ¬ (t.op = 19 ∧ t.l.length = 1 ∧ t.vars.length = lm.length)) : Calls Tryd.prog 7 #[v, .slice am m cm] w fun ex w' => ∃ (r : Value) (er : Int), ex = .returned (.tuple #[r, .int .i64 er]) ∧ Below w.heap.size w w' ∧ er = 30 ∧ r = zeroT := by
  obtain ⟨f1, f2, aL, aV, aP, cL, cV, cP, rfl, hL, hV, hP⟩ := hT
  simp only [tcells, List.toArray]
  have hwl := t.wt_eq
  have hl3 : t.vars.length ≤ 1000000 := by omega
  have hl1 : t.l.length ≤ 1000000 := by have := len_wt t.l; omega
  obtain ⟨nL, hnL⟩ : ∃ n, t.l.length = n := ⟨_, rfl⟩
  obtain ⟨nV, hnV⟩ : ∃ n, t.vars.length = n := ⟨_, rfl⟩
  obtain ⟨nP, hnP⟩ : ∃ n, t.pat.length = n := ⟨_, rfl⟩
  rw [hnL] at hL hl1 ⊢
  rw [hnV] at hV hl3 ⊢
  rw [hnP] at hP ⊢
  obtain ⟨w1, e1, hb1, hs1, hc1, hh1⟩ := box_new w #[.int .i64 t.op, .string t.name, .int .i64 t.sort, .string t.num, .slice aL nL cL, .slice aV nV cV, .slice aP nP cP] 25
  obtain ⟨w2, e2, hb2, hs2, hc2, hh2⟩ := box_new w1 #[.int .i64 0, .string ⟨#[]⟩, .int .i64 0, .string ⟨#[]⟩, .slice none 0 0, .slice none 0 0, .slice none 0 0] 25
  rw [hs1] at hc2 hh2
  have hbw2 : Below w.heap.size w w2 := hb1.trans (hb2.mono (by omega))
  have hg3 : w2.heap[w.heap.size]? = some (.cells #[.int .i64 t.op, .string t.name, .int .i64 t.sort, .string t.num, .slice aL nL cL, .slice aV nV cV, .slice aP nP cP] 25) := (hb2.block _ (by omega)).trans hh1
  have hm2 : (m : Int) ≤ 1000000 := by omega
  have HE := hide (And.intro e1 e2)
  have HH2 := hide hh2
  have HG3 := hide hg3
  have x0 : w2.cell? ⟨w.heap.size, 0, none⟩ = some (.int .i64 t.op) := (blk hg3).2.1 0 _ rfl
  have x1 : w2.cell? ⟨w.heap.size, 1, none⟩ = some (.string t.name) := (blk hg3).2.1 1 _ rfl
  have x2 : w2.cell? ⟨w.heap.size, 2, none⟩ = some (.int .i64 t.sort) := (blk hg3).2.1 2 _ rfl
  have x3 : w2.cell? ⟨w.heap.size, 3, none⟩ = some (.string t.num) := (blk hg3).2.1 3 _ rfl
  have x4 : w2.cell? ⟨w.heap.size, 4, none⟩ = some (.slice aL nL cL) := (blk hg3).2.1 4 _ rfl
  have x5 : w2.cell? ⟨w.heap.size, 5, none⟩ = some (.slice aV nV cV) := (blk hg3).2.1 5 _ rfl
  have x6 : w2.cell? ⟨w.heap.size, 6, none⟩ = some (.slice aP nP cP) := (blk hg3).2.1 6 _ rfl
  have z0 : w2.cell? ⟨w.heap.size + 1, 0, none⟩ = some (.int .i64 0) := (blk hh2).2.1 0 _ rfl
  have zf0 := (blk hh2).2.2 0
  have z1 : w2.cell? ⟨w.heap.size + 1, 1, none⟩ = some (.string ⟨#[]⟩) := (blk hh2).2.1 1 _ rfl
  have zf1 := (blk hh2).2.2 1
  have z2 : w2.cell? ⟨w.heap.size + 1, 2, none⟩ = some (.int .i64 0) := (blk hh2).2.1 2 _ rfl
  have zf2 := (blk hh2).2.2 2
  have z3 : w2.cell? ⟨w.heap.size + 1, 3, none⟩ = some (.string ⟨#[]⟩) := (blk hh2).2.1 3 _ rfl
  have zf3 := (blk hh2).2.2 3
  have z4 : w2.cell? ⟨w.heap.size + 1, 4, none⟩ = some (.slice none 0 0) := (blk hh2).2.1 4 _ rfl
  have zf4 := (blk hh2).2.2 4
  have z5 : w2.cell? ⟨w.heap.size + 1, 5, none⟩ = some (.slice none 0 0) := (blk hh2).2.1 5 _ rfl
  have zf5 := (blk hh2).2.2 5
  have z6 : w2.cell? ⟨w.heap.size + 1, 6, none⟩ = some (.slice none 0 0) := (blk hh2).2.1 6 _ rfl
  have zf6 := (blk hh2).2.2 6
  have hs3 : w2.heap.size = w.heap.size + 2 := by omega
  have HBW := hide hbw2
  rw [hnL, hnV, ← hm] at hno
  clear hL hV hP hg3 hh2 hbw2 hl hB hnL hnV hnP hm hwt f1 f2 e1 hb1 hs1 hc1 hh1 e2 hb2 hs2 hc2 hwl
  by_cases h19 : t.op = 19
  · by_cases h1 : nL = 1
    · have h2 : nV ≠ m := fun e => hno ⟨h19, h1, e⟩
      subst h1
      have q1 : (t.op == 19) = true := by simp [h19]
      have q2 : (t.op != 19) = false := by simp [h19]
      have q3 : ((m : Int) == (nV : Int)) = false := by simp; omega
      have q4 : ((m : Int) != (nV : Int)) = true := by simp; omega
      clear hno h19
      go_enter Tryd.func7, Tryd.ntmps7
      go_wp2_with fail
      obtain ⟨rfl, rfl⟩ := unhide HE
      exact ⟨rfl, _, res_row2 (cs := [.int .i64 0, .string ⟨#[]⟩, .int .i64 0, .string ⟨#[]⟩, .slice none 0 0, .slice none 0 0, .slice none 0 0]) rfl rfl rfl (range_block (unhide HH2)) rfl rfl rfl, zeroT, 30, rfl, unhide HBW, rfl, rfl⟩
    · have q1 : (t.op == 19) = true := by simp [h19]
      have q2 : (t.op != 19) = false := by simp [h19]
      have q3 : ((nL : Int) == 1) = false := by simp; omega
      have q4 : ((nL : Int) != 1) = true := by simp; omega
      clear hno h19
      go_enter Tryd.func7, Tryd.ntmps7
      go_wp2_with fail
      obtain ⟨rfl, rfl⟩ := unhide HE
      exact ⟨rfl, _, res_row2 (cs := [.int .i64 0, .string ⟨#[]⟩, .int .i64 0, .string ⟨#[]⟩, .slice none 0 0, .slice none 0 0, .slice none 0 0]) rfl rfl rfl (range_block (unhide HH2)) rfl rfl rfl, zeroT, 30, rfl, unhide HBW, rfl, rfl⟩
  · have q1 : (t.op == 19) = false := by simp [h19]
    have q2 : (t.op != 19) = true := by simp [h19]
    clear hno h19
    go_enter Tryd.func7, Tryd.ntmps7
    go_wp2_with fail
    obtain ⟨rfl, rfl⟩ := unhide HE
    exact ⟨rfl, _, res_row2 (cs := [.int .i64 0, .string ⟨#[]⟩, .int .i64 0, .string ⟨#[]⟩, .slice none 0 0, .slice none 0 0, .slice none 0 0]) rfl rfl rfl (range_block (unhide HH2)) rfl rfl rfl, zeroT, 30, rfl, unhide HBW, rfl, rfl⟩
end Go.Proofs.YtegmckpcchhmdaaDoor
