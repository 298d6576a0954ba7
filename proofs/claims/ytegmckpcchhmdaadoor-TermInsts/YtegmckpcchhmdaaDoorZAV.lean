/- Put: its contract; terms that are neither variables nor universal. -/
import Derived.Test.YtegmckpcchhmdaaDoorZAU
set_option linter.unusedVariables false
set_option linter.unusedSimpArgs false

/- Put: regions 26 and 30. -/
namespace Go.Proofs.YtegmckpcchhmdaaDoor
open Go Go.RowKit
def kept26 : List Nat := (List.range 142).filter fun i => !(decide (108 ≤ i) && decide (i ≤ 120))
def chn26 (i : Nat) : Bool := i == 1 || i == 9 || i == 10 || i == 11
def phi26 (r3 r bL oL nL cL i : Nat) (vV vM ve : Value) (j : Nat) (v : Value) : Prop :=
  (j = 0 ∨ j = 12 → v = .pointer (some ⟨r, 4, none⟩)) ∧ (j = 2 → v = .pointer (some ⟨r3, 4, none⟩)) ∧ (j = 3 → v = .slice (some ⟨bL, oL, none⟩) nL cL) ∧ (j = 4 → v = .int .i64 (i : Int)) ∧ (j = 5 → v = .pointer (some ⟨bL, oL + i * 7, none⟩)) ∧ (j = 6 → v = ve) ∧ (j = 7 → v = vV) ∧ (j = 8 → v = vM)
set_option maxRecDepth 100000 in
set_option maxHeartbeats 4000000 in
theorem put_r26 {X : Exit → Act → World → Prop} {a0 : Act} {w0 : World} {B E0 r3 r bL oL nL cL i n d : Nat} {vV vM v0 : Value} {oc : Array Value} {ts : List Tm} {xs : List Value} {u' : Tm} {i0 i2 : Int} {s1 s3 : ByteArray} {a4 a5 a6 : Option Addr} {n4 n5 n6 c4 c5 c6 : Nat}
    (hN : a0.tmps.size = 142) (h3 : a0.tmps[3]? = some (.pointer (some ⟨r3, 0, none⟩))) (h13 : a0.tmps[13]? = some (.pointer (some ⟨r, 0, none⟩))) (hiv : a0.tmps[14]? = some (.int .i64 (i : Int))) (h1 : a0.tmps[1]? = some vV) (h2 : a0.tmps[2]? = some vM)
    (hc : w0.cell? ⟨r3, 4, none⟩ = some (.slice (some ⟨bL, oL, none⟩) nL cL)) (hr3 : r3 < w0.heap.size) (hr3o : v0.ownBlock ≠ some r3) (hel : w0.rangeAt bL (oL + i * 7) [.int .i64 i0, .string s1, .int .i64 i2, .string s3, .slice a4 n4 c4, .slice a5 n5 c5, .slice a6 n6 c6]) (hbL : bL < B) (hiL : i < nL)
    (hout : w0.heap[r]? = some (.cells oc 25)) (hoc : oc[4]? = some v0) (hor : v0.ownBlock ≠ some r) (hB : B ≤ E0) (hE : E0 ≤ w0.heap.size) (hrE : E0 ≤ r)
    (ho : w0.ownsRow E0 25 7 v0 n xs) (hEl : El w0 (Gd B E0 v0 r w0) d ts xs) (hn : n ≤ 1000000)
    (hcall : ∀ W, Below w0.heap.size w0 W → Calls Tryd.prog 24 #[.agg ([.int .i64 i0, .string s1, .int .i64 i2, .string s3, .slice a4 n4 c4, .slice a5 n5 c5, .slice a6 n6 c6] : List Value).toArray, vV, vM] W fun e w' => ∃ v, e = .returned v ∧ Below W.heap.size W w' ∧ IsO w' (NBk B W.heap.size w') d v u')
    (hend : ∀ (a : Act) (w : World) (v' : Value) (xs' : List Value), a.defers = a0.defers → a.tmps.size = 142 → (∀ k, k ∈ kept26 → a.tmps[k]? = a0.tmps[k]?) → Below E0 w0 w → (∀ k, k < w0.heap.size → k ≠ r → v0.ownBlock ≠ some k → w.heap[k]? = w0.heap[k]?) → w.heap[r]? = some (.cells (oc.setIfInBounds 4 v') 25) → v'.ownBlock ≠ some r → v'.ownBlock ≠ some r3 → w.ownsRow E0 25 7 v' (n + 1) xs' → El w (Gd B E0 v' r w) d (ts ++ [u']) xs' → (∀ g, v'.ownBlock = some g → v0.ownBlock = some g ∨ w0.heap.size ≤ g) → X .normal a w) :
    (Code.region 26 (regionOf Tryd.f24 26).toArray true).wp Tryd.prog X a0 w0 := by
  have hD : Below w0.heap.size w0 w0.drew := (Below.refl w0.heap.size w0).drew
  obtain ⟨iT, hiT, hzT, hsT, hbT⟩ := inf_of infT
  have hrw : r < w0.heap.size := (Array.getElem?_eq_some_iff.1 hout).1
  have hl : (regionOf Tryd.f24 26).length = 14 := by kernel_rfl
  refine wp_region_any (by kernel_rfl) ?_
  refine seqS (l := (regionOf Tryd.f24 26)) (w0 := w0.drew) 142 13 kept26 (phi26 r3 r bL oL nL cL i vV vM (.agg ([.int .i64 i0, .string s1, .int .i64 i2, .string s3, .slice a4 n4 c4, .slice a5 n5 c5, .slice a6 n6 c6] : List Value).toArray)) chn26 (PQ w0 B E0 n d v0 xs u') (by kernel_rfl) hN (by rw [hl]; decide) (by kernel_rfl) (by kernel_rfl) (by kernel_rfl) (by kernel_rfl)
    (fun a w => ∃ v' xs', Below E0 w0 w ∧ (∀ k, k < w0.heap.size → k ≠ r → v0.ownBlock ≠ some k → w.heap[k]? = w0.heap[k]?) ∧ w.heap[r]? = some (.cells (oc.setIfInBounds 4 v') 25) ∧ v'.ownBlock ≠ some r ∧ v'.ownBlock ≠ some r3 ∧ w.ownsRow E0 25 7 v' (n + 1) xs' ∧ El w (Gd B E0 v' r w) d (ts ++ [u']) xs' ∧ (∀ g, v'.ownBlock = some g → v0.ownBlock = some g ∨ w0.heap.size ≤ g))
    (fun v => by simp [phi26]) ?_ ?_ ?_ ?_ ?_ ?_ ?_
  · intro j hj
    rw [hl]
    simp [chn26] at hj
    omega
  · exact PQ.start ho hE
  · intro Lf Lf' s s' w hh hq
    exact hq.loc (hh 1 rfl) (hh 9 rfl) (hh 10 rfl) (hh 11 rfl)
  · intro j hj hcn hjs a w Lf hn' hk hp hq
    rw [hl] at hj
    have hj' : j = 0 ∨ j = 2 ∨ j = 3 ∨ j = 4 ∨ j = 5 ∨ j = 6 ∨ j = 7 ∨ j = 8 ∨ j = 12 := by
      simp [chn26] at hcn
      omega
    rcases hj' with rfl | rfl | rfl | rfl | rfl | rfl | rfl | rfl | rfl
    · have e : a.eval (.tmp 13) = .pointer (some ⟨r, 0, none⟩) := getD_of ((hk 13 (by decide)).trans h13)
      exact ⟨wnone rfl, op_fieldAddr e (fa4 r w) ⟨_, rfl, rfl, by simp [phi26]⟩⟩
    · have e : a.eval (.tmp 3) = .pointer (some ⟨r3, 0, none⟩) := getD_of ((hk 3 (by decide)).trans h3)
      exact ⟨wnone rfl, op_fieldAddr e (fa4 r3 w) ⟨_, rfl, rfl, by simp [phi26]⟩⟩
    · have e : a.eval (.tmp 110) = .pointer (some ⟨r3, 4, none⟩) := (hp 2 rfl).2.1 rfl
      have hcw : w.cell? ⟨r3, 4, none⟩ = some (.slice (some ⟨bL, oL, none⟩) nL cL) := (World.cell?_of_block (w := w0) (a := ⟨r3, 4, none⟩) (hq.2.2.1 r3 hr3 hr3o)).trans hc
      exact ⟨wnone rfl, op_load e (ld1 hcw) ⟨_, rfl, rfl, by simp [phi26]⟩⟩
    · refine ⟨wnone rfl, op_move ⟨_, rfl, rfl, ?_⟩⟩
      have : a.eval (.tmp 14) = .int .i64 (i : Int) := getD_of ((hk 14 (by decide)).trans hiv)
      rw [this]
      simp [phi26]
    · have e1 : a.tmps.getD 111 undef = .slice (some ⟨bL, oL, none⟩) nL cL := (hp 3 rfl).2.2.1 rfl
      have e2 : a.tmps.getD 112 undef = .int .i64 (i : Int) := (hp 4 rfl).2.2.2.1 rfl
      exact ⟨wnone rfl, op_idx e1 e2 (idxT hiL w) ⟨_, rfl, rfl, by simp [phi26]⟩⟩
    · have e1 : a.eval (.tmp 113) = .pointer (some ⟨bL, oL + i * 7, none⟩) := (hp 5 rfl).2.2.2.2.1 rfl
      have hew : w.rangeAt bL (oL + i * 7) [.int .i64 i0, .string s1, .int .i64 i2, .string s3, .slice a4 n4 c4, .slice a5 n5 c5, .slice a6 n6 c6] := rangeAt_below hel (show bL < E0 by omega) hq.1
      exact ⟨wnone rfl, op_load e1 (run_loadAt_mid (P := Tryd.prog) w bL (oL + i * 7) 25 _ _ hew rfl rfl rfl) ⟨_, rfl, rfl, by simp [phi26]⟩⟩
    · refine ⟨wnone rfl, op_move ⟨_, rfl, rfl, ?_⟩⟩
      have : a.eval (.tmp 1) = vV := getD_of ((hk 1 (by decide)).trans h1)
      rw [this]
      simp [phi26]
    · refine ⟨wnone rfl, op_move ⟨_, rfl, rfl, ?_⟩⟩
      have : a.eval (.tmp 2) = vM := getD_of ((hk 2 (by decide)).trans h2)
      rw [this]
      simp [phi26]
    · have e : a.eval (.tmp 13) = .pointer (some ⟨r, 0, none⟩) := getD_of ((hk 13 (by decide)).trans h13)
      exact ⟨wnone rfl, op_fieldAddr e (fa4 r w) ⟨_, rfl, rfl, by simp [phi26]⟩⟩
  · intro j hcn a w Lf hn' hk hp hLj hd hq
    have dn : ∀ j k, j < 14 → (preds ((regionOf Tryd.f24 26).getD j default)).contains k = true → Lf k = false → Lf j = false := fun j k hj hk hLk => by
      cases hL : Lf j with
      | false => rfl
      | true => rw [hd j (by rw [hl]; exact hj) hL k hk] at hLk; cases hLk
    have hj' : j = 1 ∨ j = 9 ∨ j = 10 ∨ j = 11 := by simp [chn26] at hcn; omega
    rcases hj' with rfl | rfl | rfl | rfl
    · have e : a.eval (.tmp 108) = .pointer (some ⟨r, 4, none⟩) := (hp 0 rfl).2.1 (.inl rfl)
      have hrb : w.heap[r]? = some (.cells oc 25) := (hq.2.2.1 r hrw hor).trans hout
      exact ⟨wnone rfl, op_load e (ld1 ((blk hrb).2.1 4 _ hoc)) ⟨_, rfl, by simp [phi26], hq.took⟩⟩
    · have e1 : a.tmps.getD 114 undef = .agg ([.int .i64 i0, .string s1, .int .i64 i2, .string s3, .slice a4 n4 c4, .slice a5 n5 c5, .slice a6 n6 c6] : List Value).toArray := (hp 6 rfl).2.2.2.2.2.2.1 rfl
      have e2 : a.tmps.getD 115 undef = vV := (hp 7 rfl).2.2.2.2.2.2.2.1 rfl
      have e3 : a.tmps.getD 116 undef = vM := (hp 8 rfl).2.2.2.2.2.2.2.2 rfl
      have l10 := dn 10 9 (by decide) rfl hLj
      have l11 := dn 11 10 (by decide) rfl l10
      have hbW := hq.2.2.2.2.2.1 hLj
      refine ⟨wnone rfl, op_call enter_Put ?_⟩
      have hargs : (#[Operand.tmp 114, .tmp 115, .tmp 116]).map a.eval = #[.agg ([.int .i64 i0, .string s1, .int .i64 i2, .string s3, .slice a4 n4 c4, .slice a5 n5 c5, .slice a6 n6 c6] : List Value).toArray, vV, vM] := by
        simp only [List.map_toArray, List.map_cons, List.map_nil, Act.eval]
        rw [e1, e2, e3]
      rw [hargs]
      refine (hcall w hbW).mono ?_
      rintro e w' ⟨v, rfl, hb', hI⟩
      exact ⟨v, rfl, v, rfl, by simp [phi26], hq.called hE l10 l11 hbW hb' hI⟩
    · have l11 := dn 11 10 (by decide) rfl hLj
      have l9 := (hp 9 rfl).1
      obtain ⟨M, q0, q2, z1, z3, w4, w5, w6, m4, m5, m6, k4, k5, k6, e, hI⟩ := hq.seven l9
      have e' : a.tmps.getD 117 undef = .agg #[.int .i64 q0, .string z1, .int .i64 q2, .string z3, .slice w4 m4 k4, .slice w5 m5 k5, .slice w6 m6 k6] := e
      exact ⟨wnone rfl, op_bsT e' ⟨_, rfl, by simp [phi26], hq.made hE hB (cs := [.int .i64 q0, .string z1, .int .i64 q2, .string z3, .slice w4 m4 k4, .slice w5 m5 k5, .slice w6 m6 k6]) (by simp [Value.oneCell']) rfl l9 l11 e⟩⟩
    · have l10 := (hp 10 rfl).1
      have l9 := hd 10 (by rw [hl]; decide) l10 9 rfl
      obtain ⟨v', w', hr, hQ'⟩ := hq.put tTerms hiT hzT hsT hbT rfl hn hE hB (fun g h => (ho.lt g h).2) l9 l10 hLj (hp 1 rfl).1 22
      exact ⟨wnone rfl, op_app rfl rfl hr ⟨_, rfl, by simp [phi26], hQ'⟩⟩
  · intro a w hn' hk hp hq
    have e1 : a.eval (.tmp 120) = .pointer (some ⟨r, 4, none⟩) := (hp 12 (by rw [hl]; decide) (by decide)).1 (.inr rfl)
    have hrb : w.heap[r]? = some (.cells oc 25) := (hq.2.2.1 r hrw hor).trans hout
    obtain ⟨xs', k1, k2, k3, k4, k5⟩ := hq.done hEl hE hB hrE hrw hr3 hr3o hor (fun g h => (ho.lt g h).2)
    obtain ⟨av, nv, cv, ev⟩ : ∃ (x : Option Addr) (y z : Nat), a.tmps.getD 119 undef = Value.slice x y z := by
      obtain ⟨a', c', e', _⟩ := own_cells k1
      exact ⟨a', _, c', e'⟩
    refine op_store (y := .tmp 119) e1 ev (st1 hrb hoc) ⟨rfl, a.tmps.getD 119 undef, xs', ?_⟩
    have ev' : slotOf (regionOf Tryd.f24 26).toArray a 11 = Value.slice av nv cv := ev
    rw [ev'] at k1 k2 k3 k4 k5
    rw [ev]
    exact PQ.stored hrb hrw hrE hE hB hq k1 k2 k3 k4 k5
  · rintro a w hdf hn' hk ⟨v', xs', q1, q2, q3, q4, q5, q6, q7, q8⟩
    exact hend a w v' xs' hdf hn' hk q1 q2 q3 q4 q5 q6 q7 q8
def kept30 : List Nat := (List.range 142).filter fun i => !(decide (128 ≤ i) && decide (i ≤ 140))
def chn30 (i : Nat) : Bool := i == 1 || i == 9 || i == 10 || i == 11
def phi30 (r3 r bL oL nL cL i : Nat) (vV vM ve : Value) (j : Nat) (v : Value) : Prop :=
  (j = 0 ∨ j = 12 → v = .pointer (some ⟨r, 6, none⟩)) ∧ (j = 2 → v = .pointer (some ⟨r3, 6, none⟩)) ∧ (j = 3 → v = .slice (some ⟨bL, oL, none⟩) nL cL) ∧ (j = 4 → v = .int .i64 (i : Int)) ∧ (j = 5 → v = .pointer (some ⟨bL, oL + i * 7, none⟩)) ∧ (j = 6 → v = ve) ∧ (j = 7 → v = vV) ∧ (j = 8 → v = vM)
set_option maxRecDepth 100000 in
set_option maxHeartbeats 4000000 in
theorem put_r30 {X : Exit → Act → World → Prop} {a0 : Act} {w0 : World} {B E0 r3 r bL oL nL cL i n d : Nat} {vV vM v0 : Value} {oc : Array Value} {ts : List Tm} {xs : List Value} {u' : Tm} {i0 i2 : Int} {s1 s3 : ByteArray} {a4 a5 a6 : Option Addr} {n4 n5 n6 c4 c5 c6 : Nat}
    (hN : a0.tmps.size = 142) (h3 : a0.tmps[3]? = some (.pointer (some ⟨r3, 0, none⟩))) (h13 : a0.tmps[13]? = some (.pointer (some ⟨r, 0, none⟩))) (hiv : a0.tmps[15]? = some (.int .i64 (i : Int))) (h1 : a0.tmps[1]? = some vV) (h2 : a0.tmps[2]? = some vM)
    (hc : w0.cell? ⟨r3, 6, none⟩ = some (.slice (some ⟨bL, oL, none⟩) nL cL)) (hr3 : r3 < w0.heap.size) (hr3o : v0.ownBlock ≠ some r3) (hel : w0.rangeAt bL (oL + i * 7) [.int .i64 i0, .string s1, .int .i64 i2, .string s3, .slice a4 n4 c4, .slice a5 n5 c5, .slice a6 n6 c6]) (hbL : bL < B) (hiL : i < nL)
    (hout : w0.heap[r]? = some (.cells oc 25)) (hoc : oc[6]? = some v0) (hor : v0.ownBlock ≠ some r) (hB : B ≤ E0) (hE : E0 ≤ w0.heap.size) (hrE : E0 ≤ r)
    (ho : w0.ownsRow E0 25 7 v0 n xs) (hEl : El w0 (Gd B E0 v0 r w0) d ts xs) (hn : n ≤ 1000000)
    (hcall : ∀ W, Below w0.heap.size w0 W → Calls Tryd.prog 24 #[.agg ([.int .i64 i0, .string s1, .int .i64 i2, .string s3, .slice a4 n4 c4, .slice a5 n5 c5, .slice a6 n6 c6] : List Value).toArray, vV, vM] W fun e w' => ∃ v, e = .returned v ∧ Below W.heap.size W w' ∧ IsO w' (NBk B W.heap.size w') d v u')
    (hend : ∀ (a : Act) (w : World) (v' : Value) (xs' : List Value), a.defers = a0.defers → a.tmps.size = 142 → (∀ k, k ∈ kept30 → a.tmps[k]? = a0.tmps[k]?) → Below E0 w0 w → (∀ k, k < w0.heap.size → k ≠ r → v0.ownBlock ≠ some k → w.heap[k]? = w0.heap[k]?) → w.heap[r]? = some (.cells (oc.setIfInBounds 6 v') 25) → v'.ownBlock ≠ some r → v'.ownBlock ≠ some r3 → w.ownsRow E0 25 7 v' (n + 1) xs' → El w (Gd B E0 v' r w) d (ts ++ [u']) xs' → (∀ g, v'.ownBlock = some g → v0.ownBlock = some g ∨ w0.heap.size ≤ g) → X .normal a w) :
    (Code.region 30 (regionOf Tryd.f24 30).toArray true).wp Tryd.prog X a0 w0 := by
  have hD : Below w0.heap.size w0 w0.drew := (Below.refl w0.heap.size w0).drew
  obtain ⟨iT, hiT, hzT, hsT, hbT⟩ := inf_of infT
  have hrw : r < w0.heap.size := (Array.getElem?_eq_some_iff.1 hout).1
  have hl : (regionOf Tryd.f24 30).length = 14 := by kernel_rfl
  refine wp_region_any (by kernel_rfl) ?_
  refine seqS (l := (regionOf Tryd.f24 30)) (w0 := w0.drew) 142 13 kept30 (phi30 r3 r bL oL nL cL i vV vM (.agg ([.int .i64 i0, .string s1, .int .i64 i2, .string s3, .slice a4 n4 c4, .slice a5 n5 c5, .slice a6 n6 c6] : List Value).toArray)) chn30 (PQ w0 B E0 n d v0 xs u') (by kernel_rfl) hN (by rw [hl]; decide) (by kernel_rfl) (by kernel_rfl) (by kernel_rfl) (by kernel_rfl)
    (fun a w => ∃ v' xs', Below E0 w0 w ∧ (∀ k, k < w0.heap.size → k ≠ r → v0.ownBlock ≠ some k → w.heap[k]? = w0.heap[k]?) ∧ w.heap[r]? = some (.cells (oc.setIfInBounds 6 v') 25) ∧ v'.ownBlock ≠ some r ∧ v'.ownBlock ≠ some r3 ∧ w.ownsRow E0 25 7 v' (n + 1) xs' ∧ El w (Gd B E0 v' r w) d (ts ++ [u']) xs' ∧ (∀ g, v'.ownBlock = some g → v0.ownBlock = some g ∨ w0.heap.size ≤ g))
    (fun v => by simp [phi30]) ?_ ?_ ?_ ?_ ?_ ?_ ?_
  · intro j hj
    rw [hl]
    simp [chn30] at hj
    omega
  · exact PQ.start ho hE
  · intro Lf Lf' s s' w hh hq
    exact hq.loc (hh 1 rfl) (hh 9 rfl) (hh 10 rfl) (hh 11 rfl)
  · intro j hj hcn hjs a w Lf hn' hk hp hq
    rw [hl] at hj
    have hj' : j = 0 ∨ j = 2 ∨ j = 3 ∨ j = 4 ∨ j = 5 ∨ j = 6 ∨ j = 7 ∨ j = 8 ∨ j = 12 := by
      simp [chn30] at hcn
      omega
    rcases hj' with rfl | rfl | rfl | rfl | rfl | rfl | rfl | rfl | rfl
    · have e : a.eval (.tmp 13) = .pointer (some ⟨r, 0, none⟩) := getD_of ((hk 13 (by decide)).trans h13)
      exact ⟨wnone rfl, op_fieldAddr e (fa6 r w) ⟨_, rfl, rfl, by simp [phi30]⟩⟩
    · have e : a.eval (.tmp 3) = .pointer (some ⟨r3, 0, none⟩) := getD_of ((hk 3 (by decide)).trans h3)
      exact ⟨wnone rfl, op_fieldAddr e (fa6 r3 w) ⟨_, rfl, rfl, by simp [phi30]⟩⟩
    · have e : a.eval (.tmp 130) = .pointer (some ⟨r3, 6, none⟩) := (hp 2 rfl).2.1 rfl
      have hcw : w.cell? ⟨r3, 6, none⟩ = some (.slice (some ⟨bL, oL, none⟩) nL cL) := (World.cell?_of_block (w := w0) (a := ⟨r3, 6, none⟩) (hq.2.2.1 r3 hr3 hr3o)).trans hc
      exact ⟨wnone rfl, op_load e (ld1 hcw) ⟨_, rfl, rfl, by simp [phi30]⟩⟩
    · refine ⟨wnone rfl, op_move ⟨_, rfl, rfl, ?_⟩⟩
      have : a.eval (.tmp 15) = .int .i64 (i : Int) := getD_of ((hk 15 (by decide)).trans hiv)
      rw [this]
      simp [phi30]
    · have e1 : a.tmps.getD 131 undef = .slice (some ⟨bL, oL, none⟩) nL cL := (hp 3 rfl).2.2.1 rfl
      have e2 : a.tmps.getD 132 undef = .int .i64 (i : Int) := (hp 4 rfl).2.2.2.1 rfl
      exact ⟨wnone rfl, op_idx e1 e2 (idxT hiL w) ⟨_, rfl, rfl, by simp [phi30]⟩⟩
    · have e1 : a.eval (.tmp 133) = .pointer (some ⟨bL, oL + i * 7, none⟩) := (hp 5 rfl).2.2.2.2.1 rfl
      have hew : w.rangeAt bL (oL + i * 7) [.int .i64 i0, .string s1, .int .i64 i2, .string s3, .slice a4 n4 c4, .slice a5 n5 c5, .slice a6 n6 c6] := rangeAt_below hel (show bL < E0 by omega) hq.1
      exact ⟨wnone rfl, op_load e1 (run_loadAt_mid (P := Tryd.prog) w bL (oL + i * 7) 25 _ _ hew rfl rfl rfl) ⟨_, rfl, rfl, by simp [phi30]⟩⟩
    · refine ⟨wnone rfl, op_move ⟨_, rfl, rfl, ?_⟩⟩
      have : a.eval (.tmp 1) = vV := getD_of ((hk 1 (by decide)).trans h1)
      rw [this]
      simp [phi30]
    · refine ⟨wnone rfl, op_move ⟨_, rfl, rfl, ?_⟩⟩
      have : a.eval (.tmp 2) = vM := getD_of ((hk 2 (by decide)).trans h2)
      rw [this]
      simp [phi30]
    · have e : a.eval (.tmp 13) = .pointer (some ⟨r, 0, none⟩) := getD_of ((hk 13 (by decide)).trans h13)
      exact ⟨wnone rfl, op_fieldAddr e (fa6 r w) ⟨_, rfl, rfl, by simp [phi30]⟩⟩
  · intro j hcn a w Lf hn' hk hp hLj hd hq
    have dn : ∀ j k, j < 14 → (preds ((regionOf Tryd.f24 30).getD j default)).contains k = true → Lf k = false → Lf j = false := fun j k hj hk hLk => by
      cases hL : Lf j with
      | false => rfl
      | true => rw [hd j (by rw [hl]; exact hj) hL k hk] at hLk; cases hLk
    have hj' : j = 1 ∨ j = 9 ∨ j = 10 ∨ j = 11 := by simp [chn30] at hcn; omega
    rcases hj' with rfl | rfl | rfl | rfl
    · have e : a.eval (.tmp 128) = .pointer (some ⟨r, 6, none⟩) := (hp 0 rfl).2.1 (.inl rfl)
      have hrb : w.heap[r]? = some (.cells oc 25) := (hq.2.2.1 r hrw hor).trans hout
      exact ⟨wnone rfl, op_load e (ld1 ((blk hrb).2.1 6 _ hoc)) ⟨_, rfl, by simp [phi30], hq.took⟩⟩
    · have e1 : a.tmps.getD 134 undef = .agg ([.int .i64 i0, .string s1, .int .i64 i2, .string s3, .slice a4 n4 c4, .slice a5 n5 c5, .slice a6 n6 c6] : List Value).toArray := (hp 6 rfl).2.2.2.2.2.2.1 rfl
      have e2 : a.tmps.getD 135 undef = vV := (hp 7 rfl).2.2.2.2.2.2.2.1 rfl
      have e3 : a.tmps.getD 136 undef = vM := (hp 8 rfl).2.2.2.2.2.2.2.2 rfl
      have l10 := dn 10 9 (by decide) rfl hLj
      have l11 := dn 11 10 (by decide) rfl l10
      have hbW := hq.2.2.2.2.2.1 hLj
      refine ⟨wnone rfl, op_call enter_Put ?_⟩
      have hargs : (#[Operand.tmp 134, .tmp 135, .tmp 136]).map a.eval = #[.agg ([.int .i64 i0, .string s1, .int .i64 i2, .string s3, .slice a4 n4 c4, .slice a5 n5 c5, .slice a6 n6 c6] : List Value).toArray, vV, vM] := by
        simp only [List.map_toArray, List.map_cons, List.map_nil, Act.eval]
        rw [e1, e2, e3]
      rw [hargs]
      refine (hcall w hbW).mono ?_
      rintro e w' ⟨v, rfl, hb', hI⟩
      exact ⟨v, rfl, v, rfl, by simp [phi30], hq.called hE l10 l11 hbW hb' hI⟩
    · have l11 := dn 11 10 (by decide) rfl hLj
      have l9 := (hp 9 rfl).1
      obtain ⟨M, q0, q2, z1, z3, w4, w5, w6, m4, m5, m6, k4, k5, k6, e, hI⟩ := hq.seven l9
      have e' : a.tmps.getD 137 undef = .agg #[.int .i64 q0, .string z1, .int .i64 q2, .string z3, .slice w4 m4 k4, .slice w5 m5 k5, .slice w6 m6 k6] := e
      exact ⟨wnone rfl, op_bsT e' ⟨_, rfl, by simp [phi30], hq.made hE hB (cs := [.int .i64 q0, .string z1, .int .i64 q2, .string z3, .slice w4 m4 k4, .slice w5 m5 k5, .slice w6 m6 k6]) (by simp [Value.oneCell']) rfl l9 l11 e⟩⟩
    · have l10 := (hp 10 rfl).1
      have l9 := hd 10 (by rw [hl]; decide) l10 9 rfl
      obtain ⟨v', w', hr, hQ'⟩ := hq.put tTerms hiT hzT hsT hbT rfl hn hE hB (fun g h => (ho.lt g h).2) l9 l10 hLj (hp 1 rfl).1 22
      exact ⟨wnone rfl, op_app rfl rfl hr ⟨_, rfl, by simp [phi30], hQ'⟩⟩
  · intro a w hn' hk hp hq
    have e1 : a.eval (.tmp 140) = .pointer (some ⟨r, 6, none⟩) := (hp 12 (by rw [hl]; decide) (by decide)).1 (.inr rfl)
    have hrb : w.heap[r]? = some (.cells oc 25) := (hq.2.2.1 r hrw hor).trans hout
    obtain ⟨xs', k1, k2, k3, k4, k5⟩ := hq.done hEl hE hB hrE hrw hr3 hr3o hor (fun g h => (ho.lt g h).2)
    obtain ⟨av, nv, cv, ev⟩ : ∃ (x : Option Addr) (y z : Nat), a.tmps.getD 139 undef = Value.slice x y z := by
      obtain ⟨a', c', e', _⟩ := own_cells k1
      exact ⟨a', _, c', e'⟩
    refine op_store (y := .tmp 139) e1 ev (st1 hrb hoc) ⟨rfl, a.tmps.getD 139 undef, xs', ?_⟩
    have ev' : slotOf (regionOf Tryd.f24 30).toArray a 11 = Value.slice av nv cv := ev
    rw [ev'] at k1 k2 k3 k4 k5
    rw [ev]
    exact PQ.stored hrb hrw hrE hE hB hq k1 k2 k3 k4 k5
  · rintro a w hdf hn' hk ⟨v', xs', q1, q2, q3, q4, q5, q6, q7, q8⟩
    exact hend a w v' xs' hdf hn' hk q1 q2 q3 q4 q5 q6 q7 q8
end Go.Proofs.YtegmckpcchhmdaaDoor

/- Put: what is hidden, as lists; frames. -/
namespace Go.Proofs.YtegmckpcchhmdaaDoor
open Go Go.RowKit
def keepP (ns : List ByteArray) (vs : List (ByteArray × Int)) (ls : List Tm) : List ((ByteArray × Int) × Tm) := (vs.zip ls).filter fun p => !memB p.1.1 ns
theorem subV_keep (ns : List ByteArray) (k : ByteArray) : ∀ (vs : List (ByteArray × Int)) (ls : List Tm), subV ((keepP ns vs ls).map (·.1)) ((keepP ns vs ls).map (·.2)) k = if memB k ns = true then none else subV vs ls k
  | [], ls => by
    have : keepP ns [] ls = [] := by simp [keepP]
    rw [this]
    simp [subV]
  | v :: vs, [] => by
    have : keepP ns (v :: vs) [] = [] := by simp [keepP]
    rw [this]
    simp [subV]
  | v :: vs, t :: ls => by
    have ih := subV_keep ns k vs ls
    have e : keepP ns (v :: vs) (t :: ls) = if memB v.1 ns = true then keepP ns vs ls else (v, t) :: keepP ns vs ls := by
      unfold keepP
      rw [List.zip_cons_cons, List.filter_cons]
      cases memB v.1 ns <;> simp
    rw [e]
    by_cases hm : memB v.1 ns = true
    · rw [if_pos hm, ih]
      by_cases hk : memB k ns = true
      · rw [if_pos hk, if_pos hk]
      · rw [if_neg hk, if_neg hk]
        have : k ≠ v.1 := fun e => hk (e ▸ hm)
        simp only [subV, if_neg this]
    · rw [if_neg hm]
      simp only [List.map_cons, subV]
      by_cases hk : k = v.1
      · subst hk
        simp [hm]
      · simp only [if_neg hk]
        exact ih
theorem hide_keep (vars vs : List (ByteArray × Int)) (ls : List Tm) : subV ((keepP (namesOf vars) vs ls).map (·.1)) ((keepP (namesOf vars) vs ls).map (·.2)) = hideS 19 vars (subV vs ls) := by
  funext k
  rw [subV_keep]
  unfold hideS
  rw [if_pos rfl]
theorem keepP_snoc {ns : List ByteArray} {vs : List (ByteArray × Int)} {ls : List Tm} {i : Nat} (h1 : i < vs.length) (h2 : i < ls.length) : keepP ns (vs.take (i + 1)) (ls.take (i + 1)) = keepP ns (vs.take i) (ls.take i) ++ if memB vs[i].1 ns = true then [] else [(vs[i], ls[i])] := by
  unfold keepP
  rw [take_more h1, take_more h2, List.zip_append (by simp; omega), List.filter_append]
  congr 1
  simp only [List.zip_cons_cons, List.zip_nil_right, List.filter_cons, List.filter_nil]
  cases memB vs[i].1 ns <;> simp
/-- A frame in which some slots are others. -/
def setAll (x : Nat → Value) : List Nat → Array Value → Array Value
  | [], t => t
  | k :: ks, t => setAll x ks (t.setIfInBounds k (x k))
theorem setAll_size (x : Nat → Value) : ∀ (ks : List Nat) (t : Array Value), (setAll x ks t).size = t.size
  | [], _ => rfl
  | k :: ks, t => by
    show (setAll x ks (t.setIfInBounds k (x k))).size = t.size
    rw [setAll_size x ks, Array.size_setIfInBounds]
theorem setAll_off (x : Nat → Value) {i : Nat} : ∀ (ks : List Nat) (t : Array Value), i ∉ ks → (setAll x ks t)[i]? = t[i]?
  | [], _, _ => rfl
  | k :: ks, t, h => by
    show (setAll x ks (t.setIfInBounds k (x k)))[i]? = t[i]?
    rw [setAll_off x ks _ (fun e => h (List.mem_cons_of_mem _ e)), Array.getElem?_setIfInBounds, if_neg fun e => h (by rw [e]; exact List.mem_cons_self)]
theorem setAll_on (x : Nat → Value) {i : Nat} : ∀ (ks : List Nat) (t : Array Value), i ∈ ks → i < t.size → (setAll x ks t)[i]? = some (x i)
  | k :: ks, t, h, hi => by
    show (setAll x ks (t.setIfInBounds k (x k)))[i]? = some (x i)
    by_cases hm : i ∈ ks
    · exact setAll_on x ks _ hm (by rw [Array.size_setIfInBounds]; exact hi)
    · obtain rfl : i = k := (List.mem_cons.1 h).resolve_right hm
      rw [setAll_off x ks _ hm, Array.getElem?_setIfInBounds, if_pos rfl, if_pos hi]
/-- A frame that is another one but for some slots. -/
theorem act_set {N : Nat} {kept : List Nat} (ks : List Nat) {a a0 : Act} (hc : ((List.range N).all fun i => kept.contains i || ks.contains i) = true) (hd : a.defers = a0.defers) (hn : a.tmps.size = N) (hN : a0.tmps.size = N) (hk : ∀ k, k ∈ kept → a.tmps[k]? = a0.tmps[k]?) : ∃ x : Nat → Value, a = ⟨setAll x ks a0.tmps, a0.defers⟩ ∧ ∀ i, x i = a.tmps.getD i undef := by
  refine ⟨fun i => a.tmps.getD i undef, ?_, fun _ => rfl⟩
  obtain ⟨tm, df⟩ := a
  simp only at hd hn hk ⊢
  rw [hd]
  congr 1
  refine Array.ext_getElem? fun i => ?_
  by_cases h : i < N
  · by_cases hm : i ∈ ks
    · rw [setAll_on _ ks _ hm (by omega)]
      simp [Array.getD_eq_getD_getElem?, hn, h]
    · rw [setAll_off _ ks _ hm]
      refine hk i ?_
      have := List.all_eq_true.1 hc i (List.mem_range.2 h)
      simpa [hm] using this
  · rw [Array.getElem?_eq_none (by omega), Array.getElem?_eq_none (by rw [setAll_size]; omega)]
set_option maxRecDepth 100000 in
theorem lit142 {a : Act} (hn : a.tmps.size = 142) (hd : a.defers = []) : ∃ u : Nat → Value, a = ⟨#[u 0, u 1, u 2, u 3, u 4, u 5, u 6, u 7, u 8, u 9, u 10, u 11, u 12, u 13, u 14, u 15, u 16, u 17, u 18, u 19, u 20, u 21, u 22, u 23, u 24, u 25, u 26, u 27, u 28, u 29, u 30, u 31, u 32, u 33, u 34, u 35, u 36, u 37, u 38, u 39, u 40, u 41, u 42, u 43, u 44, u 45, u 46, u 47, u 48, u 49, u 50, u 51, u 52, u 53, u 54, u 55, u 56, u 57, u 58, u 59, u 60, u 61, u 62, u 63, u 64, u 65, u 66, u 67, u 68, u 69, u 70, u 71, u 72, u 73, u 74, u 75, u 76, u 77, u 78, u 79, u 80, u 81, u 82, u 83, u 84, u 85, u 86, u 87, u 88, u 89, u 90, u 91, u 92, u 93, u 94, u 95, u 96, u 97, u 98, u 99, u 100, u 101, u 102, u 103, u 104, u 105, u 106, u 107, u 108, u 109, u 110, u 111, u 112, u 113, u 114, u 115, u 116, u 117, u 118, u 119, u 120, u 121, u 122, u 123, u 124, u 125, u 126, u 127, u 128, u 129, u 130, u 131, u 132, u 133, u 134, u 135, u 136, u 137, u 138, u 139, u 140, u 141], []⟩ ∧ ∀ i, u i = a.tmps.getD i undef := by
  obtain ⟨tmps, dfr⟩ := a
  have hd' : dfr = [] := hd
  subst hd'
  have hl := arr_lit (show tmps.size = 142 from hn)
  have e : ((List.range 142).map fun i => tmps.getD i undef).toArray = #[tmps.getD 0 undef, tmps.getD 1 undef, tmps.getD 2 undef, tmps.getD 3 undef, tmps.getD 4 undef, tmps.getD 5 undef, tmps.getD 6 undef, tmps.getD 7 undef, tmps.getD 8 undef, tmps.getD 9 undef, tmps.getD 10 undef, tmps.getD 11 undef, tmps.getD 12 undef, tmps.getD 13 undef, tmps.getD 14 undef, tmps.getD 15 undef, tmps.getD 16 undef, tmps.getD 17 undef, tmps.getD 18 undef, tmps.getD 19 undef, tmps.getD 20 undef, tmps.getD 21 undef, tmps.getD 22 undef, tmps.getD 23 undef, tmps.getD 24 undef, tmps.getD 25 undef, tmps.getD 26 undef, tmps.getD 27 undef, tmps.getD 28 undef, tmps.getD 29 undef, tmps.getD 30 undef, tmps.getD 31 undef, tmps.getD 32 undef, tmps.getD 33 undef, tmps.getD 34 undef, tmps.getD 35 undef, tmps.getD 36 undef, tmps.getD 37 undef, tmps.getD 38 undef, tmps.getD 39 undef, tmps.getD 40 undef, tmps.getD 41 undef, tmps.getD 42 undef, tmps.getD 43 undef, tmps.getD 44 undef, tmps.getD 45 undef, tmps.getD 46 undef, tmps.getD 47 undef, tmps.getD 48 undef, tmps.getD 49 undef, tmps.getD 50 undef, tmps.getD 51 undef, tmps.getD 52 undef, tmps.getD 53 undef, tmps.getD 54 undef, tmps.getD 55 undef, tmps.getD 56 undef, tmps.getD 57 undef, tmps.getD 58 undef, tmps.getD 59 undef, tmps.getD 60 undef, tmps.getD 61 undef, tmps.getD 62 undef, tmps.getD 63 undef, tmps.getD 64 undef, tmps.getD 65 undef, tmps.getD 66 undef, tmps.getD 67 undef, tmps.getD 68 undef, tmps.getD 69 undef, tmps.getD 70 undef, tmps.getD 71 undef, tmps.getD 72 undef, tmps.getD 73 undef, tmps.getD 74 undef, tmps.getD 75 undef, tmps.getD 76 undef, tmps.getD 77 undef, tmps.getD 78 undef, tmps.getD 79 undef, tmps.getD 80 undef, tmps.getD 81 undef, tmps.getD 82 undef, tmps.getD 83 undef, tmps.getD 84 undef, tmps.getD 85 undef, tmps.getD 86 undef, tmps.getD 87 undef, tmps.getD 88 undef, tmps.getD 89 undef, tmps.getD 90 undef, tmps.getD 91 undef, tmps.getD 92 undef, tmps.getD 93 undef, tmps.getD 94 undef, tmps.getD 95 undef, tmps.getD 96 undef, tmps.getD 97 undef, tmps.getD 98 undef, tmps.getD 99 undef, tmps.getD 100 undef, tmps.getD 101 undef, tmps.getD 102 undef, tmps.getD 103 undef, tmps.getD 104 undef, tmps.getD 105 undef, tmps.getD 106 undef, tmps.getD 107 undef, tmps.getD 108 undef, tmps.getD 109 undef, tmps.getD 110 undef, tmps.getD 111 undef, tmps.getD 112 undef, tmps.getD 113 undef, tmps.getD 114 undef, tmps.getD 115 undef, tmps.getD 116 undef, tmps.getD 117 undef, tmps.getD 118 undef, tmps.getD 119 undef, tmps.getD 120 undef, tmps.getD 121 undef, tmps.getD 122 undef, tmps.getD 123 undef, tmps.getD 124 undef, tmps.getD 125 undef, tmps.getD 126 undef, tmps.getD 127 undef, tmps.getD 128 undef, tmps.getD 129 undef, tmps.getD 130 undef, tmps.getD 131 undef, tmps.getD 132 undef, tmps.getD 133 undef, tmps.getD 134 undef, tmps.getD 135 undef, tmps.getD 136 undef, tmps.getD 137 undef, tmps.getD 138 undef, tmps.getD 139 undef, tmps.getD 140 undef, tmps.getD 141 undef] := rfl
  rw [e] at hl
  refine ⟨fun i => tmps.getD i undef, ?_, fun _ => rfl⟩
  congr 1
def cL : Code → Code
  | .seq a _ => a
  | c => c
def cR : Code → Code
  | .seq _ b => b
  | c => c
def pAll (f : Func) : Code := (f.body).getD .skip
def pTail (f : Func) : Code := cR (cR (cR (pAll f)))
end Go.Proofs.YtegmckpcchhmdaaDoor

/- Put: its end. -/
namespace Go.Proofs.YtegmckpcchhmdaaDoor
open Go Go.RowKit
theorem TmAt.range {w : World} {B d b o : Nat} {u : Tm} (h : TmAt w B d b o u) : ∃ (d' : Nat) (aL aV aP : Option Addr) (lL lV lP cL cV cP : Nat), d = d' + 1 ∧ w.rangeAt b o [.int .i64 u.op, .string u.name, .int .i64 u.sort, .string u.num, .slice aL lL cL, .slice aV lV cV, .slice aP lP cP] ∧ IsT w B d' (.agg ([.int .i64 u.op, .string u.name, .int .i64 u.sort, .string u.num, .slice aL lL cL, .slice aV lV cV, .slice aP lP cP] : List Value).toArray) u := by
  cases d with
  | zero => exact h.elim
  | succ d =>
    obtain ⟨hb, h1, h2, aL, aV, aP, cL, cV, cP, hr, hL, hV, hP, _⟩ := h
    exact ⟨d, aL, aV, aP, _, _, _, cL, cV, cP, rfl, hr, h1, h2, aL, aV, aP, cL, cV, cP, rfl, hL, hV, hP⟩
/-- What Put hands back, as it lies at its end. -/
theorem put_ends {w w6 wq w' : World} {B E0 r6 D nL nP nV cV : Nat} {aV : Option Addr} {vL vP : Value} {xL xP : List Value} {t' : Tm} (hB : B ≤ r6) (hr6 : r6 < E0) (hf : fits t'.op ∧ fits t'.sort)
    (hb : Below E0 w wq) (hV : Row B aV nV cV 2 (BR w t'.vars)) (hnV : t'.vars.length = nV) (hE6 : E0 ≤ w6.heap.size)
    (hsame : ∀ k, k < w6.heap.size → k ≠ E0 → wq.heap[k]? = w6.heap[k]?) (hs : w6.heap.size ≤ wq.heap.size) (hw' : ∀ k, k ≠ r6 → w'.heap[k]? = wq.heap[k]?) (hsw : w'.heap.size = wq.heap.size)
    (oL : w6.ownsRow E0 25 7 vL nL xL) (eL : El w6 (Gd B E0 vL E0 w6) D t'.l xL) (hnL : nL = t'.l.length) (qL : vL.ownBlock ≠ some E0) (hlL : nL ≤ 1000000)
    (oP : wq.ownsRow E0 25 7 vP nP xP) (eP : El wq (Gd B E0 vP E0 wq) D t'.pat xP) (hnP : nP = t'.pat.length) (qP : vP.ownBlock ≠ some E0) (hlP : nP ≤ 1000000) :
    IsO w' (NBk B E0 w') (D + 1) (.agg #[.int .i64 t'.op, .string t'.name, .int .i64 t'.sort, .string t'.num, vL, .slice aV nV cV, vP]) t' := by
  have eL' : El w' (NBk B E0 w') D t'.l xL := eL.keep fun k hk => by
    rcases hk with h | ⟨h1, h2, _, h4⟩
    · exact ⟨.inl h, (hw' k (by omega)).trans (hsame k (by omega) (by omega))⟩
    · exact ⟨.inr ⟨h1, by omega⟩, (hw' k (by omega)).trans (hsame k h2 h4)⟩
  have eP' : El w' (NBk B E0 w') D t'.pat xP := eP.keep fun k hk => by
    rcases hk with h | ⟨h1, h2, _, h4⟩
    · exact ⟨.inl h, hw' k (by omega)⟩
    · exact ⟨.inr ⟨h1, by omega⟩, hw' k (by omega)⟩
  have oL' : w'.ownsRow E0 25 7 vL nL xL := own_sameK oL fun g hg => by
    have := oL.lt g hg
    have hg0 : g ≠ E0 := fun e => qL (e ▸ hg)
    exact (hw' g (by omega)).trans (hsame g this.2 hg0)
  have oP' : w'.ownsRow E0 25 7 vP nP xP := own_sameK oP fun g hg => by
    have := oP.lt g hg
    exact hw' g (by omega)
  obtain ⟨a1, c1, e1, r1⟩ := eL'.row (B' := 0) oL' hnL (fun g hg => .inr (oL'.lt g hg)) (by omega)
  obtain ⟨a2, c2, e2, r2⟩ := eP'.row (B' := 0) oP' hnP (fun g hg => .inr (oP'.lt g hg)) (by omega)
  subst hnL hnP hnV
  refine ⟨hf.1, hf.2, a1, aV, a2, c1, cV, c2, by rw [e1, e2]; rfl, r1, ⟨hV.1, hV.2.1, fun h0 => ?_⟩, r2⟩
  obtain ⟨b, off, e, hbB, hj⟩ := hV.2.2 h0
  refine ⟨b, off, e, .inl hbB, fun j hjn u hu => ⟨range_same ((hj j hjn u hu).1) ?_, (hj j hjn u hu).2⟩⟩
  exact (hw' b (by omega)).trans (hb.block b (by omega))
set_option maxRecDepth 1000000 in
set_option maxHeartbeats 16000000 in
theorem put_tail {Q : Exit → Act → World → Prop} {a : Act} {w : World} {B r3 r6 d e nL nV nP cL cV cP : Nat} {t : Tm} {aL aV aP : Option Addr} {vV vM : Value} {f : Tm → Tm}
    (hd : a.defers = []) (hN : a.tmps.size = 142) (h1 : a.tmps[1]? = some vV) (h2 : a.tmps[2]? = some vM) (h3 : a.tmps[3]? = some (.pointer (some ⟨r3, 0, none⟩))) (h6 : a.tmps[6]? = some (.pointer (some ⟨r6, 0, none⟩)))
    (hb3 : w.heap[r3]? = some (.cells #[.int .i64 t.op, .string t.name, .int .i64 t.sort, .string t.num, .slice aL nL cL, .slice aV nV cV, .slice aP nP cP] 25)) (hb6 : w.heap[r6]? = some (.cells #[.int .i64 0, .string ⟨#[]⟩, .int .i64 0, .string ⟨#[]⟩, .slice none 0 0, .slice none 0 0, .slice none 0 0] 25)) (hne : r3 ≠ r6) (hf : fits t.op ∧ fits t.sort) (hB : B ≤ r6)
    (hnL : t.l.length = nL) (hnV : t.vars.length = nV) (hnP : t.pat.length = nP) (hl1 : nL ≤ 1000000) (hl2 : nP ≤ 1000000)
    (hL : Row B aL nL cL 7 (fun b o j => ∀ u, t.l[j]? = some u → TmAt w B d b o u)) (hV : Row B aV nV cV 2 (BR w t.vars)) (hP : Row B aP nP cP 7 (fun b o j => ∀ u, t.pat[j]? = some u → TmAt w B d b o u))
    (hcall : ∀ (u : Tm) (v : Value) (W : World) (d' : Nat), u ∈ t.l ∨ u ∈ t.pat → d = d' + 1 → Below w.heap.size w W → IsT W B d' v u → Calls Tryd.prog 24 #[v, vV, vM] W fun ex w' => ∃ r, ex = .returned r ∧ Below W.heap.size W w' ∧ IsO w' (NBk B W.heap.size w') (d' + e + 1) r (f u))
    (hq : ∀ (a' : Act) (w' : World) (cs : List Value), a'.defers = [] → a'.tmps[6]? = some (.pointer (some ⟨r6, 0, none⟩)) → w'.heap[r6]? = some (.cells cs.toArray 25) → cs.length = 7 → IsO w' (NBk B w.heap.size w') (d + e + 1) (.agg cs.toArray) ⟨t.op, t.name, t.sort, t.num, t.l.map f, t.vars, t.pat.map f⟩ → Below r6 w w' → Q .ret a' w') :
    Code.wp Tryd.prog (pTail Tryd.f24) Q a w := by
  obtain ⟨u, rfl, hu⟩ := lit142 hN hd
  have u1 : u 1 = vV := (hu 1).trans (getD_of h1)
  have u2 : u 2 = vM := (hu 2).trans (getD_of h2)
  have u3 : u 3 = .pointer (some ⟨r3, 0, none⟩) := (hu 3).trans (getD_of h3)
  have u6 : u 6 = .pointer (some ⟨r6, 0, none⟩) := (hu 6).trans (getD_of h6)
  clear hu h1 h2 h3 h6 hN hd
  rw [u1, u2, u3, u6]
  clear u1 u2 u3 u6
  have x0 : w.cell? ⟨r3, 0, none⟩ = some (.int .i64 t.op) := (blk hb3).2.1 0 _ rfl
  have x1 : w.cell? ⟨r3, 1, none⟩ = some (.string t.name) := (blk hb3).2.1 1 _ rfl
  have x2 : w.cell? ⟨r3, 2, none⟩ = some (.int .i64 t.sort) := (blk hb3).2.1 2 _ rfl
  have x3 : w.cell? ⟨r3, 3, none⟩ = some (.string t.num) := (blk hb3).2.1 3 _ rfl
  have x4 : w.cell? ⟨r3, 4, none⟩ = some (.slice aL nL cL) := (blk hb3).2.1 4 _ rfl
  have x5 : w.cell? ⟨r3, 5, none⟩ = some (.slice aV nV cV) := (blk hb3).2.1 5 _ rfl
  have x6 : w.cell? ⟨r3, 6, none⟩ = some (.slice aP nP cP) := (blk hb3).2.1 6 _ rfl
  have hr3 : r3 < w.heap.size := (blk hb3).1
  have hr6 : r6 < w.heap.size := (blk hb6).1
  obtain ⟨w0, e0, hb0, hs0, hc0, hh0⟩ := box_new w #[.int .i64 t.op, .string t.name, .int .i64 t.sort, .string t.num, .slice none 0 0, .slice aV nV cV, .slice none 0 0] 25
  have HI := hide (And.intro hL (And.intro hV (And.intro hP (And.intro hcall (And.intro hB (And.intro hf hne))))))
  have HQ := hide hq
  have HN := hide (And.intro hnL (And.intro hnV hnP))
  have H0 := hide (And.intro hb0 hh0)
  have H36 := hide (And.intro hb3 hb6)
  have HE := hide e0
  have hmL : (nL : Int) ≤ 1000000 := by omega
  have hmP : (nP : Int) ≤ 1000000 := by omega
  clear hL hV hP hcall hB hf hne hq hnL hnV hnP hb0 hh0 hs0 hc0 e0 hb3 hb6
  conv => arg 2; whnf
  go_wp2_with fail
  rw [show w.alloc (.cells #[.int .i64 t.op, .string t.name, .int .i64 t.sort, .string t.num, .slice none 0 0, .slice aV nV cV, .slice none 0 0] 25) = w0 from unhide HE]
  clear HE x0 x1 x2 x3 x5
  obtain ⟨E0, hE0⟩ : ∃ E, w.heap.size = E := ⟨_, rfl⟩
  have HE0 := hide hE0
  rw [hE0]
  go_loopw [14] (fun iv wr => ∃ (i : Nat) (v : Value) (xs : List Value), i ≤ nL ∧ iv = .int .i64 (i : Int) ∧ Below E0 w wr ∧ wr.heap[E0]? = some (.cells #[.int .i64 t.op, .string t.name, .int .i64 t.sort, .string t.num, v, .slice aV nV cV, .slice none 0 0] 25) ∧ v.ownBlock ≠ some E0 ∧ wr.ownsRow E0 25 7 v i xs ∧ El wr (Gd B E0 v E0 wr) (d + e) ((t.l.take i).map f) xs) (fun iv _ => nL - (intOf iv).toNat)
  case atStart =>
    obtain ⟨hb0, hh0⟩ := unhide H0
    rw [unhide HE0] at hb0 hh0
    exact ⟨0, .slice none 0 0, [], Nat.zero_le _, rfl, hb0, hh0, by simp [Value.ownBlock], own_nilK _ _ _ _, El.nil⟩
  case round =>
    obtain ⟨i, v0, xs, hi0, rfl, hb, hh, hov, ho, hEl⟩ := hrel
    have y4 := (hb.cell (p := ⟨r3, 4, none⟩) (show r3 < E0 by omega)).trans x4
    have hEr : E0 < wr.heap.size := (blk hh).1
    by_cases hi : i < nL
    · obtain ⟨hL, hV, hP, hcall, hB, hf, hne⟩ := unhide HI
      obtain ⟨hnL, hnV, hnP⟩ := unhide HN
      have hil : i < t.l.length := by omega
      obtain ⟨b1, o1, rfl, hb1, hA1⟩ := (hL.below (hb.mono (show B ≤ E0 by omega))).at hnL.symm hi
      obtain ⟨d', bL, bV, bP, mL, mV, mP, kL, kV, kP, rfl, hra, hT⟩ := hA1.range
      have hmem : t.l[i] ∈ t.l ∨ t.l[i] ∈ t.pat := .inl (List.getElem_mem hil)
      have htk : (t.l.take (i + 1)).map f = (t.l.take i).map f ++ [f t.l[i]] := by rw [take_more hil, List.map_append]; rfl
      have hca : ∀ W, Below wr.heap.size wr W → Calls Tryd.prog 24 #[.agg ([.int .i64 t.l[i].op, .string t.l[i].name, .int .i64 t.l[i].sort, .string t.l[i].num, .slice bL mL kL, .slice bV mV kV, .slice bP mP kP] : List Value).toArray, vV, vM] W fun ex w' => ∃ r, ex = .returned r ∧ Below W.heap.size W w' ∧ IsO w' (NBk B W.heap.size w') (d' + e + 1) r (f t.l[i]) := fun W hW => hcall t.l[i] _ W d' hmem rfl ((hb.trans (hW.mono (by omega))).mono (by omega)) (hT.more (hW.mono (by omega)) (Nat.le_refl _) (Nat.le_refl _))
      generalize t.l[i] = ti at *
      have hi2 : (i : Int) < (nL : Int) := by omega
      have HR := hide (And.intro hra (And.intro hca (And.intro ho (And.intro hEl (And.intro hh (And.intro hb (And.intro htk (And.intro hov (And.intro hB hb1)))))))))
      clear hra hca ho hEl hh hb htk hov hB hb1 hT hA1 hL hV hP hcall hf hne hnL hnV hnP hil hmem
      go_wp2_with fail
      obtain ⟨hra, hca, ho, hEl, hh, hb, htk, hov, hB, hb1⟩ := unhide HR
      have hr3o : v0.ownBlock ≠ some r3 := fun h => by have := (ho.lt r3 h).1; omega
      refine put_r26 (w0 := wr) (B := B) (E0 := E0) (r3 := r3) (r := E0) (i := i) (n := i) (d := d' + e + 1) (v0 := v0) (ts := (t.l.take i).map f) (xs := xs) (u' := f ti) rfl rfl rfl rfl rfl rfl y4 (by omega) hr3o hra hb1 hi hh rfl hov (by omega) (by omega) (Nat.le_refl _) ho (by rw [show d' + e + 1 = d' + 1 + e by omega]; exact hEl) (by omega) hca ?_
      intro a w' v2 xs2 hdf hn hk k1 k2 k3 k4 k5 k6 k7 k8
      obtain ⟨x, rfl, -⟩ := act_set [108, 109, 110, 111, 112, 113, 114, 115, 116, 117, 118, 119, 120] (by kernel_rfl) hdf hn rfl hk
      rw [show d' + e + 1 = d' + 1 + e by omega, ← htk] at k7
      have H9 := hide (And.intro (hb.trans k1) (And.intro k3 (And.intro k4 (And.intro k6 k7))))
      clear k1 k2 k3 k4 k5 k6 k7 k8 hra hca ho hEl hh hb htk hov hB hb1 hr3o hdf hn hk HR
      simp only [setAll]
      go_wp2
      obtain ⟨q1, q2, q3, q4, q5⟩ := unhide H9
      exact ⟨⟨i + 1, v2, xs2, by omega, by simp, q1, q2, q3, q4, q5⟩, by simp [intOf]; omega⟩
    · obtain rfl : i = nL := by omega
      obtain ⟨aQ, cQ, rfl, -, -⟩ := own_cells ho
      rw [show (t.l.take i).map f = t.l.map f from by rw [List.take_of_length_le (by rw [(unhide HN).1]; exact Nat.le_refl _)]] at hEl
      have H6 := hide (And.intro ho (And.intro hEl (And.intro hh (And.intro hb hov))))
      have hd9 : decide ((i : Int) < (i : Int)) = false := by simp
      clear ho hEl hh hb hov hi
      obtain ⟨w6, hw6⟩ : ∃ W, W = wr := ⟨_, rfl⟩
      subst hw6
      go_wp2_with fail
      clear hd9 y4 x4
      go_loopw [15] (fun iv wq => ∃ (j : Nat) (v : Value) (xs' : List Value), j ≤ nP ∧ iv = .int .i64 (j : Int) ∧ Below E0 w wq ∧ (∀ k, k < w6.heap.size → k ≠ E0 → wq.heap[k]? = w6.heap[k]?) ∧ w6.heap.size ≤ wq.heap.size ∧ wq.heap[E0]? = some (.cells #[.int .i64 t.op, .string t.name, .int .i64 t.sort, .string t.num, .slice aQ i cQ, .slice aV nV cV, v] 25) ∧ v.ownBlock ≠ some E0 ∧ (∀ g, v.ownBlock = some g → w6.heap.size ≤ g) ∧ wq.ownsRow E0 25 7 v j xs' ∧ El wq (Gd B E0 v E0 wq) (d + e) ((t.pat.take j).map f) xs') (fun iv _ => nP - (intOf iv).toNat)
      case atStart =>
        obtain ⟨_, _, hh, hb, _⟩ := unhide H6
        exact ⟨0, .slice none 0 0, [], Nat.zero_le _, rfl, hb, fun _ _ _ => rfl, Nat.le_refl _, hh, by simp [Value.ownBlock], fun g hg => by simp [Value.ownBlock] at hg, own_nilK _ _ _ _, El.nil⟩
      case round =>
        obtain ⟨j, v0, ys, hj0, rfl, hb, hsm, hsz, hh, hov, hog, ho, hEl⟩ := hrel
        have y6 := (hb.cell (p := ⟨r3, 6, none⟩) (show r3 < E0 by omega)).trans x6
        have hEq : E0 < wr.heap.size := (blk hh).1
        by_cases hj : j < nP
        · obtain ⟨hL, hV, hP, hcall, hB, hf, hne⟩ := unhide HI
          obtain ⟨hnL, hnV, hnP⟩ := unhide HN
          have hjl : j < t.pat.length := by omega
          obtain ⟨b1, o1, rfl, hb1, hA1⟩ := (hP.below (hb.mono (show B ≤ E0 by omega))).at hnP.symm hj
          obtain ⟨d', bL, bV, bP, mL, mV, mP, kL, kV, kP, rfl, hra, hT⟩ := hA1.range
          have hmem : t.pat[j] ∈ t.l ∨ t.pat[j] ∈ t.pat := .inr (List.getElem_mem hjl)
          have htk : (t.pat.take (j + 1)).map f = (t.pat.take j).map f ++ [f t.pat[j]] := by rw [take_more hjl, List.map_append]; rfl
          have hca : ∀ W, Below wr.heap.size wr W → Calls Tryd.prog 24 #[.agg ([.int .i64 t.pat[j].op, .string t.pat[j].name, .int .i64 t.pat[j].sort, .string t.pat[j].num, .slice bL mL kL, .slice bV mV kV, .slice bP mP kP] : List Value).toArray, vV, vM] W fun ex w' => ∃ r, ex = .returned r ∧ Below W.heap.size W w' ∧ IsO w' (NBk B W.heap.size w') (d' + e + 1) r (f t.pat[j]) := fun W hW => hcall t.pat[j] _ W d' hmem rfl ((hb.trans (hW.mono (by omega))).mono (by omega)) (hT.more (hW.mono (by omega)) (Nat.le_refl _) (Nat.le_refl _))
          generalize t.pat[j] = ti at *
          have hj2 : (j : Int) < (nP : Int) := by omega
          have HR := hide (And.intro hra (And.intro hca (And.intro ho (And.intro hEl (And.intro hh (And.intro hb (And.intro htk (And.intro hov (And.intro hB (And.intro hb1 (And.intro hsm hog)))))))))))
          clear hra hca ho hEl hh hb htk hov hB hb1 hT hA1 hL hV hP hcall hf hne hnL hnV hnP hjl hmem hsm hog
          go_wp2_with fail
          obtain ⟨hra, hca, ho, hEl, hh, hb, htk, hov, hB, hb1, hsm, hog⟩ := unhide HR
          have hr3o : v0.ownBlock ≠ some r3 := fun h => by have := (ho.lt r3 h).1; omega
          refine put_r30 (w0 := wr) (B := B) (E0 := E0) (r3 := r3) (r := E0) (i := j) (n := j) (d := d' + e + 1) (v0 := v0) (ts := (t.pat.take j).map f) (xs := ys) (u' := f ti) rfl rfl rfl rfl rfl rfl y6 (by omega) hr3o hra hb1 hj hh rfl hov (by omega) (by omega) (Nat.le_refl _) ho (by rw [show d' + e + 1 = d' + 1 + e by omega]; exact hEl) (by omega) hca ?_
          intro a w' v2 xs2 hdf hn hk k1 k2 k3 k4 k5 k6 k7 k8
          obtain ⟨x, rfl, -⟩ := act_set [128, 129, 130, 131, 132, 133, 134, 135, 136, 137, 138, 139, 140] (by kernel_rfl) hdf hn rfl hk
          rw [show d' + e + 1 = d' + 1 + e by omega, ← htk] at k7
          have hlt' : ∀ k, k < wr.heap.size → k < w'.heap.size ∨ True := fun _ _ => .inr trivial
          have k9 : ∀ k, k < w6.heap.size → k ≠ E0 → w'.heap[k]? = w6.heap[k]? := fun k h1 h2 => (k2 k (by omega) h2 (fun hg => by have := hog k hg; omega)).trans (hsm k h1 h2)
          have k10 : ∀ g, v2.ownBlock = some g → w6.heap.size ≤ g := fun g hg => by
            rcases k8 g hg with h | h
            · exact hog g h
            · omega
          have H9 := hide (And.intro (hb.trans k1) (And.intro k3 (And.intro k4 (And.intro k6 (And.intro k7 (And.intro k9 k10))))))
          have hsz' : w6.heap.size ≤ w'.heap.size := by
            by_cases h0 : w6.heap.size = E0 + 1
            · have := (blk k3).1
              omega
            · have h9 := k9 (w6.heap.size - 1) (by omega) (by omega)
              rw [Array.getElem?_eq_getElem (show w6.heap.size - 1 < w6.heap.size by omega)] at h9
              have := (Array.getElem?_eq_some_iff.1 h9).1
              omega
          clear k1 k2 k3 k4 k5 k6 k7 k8 k9 k10 hra hca ho hEl hh hb htk hov hB hb1 hr3o hdf hn hk HR hsm hog hlt'
          simp only [setAll]
          go_wp2
          obtain ⟨q1, q2, q3, q4, q5, q6, q7⟩ := unhide H9
          exact ⟨⟨j + 1, v2, xs2, by omega, by simp, q1, q6, hsz', q2, q3, q7, q4, q5⟩, by simp [intOf]; omega⟩
        · obtain rfl : j = nP := by omega
          obtain ⟨aR, cR, rfl, -, -⟩ := own_cells ho
          rw [show (t.pat.take j).map f = t.pat.map f from by rw [List.take_of_length_le (by rw [(unhide HN).2.2]; exact Nat.le_refl _)]] at hEl
          obtain ⟨hb3, hb6⟩ := unhide H36
          have hg6 : wr.heap[r6]? = some (.cells #[.int .i64 0, .string ⟨#[]⟩, .int .i64 0, .string ⟨#[]⟩, .slice none 0 0, .slice none 0 0, .slice none 0 0] 25) := (hb.block r6 (by omega)).trans hb6
          have hd9 : decide ((j : Int) < (j : Int)) = false := by simp
          have s0 := (blk hh).2.1 0 (.int .i64 t.op) rfl
          have s1 := (blk hh).2.1 1 (.string t.name) rfl
          have s2 := (blk hh).2.1 2 (.int .i64 t.sort) rfl
          have s3 := (blk hh).2.1 3 (.string t.num) rfl
          have s4 := (blk hh).2.1 4 (.slice aQ i cQ) rfl
          have s5 := (blk hh).2.1 5 (.slice aV nV cV) rfl
          have s6 := (blk hh).2.1 6 (.slice aR j cR) rfl
          have z0 := (blk hg6).2.1 0 (.int .i64 0) rfl
          have g0 := (blk hg6).2.2 0
          have z1 := (blk hg6).2.1 1 (.string ⟨#[]⟩) rfl
          have g1 := (blk hg6).2.2 1
          have z2 := (blk hg6).2.1 2 (.int .i64 0) rfl
          have g2 := (blk hg6).2.2 2
          have z3 := (blk hg6).2.1 3 (.string ⟨#[]⟩) rfl
          have g3 := (blk hg6).2.2 3
          have z4 := (blk hg6).2.1 4 (.slice none 0 0) rfl
          have g4 := (blk hg6).2.2 4
          have z5 := (blk hg6).2.1 5 (.slice none 0 0) rfl
          have g5 := (blk hg6).2.2 5
          have z6 := (blk hg6).2.1 6 (.slice none 0 0) rfl
          have g6 := (blk hg6).2.2 6
          have H7 := hide (And.intro ho (And.intro hEl (And.intro hh (And.intro hb (And.intro hov (And.intro hsm (And.intro hog hg6)))))))
          clear ho hEl hh hb hov hj hsm hog hg6 hb3 hb6
          go_wp2
          obtain ⟨ho, hEl, hh, hb, hov, hsm, hog, hg6⟩ := unhide H7
          obtain ⟨oL, eL, hhL, hbL, qL⟩ := unhide H6
          obtain ⟨hL, hV, hP, hcall, hB, hf, hne⟩ := unhide HI
          obtain ⟨hnL, hnV, hnP⟩ := unhide HN
          have hsz7 : (put7 wr r6 0 (.int .i64 t.op) (.string t.name) (.int .i64 t.sort) (.string t.num) (.slice aQ i cQ) (.slice aV nV cV) (.slice aR j cR)).heap.size = wr.heap.size := by simp [put7]
          refine unhide HQ _ (put7 wr r6 0 (.int .i64 t.op) (.string t.name) (.int .i64 t.sort) (.string t.num) (.slice aQ i cQ) (.slice aV nV cV) (.slice aR j cR)) [.int .i64 t.op, .string t.name, .int .i64 t.sort, .string t.num, .slice aQ i cQ, .slice aV nV cV, .slice aR j cR] rfl rfl (fill7 hg6) rfl ?_ ((hb.mono (by omega)).trans (put7_below (Nat.le_refl _)))
          · rw [unhide HE0]
            exact put_ends (w := w) (w6 := w6) (wq := wr) (t' := ⟨t.op, t.name, t.sort, t.num, t.l.map f, t.vars, t.pat.map f⟩) hB (by omega) hf hb hV hnV (by omega) hsm hsz (fun k hk => put7_far hk) hsz7 oL eL (by simp [hnL]) qL (by omega) ho hEl (by simp [hnP]) hov (by omega)

end Go.Proofs.YtegmckpcchhmdaaDoor

namespace Go.Proofs.YtegmckpcchhmdaaDoor
open Go Go.RowKit
/-- Terms that are put for variables: the slice may lie anywhere, what they hold lies below B. -/
def LR (w : World) (B H e : Nat) (a : Option Addr) (n c : Nat) (ls : List Tm) : Prop := Row H a n c 7 (fun b o j => ∀ u, ls[j]? = some u → ∃ (aL aV aP : Option Addr) (lL lV lP cL cV cP : Nat), w.rangeAt b o [.int .i64 u.op, .string u.name, .int .i64 u.sort, .string u.num, .slice aL lL cL, .slice aV lV cV, .slice aP lP cP] ∧ IsT w B e (.agg ([.int .i64 u.op, .string u.name, .int .i64 u.sort, .string u.num, .slice aL lL cL, .slice aV lV cV, .slice aP lP cP] : List Value).toArray) u)
theorem LR.below {w w' : World} {B H H' e n c : Nat} {a : Option Addr} {ls : List Tm} (h : LR w B H e a n c ls) (hw : Below H w w') (hB : B ≤ H) (hH : H ≤ H') : LR w' B H' e a n c ls := Row.mono h hH fun b o j hb hp u hu => by
  obtain ⟨aL, aV, aP, lL, lV, lP, cL, cV, cP, h1, h2⟩ := hp u hu
  exact ⟨aL, aV, aP, lL, lV, lP, cL, cV, cP, rangeAt_below h1 hb hw, h2.more (hw.mono hB) (Nat.le_refl _) (Nat.le_refl _)⟩
theorem BR.below {w w' : World} {H H' n c : Nat} {a : Option Addr} {vs : List (ByteArray × Int)} (h : Row H a n c 2 (BR w vs)) (hw : Below H w w') (hH : H ≤ H') : Row H' a n c 2 (BR w' vs) := Row.mono h hH fun b o j hb hp u hu => ⟨rangeAt_below (hp u hu).1 hb hw, (hp u hu).2⟩
/-- Put, of terms no deeper than d, by terms no deeper than e. -/
def PutC (e d : Nat) : Prop := ∀ (w : World) (B : Nat) (v : Value) (t : Tm) (vs : List (ByteArray × Int)) (ls : List Tm) (aV aM : Option Addr) (n cV cM : Nat), IsT w B d v t → Row w.heap.size aV n cV 2 (BR w vs) → LR w B w.heap.size e aM n cM ls → n = vs.length → n = ls.length → B ≤ w.heap.size → t.wt ≤ 1000000 → n ≤ 1000000 → Calls Tryd.prog 24 #[v, .slice aV n cV, .slice aM n cM] w fun ex w' => ∃ r, ex = .returned r ∧ Below w.heap.size w w' ∧ IsO w' (NBk B w.heap.size w') (d + e + 1) r (t.putD (subV vs ls))
theorem subV_first {k : ByteArray} : ∀ {vs : List (ByteArray × Int)} {ls : List Tm} {i : Nat} (h1 : i < vs.length) (h2 : i < ls.length), (∀ j (h : j < i), vs[j].1 ≠ k) → vs[i].1 = k → subV vs ls k = some ls[i]
  | [], _, _, h1, _, _, _ => absurd h1 (by simp)
  | _ :: _, [], _, _, h2, _, _ => absurd h2 (by simp)
  | v :: vs, t :: ls, 0, h1, h2, hn, he => by
    have : k = v.1 := he.symm
    simp [subV, this]
  | v :: vs, t :: ls, i + 1, h1, h2, hn, he => by
    have h0 : k ≠ v.1 := fun e => hn 0 (by omega) e.symm
    have ih := subV_first (k := k) (vs := vs) (ls := ls) (i := i) (by simpa using h1) (by simpa using h2) (fun j h => by
      have := hn (j + 1) (by omega)
      simpa using this) (by simpa using he)
    simp only [subV, if_neg h0, ih]
    rfl
theorem subV_no {k : ByteArray} : ∀ {vs : List (ByteArray × Int)} {ls : List Tm}, (∀ u ∈ vs, u.1 ≠ k) → subV vs ls k = none
  | [], _, _ => by simp [subV]
  | _ :: _, [], _ => by simp [subV]
  | v :: vs, t :: ls, h => by
    have h0 : k ≠ v.1 := fun e => h v List.mem_cons_self e.symm
    simp only [subV, if_neg h0]
    exact subV_no fun u hu => h u (List.mem_cons_of_mem _ hu)
theorem hideS_not {op : Int} {vars : List (ByteArray × Int)} {sb : ByteArray → Option Tm} (h : op ≠ 19) : hideS op vars sb = sb := if_neg h
theorem wt_either {t u : Tm} (h : u ∈ t.l ∨ u ∈ t.pat) : u.wt ≤ t.wt := by
  rcases h with h | h
  · exact Nat.le_of_lt (wt_mem h)
  · exact Nat.le_of_lt (wt_memP h)
set_option maxRecDepth 100000 in
/-- Its end, where what is put stands, in the contract's words. -/
theorem put_fin {e d : Nat} (ih : ∀ d', d = d' + 1 → PutC e d') {post : Ending → World → Prop} {a : Act} {w w1 : World} {B nL nV nP cL cV cP n cV' cM' : Nat} {t : Tm} {aL aV aP aV' aM' : Option Addr} {vs : List (ByteArray × Int)} {ls : List Tm}
    (hd : a.defers = []) (hN : a.tmps.size = 142) (h1 : a.tmps[1]? = some (.slice aV' n cV')) (h2 : a.tmps[2]? = some (.slice aM' n cM')) (h3 : a.tmps[3]? = some (.pointer (some ⟨w.heap.size, 0, none⟩))) (h6 : a.tmps[6]? = some (.pointer (some ⟨w.heap.size + 1, 0, none⟩)))
    (hb3 : w1.heap[w.heap.size]? = some (.cells #[.int .i64 t.op, .string t.name, .int .i64 t.sort, .string t.num, .slice aL nL cL, .slice aV nV cV, .slice aP nP cP] 25)) (hb6 : w1.heap[w.heap.size + 1]? = some (.cells #[.int .i64 0, .string ⟨#[]⟩, .int .i64 0, .string ⟨#[]⟩, .slice none 0 0, .slice none 0 0, .slice none 0 0] 25)) (hf : fits t.op ∧ fits t.sort) (hB : B ≤ w.heap.size)
    (hnL : t.l.length = nL) (hnV : t.vars.length = nV) (hnP : t.pat.length = nP) (hwt : t.wt ≤ 1000000) (hl1 : nL ≤ 1000000) (hl2 : nP ≤ 1000000)
    (hL : Row B aL nL cL 7 (fun b o j => ∀ u, t.l[j]? = some u → TmAt w B d b o u)) (hV : Row B aV nV cV 2 (BR w t.vars)) (hP : Row B aP nP cP 7 (fun b o j => ∀ u, t.pat[j]? = some u → TmAt w B d b o u))
    (hw1 : Below w.heap.size w w1) (hVs : Row w1.heap.size aV' n cV' 2 (BR w1 vs)) (hLs : LR w1 B w1.heap.size e aM' n cM' ls) (hn1 : n = vs.length) (hn2 : n = ls.length) (hn : n ≤ 1000000)
    (hpost : ∀ r w', Below w.heap.size w w' → IsO w' (NBk B w.heap.size w') (d + e + 1) r ⟨t.op, t.name, t.sort, t.num, t.l.map fun u => u.putD (subV vs ls), t.vars, t.pat.map fun u => u.putD (subV vs ls)⟩ → post (.returned r) w') :
    Code.wp Tryd.prog (pTail Tryd.f24) (bodyPost Tryd.prog Tryd.f24 post) a w1 := by
  have hB1 : B ≤ w1.heap.size := Nat.le_trans hB hw1.size
  refine put_tail (t := t) (f := fun u => u.putD (subV vs ls)) (e := e) (d := d) (B := B) hd hN h1 h2 h3 h6 hb3 hb6 (by omega) hf (by omega) hnL hnV hnP hl1 hl2 (hL.below (hw1.mono hB)) (BR.below hV (hw1.mono hB) (Nat.le_refl _)) (hP.below (hw1.mono hB)) ?_ ?_
  · intro u v W d' hu hd' hW hT
    exact ih d' hd' W B v u vs ls aV' aM' n cV' cM' hT (BR.below hVs hW hW.size) (hLs.below hW hB1 hW.size) hn1 hn2 (Nat.le_trans hB1 hW.size) (Nat.le_trans (wt_either hu) hwt) hn
  · intro a' w' cs hd' h6' hb' hc hI hb
    have hs1 := hw1.size
    refine ⟨hd', _, res_row (cs := cs) rfl h6' (range_block hb') rfl rfl (by rw [hc]; rfl), hpost _ _ (hw1.trans (hb.mono (by omega))) (hI.keep (fun k hk => ⟨?_, rfl⟩) (Nat.le_refl _))⟩
    rcases hk with h | h
    · exact .inl h
    · exact .inr ⟨by omega, h.2⟩
end Go.Proofs.YtegmckpcchhmdaaDoor
