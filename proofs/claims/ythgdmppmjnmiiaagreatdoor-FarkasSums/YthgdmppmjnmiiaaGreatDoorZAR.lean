/- The document's Sum: the loop over a row's parts, whole. -/
import Derived.Test.YthgdmppmjnmiiaaGreatDoorZAQ
import Derived.Test.YthgdmppmjnmiiaaGreatDoorZAP
set_option linter.unusedVariables false
set_option linter.unusedSimpArgs false

/- The document's Sum: the region that tells a name's sum. -/
namespace Go.Proofs.YthgdmppmjnmiiaaGreatDoor
open Go Go.RowKit Go.Maps
open _root_.Go.Proofs.YthgdmppmjnmiiaaGreatDoor.Nm (IsI IsN pw op_indexAddr)
set_option maxRecDepth 100000 in
theorem ix_S {b off n c i : Nat} (w : World) (hi : i < n) (hn : n ≤ 1000000) : (Instr.indexAt 23 (.slice (some ⟨b, off, none⟩) n c) (.int .i64 i)).run Tryz.prog w = .ok (.pointer (some ⟨b, off + i, none⟩)) w := by
  have g1 : (i : Int) < (n : Int) := by omega
  have g0 : (0 : Int) ≤ (i : Int) := by omega
  have g2 : (n : Int) ≤ 1000000 := by omega
  go_simp
def TQ3 (w0 : World) (E0 n : Nat) (v0 : Value) (xs : List Value) (nm st : ByteArray) (L : Nat → Bool) (s : Nat → Value) (w : World) : Prop := TQ w0 E0 n v0 xs nm st (fun j => L (j + 3)) (fun j => s (j + 3)) w
def kept34 : List Nat := (List.range 166).filter fun i => !(decide (150 ≤ i) && decide (i ≤ 164))
def chn34 (i : Nat) : Bool := i == 10 || i == 12 || i == 13
def exp34 (ob nb no nn nc q S so sn sc : Nat) (v0 lv : Value) (nm st : ByteArray) : List Value := [.pointer (some ⟨ob, 0, none⟩), v0, .slice (some ⟨nb, no, none⟩) nn nc, .int .i64 q, .pointer (some ⟨nb, no + q, none⟩), .string nm, .slice (some ⟨S, so, none⟩) sn sc, .int .i64 q, .pointer (some ⟨S, so + q * 2, none⟩), lv, .string st, .agg #[.string nm, .string st], undef, undef, .pointer (some ⟨ob, 0, none⟩)]
def phi34 (L : List Value) (j : Nat) (v : Value) : Prop := j ≠ 12 → j ≠ 13 → j ≠ 15 → v = L.getD j undef
set_option maxRecDepth 100000 in
set_option maxHeartbeats 4000000 in
theorem sum_r34 {X : Exit → Act → World → Prop} {a0 : Act} {w0 : World} {E0 n ob nb no nn nc q S so sn sc : Nat} {v0 kv k1 k2 : Value} {xs : List Value} {nm st : ByteArray}
    (hN : a0.tmps.size = 166) (h15 : a0.tmps[15]? = some (.pointer (some ⟨ob, 0, none⟩))) (h8 : a0.tmps[8]? = some (.slice (some ⟨nb, no, none⟩) nn nc)) (h16 : a0.tmps[16]? = some (.int .i64 q)) (h9 : a0.tmps[9]? = some (.slice (some ⟨S, so, none⟩) sn sc))
    (hO : w0.heap[ob]? = some (.cells #[v0, kv] 28)) (hOo : v0.ownBlock ≠ some ob) (hNm : w0.cell? ⟨nb, no + q, none⟩ = some (.string nm)) (hnb : nb < w0.heap.size) (hNo : v0.ownBlock ≠ some nb) (hq : q < nn) (hnn : nn ≤ 1000000)
    (hS : w0.rangeAt S (so + q * 2) [k1, k2]) (hSlt : S < w0.heap.size) (hSo : v0.ownBlock ≠ some S) (hqs : q < sn) (hsn : sn ≤ 1000000)
    (ho : w0.ownsRow E0 39 2 v0 n xs) (hE : E0 ≤ w0.heap.size) (hEo : E0 ≤ ob) (hn : n ≤ 1000000)
    (hcall : ∀ W, Below w0.heap.size w0 W → Calls Tryz.prog 24 #[.agg #[k1, k2]] W (VPost (.string st) W))
    (hend : ∀ (a : Act) (w : World) (v' : Value), a.defers = a0.defers → a.tmps.size = 166 → (∀ k, k ∈ kept34 → a.tmps[k]? = a0.tmps[k]?) → Below E0 w0 w → (∀ k, k < w0.heap.size → k ≠ ob → v0.ownBlock ≠ some k → w.heap[k]? = w0.heap[k]?) → w.heap[ob]? = some (.cells #[v', kv] 28) → v'.ownBlock ≠ some ob → w.ownsRow E0 39 2 v' (n + 1) (xs ++ [.string nm, .string st]) → (∀ g, v'.ownBlock = some g → v0.ownBlock = some g ∨ w0.heap.size ≤ g) → w0.heap.size ≤ w.heap.size → X .normal a w) :
    (Code.region 34 (Nm.regionOf Tryz.f7 34).toArray true).wp Tryz.prog X a0 w0 := by
  have hob : ob < w0.heap.size := (Array.getElem?_eq_some_iff.1 hO).1
  have hl : (Nm.regionOf Tryz.f7 34).length = 16 := by kernel_rfl
  refine wp_region_any (by kernel_rfl) ?_
  refine seqS (l := (Nm.regionOf Tryz.f7 34)) (w0 := w0.drew) 166 15 kept34 (phi34 (exp34 ob nb no nn nc q S so sn sc v0 (.agg #[k1, k2]) nm st)) chn34 (TQ3 w0 E0 n v0 xs nm st) (by kernel_rfl) hN (by rw [hl]; decide) (by kernel_rfl) (by kernel_rfl) (by kernel_rfl) (by kernel_rfl)
    (fun a w => ∃ v', Below E0 w0 w ∧ (∀ k, k < w0.heap.size → k ≠ ob → v0.ownBlock ≠ some k → w.heap[k]? = w0.heap[k]?) ∧ w.heap[ob]? = some (.cells #[v', kv] 28) ∧ v'.ownBlock ≠ some ob ∧ w.ownsRow E0 39 2 v' (n + 1) (xs ++ [.string nm, .string st]) ∧ (∀ g, v'.ownBlock = some g → v0.ownBlock = some g ∨ w0.heap.size ≤ g) ∧ w0.heap.size ≤ w.heap.size)
    (fun v => by simp [phi34]) ?_ ?_ ?_ ?_ ?_ ?_ ?_
  · intro j hj
    rw [hl]
    simp [chn34] at hj
    omega
  · exact (TQ.start (s := fun j => slotOf (Nm.regionOf Tryz.f7 34).toArray a0 (j + 3)) ho hE)
  · intro Lf Lf' s s' w hh hq
    exact TQ.loc hq (hh 12 rfl) (hh 13 rfl)
  · intro j hj hcn hjs a w Lf hn' hk hp hQ
    rw [hl] at hj
    have hj' : j = 0 ∨ j = 1 ∨ j = 2 ∨ j = 3 ∨ j = 4 ∨ j = 5 ∨ j = 6 ∨ j = 7 ∨ j = 8 ∨ j = 9 ∨ j = 11 ∨ j = 14 := by
      simp [chn34] at hcn
      omega
    have k15 : a.eval (.tmp 15) = .pointer (some ⟨ob, 0, none⟩) := getD_of ((hk 15 (by decide)).trans h15)
    have k8 : a.eval (.tmp 8) = .slice (some ⟨nb, no, none⟩) nn nc := getD_of ((hk 8 (by decide)).trans h8)
    have k16 : a.eval (.tmp 16) = .int .i64 q := getD_of ((hk 16 (by decide)).trans h16)
    have k9 : a.eval (.tmp 9) = .slice (some ⟨S, so, none⟩) sn sc := getD_of ((hk 9 (by decide)).trans h9)
    rcases hj' with rfl | rfl | rfl | rfl | rfl | rfl | rfl | rfl | rfl | rfl | rfl | rfl
    · exact ⟨wnone rfl, op_fieldAddr k15 (fa_linO ob 0 w) ⟨_, rfl, rfl, fun _ _ _ => rfl⟩⟩
    · have e : a.eval (.tmp 150) = .pointer (some ⟨ob, 0, none⟩) := (hp 0 rfl) (by decide) (by decide) (by decide)
      have hrb : w.heap[ob]? = some (.cells #[v0, kv] 28) := (hQ.2.2.1 ob hob hOo).trans hO
      exact ⟨wnone rfl, op_load e (ld_C ((blk hrb).2.1 0 _ rfl)) ⟨_, rfl, rfl, fun _ _ _ => rfl⟩⟩
    · exact ⟨wnone rfl, op_move ⟨_, rfl, rfl, fun _ _ _ => k8⟩⟩
    · exact ⟨wnone rfl, op_move ⟨_, rfl, rfl, fun _ _ _ => k16⟩⟩
    · have e1 : a.eval (.tmp 152) = .slice (some ⟨nb, no, none⟩) nn nc := (hp 2 rfl) (by decide) (by decide) (by decide)
      have e2 : a.eval (.tmp 153) = .int .i64 q := (hp 3 rfl) (by decide) (by decide) (by decide)
      exact ⟨wnone rfl, op_indexAddr e1 e2 (ix_S w hq hnn) ⟨_, rfl, rfl, fun _ _ _ => rfl⟩⟩
    · have e : a.eval (.tmp 154) = .pointer (some ⟨nb, no + q, none⟩) := (hp 4 rfl) (by decide) (by decide) (by decide)
      have hcw : w.cell? ⟨nb, no + q, none⟩ = some (.string nm) := (World.cell?_of_block (w := w0) (a := ⟨nb, no + q, none⟩) (hQ.2.2.1 nb hnb hNo)).trans hNm
      exact ⟨wnone rfl, op_load e (ld_S hcw) ⟨_, rfl, rfl, fun _ _ _ => rfl⟩⟩
    · exact ⟨wnone rfl, op_move ⟨_, rfl, rfl, fun _ _ _ => k9⟩⟩
    · exact ⟨wnone rfl, op_move ⟨_, rfl, rfl, fun _ _ _ => k16⟩⟩
    · have e1 : a.eval (.tmp 156) = .slice (some ⟨S, so, none⟩) sn sc := (hp 6 rfl) (by decide) (by decide) (by decide)
      have e2 : a.eval (.tmp 157) = .int .i64 q := (hp 7 rfl) (by decide) (by decide) (by decide)
      exact ⟨wnone rfl, op_indexAddr e1 e2 (ix_N w hqs hsn) ⟨_, rfl, rfl, fun _ _ _ => rfl⟩⟩
    · have e : a.eval (.tmp 158) = .pointer (some ⟨S, so + q * 2, none⟩) := (hp 8 rfl) (by decide) (by decide) (by decide)
      refine ⟨wnone rfl, op_load e (ld_N (x := k1) (y := k2) fun j v hv => ?_) ⟨_, rfl, rfl, fun _ _ _ => rfl⟩⟩
      exact (World.cell?_of_block (w := w0) (a := ⟨S, so + q * 2 + j, none⟩) (hQ.2.2.1 S hSlt hSo)).trans (hS j v hv)
    · have e1 : a.tmps.getD 155 undef = .string nm := (hp 5 rfl) (by decide) (by decide) (by decide)
      have e2 : a.tmps.getD 160 undef = .string st := (hp 10 rfl) (by decide) (by decide) (by decide)
      exact ⟨wnone rfl, op_bldC e1 e2 ⟨_, rfl, rfl, fun _ _ _ => rfl⟩⟩
    · exact ⟨wnone rfl, op_fieldAddr k15 (fa_linO ob 0 w) ⟨_, rfl, rfl, fun _ _ _ => rfl⟩⟩
  · intro j hcn a w Lf hn' hk hp hLj hd hQ
    have dn : ∀ j k, j < 16 → (preds ((Nm.regionOf Tryz.f7 34).getD j default)).contains k = true → Lf k = false → Lf j = false := fun j k hj hk hLk => by
      cases hL : Lf j with
      | false => rfl
      | true => rw [hd j (by rw [hl]; exact hj) hL k hk] at hLk; cases hLk
    have hj' : j = 10 ∨ j = 12 ∨ j = 13 := by simp [chn34] at hcn; omega
    rcases hj' with rfl | rfl | rfl
    · have e1 : a.tmps.getD 159 undef = .agg #[k1, k2] := (hp 9 rfl).2 (by decide) (by decide) (by decide)
      have l8 := dn 11 10 (by decide) rfl hLj
      have l9 := dn 12 11 (by decide) rfl l8
      have l10 := dn 13 12 (by decide) rfl l9
      have hbW := (hQ.2.2.2.1 l10).2
      refine ⟨wnone rfl, op_call enter_TextD ?_⟩
      have hargs : (#[Operand.tmp 159]).map a.eval = #[.agg #[k1, k2]] := by
        simp only [List.map_toArray, List.map_cons, List.map_nil, Act.eval]
        rw [e1]
      rw [hargs]
      refine (hcall w hbW).mono ?_
      rintro e w' ⟨rfl, hb'⟩
      exact ⟨_, rfl, _, rfl, fun _ _ _ => rfl, TQ.loc (TQ.called (v := .string st) hQ hE l9 l10 hb') ⟨rfl, rfl⟩ ⟨rfl, rfl⟩⟩
    · have l10 := dn 13 12 (by decide) rfl hLj
      have e' : a.tmps.getD 161 undef = .agg #[.string nm, .string st] := (hp 11 rfl).2 (by decide) (by decide) (by decide)
      exact ⟨wnone rfl, op_bsC e' ⟨_, rfl, by simp [phi34], TQ.loc (TQ.made hQ hE l10) ⟨rfl, rfl⟩ ⟨rfl, rfl⟩⟩⟩
    · have l9 := (hp 12 rfl).1
      have e1 : a.tmps.getD 151 undef = v0 := (hp 1 rfl).2 (by decide) (by decide) (by decide)
      obtain ⟨v', w', hr, hQ'⟩ := TQ.put hQ hn hE l9 hLj 26
      exact ⟨wnone rfl, op_app e1 rfl hr ⟨_, rfl, by simp [phi34], TQ.loc hQ' ⟨rfl, rfl⟩ ⟨rfl, rfl⟩⟩⟩
  · intro a w hn' hk hp hQ
    have e1 : a.eval (.tmp 164) = .pointer (some ⟨ob, 0, none⟩) := (hp 14 (by rw [hl]; decide) (by decide)) (by decide) (by decide) (by decide)
    have hrb : w.heap[ob]? = some (.cells #[v0, kv] 28) := (hQ.2.2.1 ob hob hOo).trans hO
    obtain ⟨ho', hown⟩ := hQ.2.2.2.2.2 rfl
    obtain ⟨av, cv, ev, _⟩ := own_cells ho'
    have ev' : a.tmps.getD 163 undef = Value.slice av (n + 1) cv := ev
    rw [ev] at ho' hown
    have hne : (Value.slice av (n + 1) cv).ownBlock ≠ some ob := fun e => by
      rcases hown ob e with h | h
      · exact hOo h
      · omega
    have hpt : PutAt ob w (w.setCell ⟨ob, 0, none⟩ (.slice av (n + 1) cv)) := (PutAt.refl ob w).set 0 _
    refine op_store (y := .tmp 163) e1 ev' (st_C hrb) ⟨rfl, .slice av (n + 1) cv, hpt.below hQ.1 hEo, fun k hk h1 h2 => (hpt.block k h1).trans (hQ.2.2.1 k hk h2), set_block hrb _, hne, own_sameK ho' fun g hg => hpt.block g (fun e => hne (e ▸ hg)), hown, by rw [hpt.size]; exact hQ.2.1⟩
  · rintro a w hdf hn' hk ⟨v', q1, q2, q3, q4, q5, q6, q7⟩
    exact hend a w v' hdf hn' hk q1 q2 q3 q4 q5 q6 q7
end Go.Proofs.YthgdmppmjnmiiaaGreatDoor

/- The document's Sum: its sums in memory. -/
namespace Go.Proofs.YthgdmppmjnmiiaaGreatDoor
open Go Go.RowKit Go.Maps
open _root_.Go.Proofs.YthgdmppmjnmiiaaGreatDoor.Nm (IsI IsN Ns pw)
/-- No digit lies in the block. -/
def NoI (w : World) (r : Nat) : Prop := ∀ (o : Nat) (y : Int), w.cell? ⟨r, o, none⟩ ≠ some (.int .i64 y)
theorem Ns.stay {w w' : World} {v : Value} {xs : List Int} {r : Nat} (h : Ns w v xs) (hp : PutAt r w w') (hn : NoI w r) : Ns w' v xs := by
  obtain ⟨a, cap, e, hc, hr⟩ := h
  refine ⟨a, cap, e, hc, fun hne => ?_⟩
  obtain ⟨b, off, ea, hb, hx⟩ := hr hne
  have hbr : b ≠ r := fun e => by
    subst e
    exact hn _ _ (hx 0 (List.length_pos_iff.2 hne))
  refine ⟨b, off, ea, by rw [hp.size]; exact hb, fun j hj => ?_⟩
  exact (World.cell?_of_block (w := w) (a := ⟨b, off + j, none⟩) (hp.block b hbr)).trans (hx j hj)
theorem IsN.stay {w w' : World} {v : Value} {z : Int} {r : Nat} (h : IsN w v z) (hp : PutAt r w w') (hn : NoI w r) : IsN w' v z := by
  obtain ⟨a, l, c, xs, e, h1, h2, h3, h4⟩ := h
  exact ⟨a, l, c, xs, e, Ns.stay h1 hp hn, h2, h3, h4⟩
theorem NoI.of {w : World} {r : Nat} {cs : Array Value} {ty : TypeId} (h : w.heap[r]? = some (.cells cs ty)) (hc : ∀ (o : Nat) v, cs[o]? = some v → ∀ y, v ≠ .int .i64 y) : NoI w r := fun o y e => by
  simp only [World.cell?, h] at e
  cases hcs : cs[o]? with
  | none => simp [hcs] at e
  | some u =>
    simp [hcs] at e
    exact hc o u hcs y e
/-- The sums, by their places. -/
structure SNs (w : World) (S n : Nat) (F : Nat → Int) (cs : Array Value) : Prop where
  blk : w.heap[S]? = some (.cells cs 58)
  size : cs.size = n * 2
  at_ : ∀ q, q < n → ∃ b a l c, cs[q * 2]? = some (.bool b) ∧ cs[q * 2 + 1]? = some (.slice a l c) ∧ IsN w (.agg #[.bool b, .slice a l c]) (F q)
theorem SNs.noI {w : World} {S n : Nat} {F : Nat → Int} {cs : Array Value} (h : SNs w S n F cs) : NoI w S := NoI.of h.blk fun o v hv y e => by
  subst e
  have ho : o < n * 2 := by rw [← h.size]; exact (Array.getElem?_eq_some_iff.1 hv).1
  obtain ⟨b, a, l, c, h1, h2, _⟩ := h.at_ (o / 2) (by omega)
  rcases Nat.mod_two_eq_zero_or_one o with e | e
  · have : o / 2 * 2 = o := by omega
    rw [this, hv] at h1
    cases h1
  · have : o / 2 * 2 + 1 = o := by omega
    rw [this, hv] at h2
    cases h2
theorem SNs.more {w w' : World} {S n : Nat} {F : Nat → Int} {cs : Array Value} (h : SNs w S n F cs) (hb : Below w.heap.size w w') : SNs w' S n F cs :=
  ⟨(hb.block S (Array.getElem?_eq_some_iff.1 h.blk).1).trans h.blk, h.size, fun q hq => by
    obtain ⟨b, a, l, c, h1, h2, h3⟩ := h.at_ q hq
    exact ⟨b, a, l, c, h1, h2, h3.below hb⟩⟩
theorem SNs.other {w w' : World} {S n r : Nat} {F : Nat → Int} {cs : Array Value} (h : SNs w S n F cs) (hp : PutAt r w w') (hn : NoI w r) (hr : S ≠ r) : SNs w' S n F cs :=
  ⟨(hp.block S hr).trans h.blk, h.size, fun q hq => by
    obtain ⟨b, a, l, c, h1, h2, h3⟩ := h.at_ q hq
    exact ⟨b, a, l, c, h1, h2, IsN.stay h3 hp hn⟩⟩
theorem SNs.same {w : World} {S n : Nat} {F G : Nat → Int} {cs : Array Value} (h : SNs w S n F cs) (hF : ∀ q, q < n → F q = G q) : SNs w S n G cs :=
  ⟨h.blk, h.size, fun q hq => by rw [← hF q hq]; exact h.at_ q hq⟩
/-- One sum is laid anew. -/
theorem SNs.added {w0 w : World} {S n q : Nat} {F : Nat → Int} {cs : Array Value} {z : Int} (h : SNs w0 S n F cs) (hq : q < n) (ha : AddedN w0 w S (q * 2) z) : ∃ cs', SNs w S n (fun j => if j = q then z else F j) cs' := by
  obtain ⟨V, nb, na, nl, nc, hb, hI, rfl⟩ := ha
  have hV := h.more hb
  have hp : PutAt S V ((V.setCell ⟨S, q * 2, none⟩ (.bool nb)).setCell ⟨S, q * 2 + 1, none⟩ (.slice na nl nc)) := ((PutAt.refl S V).set _ _).set _ _
  refine ⟨(cs.setIfInBounds (q * 2) (.bool nb)).setIfInBounds (q * 2 + 1) (.slice na nl nc), set_block (set_block hV.blk _) _, by simp [h.size], fun j hj => ?_⟩
  have hsz := h.size
  by_cases e : j = q
  · subst e
    refine ⟨nb, na, nl, nc, ?_, ?_, ?_⟩
    · rw [Array.getElem?_setIfInBounds_ne (by omega), Array.getElem?_setIfInBounds_self_of_lt (by omega)]
    · rw [Array.getElem?_setIfInBounds_self_of_lt (by simp; omega)]
    · rw [if_pos rfl]
      exact IsN.stay hI hp hV.noI
  · obtain ⟨b, a, l, c, h1, h2, h3⟩ := hV.at_ j hj
    refine ⟨b, a, l, c, ?_, ?_, ?_⟩
    · rw [Array.getElem?_setIfInBounds_ne (by omega), Array.getElem?_setIfInBounds_ne (by omega)]
      exact h1
    · rw [Array.getElem?_setIfInBounds_ne (by omega), Array.getElem?_setIfInBounds_ne (by omega)]
      exact h2
    · rw [if_neg e]
      exact IsN.stay h3 hp hV.noI
theorem SNs.range {w : World} {S n q : Nat} {F : Nat → Int} {cs : Array Value} (h : SNs w S n F cs) (hq : q < n) : ∃ k1 k2, w.rangeAt S (0 + q * 2) [k1, k2] ∧ IsN w (.agg #[k1, k2]) (F q) := by
  obtain ⟨b, a, l, c, h1, h2, h3⟩ := h.at_ q hq
  refine ⟨_, _, fun j v hv => ?_, h3⟩
  match j, hv with
  | 0, hv => exact (Go.Proofs.YthgdmppmjnmiiaaGreatDoor.blk h.blk).2.1 _ _ (by simpa using h1.trans hv)
  | 1, hv => exact (Go.Proofs.YthgdmppmjnmiiaaGreatDoor.blk h.blk).2.1 _ _ (by simpa using h2.trans hv)
  | j + 2, hv => simp at hv
/-- The sums as lists grow. -/
theorem zip_step {α β : Type} {rs : List α} {ns : List β} {i : Nat} {r : α} {n : β} (hr : rs[i]? = some r) (hn : ns[i]? = some n) : (rs.take (i + 1)).zip (ns.take (i + 1)) = (rs.take i).zip (ns.take i) ++ [(r, n)] := by
  have l1 := (List.getElem?_eq_some_iff.1 hr).1
  have l2 := (List.getElem?_eq_some_iff.1 hn).1
  rw [List.take_add_one, List.take_add_one, hr, hn, Option.toList_some, Option.toList_some, List.zip_append (by simp; omega)]
  rfl
theorem sumC_take {rs : List (List (ByteArray × Int) × Int)} {ns : List Int} {i : Nat} {r : List (ByteArray × Int) × Int} {n : Int} (hr : rs[i]? = some r) (hn : ns[i]? = some n) (s : ByteArray) : sumC (rs.take (i + 1)) (ns.take (i + 1)) s = sumC (rs.take i) (ns.take i) s + cf r.1 s * n := by
  unfold sumC
  rw [zip_step hr hn]
  simp
theorem sumK_take {rs : List (List (ByteArray × Int) × Int)} {ns : List Int} {i : Nat} {r : List (ByteArray × Int) × Int} {n : Int} (hr : rs[i]? = some r) (hn : ns[i]? = some n) : sumK (rs.take (i + 1)) (ns.take (i + 1)) = sumK (rs.take i) (ns.take i) + r.2 * n := by
  unfold sumK
  rw [zip_step hr hn]
  simp
theorem cf_take {ps : List (ByteArray × Int)} {i : Nat} {p : ByteArray × Int} (h : ps[i]? = some p) (s : ByteArray) : cf (ps.take (i + 1)) s = cf (ps.take i) s + (if p.1 = s then p.2 else 0) := by
  unfold cf
  rw [List.take_add_one, h]
  simp
end Go.Proofs.YthgdmppmjnmiiaaGreatDoor

/- The document's Sum: a row of sums is made. -/
namespace Go.Proofs.YthgdmppmjnmiiaaGreatDoor
open Go Go.RowKit Go.Maps
open _root_.Go.Proofs.YthgdmppmjnmiiaaGreatDoor.Nm (IsI IsN Ns pw)
theorem zeroN (w : World) : IsN w (.agg #[.bool false, .slice none 0 0]) 0 := ⟨none, 0, 0, [], rfl, ⟨none, 0, rfl, Nat.le_refl _, fun h => absurd rfl h⟩, by simp [Nm.T4.Dig], by simp [Nm.T4.Norm], rfl⟩
def zeroPairs (n : Nat) : List Value := (List.replicate n ([.bool false, .slice none 0 0] : List Value)).flatten
theorem zp_len (n : Nat) : (zeroPairs n).length = n * 2 := by
  induction n with
  | zero => rfl
  | succ n ih =>
    unfold zeroPairs at ih ⊢
    rw [List.replicate_succ, List.flatten_cons, List.length_append, ih]
    simp
    omega
theorem zp_get : ∀ (n q : Nat), q < n → (zeroPairs n)[q * 2]? = some (.bool false) ∧ (zeroPairs n)[q * 2 + 1]? = some (.slice none 0 0)
  | 0, _, h => absurd h (Nat.not_lt_zero _)
  | n + 1, 0, _ => by
    unfold zeroPairs
    rw [List.replicate_succ, List.flatten_cons]
    exact ⟨rfl, rfl⟩
  | n + 1, q + 1, h => by
    have ih := zp_get n q (by omega)
    have e : zeroPairs (n + 1) = .bool false :: .slice none 0 0 :: zeroPairs n := by
      unfold zeroPairs
      rw [List.replicate_succ, List.flatten_cons]
      rfl
    rw [e]
    have e1 : (q + 1) * 2 = q * 2 + 1 + 1 := by omega
    have e2 : (q + 1) * 2 + 1 = q * 2 + 1 + 1 + 1 := by omega
    rw [e1, List.getElem?_cons_succ, List.getElem?_cons_succ, List.getElem?_cons_succ, List.getElem?_cons_succ]
    exact ih
theorem SNs.new {w : World} {S n : Nat} (h : w.heap[S]? = some (.cells (zeroPairs n).toArray 58)) : SNs w S n (fun _ => 0) (zeroPairs n).toArray :=
  ⟨h, by simp [zp_len], fun q hq => by
    obtain ⟨h1, h2⟩ := zp_get n q hq
    exact ⟨false, none, 0, 0, by simpa using h1, by simpa using h2, zeroN w⟩⟩
theorem infN : (Tryz.prog.info? 58).map (fun i => (i.zero, i.size, i.bytes)) = some (some (.agg #[.bool false, .slice none 0 0]), 2, 32) := by kernel_rfl
theorem mkN (n : Nat) (w : World) (hn : n ≤ 1000000) : (Instr.makeSlice 62 (.int .i64 (n : Int)) (.int .i64 (n : Int))).run Tryz.prog w = .ok (.slice (some ⟨w.heap.size, 0, none⟩) n n) (w.alloc (.cells (zeroPairs n).toArray 58)) := by
  obtain ⟨i0, hi, hz0, hz1, hz2⟩ := inf_of infN
  have hr := run_make (P := Tryz.prog) w 62 58 i0 _ Tryz.underlying62 hi hz0 .i64 .i64 n n (by omega) (Int.le_refl _) (by rw [hz2]; omega) (by omega)
  rw [hz1] at hr
  simp only [Int.toNat_natCast] at hr
  rw [hr]
  have ea : madeCells (Value.agg #[.bool false, .slice none 0 0]).cells (n * 2) = (zeroPairs n).toArray := by
    apply Array.toList_inj.1
    have ec : (Value.agg #[.bool false, .slice none 0 0]).cells = #[.bool false, .slice none 0 0] := rfl
    rw [ec]
    simp only [madeCells, Array.toList_map, Array.toList_range]
    apply List.ext_getElem?
    intro j
    by_cases hj : j < n * 2
    · obtain ⟨h1, h2⟩ := zp_get n (j / 2) (by omega)
      rw [List.getElem?_map, List.getElem?_range hj]
      rcases Nat.mod_two_eq_zero_or_one j with e | e
      · have e1 : j / 2 * 2 = j := by omega
        rw [e1] at h1
        rw [h1]
        simp [e]
      · have e1 : j / 2 * 2 + 1 = j := by omega
        rw [e1] at h2
        rw [h2]
        simp [e]
    · rw [List.getElem?_eq_none (by simp; omega), List.getElem?_eq_none (by simp [zp_len]; omega)]
  rw [ea]
end Go.Proofs.YthgdmppmjnmiiaaGreatDoor

/- The document's Sum: its innermost loop, as a piece of the code. -/
namespace Go.Proofs.YthgdmppmjnmiiaaGreatDoor
open Go Go.RowKit Go.Maps
open _root_.Go.Proofs.YthgdmppmjnmiiaaGreatDoor.Nm (IsI IsN Ns pw)

def cR : Code → Code
  | .seq _ b => b
  | c => c
def cL_ : Code → Code
  | .seq a _ => a
  | c => c
def cB : Code → Code
  | .block _ c => c
  | c => c
def cO : Code → Code
  | .loop c => c
  | c => c
/-- The tail of a function of this shape, behind its sixth piece. -/
def dTail (f : Func) : Code := cR (cR (cR (cR (f.body.getD .skip))))
/-- The body of the loop over the multipliers; over a row's parts; over the names. -/
def iBody (f : Func) : Code := cO (cB (cR (cL_ (cR (cR (cR (dTail f)))))))
def cBody (f : Func) : Code := cO (cB (cR (cR (cR (cB (cL_ (cR (iBody f))))))))
def nBody (f : Func) : Code := cO (cB (cR (cB (cL_ (cR (cBody f))))))
theorem getD_some {a : Array Value} {i : Nat} {v : Value} (h : a[i]? = some v) : a.getD i undef = v := by simp [Array.getD_eq_getD_getElem?, h]
/-- A row's place: a row of nothing may have none. -/
def aOf (nb no nn : Nat) : Option Addr := if nn = 0 ∧ no = 1 then none else some ⟨nb, no, none⟩
theorem aOf_some {nb no nn : Nat} (h : nn ≠ 0) : aOf nb no nn = some ⟨nb, no, none⟩ := if_neg fun h2 => h h2.1
theorem aOf_0 (nb nn : Nat) : aOf nb 0 nn = some ⟨nb, 0, none⟩ := if_neg fun h => absurd h.2 (by omega)
/-- Where a round over the names begins. -/
structure SF (a : Act) (b off n cL nb no nn nc S sc Kb i Mb c q R : Nat) (vB : Value) : Prop where
  dfr : a.defers = []
  sz : a.tmps.size = 166
  s0 : a.tmps[0]? = some (.slice (some ⟨b, off, none⟩) n cL)
  s1 : a.tmps[1]? = some (vB)
  s4 : a.tmps[4]? = some (.pointer (some ⟨R, 0, none⟩))
  s8 : a.tmps[8]? = some (.slice (aOf nb no nn) nn nc)
  s9 : a.tmps[9]? = some (.slice (some ⟨S, 0, none⟩) nn sc)
  s10 : a.tmps[10]? = some (.pointer (some ⟨Kb, 0, none⟩))
  s11 : a.tmps[11]? = some (.int .i64 i)
  s12 : a.tmps[12]? = some (.pointer (some ⟨Mb, 0, none⟩))
  s13 : a.tmps[13]? = some (.int .i64 c)
  s14 : a.tmps[14]? = some (.int .i64 q)
set_option maxRecDepth 100000 in
theorem SF.lit {a : Act} {b off n cL nb no nn nc S sc Kb i Mb c q R : Nat} {vB : Value} (h : SF a b off n cL nb no nn nc S sc Kb i Mb c q R vB) : ∃ u : Nat → Value, a = ⟨#[.slice (some ⟨b, off, none⟩) n cL, vB, u 2, u 3, .pointer (some ⟨R, 0, none⟩), u 5, u 6, u 7, .slice (aOf nb no nn) nn nc, .slice (some ⟨S, 0, none⟩) nn sc, .pointer (some ⟨Kb, 0, none⟩), .int .i64 i, .pointer (some ⟨Mb, 0, none⟩), .int .i64 c, .int .i64 q, u 15, u 16, u 17, u 18, u 19, u 20, u 21, u 22, u 23, u 24, u 25, u 26, u 27, u 28, u 29, u 30, u 31, u 32, u 33, u 34, u 35, u 36, u 37, u 38, u 39, u 40, u 41, u 42, u 43, u 44, u 45, u 46, u 47, u 48, u 49, u 50, u 51, u 52, u 53, u 54, u 55, u 56, u 57, u 58, u 59, u 60, u 61, u 62, u 63, u 64, u 65, u 66, u 67, u 68, u 69, u 70, u 71, u 72, u 73, u 74, u 75, u 76, u 77, u 78, u 79, u 80, u 81, u 82, u 83, u 84, u 85, u 86, u 87, u 88, u 89, u 90, u 91, u 92, u 93, u 94, u 95, u 96, u 97, u 98, u 99, u 100, u 101, u 102, u 103, u 104, u 105, u 106, u 107, u 108, u 109, u 110, u 111, u 112, u 113, u 114, u 115, u 116, u 117, u 118, u 119, u 120, u 121, u 122, u 123, u 124, u 125, u 126, u 127, u 128, u 129, u 130, u 131, u 132, u 133, u 134, u 135, u 136, u 137, u 138, u 139, u 140, u 141, u 142, u 143, u 144, u 145, u 146, u 147, u 148, u 149, u 150, u 151, u 152, u 153, u 154, u 155, u 156, u 157, u 158, u 159, u 160, u 161, u 162, u 163, u 164, u 165], []⟩ := by
  obtain ⟨tmps, dfr⟩ := a
  refine ⟨fun i => tmps.getD i undef, ?_⟩
  have hd : dfr = [] := h.dfr
  have hl := arr_lit (show tmps.size = 166 from h.sz)
  have g0 : tmps.getD 0 undef = .slice (some ⟨b, off, none⟩) n cL := getD_some h.s0
  have g1 : tmps.getD 1 undef = vB := getD_some h.s1
  have g4 : tmps.getD 4 undef = .pointer (some ⟨R, 0, none⟩) := getD_some h.s4
  have g8 : tmps.getD 8 undef = .slice (aOf nb no nn) nn nc := getD_some h.s8
  have g9 : tmps.getD 9 undef = .slice (some ⟨S, 0, none⟩) nn sc := getD_some h.s9
  have g10 : tmps.getD 10 undef = .pointer (some ⟨Kb, 0, none⟩) := getD_some h.s10
  have g11 : tmps.getD 11 undef = .int .i64 i := getD_some h.s11
  have g12 : tmps.getD 12 undef = .pointer (some ⟨Mb, 0, none⟩) := getD_some h.s12
  have g13 : tmps.getD 13 undef = .int .i64 c := getD_some h.s13
  have g14 : tmps.getD 14 undef = .int .i64 q := getD_some h.s14
  subst hd
  congr 1
  have e : ((List.range 166).map fun i => tmps.getD i undef).toArray = #[tmps.getD 0 undef, tmps.getD 1 undef, tmps.getD 2 undef, tmps.getD 3 undef, tmps.getD 4 undef, tmps.getD 5 undef, tmps.getD 6 undef, tmps.getD 7 undef, tmps.getD 8 undef, tmps.getD 9 undef, tmps.getD 10 undef, tmps.getD 11 undef, tmps.getD 12 undef, tmps.getD 13 undef, tmps.getD 14 undef, tmps.getD 15 undef, tmps.getD 16 undef, tmps.getD 17 undef, tmps.getD 18 undef, tmps.getD 19 undef, tmps.getD 20 undef, tmps.getD 21 undef, tmps.getD 22 undef, tmps.getD 23 undef, tmps.getD 24 undef, tmps.getD 25 undef, tmps.getD 26 undef, tmps.getD 27 undef, tmps.getD 28 undef, tmps.getD 29 undef, tmps.getD 30 undef, tmps.getD 31 undef, tmps.getD 32 undef, tmps.getD 33 undef, tmps.getD 34 undef, tmps.getD 35 undef, tmps.getD 36 undef, tmps.getD 37 undef, tmps.getD 38 undef, tmps.getD 39 undef, tmps.getD 40 undef, tmps.getD 41 undef, tmps.getD 42 undef, tmps.getD 43 undef, tmps.getD 44 undef, tmps.getD 45 undef, tmps.getD 46 undef, tmps.getD 47 undef, tmps.getD 48 undef, tmps.getD 49 undef, tmps.getD 50 undef, tmps.getD 51 undef, tmps.getD 52 undef, tmps.getD 53 undef, tmps.getD 54 undef, tmps.getD 55 undef, tmps.getD 56 undef, tmps.getD 57 undef, tmps.getD 58 undef, tmps.getD 59 undef, tmps.getD 60 undef, tmps.getD 61 undef, tmps.getD 62 undef, tmps.getD 63 undef, tmps.getD 64 undef, tmps.getD 65 undef, tmps.getD 66 undef, tmps.getD 67 undef, tmps.getD 68 undef, tmps.getD 69 undef, tmps.getD 70 undef, tmps.getD 71 undef, tmps.getD 72 undef, tmps.getD 73 undef, tmps.getD 74 undef, tmps.getD 75 undef, tmps.getD 76 undef, tmps.getD 77 undef, tmps.getD 78 undef, tmps.getD 79 undef, tmps.getD 80 undef, tmps.getD 81 undef, tmps.getD 82 undef, tmps.getD 83 undef, tmps.getD 84 undef, tmps.getD 85 undef, tmps.getD 86 undef, tmps.getD 87 undef, tmps.getD 88 undef, tmps.getD 89 undef, tmps.getD 90 undef, tmps.getD 91 undef, tmps.getD 92 undef, tmps.getD 93 undef, tmps.getD 94 undef, tmps.getD 95 undef, tmps.getD 96 undef, tmps.getD 97 undef, tmps.getD 98 undef, tmps.getD 99 undef, tmps.getD 100 undef, tmps.getD 101 undef, tmps.getD 102 undef, tmps.getD 103 undef, tmps.getD 104 undef, tmps.getD 105 undef, tmps.getD 106 undef, tmps.getD 107 undef, tmps.getD 108 undef, tmps.getD 109 undef, tmps.getD 110 undef, tmps.getD 111 undef, tmps.getD 112 undef, tmps.getD 113 undef, tmps.getD 114 undef, tmps.getD 115 undef, tmps.getD 116 undef, tmps.getD 117 undef, tmps.getD 118 undef, tmps.getD 119 undef, tmps.getD 120 undef, tmps.getD 121 undef, tmps.getD 122 undef, tmps.getD 123 undef, tmps.getD 124 undef, tmps.getD 125 undef, tmps.getD 126 undef, tmps.getD 127 undef, tmps.getD 128 undef, tmps.getD 129 undef, tmps.getD 130 undef, tmps.getD 131 undef, tmps.getD 132 undef, tmps.getD 133 undef, tmps.getD 134 undef, tmps.getD 135 undef, tmps.getD 136 undef, tmps.getD 137 undef, tmps.getD 138 undef, tmps.getD 139 undef, tmps.getD 140 undef, tmps.getD 141 undef, tmps.getD 142 undef, tmps.getD 143 undef, tmps.getD 144 undef, tmps.getD 145 undef, tmps.getD 146 undef, tmps.getD 147 undef, tmps.getD 148 undef, tmps.getD 149 undef, tmps.getD 150 undef, tmps.getD 151 undef, tmps.getD 152 undef, tmps.getD 153 undef, tmps.getD 154 undef, tmps.getD 155 undef, tmps.getD 156 undef, tmps.getD 157 undef, tmps.getD 158 undef, tmps.getD 159 undef, tmps.getD 160 undef, tmps.getD 161 undef, tmps.getD 162 undef, tmps.getD 163 undef, tmps.getD 164 undef, tmps.getD 165 undef] := rfl
  rw [e, g0, g1, g4, g8, g9, g10, g11, g12, g13, g14] at hl
  exact hl
/-- The memory in which the sums grow: what was there stands below B, the names, the sums, the multiplier and the sum of the K lie above. -/
structure NS (w0 : World) (B : Nat) (nl : List ByteArray) (nb no S Kb Mb : Nat) (m k : Int) (F : Nat → Int) (W : World) : Prop where
  lo : Below B w0 W
  nm : ∀ (q : Nat) x, nl[q]? = some x → W.cell? ⟨nb, no + q, none⟩ = some (.string x)
  nlt : nb < W.heap.size
  sn : ∃ cs, SNs W S nl.length F cs
  mb : ∃ m1 m2, W.heap[Mb]? = some (.cells #[m1, m2] 58) ∧ IsN W (.agg #[m1, m2]) m
  kb : ∃ k1 k2, W.heap[Kb]? = some (.cells #[k1, k2] 58) ∧ IsN W (.agg #[k1, k2]) k
theorem NS.more {w0 : World} {B : Nat} {nl : List ByteArray} {nb no S Kb Mb : Nat} {m k : Int} {F : Nat → Int} {W V : World} (h : NS w0 B nl nb no S Kb Mb m k F W) (hB : B ≤ W.heap.size) (hb : Below W.heap.size W V) : NS w0 B nl nb no S Kb Mb m k F V := by
  obtain ⟨cs, hs⟩ := h.sn
  obtain ⟨m1, m2, hm, im⟩ := h.mb
  obtain ⟨k1, k2, hk, ik⟩ := h.kb
  exact ⟨h.lo.trans (hb.mono hB), fun q x hx => by rw [hb.cell (p := ⟨nb, no + q, none⟩) h.nlt]; exact h.nm q x hx, Nat.lt_of_lt_of_le h.nlt hb.size, ⟨cs, hs.more hb⟩, ⟨m1, m2, (hb.block Mb (Array.getElem?_eq_some_iff.1 hm).1).trans hm, im.below hb⟩, ⟨k1, k2, (hb.block Kb (Array.getElem?_eq_some_iff.1 hk).1).trans hk, ik.below hb⟩⟩
theorem NS.added {w0 : World} {B : Nat} {nl : List ByteArray} {nb no S Kb Mb q : Nat} {m k z : Int} {F : Nat → Int} {W W' : World} (h : NS w0 B nl nb no S Kb Mb m k F W) (hB : B ≤ W.heap.size) (hSB : B ≤ S) (hn : nb ≠ S) (hM : Mb ≠ S) (hK : Kb ≠ S) (hq : q < nl.length) (ha : AddedN W W' S (q * 2) z) : NS w0 B nl nb no S Kb Mb m k (fun j => if j = q then z else F j) W' := by
  obtain ⟨cs0, hs0⟩ := h.sn
  obtain ⟨cs', hs'⟩ := hs0.added hq ha
  obtain ⟨V, b1, na, nl1, nc1, hb, hI, rfl⟩ := ha
  have hV := h.more hB hb
  obtain ⟨cs, hs⟩ := hV.sn
  have hp : PutAt S V ((V.setCell ⟨S, q * 2, none⟩ (.bool b1)).setCell ⟨S, q * 2 + 1, none⟩ (.slice na nl1 nc1)) := ((PutAt.refl S V).set _ _).set _ _
  obtain ⟨m1, m2, hm, im⟩ := hV.mb
  obtain ⟨k1, k2, hk, ik⟩ := hV.kb
  exact ⟨hp.below hV.lo hSB, fun j x hx => (World.cell?_of_block (w := V) (a := ⟨nb, no + j, none⟩) (hp.block nb hn)).trans (hV.nm j x hx), by rw [hp.size]; exact hV.nlt, ⟨cs', hs'⟩, ⟨m1, m2, (hp.block Mb hM).trans hm, IsN.stay im hp hs.noI⟩, ⟨k1, k2, (hp.block Kb hK).trans hk, IsN.stay ik hp hs.noI⟩⟩
end Go.Proofs.YthgdmppmjnmiiaaGreatDoor

/- The document's Sum: the loop over the names. -/
namespace Go.Proofs.YthgdmppmjnmiiaaGreatDoor
open Go Go.RowKit Go.Maps
open _root_.Go.Proofs.YthgdmppmjnmiiaaGreatDoor.Nm (IsI IsN Ns pw)

/-- One part's share in the sums of the first q names. -/
def shF (nl : List ByteArray) (P : ByteArray) (d : Int) (F : Nat → Int) (q : Nat) : Nat → Int := fun j => if j < q ∧ nl[j]? = some P then F j + d else F j
theorem shF_zero (nl : List ByteArray) (P : ByteArray) (d : Int) (F : Nat → Int) : shF nl P d F 0 = F := by
  funext j
  unfold shF
  rw [if_neg (by omega)]
theorem shF_yes {nl : List ByteArray} {P : ByteArray} {d : Int} {F : Nat → Int} {q : Nat} (h : nl[q]? = some P) : (fun j => if j = q then F q + d else shF nl P d F q j) = shF nl P d F (q + 1) := by
  funext j
  unfold shF
  by_cases e : j = q
  · subst e
    rw [if_pos rfl, if_pos ⟨by omega, h⟩]
  · rw [if_neg e]
    by_cases h1 : j < q ∧ nl[j]? = some P
    · rw [if_pos h1, if_pos ⟨by omega, h1.2⟩]
    · rw [if_neg h1, if_neg (fun h2 => h1 ⟨by omega, h2.2⟩)]
theorem shF_no {nl : List ByteArray} {P : ByteArray} {d : Int} {F : Nat → Int} {q : Nat} (h : nl[q]? ≠ some P) : shF nl P d F q = shF nl P d F (q + 1) := by
  funext j
  unfold shF
  by_cases h1 : j < q ∧ nl[j]? = some P
  · rw [if_pos h1, if_pos ⟨by omega, h1.2⟩]
  · rw [if_neg h1, if_neg]
    rintro ⟨h2, h3⟩
    by_cases e : j = q
    · subst e; exact h h3
    · exact h1 ⟨by omega, h3⟩
set_option maxRecDepth 100000 in
set_option maxHeartbeats 16000000 in
theorem n_round {Q : Exit → Act → World → Prop} {a : Act} {w0 W : World} {B b off n cL nb no nc S sc Kb i Mb c q R bc oc nC cC : Nat} {vB : Value} {nl : List ByteArray} {m k z : Int} {F : Nat → Int} {P T : ByteArray}
    (sf : SF a b off n cL nb no nl.length nc S sc Kb i Mb c q R vB) (ns : NS w0 B nl nb no S Kb Mb m k F W) (hB : B ≤ W.heap.size) (hSB : B ≤ S) (hn1 : nb ≠ S) (hM1 : Mb ≠ S) (hK1 : Kb ≠ S)
    (hC : w0.cell? ⟨b, off + i * 2, none⟩ = some (.slice (some ⟨bc, oc, none⟩) nC cC)) (hP : w0.cell? ⟨bc, oc + c * 2, none⟩ = some (.string P)) (hT : w0.cell? ⟨bc, oc + c * 2 + 1, none⟩ = some (.string T)) (hb : b < B) (hbc : bc < B) (hi : i < n) (hn : n ≤ 1000000) (hc : c < nC) (hnC : nC ≤ 1000000) (hl : nl.length ≤ 1000000) (hsc : nl.length ≤ sc)
    (hz : numT 400 T = some z) (bF : ∀ j, ((F j).natAbs : Int) < Nm.T4.pw 9000) (bm : (m.natAbs : Int) < Nm.T4.pw 4000) (bz : (z.natAbs : Int) < Nm.T4.pw 4000) (bmz : ((m * z).natAbs : Int) < Nm.T4.pw 9000) (hq : q < nl.length)
    (hend : ∀ a' W', SF a' b off n cL nb no nl.length nc S sc Kb i Mb c (q + 1) R vB → NS w0 B nl nb no S Kb Mb m k (fun j => if j = q ∧ nl[q]? = some P then F q + m * z else F j) W' → W.heap.size ≤ W'.heap.size → Q .normal a' W') :
    Code.wp Tryz.prog (nBody Tryz.f7) Q a W := by
  obtain ⟨u, rfl⟩ := sf.lit
  obtain ⟨x, hx⟩ : ∃ x, nl[q]? = some x := ⟨_, List.getElem?_eq_getElem hq⟩
  have c1 := ns.nm q x hx
  have c2 : W.cell? ⟨b, off + i * 2, none⟩ = some (.slice (some ⟨bc, oc, none⟩) nC cC) := (ns.lo.cell (p := ⟨b, off + i * 2, none⟩) hb).trans hC
  have c3 : W.cell? ⟨bc, oc + c * 2, none⟩ = some (.string P) := (ns.lo.cell (p := ⟨bc, oc + c * 2, none⟩) hbc).trans hP
  obtain ⟨L, hL⟩ : ∃ L, nl.length = L := ⟨_, rfl⟩
  rw [hL] at hend hl hsc hq ⊢
  have e8 : aOf nb no L = some ⟨nb, no, none⟩ := aOf_some (by omega)
  rw [e8]
  have hqd : decide ((q : Int) < (L : Int)) = true := by simp; omega
  have hiz : (i : Int) < (n : Int) := by omega
  have hcz : (c : Int) < (nC : Int) := by omega
  have HQ := hide hend
  have HNS := hide ns
  have Hx := hide hx
  have HL := hide hL
  have HB := hide (And.intro hB (And.intro hSB (And.intro hn1 (And.intro hM1 hK1))))
  clear hend ns sf hx hL hB hSB hn1 hM1 hK1
  cases he : (x.toList == P.toList) with
  | true =>
    have hxP : x = P := toList_inj (by simpa using he)
    subst hxP
    conv => arg 2; whnf
    go_wp2_with fail
    go_quiet (fail)
    go_wp2_with fail
    obtain ⟨hB, hSB, hn1, hM1, hK1⟩ := unhide HB
    have hdr : Below W.heap.size W (W.drewN nq) := by
      have h := Below.refl W.heap.size W
      exact ⟨h.os, h.tape, h.output, h.size, h.block⟩
    have ns1 := (unhide HNS).more hB hdr
    obtain ⟨cs, hs⟩ := ns1.sn
    obtain ⟨k1, k2, hra, ik⟩ := hs.range (q := q) (by rw [unhide HL]; exact hq)
    obtain ⟨m1, m2, hmb, im⟩ := ns1.mb
    have hSlt : S < (W.drewN nq).heap.size := (Array.getElem?_eq_some_iff.1 hs.blk).1
    have hBs : B ≤ (W.drewN nq).heap.size := Nat.le_trans hB hdr.size
    refine sum_r28 (w0 := W.drewN nq) (S := S) (so := 0) (sn := L) (sc := sc) (q := q) (M := Mb) (b := b) (off := off) (n := n) (cL := cL) (i := i) (bc := bc) (oc := oc) (nC := nC) (cC := cC) (c := c) (T := T) rfl rfl rfl rfl rfl rfl rfl hra hSlt hs.blk hmb ((ns1.lo.cell (p := ⟨b, off + i * 2, none⟩) hb).trans hC) ((ns1.lo.cell (p := ⟨bc, oc + c * 2 + 1, none⟩) hbc).trans hT) (by omega) (by omega) hi hn hc hnC hq (by omega) ik im hz (bF q) bm bz bmz ?_
    intro a' W' hdf hsz hkp hA
    rw [Nat.zero_add] at hA
    have sf' : SF a' b off n cL nb no L nc S sc Kb i Mb c q R vB := ⟨hdf, hsz, (hkp 0 (List.mem_range.2 (by omega))).trans rfl, (hkp 1 (List.mem_range.2 (by omega))).trans rfl, (hkp 4 (List.mem_range.2 (by omega))).trans rfl, (hkp 8 (List.mem_range.2 (by omega))).trans (by rw [e8]; rfl), (hkp 9 (List.mem_range.2 (by omega))).trans rfl, (hkp 10 (List.mem_range.2 (by omega))).trans rfl, (hkp 11 (List.mem_range.2 (by omega))).trans rfl, (hkp 12 (List.mem_range.2 (by omega))).trans rfl, (hkp 13 (List.mem_range.2 (by omega))).trans rfl, (hkp 14 (List.mem_range.2 (by omega))).trans rfl⟩
    obtain ⟨u', rfl⟩ := sf'.lit
    have ns2 := ns1.added hBs hSB hn1 hM1 hK1 (by rw [unhide HL]; exact hq) hA
    have hW2 : Hid (W.heap.size ≤ W'.heap.size) := by
      obtain ⟨V, b1, na, nl1, nc1, hb9, _, rfl⟩ := hA
      show W.heap.size ≤ _
      have h1 := hdr.size
      have h2 := hb9.size
      have h3 := (((PutAt.refl S V).set (q * 2) (.bool b1)).set (q * 2 + 1) (.slice na nl1 nc1)).size
      omega
    have HN2 := hide ns2
    clear hdf hsz hkp hA sf' ns1 ns2 hs hra ik hmb im c1 c2 c3
    go_wp2
    refine unhide HQ _ _ ⟨rfl, rfl, rfl, rfl, rfl, rfl, rfl, rfl, rfl, rfl, rfl, rfl⟩ ?_ (unhide hW2)
    have e : (fun j => if j = q ∧ nl[q]? = some x then F q + m * z else F j) = fun j => if j = q then F q + m * z else F j := by
      funext j
      by_cases e : j = q
      · rw [if_pos ⟨e, unhide Hx⟩, if_pos e]
      · rw [if_neg (fun h => e h.1), if_neg e]
    rw [e]
    exact unhide HN2
  | false =>
    conv => arg 2; whnf
    go_wp2_with fail
    go_quiet (fail)
    go_wp2
    obtain ⟨hB, hSB, hn1, hM1, hK1⟩ := unhide HB
    have hdr : Below W.heap.size W (W.drewN nq) := by
      have h := Below.refl W.heap.size W
      exact ⟨h.os, h.tape, h.output, h.size, h.block⟩
    have hne : nl[q]? ≠ some P := by
      rw [unhide Hx]
      intro h
      obtain rfl := Option.some.inj h
      simp at he
    refine unhide HQ _ _ ⟨rfl, rfl, rfl, rfl, rfl, by rw [e8]; rfl, rfl, rfl, rfl, rfl, rfl, rfl⟩ ?_ hdr.size
    have e : (fun j => if j = q ∧ nl[q]? = some P then F q + m * z else F j) = F := by
      funext j
      rw [if_neg (fun h => hne h.2)]
    rw [e]
    exact (unhide HNS).more hB hdr
end Go.Proofs.YthgdmppmjnmiiaaGreatDoor

/- The document's Sum: the loop over the names, whole. -/
namespace Go.Proofs.YthgdmppmjnmiiaaGreatDoor
open Go Go.RowKit Go.Maps
open _root_.Go.Proofs.YthgdmppmjnmiiaaGreatDoor.Nm (IsI IsN Ns pw)

set_option maxRecDepth 100000 in
set_option maxHeartbeats 16000000 in
theorem n_end {Q : Exit → Act → World → Prop} {a : Act} {W : World} {b off n cL nb no nn nc S sc Kb i Mb c R : Nat} {vB : Value} (sf : SF a b off n cL nb no nn nc S sc Kb i Mb c nn R vB)
    (hend : ∀ a', SF a' b off n cL nb no nn nc S sc Kb i Mb c nn R vB → Q (.exit 8) a' W) : Code.wp Tryz.prog (nBody Tryz.f7) Q a W := by
  obtain ⟨u, rfl⟩ := sf.lit
  have hd : decide ((nn : Int) < (nn : Int)) = false := by simp
  have HQ := hide hend
  clear hend sf
  conv => arg 2; whnf
  go_wp2
  exact unhide HQ _ ⟨rfl, rfl, rfl, rfl, rfl, rfl, rfl, rfl, rfl, rfl, rfl, rfl⟩
theorem n_loop {Q : Exit → Act → World → Prop} {a : Act} {w0 W : World} {B b off n cL nb no nc S sc Kb i Mb c R bc oc nC cC : Nat} {vB : Value} {nl : List ByteArray} {m k z : Int} {F : Nat → Int} {P T : ByteArray}
    (sf : SF a b off n cL nb no nl.length nc S sc Kb i Mb c 0 R vB) (ns : NS w0 B nl nb no S Kb Mb m k F W) (hB : B ≤ W.heap.size) (hSB : B ≤ S) (hn1 : nb ≠ S) (hM1 : Mb ≠ S) (hK1 : Kb ≠ S)
    (hC : w0.cell? ⟨b, off + i * 2, none⟩ = some (.slice (some ⟨bc, oc, none⟩) nC cC)) (hP : w0.cell? ⟨bc, oc + c * 2, none⟩ = some (.string P)) (hT : w0.cell? ⟨bc, oc + c * 2 + 1, none⟩ = some (.string T)) (hb : b < B) (hbc : bc < B) (hi : i < n) (hn : n ≤ 1000000) (hc : c < nC) (hnC : nC ≤ 1000000) (hl : nl.length ≤ 1000000) (hsc : nl.length ≤ sc)
    (hz : numT 400 T = some z) (bF : ∀ j, ((F j).natAbs : Int) < Nm.T4.pw 9000) (bF2 : ∀ j, ((F j + m * z).natAbs : Int) < Nm.T4.pw 9000) (bm : (m.natAbs : Int) < Nm.T4.pw 4000) (bz : (z.natAbs : Int) < Nm.T4.pw 4000) (bmz : ((m * z).natAbs : Int) < Nm.T4.pw 9000)
    (hend : ∀ a' W', SF a' b off n cL nb no nl.length nc S sc Kb i Mb c nl.length R vB → NS w0 B nl nb no S Kb Mb m k (shF nl P (m * z) F nl.length) W' → W.heap.size ≤ W'.heap.size → Q (.exit 8) a' W') :
    Code.wp Tryz.prog (.loop (nBody Tryz.f7)) Q a W := by
  refine wp_loop (fun a' W' => ∃ q, q ≤ nl.length ∧ SF a' b off n cL nb no nl.length nc S sc Kb i Mb c q R vB ∧ NS w0 B nl nb no S Kb Mb m k (shF nl P (m * z) F q) W' ∧ W.heap.size ≤ W'.heap.size) (fun a' _ => nl.length - (intOf (a'.tmps.getD 14 undef)).toNat) ⟨0, Nat.zero_le _, sf, by rw [shF_zero]; exact ns, Nat.le_refl _⟩ ?_
  rintro a' W' ⟨q, hq, sf', ns', hsz⟩
  have g14 : a'.tmps.getD 14 undef = .int .i64 q := getD_some sf'.s14
  by_cases hlt : q < nl.length
  · refine n_round sf' ns' (by omega) hSB hn1 hM1 hK1 hC hP hT hb hbc hi hn hc hnC hl hsc hz (fun j => ?_) bm bz bmz hlt ?_
    · unfold shF
      split
      · exact bF2 j
      · exact bF j
    · intro a2 W2 sf2 ns2 hs2
      have g14' : a2.tmps.getD 14 undef = .int .i64 (q + 1 : Nat) := getD_some sf2.s14
      refine ⟨⟨q + 1, hlt, sf2, ?_, by omega⟩, ?_⟩
      · have eq0 : shF nl P (m * z) F q q = F q := by unfold shF; rw [if_neg (by omega)]
        by_cases hP2 : nl[q]? = some P
        · have e : (fun j => if j = q ∧ nl[q]? = some P then shF nl P (m * z) F q q + m * z else shF nl P (m * z) F q j) = shF nl P (m * z) F (q + 1) := by
            rw [← shF_yes hP2, eq0]
            funext j
            by_cases e : j = q
            · rw [if_pos ⟨e, hP2⟩, if_pos e]
            · rw [if_neg (fun h => e h.1), if_neg e]
          rw [← e]
          exact ns2
        · have e : (fun j => if j = q ∧ nl[q]? = some P then shF nl P (m * z) F q q + m * z else shF nl P (m * z) F q j) = shF nl P (m * z) F (q + 1) := by
            rw [← shF_no hP2]
            funext j
            rw [if_neg (fun h => hP2 h.2)]
          rw [← e]
          exact ns2
      · show nl.length - (intOf (a2.tmps.getD 14 undef)).toNat < nl.length - (intOf (a'.tmps.getD 14 undef)).toNat
        rw [g14, g14']
        simp [intOf]
        omega
  · obtain rfl : q = nl.length := by omega
    exact n_end sf' fun a2 sf2 => hend a2 W' sf2 ns' hsz
end Go.Proofs.YthgdmppmjnmiiaaGreatDoor

/- The document's Sum: the loop over a row's parts. -/
namespace Go.Proofs.YthgdmppmjnmiiaaGreatDoor
open Go Go.RowKit Go.Maps
open _root_.Go.Proofs.YthgdmppmjnmiiaaGreatDoor.Nm (IsI IsN Ns pw)

/-- Where a round over the parts of a row begins. -/
structure SC (a : Act) (b off n cL nb no nn nc S sc Kb i Mb c R : Nat) (vB : Value) : Prop where
  dfr : a.defers = []
  sz : a.tmps.size = 166
  s0 : a.tmps[0]? = some (.slice (some ⟨b, off, none⟩) n cL)
  s1 : a.tmps[1]? = some (vB)
  s4 : a.tmps[4]? = some (.pointer (some ⟨R, 0, none⟩))
  s8 : a.tmps[8]? = some (.slice (aOf nb no nn) nn nc)
  s9 : a.tmps[9]? = some (.slice (some ⟨S, 0, none⟩) nn sc)
  s10 : a.tmps[10]? = some (.pointer (some ⟨Kb, 0, none⟩))
  s11 : a.tmps[11]? = some (.int .i64 i)
  s12 : a.tmps[12]? = some (.pointer (some ⟨Mb, 0, none⟩))
  s13 : a.tmps[13]? = some (.int .i64 c)
set_option maxRecDepth 100000 in
theorem SC.lit {a : Act} {b off n cL nb no nn nc S sc Kb i Mb c R : Nat} {vB : Value} (h : SC a b off n cL nb no nn nc S sc Kb i Mb c R vB) : ∃ u : Nat → Value, a = ⟨#[.slice (some ⟨b, off, none⟩) n cL, vB, u 2, u 3, .pointer (some ⟨R, 0, none⟩), u 5, u 6, u 7, .slice (aOf nb no nn) nn nc, .slice (some ⟨S, 0, none⟩) nn sc, .pointer (some ⟨Kb, 0, none⟩), .int .i64 i, .pointer (some ⟨Mb, 0, none⟩), .int .i64 c, u 14, u 15, u 16, u 17, u 18, u 19, u 20, u 21, u 22, u 23, u 24, u 25, u 26, u 27, u 28, u 29, u 30, u 31, u 32, u 33, u 34, u 35, u 36, u 37, u 38, u 39, u 40, u 41, u 42, u 43, u 44, u 45, u 46, u 47, u 48, u 49, u 50, u 51, u 52, u 53, u 54, u 55, u 56, u 57, u 58, u 59, u 60, u 61, u 62, u 63, u 64, u 65, u 66, u 67, u 68, u 69, u 70, u 71, u 72, u 73, u 74, u 75, u 76, u 77, u 78, u 79, u 80, u 81, u 82, u 83, u 84, u 85, u 86, u 87, u 88, u 89, u 90, u 91, u 92, u 93, u 94, u 95, u 96, u 97, u 98, u 99, u 100, u 101, u 102, u 103, u 104, u 105, u 106, u 107, u 108, u 109, u 110, u 111, u 112, u 113, u 114, u 115, u 116, u 117, u 118, u 119, u 120, u 121, u 122, u 123, u 124, u 125, u 126, u 127, u 128, u 129, u 130, u 131, u 132, u 133, u 134, u 135, u 136, u 137, u 138, u 139, u 140, u 141, u 142, u 143, u 144, u 145, u 146, u 147, u 148, u 149, u 150, u 151, u 152, u 153, u 154, u 155, u 156, u 157, u 158, u 159, u 160, u 161, u 162, u 163, u 164, u 165], []⟩ := by
  obtain ⟨tmps, dfr⟩ := a
  refine ⟨fun i => tmps.getD i undef, ?_⟩
  have hd : dfr = [] := h.dfr
  have hl := arr_lit (show tmps.size = 166 from h.sz)
  have g0 : tmps.getD 0 undef = .slice (some ⟨b, off, none⟩) n cL := getD_some h.s0
  have g1 : tmps.getD 1 undef = vB := getD_some h.s1
  have g4 : tmps.getD 4 undef = .pointer (some ⟨R, 0, none⟩) := getD_some h.s4
  have g8 : tmps.getD 8 undef = .slice (aOf nb no nn) nn nc := getD_some h.s8
  have g9 : tmps.getD 9 undef = .slice (some ⟨S, 0, none⟩) nn sc := getD_some h.s9
  have g10 : tmps.getD 10 undef = .pointer (some ⟨Kb, 0, none⟩) := getD_some h.s10
  have g11 : tmps.getD 11 undef = .int .i64 i := getD_some h.s11
  have g12 : tmps.getD 12 undef = .pointer (some ⟨Mb, 0, none⟩) := getD_some h.s12
  have g13 : tmps.getD 13 undef = .int .i64 c := getD_some h.s13
  subst hd
  congr 1
  have e : ((List.range 166).map fun i => tmps.getD i undef).toArray = #[tmps.getD 0 undef, tmps.getD 1 undef, tmps.getD 2 undef, tmps.getD 3 undef, tmps.getD 4 undef, tmps.getD 5 undef, tmps.getD 6 undef, tmps.getD 7 undef, tmps.getD 8 undef, tmps.getD 9 undef, tmps.getD 10 undef, tmps.getD 11 undef, tmps.getD 12 undef, tmps.getD 13 undef, tmps.getD 14 undef, tmps.getD 15 undef, tmps.getD 16 undef, tmps.getD 17 undef, tmps.getD 18 undef, tmps.getD 19 undef, tmps.getD 20 undef, tmps.getD 21 undef, tmps.getD 22 undef, tmps.getD 23 undef, tmps.getD 24 undef, tmps.getD 25 undef, tmps.getD 26 undef, tmps.getD 27 undef, tmps.getD 28 undef, tmps.getD 29 undef, tmps.getD 30 undef, tmps.getD 31 undef, tmps.getD 32 undef, tmps.getD 33 undef, tmps.getD 34 undef, tmps.getD 35 undef, tmps.getD 36 undef, tmps.getD 37 undef, tmps.getD 38 undef, tmps.getD 39 undef, tmps.getD 40 undef, tmps.getD 41 undef, tmps.getD 42 undef, tmps.getD 43 undef, tmps.getD 44 undef, tmps.getD 45 undef, tmps.getD 46 undef, tmps.getD 47 undef, tmps.getD 48 undef, tmps.getD 49 undef, tmps.getD 50 undef, tmps.getD 51 undef, tmps.getD 52 undef, tmps.getD 53 undef, tmps.getD 54 undef, tmps.getD 55 undef, tmps.getD 56 undef, tmps.getD 57 undef, tmps.getD 58 undef, tmps.getD 59 undef, tmps.getD 60 undef, tmps.getD 61 undef, tmps.getD 62 undef, tmps.getD 63 undef, tmps.getD 64 undef, tmps.getD 65 undef, tmps.getD 66 undef, tmps.getD 67 undef, tmps.getD 68 undef, tmps.getD 69 undef, tmps.getD 70 undef, tmps.getD 71 undef, tmps.getD 72 undef, tmps.getD 73 undef, tmps.getD 74 undef, tmps.getD 75 undef, tmps.getD 76 undef, tmps.getD 77 undef, tmps.getD 78 undef, tmps.getD 79 undef, tmps.getD 80 undef, tmps.getD 81 undef, tmps.getD 82 undef, tmps.getD 83 undef, tmps.getD 84 undef, tmps.getD 85 undef, tmps.getD 86 undef, tmps.getD 87 undef, tmps.getD 88 undef, tmps.getD 89 undef, tmps.getD 90 undef, tmps.getD 91 undef, tmps.getD 92 undef, tmps.getD 93 undef, tmps.getD 94 undef, tmps.getD 95 undef, tmps.getD 96 undef, tmps.getD 97 undef, tmps.getD 98 undef, tmps.getD 99 undef, tmps.getD 100 undef, tmps.getD 101 undef, tmps.getD 102 undef, tmps.getD 103 undef, tmps.getD 104 undef, tmps.getD 105 undef, tmps.getD 106 undef, tmps.getD 107 undef, tmps.getD 108 undef, tmps.getD 109 undef, tmps.getD 110 undef, tmps.getD 111 undef, tmps.getD 112 undef, tmps.getD 113 undef, tmps.getD 114 undef, tmps.getD 115 undef, tmps.getD 116 undef, tmps.getD 117 undef, tmps.getD 118 undef, tmps.getD 119 undef, tmps.getD 120 undef, tmps.getD 121 undef, tmps.getD 122 undef, tmps.getD 123 undef, tmps.getD 124 undef, tmps.getD 125 undef, tmps.getD 126 undef, tmps.getD 127 undef, tmps.getD 128 undef, tmps.getD 129 undef, tmps.getD 130 undef, tmps.getD 131 undef, tmps.getD 132 undef, tmps.getD 133 undef, tmps.getD 134 undef, tmps.getD 135 undef, tmps.getD 136 undef, tmps.getD 137 undef, tmps.getD 138 undef, tmps.getD 139 undef, tmps.getD 140 undef, tmps.getD 141 undef, tmps.getD 142 undef, tmps.getD 143 undef, tmps.getD 144 undef, tmps.getD 145 undef, tmps.getD 146 undef, tmps.getD 147 undef, tmps.getD 148 undef, tmps.getD 149 undef, tmps.getD 150 undef, tmps.getD 151 undef, tmps.getD 152 undef, tmps.getD 153 undef, tmps.getD 154 undef, tmps.getD 155 undef, tmps.getD 156 undef, tmps.getD 157 undef, tmps.getD 158 undef, tmps.getD 159 undef, tmps.getD 160 undef, tmps.getD 161 undef, tmps.getD 162 undef, tmps.getD 163 undef, tmps.getD 164 undef, tmps.getD 165 undef] := rfl
  rw [e, g0, g1, g4, g8, g9, g10, g11, g12, g13] at hl
  exact hl
set_option maxRecDepth 100000 in
set_option maxHeartbeats 16000000 in
theorem c_round {Q : Exit → Act → World → Prop} {a : Act} {w0 W : World} {B b off n cL nb no nc S sc Kb i Mb c R bc oc nC cC : Nat} {vB : Value} {nl : List ByteArray} {m k z : Int} {F : Nat → Int} {P T : ByteArray}
    (sf : SC a b off n cL nb no nl.length nc S sc Kb i Mb c R vB) (ns : NS w0 B nl nb no S Kb Mb m k F W) (hB : B ≤ W.heap.size) (hSB : B ≤ S) (hn1 : nb ≠ S) (hM1 : Mb ≠ S) (hK1 : Kb ≠ S)
    (hC : w0.cell? ⟨b, off + i * 2, none⟩ = some (.slice (some ⟨bc, oc, none⟩) nC cC)) (hP : w0.cell? ⟨bc, oc + c * 2, none⟩ = some (.string P)) (hT : w0.cell? ⟨bc, oc + c * 2 + 1, none⟩ = some (.string T)) (hb : b < B) (hbc : bc < B) (hi : i < n) (hn : n ≤ 1000000) (hc : c < nC) (hnC : nC ≤ 1000000) (hl : nl.length ≤ 1000000) (hsc : nl.length ≤ sc)
    (hz : numT 400 T = some z) (bF : ∀ j, ((F j).natAbs : Int) < Nm.T4.pw 9000) (bF2 : ∀ j, ((F j + m * z).natAbs : Int) < Nm.T4.pw 9000) (bm : (m.natAbs : Int) < Nm.T4.pw 4000) (bz : (z.natAbs : Int) < Nm.T4.pw 4000) (bmz : ((m * z).natAbs : Int) < Nm.T4.pw 9000)
    (hend : ∀ a' W', SC a' b off n cL nb no nl.length nc S sc Kb i Mb (c + 1) R vB → NS w0 B nl nb no S Kb Mb m k (shF nl P (m * z) F nl.length) W' → W.heap.size ≤ W'.heap.size → Q .normal a' W') :
    Code.wp Tryz.prog (cBody Tryz.f7) Q a W := by
  obtain ⟨u, rfl⟩ := sf.lit
  have c2 : W.cell? ⟨b, off + i * 2, none⟩ = some (.slice (some ⟨bc, oc, none⟩) nC cC) := (ns.lo.cell (p := ⟨b, off + i * 2, none⟩) hb).trans hC
  have hiz : (i : Int) < (n : Int) := by omega
  have hcz : decide ((c : Int) < (nC : Int)) = true := by simp; omega
  have HQ := hide hend
  have HNS := hide ns
  have HA : Hid (∀ (Q' : Exit → Act → World → Prop) (a' : Act), SF a' b off n cL nb no nl.length nc S sc Kb i Mb c 0 R vB → (∀ a2 W2, SF a2 b off n cL nb no nl.length nc S sc Kb i Mb c nl.length R vB → NS w0 B nl nb no S Kb Mb m k (shF nl P (m * z) F nl.length) W2 → W.heap.size ≤ W2.heap.size → Q' (.exit 8) a2 W2) → Code.wp Tryz.prog (.loop (nBody Tryz.f7)) Q' a' W) := fun Q' a' sf' he => n_loop sf' ns hB hSB hn1 hM1 hK1 hC hP hT hb hbc hi hn hc hnC hl hsc hz bF bF2 bm bz bmz he
  obtain ⟨L, hL⟩ : ∃ L, nl.length = L := ⟨_, rfl⟩
  rw [hL] at HA HQ hl hsc ⊢
  replace hL := hide hL
  clear hend ns sf bF bF2 bm bz bmz hz hC hP hT
  conv => arg 2; whnf
  go_wp2_with fail
  change Code.wp Tryz.prog (.loop (nBody Tryz.f7)) _ _ _
  refine unhide HA _ _ ⟨rfl, rfl, rfl, rfl, rfl, rfl, rfl, rfl, rfl, rfl, rfl, rfl⟩ fun a' W' sf' ns' hs' => ?_
  obtain ⟨u', rfl⟩ := sf'.lit
  clear sf' c2
  have HN2 := hide ns'
  clear ns'
  go_wp2
  exact unhide HQ _ _ ⟨rfl, rfl, rfl, rfl, rfl, rfl, rfl, rfl, rfl, rfl, rfl⟩ (unhide HN2) hs'
end Go.Proofs.YthgdmppmjnmiiaaGreatDoor

namespace Go.Proofs.YthgdmppmjnmiiaaGreatDoor
open Go Go.RowKit Go.Maps
open _root_.Go.Proofs.YthgdmppmjnmiiaaGreatDoor.Nm (IsI IsN Ns pw)

/-- The sums, with the first c parts of a row, each m times. -/
def gF (nl : List ByteArray) (ps : List (ByteArray × Int)) (m : Int) (F : Nat → Int) (c : Nat) : Nat → Int := fun j => match nl[j]? with
  | some s => F j + cf (ps.take c) s * m
  | none => F j
theorem gF_zero (nl : List ByteArray) (ps : List (ByteArray × Int)) (m : Int) (F : Nat → Int) : gF nl ps m F 0 = F := by
  funext j
  unfold gF
  cases nl[j]? with
  | none => rfl
  | some s => simp [cf]
theorem gF_step {nl : List ByteArray} {ps : List (ByteArray × Int)} {m : Int} {F : Nat → Int} {c : Nat} {P : ByteArray} {z : Int} (h : ps[c]? = some (P, z)) : shF nl P (m * z) (gF nl ps m F c) nl.length = gF nl ps m F (c + 1) := by
  funext j
  unfold shF gF
  cases hj : nl[j]? with
  | none =>
    rw [if_neg (by rintro ⟨_, h2⟩; cases h2)]
  | some s =>
    have hlt : j < nl.length := (List.getElem?_eq_some_iff.1 hj).1
    simp only
    rw [cf_take h]
    by_cases e : P = s
    · subst e
      rw [if_pos ⟨hlt, rfl⟩]
      simp only [if_true]
      rw [Int.add_mul, Int.mul_comm m z, Int.add_assoc]
    · rw [if_neg (by rintro ⟨_, h2⟩; exact e (Option.some.inj h2).symm)]
      simp only [e, if_false]
      rw [Int.add_zero]
set_option maxRecDepth 100000 in
set_option maxHeartbeats 16000000 in
theorem c_end {Q : Exit → Act → World → Prop} {a : Act} {W : World} {b off n cL nb no nn nc S sc Kb i Mb R nC cC : Nat} {aC : Option Addr} {vB : Value} (sf : SC a b off n cL nb no nn nc S sc Kb i Mb nC R vB) (hC : W.cell? ⟨b, off + i * 2, none⟩ = some (.slice aC nC cC)) (hi : i < n) (hn : n ≤ 1000000)
    (hend : ∀ a', SC a' b off n cL nb no nn nc S sc Kb i Mb nC R vB → Q (.exit 6) a' W) : Code.wp Tryz.prog (cBody Tryz.f7) Q a W := by
  obtain ⟨u, rfl⟩ := sf.lit
  have hd : decide ((nC : Int) < (nC : Int)) = false := by simp
  have hiz : (i : Int) < (n : Int) := by omega
  have HQ := hide hend
  clear hend sf
  conv => arg 2; whnf
  go_wp2
  exact unhide HQ _ ⟨rfl, rfl, rfl, rfl, rfl, rfl, rfl, rfl, rfl, rfl, rfl⟩
/-- A row's parts, as they lie. -/
def PartsAt (w0 : World) (B : Nat) (ps : List (ByteArray × Int)) (aC : Option Addr) : Prop :=
  ps ≠ [] → ∃ bc oc, aC = some ⟨bc, oc, none⟩ ∧ bc < B ∧ ∀ (c : Nat) P z, ps[c]? = some (P, z) → w0.cell? ⟨bc, oc + c * 2, none⟩ = some (.string P) ∧ ∃ T, w0.cell? ⟨bc, oc + c * 2 + 1, none⟩ = some (.string T) ∧ numT 400 T = some z
theorem c_loop {Q : Exit → Act → World → Prop} {a : Act} {w0 W : World} {B b off n cL nb no nc S sc Kb i Mb R cC : Nat} {aC : Option Addr} {vB : Value} {nl : List ByteArray} {ps : List (ByteArray × Int)} {m k X : Int} {F : Nat → Int}
    (sf : SC a b off n cL nb no nl.length nc S sc Kb i Mb 0 R vB) (ns : NS w0 B nl nb no S Kb Mb m k F W) (hB : B ≤ W.heap.size) (hSB : B ≤ S) (hn1 : nb ≠ S) (hM1 : Mb ≠ S) (hK1 : Kb ≠ S)
    (hC : w0.cell? ⟨b, off + i * 2, none⟩ = some (.slice aC ps.length cC)) (hps : PartsAt w0 B ps aC) (hb : b < B) (hi : i < n) (hn : n ≤ 1000000) (hnC : ps.length ≤ 1000000) (hl : nl.length ≤ 1000000) (hsc : nl.length ≤ sc)
    (hX : ∀ c j, ((gF nl ps m F c j).natAbs : Int) ≤ X) (hXm : ∀ (c : Nat) P z, ps[c]? = some (P, z) → ((m * z).natAbs : Int) ≤ X) (hXX : 2 * X < Nm.T4.pw 9000) (bm : (m.natAbs : Int) < Nm.T4.pw 4000) (bz : ∀ (c : Nat) P z, ps[c]? = some (P, z) → (z.natAbs : Int) < Nm.T4.pw 4000)
    (hend : ∀ a' W', SC a' b off n cL nb no nl.length nc S sc Kb i Mb ps.length R vB → NS w0 B nl nb no S Kb Mb m k (gF nl ps m F ps.length) W' → W.heap.size ≤ W'.heap.size → Q (.exit 6) a' W') :
    Code.wp Tryz.prog (.loop (cBody Tryz.f7)) Q a W := by
  refine wp_loop (fun a' W' => ∃ c, c ≤ ps.length ∧ SC a' b off n cL nb no nl.length nc S sc Kb i Mb c R vB ∧ NS w0 B nl nb no S Kb Mb m k (gF nl ps m F c) W' ∧ W.heap.size ≤ W'.heap.size) (fun a' _ => ps.length - (intOf (a'.tmps.getD 13 undef)).toNat) ⟨0, Nat.zero_le _, sf, by rw [gF_zero]; exact ns, Nat.le_refl _⟩ ?_
  rintro a' W' ⟨c, hc, sf', ns', hsz⟩
  have g13 : a'.tmps.getD 13 undef = .int .i64 c := getD_some sf'.s13
  by_cases hlt : c < ps.length
  · obtain ⟨P, z, hpz⟩ : ∃ P z, ps[c]? = some (P, z) := ⟨_, _, List.getElem?_eq_getElem hlt⟩
    obtain ⟨bc, oc, rfl, hbc, hpp⟩ := hps (by intro h; rw [h] at hlt; simp at hlt)
    obtain ⟨h1, T, h2, h3⟩ := hpp c P z hpz
    have x0 := hX 0 0
    refine c_round sf' ns' (by omega) hSB hn1 hM1 hK1 hC h1 h2 hb hbc hi hn hlt hnC hl hsc h3 (fun j => ?_) (fun j => ?_) bm (bz c P z hpz) ?_ ?_
    · have := hX c j
      omega
    · have q1 := hX c j
      have q2 := hXm c P z hpz
      omega
    · have q2 := hXm c P z hpz
      omega
    · intro a2 W2 sf2 ns2 hs2
      have g13' : a2.tmps.getD 13 undef = .int .i64 (c + 1 : Nat) := getD_some sf2.s13
      rw [gF_step hpz] at ns2
      refine ⟨⟨c + 1, hlt, sf2, ns2, by omega⟩, ?_⟩
      show ps.length - (intOf (a2.tmps.getD 13 undef)).toNat < ps.length - (intOf (a'.tmps.getD 13 undef)).toNat
      rw [g13, g13']
      simp [intOf]
      omega
  · obtain rfl : c = ps.length := by omega
    exact c_end sf' ((ns'.lo.cell (p := ⟨b, off + i * 2, none⟩) hb).trans hC) hi hn fun a2 sf2 => hend a2 W' sf2 ns' hsz
end Go.Proofs.YthgdmppmjnmiiaaGreatDoor
