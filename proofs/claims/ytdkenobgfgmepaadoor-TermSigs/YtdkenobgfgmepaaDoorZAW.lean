/- The document's check: operands of one sort. -/
import Derived.Test.YtdkenobgfgmepaaDoorZAV
set_option linter.unusedVariables false
set_option linter.unusedSimpArgs false

/- The document's Find. -/
namespace Go.Proofs.YtdkenobgfgmepaaDoor
open Go Go.RowKit
theorem findF_drop (k : ByteArray) : ∀ (l : List Fn) (i : Nat), (∀ j (hj : j < l.length), j < i → ¬ k = l[j].name) → findF k l = findF k (l.drop i)
  | [], _, _ => by simp
  | _ :: _, 0, _ => rfl
  | f :: l, i + 1, h => by
    have h0 := h 0 (by simp) (by omega)
    show (if k = f.name then some f else findF k l) = findF k (l.drop i)
    rw [if_neg (by simpa using h0)]
    exact findF_drop k l i fun j hj hji => h (j + 1) (Nat.succ_lt_succ hj) (by omega)
theorem findF_here {k : ByteArray} {l : List Fn} {i : Nat} (hi : i < l.length) (h : ∀ j (hj : j < l.length), j < i → ¬ k = l[j].name) (hk : k = l[i].name) : findF k l = some l[i] := by
  rw [findF_drop k l i h, List.drop_eq_getElem_cons hi]
  show (if k = l[i].name then some l[i] else _) = _
  rw [if_pos hk]
theorem findF_none {k : ByteArray} {l : List Fn} {i : Nat} (hi : ¬ i < l.length) (h : ∀ j (hj : j < l.length), j < i → ¬ k = l[j].name) : findF k l = none := by
  rw [findF_drop k l i h, List.drop_eq_nil_of_le (by omega)]
  rfl
theorem Row.belowS {w w' : World} {B n cap : Nat} {a : Option Addr} {sig : List Fn} (h : Row B a n cap 3 (SigR w B sig)) (hw : Below B w w') : Row B a n cap 3 (SigR w' B sig) :=
  h.mono (Nat.le_refl _) fun b o j hb h f hf => by
    obtain ⟨aA, cA, h1, h2, h3⟩ := h f hf
    exact ⟨aA, cA, rangeAt_below h1 hb hw, h2, h3.mono (Nat.le_refl _) fun b o j hb h x hx => ⟨(hw.cell (p := ⟨b, o, none⟩) hb).trans (h x hx).1, (h x hx).2⟩⟩
theorem Row.atS {w : World} {B n cap : Nat} {a : Option Addr} {sig : List Fn} (h : Row B a n cap 3 (SigR w B sig)) (hn : n = sig.length) {i : Nat} (hi : i < n) :
    ∃ b off, a = some ⟨b, off, none⟩ ∧ b < B ∧ ∃ aA cA, w.cell? ⟨b, off + i * 3, none⟩ = some (.string (sig[i]'(by omega)).name) ∧ w.cell? ⟨b, off + i * 3 + 1, none⟩ = some (.slice aA (sig[i]'(by omega)).args.length cA) ∧ w.cell? ⟨b, off + i * 3 + 2, none⟩ = some (.int .i64 (sig[i]'(by omega)).out) ∧ fits (sig[i]'(by omega)).out ∧ Row B aA (sig[i]'(by omega)).args.length cA 1 (IR w (sig[i]'(by omega)).args) := by
  obtain ⟨b, off, e, hb, hj⟩ := h.2.2 (by omega)
  obtain ⟨aA, cA, h1, h2, h3⟩ := hj i hi _ (List.getElem?_eq_getElem (by omega))
  exact ⟨b, off, e, hb, aA, cA, h1 0 _ rfl, h1 1 _ rfl, h1 2 _ rfl, h2, h3⟩
def FindR (w : World) (B : Nat) (k : ByteArray) (sig : List Fn) (a : Option Addr) (m c : Nat) (o : Int) (b : Bool) : Prop := (findF k sig = none ∧ b = false) ∨ ∃ f, findF k sig = some f ∧ b = true ∧ m = f.args.length ∧ o = f.out ∧ fits o ∧ Row B a m c 1 (IR w f.args)
def FindP (w : World) (B : Nat) (k : ByteArray) (sig : List Fn) (e : Ending) (w' : World) : Prop := ∃ s a' m c' o b, e = .returned (.tuple #[.agg #[.string s, .slice a' m c', .int .i64 o], .bool b]) ∧ Below w.heap.size w w' ∧ FindR w B k sig a' m c' o b
set_option maxRecDepth 100000 in
set_option maxHeartbeats 16000000 in
theorem Find_any {B n c : Nat} {a : Option Addr} {sig : List Fn} {w : World} (k : ByteArray) (hS : Row B a n c 3 (SigR w B sig)) (hn : n = sig.length) (hB : B ≤ w.heap.size) :
    Calls Tryd.prog 61 #[.slice a n c, .string k] w (FindP w B k sig) := by
  have hmax : n ≤ 281474976710656 := hS.2.1
  have HN := hide hn
  have HS := hide hS
  obtain ⟨w0, e0, hb0, hs0, hc0, hh⟩ := box_new w #[.string ⟨#[]⟩, .slice none 0 0, .int .i64 0] 56
  have HE := hide e0
  have HB0 := hide hb0
  have HH := hide hh
  clear hn hS e0 hb0 hc0 hh
  go_enter Tryd.func61, Tryd.ntmps61
  go_wp2
  rw [unhide HE]
  go_loop [6] (fun iv => ∃ i : Nat, i ≤ n ∧ iv = .int .i64 i ∧ Hid (∀ j (hj : j < sig.length), j < i → ¬ k = sig[j].name)) (fun iv => n - (intOf iv).toNat)
  case atStart => exact ⟨0, Nat.zero_le _, rfl, fun j _ h => absurd h (by omega)⟩
  case round =>
    obtain ⟨i, hi0, rfl, hno⟩ := hrel
    have hh := unhide HH
    have z0 : w0.cell? ⟨w.heap.size, 0, none⟩ = some (.string ⟨#[]⟩) := (blk hh).2.1 0 _ rfl
    have z1 : w0.cell? ⟨w.heap.size, 1, none⟩ = some (.slice none 0 0) := (blk hh).2.1 1 _ rfl
    have z2 : w0.cell? ⟨w.heap.size, 2, none⟩ = some (.int .i64 0) := (blk hh).2.1 2 _ rfl
    have f0 := (blk hh).2.2 0
    have f1 := (blk hh).2.2 1
    have f2 := (blk hh).2.2 2
    clear hh
    by_cases hi : i < n
    · have hil : i < sig.length := by have := unhide HN; omega
      obtain ⟨b, off, rfl, hbB, aA, cA, c0, c1, c2, hfo, hRA⟩ := ((unhide HS).belowS ((unhide HB0).mono hB)).atS (unhide HN) hi
      have hyes : k = (sig[i]).name → findF k sig = some sig[i] := fun e => findF_here hil (unhide hno) e
      have hmor : ¬ k = (sig[i]).name → Hid (∀ j (hj : j < sig.length), j < i + 1 → ¬ k = sig[j].name) := fun h j hj hji => by
        by_cases e : j = i
        · subst e; exact h
        · exact unhide hno j hj (by omega)
      have hRA0 := ((unhide HS).atS (unhide HN) hi)
      obtain ⟨b0, off0, e0, _, aA0, cA0, g0, g1, g2, _, hRA1⟩ := hRA0
      obtain ⟨rfl, rfl⟩ : b0 = b ∧ off0 = off := by injection e0 with e0; injection e0 with e1 e2; exact ⟨e1.symm, e2.symm⟩
      have hq : (Value.slice aA0 (sig[i]).args.length cA0) = Value.slice aA (sig[i]).args.length cA := by
        have := ((unhide HB0).cell (p := ⟨b0, off0 + i * 3 + 1, none⟩) (show b0 < w.heap.size by omega)).trans g1
        rw [c1] at this
        exact (Option.some.inj this).symm
      injection hq with q1 _ q3
      subst q1 q3
      have hmA : (sig[i]).args.length ≤ 281474976710656 := hRA1.2.1
      generalize sig[i] = f at *
      obtain ⟨nA, hnA⟩ : ∃ n, f.args.length = n := ⟨_, rfl⟩
      rw [hnA] at c1 hRA1 hmA
      have HR := hide (And.intro hRA1 (And.intro hfo hnA))
      have HYM := hide (And.intro hyes hmor)
      clear hyes hmor hno hRA hRA1 e0 g0 g1 g2 hfo hnA
      by_cases hk : k = f.name
      · have hfd := hide ((unhide HYM).1 hk)
        have HB2 := hide (unhide HB0)
        subst hk
        go_wp2
        obtain ⟨hRA1, hfo, hnA⟩ := unhide HR
        refine ⟨rfl, _, res_row2 (cs := [.string f.name, .slice aA0 nA cA0, .int .i64 f.out]) rfl rfl rfl (range_block (fill3 (unhide HH))) rfl rfl rfl, _, _, _, _, _, _, rfl, ?_, .inr ⟨f, unhide hfd, rfl, hnA.symm, rfl, hfo, hRA1⟩⟩
        exact (((unhide HB0).setCell (p := ⟨w.heap.size, 0, none⟩) (Nat.le_refl _) _).setCell (p := ⟨w.heap.size, 1, none⟩) (Nat.le_refl _) _).setCell (p := ⟨w.heap.size, 2, none⟩) (Nat.le_refl _) _
      · have hm := (unhide HYM).2 hk
        have hne := str_ne (fun e => hk e.symm)
        clear hk
        go_wp2
        exact ⟨⟨i + 1, by omega, by simp, hm⟩, by simp [intOf]; omega⟩
    · have hfn := hide (findF_none (by have := unhide HN; omega) (unhide hno))
      clear hno
      go_wp2
      refine ⟨rfl, _, res_row2 (cs := [.string ⟨#[]⟩, .slice none 0 0, .int .i64 0]) rfl rfl rfl (range_block (fill3 (unhide HH))) rfl rfl rfl, _, _, _, _, _, _, rfl, ?_, .inl ⟨unhide hfn, rfl⟩⟩
      exact (((unhide HB0).setCell (p := ⟨w.heap.size, 0, none⟩) (Nat.le_refl _) _).setCell (p := ⟨w.heap.size, 1, none⟩) (Nat.le_refl _) _).setCell (p := ⟨w.heap.size, 2, none⟩) (Nat.le_refl _) _
end Go.Proofs.YtdkenobgfgmepaaDoor

/- The document's check of operands of one sort. -/
namespace Go.Proofs.YtdkenobgfgmepaaDoor
open Go Go.RowKit
/-- What the document says of a text: whether it is a number's. -/
def RtC (rt : ByteArray → Bool) (s : ByteArray) : Prop := ∀ w : World, Calls Tryd.prog 59 #[.string s] w (VPost (.bool (rt s)) w)
/-- The variables that are bound, from the outermost on. -/
def envOf (x : List (ByteArray × Int)) : ByteArray → List Int := bindV x fun _ => []
theorem bindV_app : ∀ (a b : List (ByteArray × Int)) (env : ByteArray → List Int), bindV (a ++ b) env = bindV b (bindV a env)
  | [], _, _ => rfl
  | v :: a, b, env => bindV_app a b _
theorem envOf_app (a b : List (ByteArray × Int)) : envOf (a ++ b) = bindV b (envOf a) := bindV_app a b _
def CkC (rt : ByteArray → Bool) (sig : List Fn) (d : Nat) : Prop := ∀ (B : Nat) (aS : Option Addr) (nS cS : Nat) (v : Value) (t : Tm) (aV : Option Addr) (nV cV : Nat) (x : List (ByteArray × Int)) (w : World), IsT w B d v t → Row B aS nS cS 3 (SigR w B sig) → nS = sig.length → Row B aV nV cV 2 (BR w x) → nV = x.length → B ≤ w.heap.size → OkT (RtC rt) (d + 1) t → nV + t.wt ≤ 1000 →
    Calls Tryd.prog 38 #[.slice aS nS cS, v, .slice aV nV cV] w (VPost (pairV (t.chk rt sig (envOf x))) w)
def allR (sort own : Int) (p : List Int × Int) : Int × Int := if p.2 ≠ 0 then (0, p.2) else if p.1.all (· == sort) then (own, 0) else (0, 31)
theorem le_sum {x : Nat} : ∀ {l : List Nat}, x ∈ l → x ≤ l.sum
  | y :: l, h => by
    rw [List.sum_cons]
    rcases List.mem_cons.1 h with rfl | h
    · omega
    · have := le_sum h; omega
theorem wt_mem {t u : Tm} (h : u ∈ t.l) : u.wt < t.wt := by
  have h1 := le_sum (List.mem_map_of_mem (f := Tm.wt) h)
  rw [t.wt_eq]
  omega
theorem wt_memP {t u : Tm} (h : u ∈ t.pat) : u.wt < t.wt := by
  have h1 := le_sum (List.mem_map_of_mem (f := Tm.wt) h)
  rw [t.wt_eq]
  omega
set_option maxRecDepth 100000 in
set_option maxHeartbeats 16000000 in
theorem all_any {rt : ByteArray → Bool} {sig : List Fn} {d : Nat} (ih : ∀ d' < d, CkC rt sig d') {B nS cS nV cV : Nat} {aS aV : Option Addr} {v : Value} {t : Tm} {x : List (ByteArray × Int)} {w : World} (hT : IsT w B d v t) (hS : Row B aS nS cS 3 (SigR w B sig)) (hnS : nS = sig.length) (hX : Row B aV nV cV 2 (BR w x)) (hnV : nV = x.length) (hB : B ≤ w.heap.size) (hO : OkT (RtC rt) (d + 1) t) (hw : nV + t.wt ≤ 1000) (sort own : Int) :
    Calls Tryd.prog 60 #[.slice aS nS cS, v, .slice aV nV cV, .int .i64 sort, .int .i64 own] w (VPost (pairV (allR sort own (chkL (t.l.map (Tm.chk rt sig)) (envOf x)))) w) := by
  obtain ⟨h1, h2, aL, aY, aP, cL, cY, cP, rfl, hL, hV, hP⟩ := hT
  simp only [tcells, List.toArray]
  generalize t.vars.length = nY at *
  generalize t.pat.length = nP at *
  obtain ⟨n, hn⟩ : ∃ n, t.l.length = n := ⟨_, rfl⟩
  rw [hn] at hL ⊢
  have hmax : n ≤ 281474976710656 := hL.2.1
  obtain ⟨w0, e0, hb0, hs0, hc0, hh⟩ := box_new w #[.int .i64 t.op, .string t.name, .int .i64 t.sort, .string t.num, .slice aL n cL, .slice aY nY cY, .slice aP nP cP] 26
  have HC := hide (show w0.cell? ⟨w.heap.size, 4, none⟩ = some (.slice aL n cL) from hc0 4 _ rfl)
  have HE := hide e0
  have HB0 := hide hb0
  have HN := hide hn
  have HL := hide hL
  have HI := hide (And.intro ih (And.intro hS (And.intro hnS (And.intro hX (And.intro hnV (And.intro hO hw))))))
  obtain ⟨env, henv⟩ : ∃ env, envOf x = env := ⟨_, rfl⟩
  rw [henv]
  have HEn := hide henv
  clear hc0 e0 hh hb0 hn hL hV hP h1 h2 ih hS hnS hX hnV hO hw henv
  go_enter Tryd.func60, Tryd.ntmps60
  go_wp2
  rw [unhide HE]
  go_loopw [12, 13] (fun ov iv wr => ∃ i : Nat, i ≤ n ∧ iv = .int .i64 i ∧ ov = .bool ((chkL ((t.l.take i).map (Tm.chk rt sig)) env).1.all (· == sort)) ∧ (chkL ((t.l.take i).map (Tm.chk rt sig)) env).2 = 0 ∧ Below w0.heap.size w0 wr) (fun _ iv _ => n - (intOf iv).toNat)
  case atStart => exact ⟨0, Nat.zero_le _, rfl, rfl, rfl, Below.refl _ _⟩
  case round =>
    obtain ⟨i, hi0, rfl, rfl, hno, hb⟩ := hrel
    have hc4 := (hb.cell (p := ⟨w.heap.size, 4, none⟩) (show w.heap.size < w0.heap.size by omega)).trans (unhide HC)
    have hbw : Below w.heap.size w wr := (unhide HB0).trans (hb.mono (by omega))
    by_cases hi : i < n
    · obtain ⟨b, off, rfl, hbB, hAt⟩ := ((unhide HL).below (hbw.mono hB)).at (unhide HN).symm hi
      obtain ⟨d', bL, bV, bP, mL, mV, mP, kL, kV, kP, rfl, ⟨c0, c1, c2, c3, c4, c5, c6⟩, hT⟩ := hAt.cells
      have hil : i < t.l.length := by rw [unhide HN]; exact hi
      obtain ⟨ih, hS, hnS, hX, hnV, hO, hw⟩ := unhide HI
      have hmem : t.l[i] ∈ t.l := List.getElem_mem hil
      have hww := wt_mem hmem
      have hOu := hO.2.2.2.2.2.1 _ hmem
      have hCk := hide (ih d' (by omega) B aS nS cS _ _ aV nV cV x wr hT (hS.belowS (hbw.mono hB)) hnS (hX.belowV (hbw.mono hB)) hnV (Nat.le_trans hB hbw.size) hOu (by omega))
      have hat : ((t.l[i]).chk rt sig env).2 ≠ 0 → (chkL (t.l.map (Tm.chk rt sig)) env).2 = ((t.l[i]).chk rt sig env).2 := fun h => by
        have := chkL_at (fs := t.l.map (Tm.chk rt sig)) (env := env) (i := i) (by simpa using hil) (by rw [← List.map_take]; exact hno) (by simpa using h)
        simpa using this
      have hsn : (chkL ((t.l.take (i + 1)).map (Tm.chk rt sig)) env) = if ((t.l[i]).chk rt sig env).2 ≠ 0 then ((chkL ((t.l.take i).map (Tm.chk rt sig)) env).1, ((t.l[i]).chk rt sig env).2) else ((chkL ((t.l.take i).map (Tm.chk rt sig)) env).1 ++ [((t.l[i]).chk rt sig env).1], 0) := by
        rw [take_more hil, List.map_append]
        exact chkL_snoc _ _ _ hno
      rw [unhide HEn] at hCk
      have HA := hide (And.intro hat hsn)
      clear hat hsn hww hOu ih hS hnS hX hnV hO hw hmem hno hAt
      generalize (chkL ((t.l.take i).map (Tm.chk rt sig)) env).1 = ss at *
      generalize t.l[i] = u at *
      obtain ⟨p, hp⟩ : ∃ p, u.chk rt sig env = p := ⟨_, rfl⟩
      rw [hp] at hCk HA
      have HB := hide hb
      have HBw := hide hbw
      clear hT hb hbw hp
      go_wp2_with fail
      refine (unhide hCk).mono ?_
      rintro e w1 ⟨rfl, hb1⟩
      have HB1 := hide hb1
      clear hb1 hCk
      unfold pairV
      obtain ⟨ps, pe⟩ := p
      by_cases hpe : pe = 0
      · subst hpe
        have hs2 := hide ((unhide HA).2)
        clear HA
        cases ok : ss.all (· == sort) with
        | true =>
          go_wp2
          refine ⟨⟨i + 1, by omega, by simp, ?_, ?_, (unhide HB).trans ((unhide HB1).mono (unhide HB).size)⟩, by simp [intOf]; omega⟩
          · rw [unhide hs2]
            simp [ok]
          · rw [unhide hs2]
            simp
        | false =>
          go_wp2
          refine ⟨⟨i + 1, by omega, by simp, ?_, ?_, (unhide HB).trans ((unhide HB1).mono (unhide HB).size)⟩, by simp [intOf]; omega⟩
          · rw [unhide hs2]
            simp [ok]
          · rw [unhide hs2]
            simp
      · have hpe2 : (pe != 0) = true := by simp [hpe]
        have hs2 := hide ((unhide HA).1 hpe)
        have HPE := hide hpe
        clear HA hpe
        go_wp2
        go_ret2
        refine ⟨?_, (unhide HBw).trans ((unhide HB1).mono (unhide HBw).size)⟩
        unfold allR
        rw [unhide hs2, if_pos (unhide HPE)]
        rfl
    · have htk : t.l.take i = t.l := List.take_of_length_le (by rw [unhide HN]; omega)
      rw [htk] at hno ⊢
      have HNo := hide hno
      have HBw := hide hbw
      clear hbw hb hno htk
      cases ok : (chkL (t.l.map (Tm.chk rt sig)) env).1.all (· == sort) with
      | true =>
        have HOk := hide ok
        clear ok
        go_wp2
        go_ret2
        refine ⟨?_, unhide HBw⟩
        unfold allR
        rw [unhide HNo, if_neg (by simp), unhide HOk]
        rfl
      | false =>
        have HOk := hide ok
        clear ok
        go_wp2
        go_ret2
        refine ⟨?_, unhide HBw⟩
        unfold allR
        rw [unhide HNo, if_neg (by simp), unhide HOk]
        rfl
end Go.Proofs.YtdkenobgfgmepaaDoor

/- The document's check: terms without operands, and wrong ones. -/
namespace Go.Proofs.YtdkenobgfgmepaaDoor
open Go Go.RowKit
def shE (rt : ByteArray → Bool) (sig : List Fn) (t : Tm) : Int := shapeE rt sig t.op t.name t.num t.l.length (headOp t.l) t.vars t.pat.length
section
variable {rt : ByteArray → Bool} {sig : List Fn} {t : Tm} {env : ByteArray → List Int}
theorem chk_wrong {e : Int} (h : shE rt sig t = e) (he : e ≠ 0) : t.chk rt sig env = (0, e) := by
  unfold shE at h
  rw [Tm.chk_eq, h, if_pos he]
theorem sh_out (h : t.op < 1 ∨ 19 < t.op) : shE rt sig t = 30 := by
  have hb : shapeB rt t.op t.name t.num t.l.length (headOp t.l) t.vars t.pat.length = false := by
    unfold shapeB
    rw [if_neg (by omega), if_neg (by omega), if_neg (by omega), if_neg (by omega), if_neg (by omega)]
  unfold shE shapeE
  rw [if_neg (by omega), hb]
  rfl
/-- How many operands there must be. -/
def wantN (op : Int) : Option Nat := if op = 1 ∨ op = 2 ∨ op = 3 ∨ op = 18 then some 0 else if op = 4 ∨ op = 14 ∨ op = 19 then some 1 else if op = 16 then some 3 else if 7 ≤ op ∧ op ≤ 11 ∨ op = 13 ∨ op = 15 then some 2 else none
theorem op_false {rt : ByteArray → Bool} {op h0 k : Int} {name num : ByteArray} {n np : Nat} {vars : List (ByteArray × Int)} (hk : (k == (n : Int)) = false) (hr : 4 ≤ op ∧ op ≤ 16) (hc : opCount op.toNat = k ∧ k ≠ -1) : (if op = 1 then rt num && n == 0 else if op = 2 ∨ op = 3 then n == 0 else if 4 ≤ op ∧ op ≤ 16 then operandsB op n h0 else if op = 18 then wordB name && n == 0 else if op = 19 then (n == 1 && decide (0 < np)) && bindersB vars else false) = false := by
  rw [if_neg (by omega), if_neg (by omega), if_pos hr]
  unfold operandsB
  rw [hc.1, hk]
  have : (k == -1) = false := by simpa using hc.2
  rw [this]
  rfl
theorem sh_many {k : Nat} (h : wantN t.op = some k) (hn : t.l.length ≠ k) : shE rt sig t = 30 := by
  unfold shE
  obtain ⟨op, name, sort, num, l, vars, pat⟩ := t
  have hn : l.length ≠ k := hn
  have h : wantN op = some k := h
  have hr : op = 1 ∨ op = 2 ∨ op = 3 ∨ op = 18 ∨ op = 4 ∨ op = 14 ∨ op = 19 ∨ op = 16 ∨ op = 7 ∨ op = 8 ∨ op = 9 ∨ op = 10 ∨ op = 11 ∨ op = 13 ∨ op = 15 := by
    unfold wantN at h
    split at h
    · omega
    · split at h
      · omega
      · split at h
        · omega
        · split at h
          · omega
          · cases h
  have hk : (l.length == k) = false := by simpa using hn
  have hkI : ((k : Int) == (l.length : Int)) = false := by simp; omega
  have hb : shapeB rt op name num l.length (headOp l) vars pat.length = false := by
    rcases hr with rfl | rfl | rfl | rfl | rfl | rfl | rfl | rfl | rfl | rfl | rfl | rfl | rfl | rfl | rfl
    all_goals
      have hk2 := Option.some.inj h
      subst hk2
      unfold shapeB
    · rw [if_pos rfl, hk, Bool.and_false]
    · rw [if_neg (by decide), if_pos (by decide), hk]
    · rw [if_neg (by decide), if_pos (by decide), hk]
    · rw [if_neg (by decide), if_neg (by decide), if_neg (by decide), if_pos rfl, hk, Bool.and_false]
    · exact op_false hkI (by decide) (by decide)
    · exact op_false hkI (by decide) (by decide)
    · rw [if_neg (by decide), if_neg (by decide), if_neg (by decide), if_neg (by decide), if_pos rfl, hk, Bool.false_and, Bool.false_and]
    all_goals exact op_false hkI (by decide) (by decide)
  show shapeE rt sig op name num l.length (headOp l) vars pat.length = 30
  unfold shapeE
  rw [if_neg (by omega), hb]
  rfl
theorem sh_word (h : t.op = 17 ∨ t.op = 18) (hw : wordB t.name = false) : shE rt sig t = 30 := by
  unfold shE
  rcases h with h | h
  · rw [h]; simp [shapeE, appE, hw]
  · rw [h]; simp [shapeE, shapeB, hw]
theorem sh_num (h : t.op = 1) (hn : t.l.length = 0) : shE rt sig t = if rt t.num = true then 0 else 30 := by
  unfold shE
  rw [h, hn]
  simp [shapeE, shapeB]
theorem chk_num (h : t.op = 1) (hn : t.l.length = 0) : t.chk rt sig env = if rt t.num = true then (1, 0) else (0, 30) := by
  have hs := sh_num (rt := rt) (sig := sig) h hn
  by_cases hr : rt t.num = true
  · rw [if_pos hr] at hs ⊢
    unfold shE at hs
    rw [Tm.chk_eq, hs, if_neg (by simp), if_neg (by omega), if_neg (by omega), List.length_eq_zero_iff.1 hn, h]
    rfl
  · rw [if_neg hr] at hs ⊢
    exact chk_wrong hs (by decide)
theorem chk_tf (h : t.op = 2 ∨ t.op = 3) (hn : t.l.length = 0) : t.chk rt sig env = (2, 0) := by
  have hs : shE rt sig t = 0 := by
    unfold shE
    rw [hn]
    rcases h with h | h <;> rw [h] <;> simp [shapeE, shapeB]
  unfold shE at hs
  rw [Tm.chk_eq, hs, if_neg (by simp), if_neg (by omega), if_neg (by omega), List.length_eq_zero_iff.1 hn]
  rcases h with h | h <;> rw [h] <;> rfl
end
section
variable {rt : ByteArray → Bool} {sig : List Fn} {d B nS cS nV cV : Nat} {aS aV : Option Addr} {v : Value} {t : Tm} {x : List (ByteArray × Int)} {w : World}
set_option maxRecDepth 100000 in
set_option maxHeartbeats 16000000 in
theorem ck_tf (hT : IsT w B d v t) (hop : t.op = 2 ∨ t.op = 3) (hn : t.l.length = 0) : Calls Tryd.prog 38 #[.slice aS nS cS, v, .slice aV nV cV] w (VPost (pairV (t.chk rt sig (envOf x))) w) := by
  rw [chk_tf hop hn]
  obtain ⟨h1, h2, aL, aY, aP, cL, cY, cP, rfl, hL, hV, hP⟩ := hT
  simp only [tcells, List.toArray]
  generalize t.vars.length = nY at *
  generalize t.pat.length = nP at *
  rw [hn]
  clear hL hV hP h1 h2 hn
  rcases hop with hop | hop
  all_goals
    rw [hop]
    clear hop
    go_enter Tryd.func38, Tryd.ntmps38
    go_wp2
    go_ret2
    exact ⟨rfl, (Below.refl _ w).alloc (Nat.le_refl _) _⟩
set_option maxRecDepth 100000 in
set_option maxHeartbeats 16000000 in
theorem ck_num (hT : IsT w B d v t) (hop : t.op = 1) (hn : t.l.length = 0) (hR : RtC rt t.num) : Calls Tryd.prog 38 #[.slice aS nS cS, v, .slice aV nV cV] w (VPost (pairV (t.chk rt sig (envOf x))) w) := by
  rw [chk_num hop hn]
  obtain ⟨h1, h2, aL, aY, aP, cL, cY, cP, rfl, hL, hV, hP⟩ := hT
  simp only [tcells, List.toArray]
  generalize t.vars.length = nY at *
  generalize t.pat.length = nP at *
  rw [hn, hop]
  unfold RtC at hR
  obtain ⟨r, hr⟩ : ∃ r, rt t.num = r := ⟨_, rfl⟩
  rw [hr] at hR ⊢
  have HR := hide hR
  clear hL hV hP h1 h2 hn hop hR hr
  obtain ⟨w0, e0, hb0, hs0, hc0, hh⟩ := box_new w #[.int .i64 1, .string t.name, .int .i64 t.sort, .string t.num, .slice aL 0 cL, .slice aY nY cY, .slice aP nP cP] 26
  have HE := hide (And.intro e0 hb0)
  clear e0 hb0 hs0 hc0 hh
  cases r
  · rw [if_neg (by simp)]
    go_enter Tryd.func38, Tryd.ntmps38
    go_wp2_with fail
    rw [(unhide HE).1]
    refine (unhide HR w0).mono ?_
    rintro e w1 ⟨rfl, hb1⟩
    have HB1 := hide ((unhide HE).2.trans (hb1.mono (unhide HE).2.size))
    clear hb1
    go_wp2
    go_ret2
    exact ⟨rfl, unhide HB1⟩
  · rw [if_pos rfl]
    go_enter Tryd.func38, Tryd.ntmps38
    go_wp2_with fail
    rw [(unhide HE).1]
    refine (unhide HR w0).mono ?_
    rintro e w1 ⟨rfl, hb1⟩
    have HB1 := hide ((unhide HE).2.trans (hb1.mono (unhide HE).2.size))
    clear hb1
    go_wp2
    go_ret2
    exact ⟨rfl, unhide HB1⟩
set_option maxRecDepth 100000 in
set_option maxHeartbeats 16000000 in
theorem ck_out (hT : IsT w B d v t) (hop : t.op < 1 ∨ 19 < t.op) : Calls Tryd.prog 38 #[.slice aS nS cS, v, .slice aV nV cV] w (VPost (pairV (t.chk rt sig (envOf x))) w) := by
  rw [chk_wrong (sh_out hop) (by decide)]
  obtain ⟨h1, h2, aL, aY, aP, cL, cY, cP, rfl, hL, hV, hP⟩ := hT
  simp only [tcells, List.toArray]
  generalize t.vars.length = nY at *
  generalize t.pat.length = nP at *
  generalize t.l.length = nL at *
  clear hL hV hP h1 h2
  have e1 : (t.op == 1) = false := by simp; omega
  have e2 : (t.op == 2) = false := by simp; omega
  have e3 : (t.op == 3) = false := by simp; omega
  have e4 : (t.op == 4) = false := by simp; omega
  have e5 : (t.op == 5) = false := by simp; omega
  have e6 : (t.op == 6) = false := by simp; omega
  have e7 : (t.op == 7) = false := by simp; omega
  have e8 : (t.op == 8) = false := by simp; omega
  have e9 : (t.op == 9) = false := by simp; omega
  have e10 : (t.op == 10) = false := by simp; omega
  have e11 : (t.op == 11) = false := by simp; omega
  have e12 : (t.op == 12) = false := by simp; omega
  have e13 : (t.op == 13) = false := by simp; omega
  have e14 : (t.op == 14) = false := by simp; omega
  have e15 : (t.op == 15) = false := by simp; omega
  have e16 : (t.op == 16) = false := by simp; omega
  have e17 : (t.op == 17) = false := by simp; omega
  have e18 : (t.op == 18) = false := by simp; omega
  have e19 : (t.op == 19) = false := by simp; omega
  rcases hop with h | h
  · have g1 : decide (t.op < 1) = true := by simp; omega
    go_enter Tryd.func38, Tryd.ntmps38
    go_wp2
    go_ret2
    exact ⟨rfl, (Below.refl _ w).alloc (Nat.le_refl _) _⟩
  · have g1 : decide (t.op < 1) = false := by simp; omega
    have g2 : decide (19 < t.op) = true := by simp; omega
    go_enter Tryd.func38, Tryd.ntmps38
    go_wp2
    go_ret2
    exact ⟨rfl, (Below.refl _ w).alloc (Nat.le_refl _) _⟩
set_option maxRecDepth 100000 in
set_option maxHeartbeats 16000000 in
theorem ck_many {k : Nat} (hT : IsT w B d v t) (hop : wantN t.op = some k) (hn : t.l.length ≠ k) : Calls Tryd.prog 38 #[.slice aS nS cS, v, .slice aV nV cV] w (VPost (pairV (t.chk rt sig (envOf x))) w) := by
  rw [chk_wrong (sh_many hop hn) (by decide)]
  obtain ⟨h1, h2, aL, aY, aP, cL, cY, cP, rfl, hL, hV, hP⟩ := hT
  simp only [tcells, List.toArray]
  generalize t.vars.length = nY at *
  generalize t.pat.length = nP at *
  obtain ⟨nL, hnL⟩ : ∃ n, t.l.length = n := ⟨_, rfl⟩
  rw [hnL] at hn ⊢
  clear hL hV hP h1 h2 hnL
  have hr : t.op = 1 ∨ t.op = 2 ∨ t.op = 3 ∨ t.op = 18 ∨ t.op = 4 ∨ t.op = 14 ∨ t.op = 19 ∨ t.op = 16 ∨ t.op = 7 ∨ t.op = 8 ∨ t.op = 9 ∨ t.op = 10 ∨ t.op = 11 ∨ t.op = 13 ∨ t.op = 15 := by
    unfold wantN at hop
    split at hop
    · omega
    · split at hop
      · omega
      · split at hop
        · omega
        · split at hop
          · omega
          · cases hop
  rcases hr with h | h | h | h | h | h | h | h | h | h | h | h | h | h | h
  all_goals
    rw [h] at hop ⊢
    have hk := Option.some.inj hop
    subst hk
    have hm : ((nL : Int) == 0) = (nL == 0) := beq0 nL
    clear hop h
  · have g : ((nL : Int) != 0) = true := by simp; omega
    clear hn hm
    go_enter Tryd.func38, Tryd.ntmps38
    go_wp2
    go_ret2
    exact ⟨rfl, (Below.refl _ w).alloc (Nat.le_refl _) _⟩
  · have g : ((nL : Int) != 0) = true := by simp; omega
    clear hn hm
    go_enter Tryd.func38, Tryd.ntmps38
    go_wp2
    go_ret2
    exact ⟨rfl, (Below.refl _ w).alloc (Nat.le_refl _) _⟩
  · have g : ((nL : Int) != 0) = true := by simp; omega
    clear hn hm
    go_enter Tryd.func38, Tryd.ntmps38
    go_wp2
    go_ret2
    exact ⟨rfl, (Below.refl _ w).alloc (Nat.le_refl _) _⟩
  · have g : ((nL : Int) != 0) = true := by simp; omega
    clear hn hm
    go_enter Tryd.func38, Tryd.ntmps38
    go_wp2
    go_ret2
    exact ⟨rfl, (Below.refl _ w).alloc (Nat.le_refl _) _⟩
  · have g : ((nL : Int) != 1) = true := by simp; omega
    clear hn hm
    go_enter Tryd.func38, Tryd.ntmps38
    go_wp2
    go_ret2
    exact ⟨rfl, (Below.refl _ w).alloc (Nat.le_refl _) _⟩
  · have g : ((nL : Int) != 1) = true := by simp; omega
    clear hn hm
    go_enter Tryd.func38, Tryd.ntmps38
    go_wp2
    go_ret2
    exact ⟨rfl, (Below.refl _ w).alloc (Nat.le_refl _) _⟩
  · have g : ((nL : Int) != 1) = true := by simp; omega
    clear hn hm
    go_enter Tryd.func38, Tryd.ntmps38
    go_wp2
    go_ret2
    exact ⟨rfl, (Below.refl _ w).alloc (Nat.le_refl _) _⟩
  · have g : ((nL : Int) != 3) = true := by simp; omega
    clear hn hm
    go_enter Tryd.func38, Tryd.ntmps38
    go_wp2
    go_ret2
    exact ⟨rfl, (Below.refl _ w).alloc (Nat.le_refl _) _⟩
  · have g : ((nL : Int) != 2) = true := by simp; omega
    clear hn hm
    go_enter Tryd.func38, Tryd.ntmps38
    go_wp2
    go_ret2
    exact ⟨rfl, (Below.refl _ w).alloc (Nat.le_refl _) _⟩
  · have g : ((nL : Int) != 2) = true := by simp; omega
    clear hn hm
    go_enter Tryd.func38, Tryd.ntmps38
    go_wp2
    go_ret2
    exact ⟨rfl, (Below.refl _ w).alloc (Nat.le_refl _) _⟩
  · have g : ((nL : Int) != 2) = true := by simp; omega
    clear hn hm
    go_enter Tryd.func38, Tryd.ntmps38
    go_wp2
    go_ret2
    exact ⟨rfl, (Below.refl _ w).alloc (Nat.le_refl _) _⟩
  · have g : ((nL : Int) != 2) = true := by simp; omega
    clear hn hm
    go_enter Tryd.func38, Tryd.ntmps38
    go_wp2
    go_ret2
    exact ⟨rfl, (Below.refl _ w).alloc (Nat.le_refl _) _⟩
  · have g : ((nL : Int) != 2) = true := by simp; omega
    clear hn hm
    go_enter Tryd.func38, Tryd.ntmps38
    go_wp2
    go_ret2
    exact ⟨rfl, (Below.refl _ w).alloc (Nat.le_refl _) _⟩
  · have g : ((nL : Int) != 2) = true := by simp; omega
    clear hn hm
    go_enter Tryd.func38, Tryd.ntmps38
    go_wp2
    go_ret2
    exact ⟨rfl, (Below.refl _ w).alloc (Nat.le_refl _) _⟩
  · have g : ((nL : Int) != 2) = true := by simp; omega
    clear hn hm
    go_enter Tryd.func38, Tryd.ntmps38
    go_wp2
    go_ret2
    exact ⟨rfl, (Below.refl _ w).alloc (Nat.le_refl _) _⟩
end
end Go.Proofs.YtdkenobgfgmepaaDoor

namespace Go.Proofs.YtdkenobgfgmepaaDoor
open Go Go.RowKit
section
variable {rt : ByteArray → Bool} {sig : List Fn} {t : Tm} {env : ByteArray → List Int}
theorem sh_ops (h : 4 ≤ t.op ∧ t.op ≤ 16) (hn : opCount t.op.toNat = -1 ∨ opCount t.op.toNat = (t.l.length : Int)) (hh : t.op = 15 → headOp t.l = 1) : shE rt sig t = 0 := by
  have hb : shapeB rt t.op t.name t.num t.l.length (headOp t.l) t.vars t.pat.length = true := by
    unfold shapeB
    rw [if_neg (by omega), if_neg (by omega), if_pos h]
    unfold operandsB
    have h1 : (opCount t.op.toNat == -1 || opCount t.op.toNat == (t.l.length : Int)) = true := by
      rcases hn with h | h <;> simp [h]
    rw [h1]
    by_cases h15 : t.op = 15
    · simp [h15, hh h15]
    · simp [h15]
  unfold shE shapeE
  rw [if_neg (by omega), hb]
  rfl
theorem sh_mul (h : t.op = 15) (hh : headOp t.l ≠ 1) : shE rt sig t = 30 := by
  have hb : shapeB rt t.op t.name t.num t.l.length (headOp t.l) t.vars t.pat.length = false := by
    unfold shapeB
    rw [if_neg (by omega), if_neg (by omega), if_pos (by omega)]
    unfold operandsB
    rw [h]
    have : (headOp t.l == 1) = false := by simpa using hh
    rw [this]
    simp
  unfold shE shapeE
  rw [if_neg (by omega), hb]
  rfl
theorem chk_ops (h : 4 ≤ t.op ∧ t.op ≤ 15 ∧ t.op ≠ 9) (hs : shE rt sig t = 0) : t.chk rt sig env = allR (opEach t.op.toNat) (opOwn t.op.toNat) (chkL (t.l.map (Tm.chk rt sig)) env) := by
  unfold shE at hs
  rw [Tm.chk_eq, hs, if_neg (by simp), if_neg (by omega), if_neg (by omega)]
  unfold allR
  by_cases he : (chkL (t.l.map (Tm.chk rt sig)) env).2 = 0
  · rw [if_neg (by simp [he]), if_neg (by simp [he])]
    have hso : sortOfT sig t.op t.name (chkL (t.l.map (Tm.chk rt sig)) env).1 = if (chkL (t.l.map (Tm.chk rt sig)) env).1.all (· == opEach t.op.toNat) then some (opOwn t.op.toNat) else none := by
      unfold sortOfT
      rw [if_neg (by omega), if_pos (by omega)]
      unfold operatedT
      have h0 : opEach t.op.toNat ≠ 0 := by
        unfold opEach
        split
        · omega
        · split <;> omega
      rw [if_neg (by omega), if_neg h0]
    rw [hso]
    by_cases ha : (chkL (t.l.map (Tm.chk rt sig)) env).1.all (· == opEach t.op.toNat) = true
    · rw [if_pos ha, if_pos ha]
    · rw [if_neg ha, if_neg ha]
  · rw [if_pos he, if_pos he]
end
section
variable {rt : ByteArray → Bool} {sig : List Fn} {d B nS cS nV cV : Nat} {aS aV : Option Addr} {v : Value} {t : Tm} {x : List (ByteArray × Int)} {w : World}
set_option maxRecDepth 100000 in
set_option maxHeartbeats 16000000 in
theorem ck_op4 (ih : ∀ d' < d, CkC rt sig d') (hT : IsT w B d v t) (hS : Row B aS nS cS 3 (SigR w B sig)) (hnS : nS = sig.length) (hX : Row B aV nV cV 2 (BR w x)) (hnV : nV = x.length) (hB : B ≤ w.heap.size) (hO : OkT (RtC rt) (d + 1) t) (hw : nV + t.wt ≤ 1000) (hop : t.op = 4) (hn : t.l.length = 1) : Calls Tryd.prog 38 #[.slice aS nS cS, v, .slice aV nV cV] w (VPost (pairV (t.chk rt sig (envOf x))) w) := by
  have hT0 := hT
  obtain ⟨h1, h2, aL, aY, aP, cL, cY, cP, rfl, hL, hV, hP⟩ := hT
  simp only [tcells, List.toArray] at hT0 ⊢
  generalize t.vars.length = nY at *
  generalize t.pat.length = nP at *
  have hoc : opCount t.op.toNat = -1 ∨ opCount t.op.toNat = (t.l.length : Int) := .inr (by rw [hop, hn]; rfl)
  rw [hn] at hT0 hL ⊢
  obtain ⟨w0, e0, hb0, hs0, hc0, hh⟩ := box_new w #[.int .i64 t.op, .string t.name, .int .i64 t.sort, .string t.num, .slice aL 1 cL, .slice aY nY cY, .slice aP nP cP] 26
  have hT1 := hT0.more (hb0.mono hB) (Nat.le_refl _) (Nat.le_refl _)
  have hA := fun (W : World) (h : Below w0.heap.size w0 W) => all_any ih (hT1.more (h.mono (by omega)) (Nat.le_refl _) (Nat.le_refl _)) ((hS.belowS (hb0.mono hB)).belowS (h.mono (by omega))) hnS ((hX.belowV (hb0.mono hB)).belowV (h.mono (by omega))) hnV (Nat.le_trans hB (Nat.le_trans hb0.size h.size)) hO hw 2 2
  have hs := sh_ops (rt := rt) (sig := sig) (t := t) (by omega) hoc (fun h => by omega)
  rw [chk_ops (by omega) hs, hop]
  rw [hop] at hA e0
  have HA := hide hA
  have HE := hide e0
  have HB := hide hb0
  clear hT0 hT1 hA e0 hb0 hc0 hh hL hV hP h1 h2 hS hX hO hoc hs hop ih hs0 hw hB hnV hnS
  go_enter Tryd.func38, Tryd.ntmps38
  go_wp2_with fail
  rw [unhide HE]
  refine (unhide HA _ (Below.refl _ _)).mono ?_
  rintro e w1 ⟨rfl, hb1⟩
  have HB1 := hide hb1
  clear hb1
  unfold pairV
  go_wp2
  go_ret2
  exact ⟨rfl, (unhide HB).trans ((unhide HB1).mono (unhide HB).size)⟩
set_option maxRecDepth 100000 in
set_option maxHeartbeats 16000000 in
theorem ck_op5 (ih : ∀ d' < d, CkC rt sig d') (hT : IsT w B d v t) (hS : Row B aS nS cS 3 (SigR w B sig)) (hnS : nS = sig.length) (hX : Row B aV nV cV 2 (BR w x)) (hnV : nV = x.length) (hB : B ≤ w.heap.size) (hO : OkT (RtC rt) (d + 1) t) (hw : nV + t.wt ≤ 1000) (hop : t.op = 5) : Calls Tryd.prog 38 #[.slice aS nS cS, v, .slice aV nV cV] w (VPost (pairV (t.chk rt sig (envOf x))) w) := by
  have hT0 := hT
  obtain ⟨h1, h2, aL, aY, aP, cL, cY, cP, rfl, hL, hV, hP⟩ := hT
  simp only [tcells, List.toArray] at hT0 ⊢
  generalize t.vars.length = nY at *
  generalize t.pat.length = nP at *
  obtain ⟨nL, hnL⟩ : ∃ n, t.l.length = n := ⟨_, rfl⟩
  have hoc : opCount t.op.toNat = -1 ∨ opCount t.op.toNat = (t.l.length : Int) := .inl (by rw [hop]; rfl)
  rw [hnL] at hT0 hL ⊢
  obtain ⟨w0, e0, hb0, hs0, hc0, hh⟩ := box_new w #[.int .i64 t.op, .string t.name, .int .i64 t.sort, .string t.num, .slice aL nL cL, .slice aY nY cY, .slice aP nP cP] 26
  have hT1 := hT0.more (hb0.mono hB) (Nat.le_refl _) (Nat.le_refl _)
  have hA := fun (W : World) (h : Below w0.heap.size w0 W) => all_any ih (hT1.more (h.mono (by omega)) (Nat.le_refl _) (Nat.le_refl _)) ((hS.belowS (hb0.mono hB)).belowS (h.mono (by omega))) hnS ((hX.belowV (hb0.mono hB)).belowV (h.mono (by omega))) hnV (Nat.le_trans hB (Nat.le_trans hb0.size h.size)) hO hw 2 2
  have hs := sh_ops (rt := rt) (sig := sig) (t := t) (by omega) hoc (fun h => by omega)
  rw [chk_ops (by omega) hs, hop]
  rw [hop] at hA e0
  have HA := hide hA
  have HE := hide e0
  have HB := hide hb0
  clear hT0 hT1 hA e0 hb0 hc0 hh hL hV hP h1 h2 hS hX hO hoc hs hop ih hs0 hw hB hnV hnS
  go_enter Tryd.func38, Tryd.ntmps38
  go_wp2_with fail
  rw [unhide HE]
  refine (unhide HA _ (Below.refl _ _)).mono ?_
  rintro e w1 ⟨rfl, hb1⟩
  have HB1 := hide hb1
  clear hb1
  unfold pairV
  go_wp2
  go_ret2
  exact ⟨rfl, (unhide HB).trans ((unhide HB1).mono (unhide HB).size)⟩
set_option maxRecDepth 100000 in
set_option maxHeartbeats 16000000 in
theorem ck_op6 (ih : ∀ d' < d, CkC rt sig d') (hT : IsT w B d v t) (hS : Row B aS nS cS 3 (SigR w B sig)) (hnS : nS = sig.length) (hX : Row B aV nV cV 2 (BR w x)) (hnV : nV = x.length) (hB : B ≤ w.heap.size) (hO : OkT (RtC rt) (d + 1) t) (hw : nV + t.wt ≤ 1000) (hop : t.op = 6) : Calls Tryd.prog 38 #[.slice aS nS cS, v, .slice aV nV cV] w (VPost (pairV (t.chk rt sig (envOf x))) w) := by
  have hT0 := hT
  obtain ⟨h1, h2, aL, aY, aP, cL, cY, cP, rfl, hL, hV, hP⟩ := hT
  simp only [tcells, List.toArray] at hT0 ⊢
  generalize t.vars.length = nY at *
  generalize t.pat.length = nP at *
  obtain ⟨nL, hnL⟩ : ∃ n, t.l.length = n := ⟨_, rfl⟩
  have hoc : opCount t.op.toNat = -1 ∨ opCount t.op.toNat = (t.l.length : Int) := .inl (by rw [hop]; rfl)
  rw [hnL] at hT0 hL ⊢
  obtain ⟨w0, e0, hb0, hs0, hc0, hh⟩ := box_new w #[.int .i64 t.op, .string t.name, .int .i64 t.sort, .string t.num, .slice aL nL cL, .slice aY nY cY, .slice aP nP cP] 26
  have hT1 := hT0.more (hb0.mono hB) (Nat.le_refl _) (Nat.le_refl _)
  have hA := fun (W : World) (h : Below w0.heap.size w0 W) => all_any ih (hT1.more (h.mono (by omega)) (Nat.le_refl _) (Nat.le_refl _)) ((hS.belowS (hb0.mono hB)).belowS (h.mono (by omega))) hnS ((hX.belowV (hb0.mono hB)).belowV (h.mono (by omega))) hnV (Nat.le_trans hB (Nat.le_trans hb0.size h.size)) hO hw 2 2
  have hs := sh_ops (rt := rt) (sig := sig) (t := t) (by omega) hoc (fun h => by omega)
  rw [chk_ops (by omega) hs, hop]
  rw [hop] at hA e0
  have HA := hide hA
  have HE := hide e0
  have HB := hide hb0
  clear hT0 hT1 hA e0 hb0 hc0 hh hL hV hP h1 h2 hS hX hO hoc hs hop ih hs0 hw hB hnV hnS
  go_enter Tryd.func38, Tryd.ntmps38
  go_wp2_with fail
  rw [unhide HE]
  refine (unhide HA _ (Below.refl _ _)).mono ?_
  rintro e w1 ⟨rfl, hb1⟩
  have HB1 := hide hb1
  clear hb1
  unfold pairV
  go_wp2
  go_ret2
  exact ⟨rfl, (unhide HB).trans ((unhide HB1).mono (unhide HB).size)⟩
set_option maxRecDepth 100000 in
set_option maxHeartbeats 16000000 in
theorem ck_op7 (ih : ∀ d' < d, CkC rt sig d') (hT : IsT w B d v t) (hS : Row B aS nS cS 3 (SigR w B sig)) (hnS : nS = sig.length) (hX : Row B aV nV cV 2 (BR w x)) (hnV : nV = x.length) (hB : B ≤ w.heap.size) (hO : OkT (RtC rt) (d + 1) t) (hw : nV + t.wt ≤ 1000) (hop : t.op = 7) (hn : t.l.length = 2) : Calls Tryd.prog 38 #[.slice aS nS cS, v, .slice aV nV cV] w (VPost (pairV (t.chk rt sig (envOf x))) w) := by
  have hT0 := hT
  obtain ⟨h1, h2, aL, aY, aP, cL, cY, cP, rfl, hL, hV, hP⟩ := hT
  simp only [tcells, List.toArray] at hT0 ⊢
  generalize t.vars.length = nY at *
  generalize t.pat.length = nP at *
  have hoc : opCount t.op.toNat = -1 ∨ opCount t.op.toNat = (t.l.length : Int) := .inr (by rw [hop, hn]; rfl)
  rw [hn] at hT0 hL ⊢
  obtain ⟨w0, e0, hb0, hs0, hc0, hh⟩ := box_new w #[.int .i64 t.op, .string t.name, .int .i64 t.sort, .string t.num, .slice aL 2 cL, .slice aY nY cY, .slice aP nP cP] 26
  have hT1 := hT0.more (hb0.mono hB) (Nat.le_refl _) (Nat.le_refl _)
  have hA := fun (W : World) (h : Below w0.heap.size w0 W) => all_any ih (hT1.more (h.mono (by omega)) (Nat.le_refl _) (Nat.le_refl _)) ((hS.belowS (hb0.mono hB)).belowS (h.mono (by omega))) hnS ((hX.belowV (hb0.mono hB)).belowV (h.mono (by omega))) hnV (Nat.le_trans hB (Nat.le_trans hb0.size h.size)) hO hw 2 2
  have hs := sh_ops (rt := rt) (sig := sig) (t := t) (by omega) hoc (fun h => by omega)
  rw [chk_ops (by omega) hs, hop]
  rw [hop] at hA e0
  have HA := hide hA
  have HE := hide e0
  have HB := hide hb0
  clear hT0 hT1 hA e0 hb0 hc0 hh hL hV hP h1 h2 hS hX hO hoc hs hop ih hs0 hw hB hnV hnS
  go_enter Tryd.func38, Tryd.ntmps38
  go_wp2_with fail
  rw [unhide HE]
  refine (unhide HA _ (Below.refl _ _)).mono ?_
  rintro e w1 ⟨rfl, hb1⟩
  have HB1 := hide hb1
  clear hb1
  unfold pairV
  go_wp2
  go_ret2
  exact ⟨rfl, (unhide HB).trans ((unhide HB1).mono (unhide HB).size)⟩
set_option maxRecDepth 100000 in
set_option maxHeartbeats 16000000 in
theorem ck_op8 (ih : ∀ d' < d, CkC rt sig d') (hT : IsT w B d v t) (hS : Row B aS nS cS 3 (SigR w B sig)) (hnS : nS = sig.length) (hX : Row B aV nV cV 2 (BR w x)) (hnV : nV = x.length) (hB : B ≤ w.heap.size) (hO : OkT (RtC rt) (d + 1) t) (hw : nV + t.wt ≤ 1000) (hop : t.op = 8) (hn : t.l.length = 2) : Calls Tryd.prog 38 #[.slice aS nS cS, v, .slice aV nV cV] w (VPost (pairV (t.chk rt sig (envOf x))) w) := by
  have hT0 := hT
  obtain ⟨h1, h2, aL, aY, aP, cL, cY, cP, rfl, hL, hV, hP⟩ := hT
  simp only [tcells, List.toArray] at hT0 ⊢
  generalize t.vars.length = nY at *
  generalize t.pat.length = nP at *
  have hoc : opCount t.op.toNat = -1 ∨ opCount t.op.toNat = (t.l.length : Int) := .inr (by rw [hop, hn]; rfl)
  rw [hn] at hT0 hL ⊢
  obtain ⟨w0, e0, hb0, hs0, hc0, hh⟩ := box_new w #[.int .i64 t.op, .string t.name, .int .i64 t.sort, .string t.num, .slice aL 2 cL, .slice aY nY cY, .slice aP nP cP] 26
  have hT1 := hT0.more (hb0.mono hB) (Nat.le_refl _) (Nat.le_refl _)
  have hA := fun (W : World) (h : Below w0.heap.size w0 W) => all_any ih (hT1.more (h.mono (by omega)) (Nat.le_refl _) (Nat.le_refl _)) ((hS.belowS (hb0.mono hB)).belowS (h.mono (by omega))) hnS ((hX.belowV (hb0.mono hB)).belowV (h.mono (by omega))) hnV (Nat.le_trans hB (Nat.le_trans hb0.size h.size)) hO hw 2 2
  have hs := sh_ops (rt := rt) (sig := sig) (t := t) (by omega) hoc (fun h => by omega)
  rw [chk_ops (by omega) hs, hop]
  rw [hop] at hA e0
  have HA := hide hA
  have HE := hide e0
  have HB := hide hb0
  clear hT0 hT1 hA e0 hb0 hc0 hh hL hV hP h1 h2 hS hX hO hoc hs hop ih hs0 hw hB hnV hnS
  go_enter Tryd.func38, Tryd.ntmps38
  go_wp2_with fail
  rw [unhide HE]
  refine (unhide HA _ (Below.refl _ _)).mono ?_
  rintro e w1 ⟨rfl, hb1⟩
  have HB1 := hide hb1
  clear hb1
  unfold pairV
  go_wp2
  go_ret2
  exact ⟨rfl, (unhide HB).trans ((unhide HB1).mono (unhide HB).size)⟩
set_option maxRecDepth 100000 in
set_option maxHeartbeats 16000000 in
theorem ck_op10 (ih : ∀ d' < d, CkC rt sig d') (hT : IsT w B d v t) (hS : Row B aS nS cS 3 (SigR w B sig)) (hnS : nS = sig.length) (hX : Row B aV nV cV 2 (BR w x)) (hnV : nV = x.length) (hB : B ≤ w.heap.size) (hO : OkT (RtC rt) (d + 1) t) (hw : nV + t.wt ≤ 1000) (hop : t.op = 10) (hn : t.l.length = 2) : Calls Tryd.prog 38 #[.slice aS nS cS, v, .slice aV nV cV] w (VPost (pairV (t.chk rt sig (envOf x))) w) := by
  have hT0 := hT
  obtain ⟨h1, h2, aL, aY, aP, cL, cY, cP, rfl, hL, hV, hP⟩ := hT
  simp only [tcells, List.toArray] at hT0 ⊢
  generalize t.vars.length = nY at *
  generalize t.pat.length = nP at *
  have hoc : opCount t.op.toNat = -1 ∨ opCount t.op.toNat = (t.l.length : Int) := .inr (by rw [hop, hn]; rfl)
  rw [hn] at hT0 hL ⊢
  obtain ⟨w0, e0, hb0, hs0, hc0, hh⟩ := box_new w #[.int .i64 t.op, .string t.name, .int .i64 t.sort, .string t.num, .slice aL 2 cL, .slice aY nY cY, .slice aP nP cP] 26
  have hT1 := hT0.more (hb0.mono hB) (Nat.le_refl _) (Nat.le_refl _)
  have hA := fun (W : World) (h : Below w0.heap.size w0 W) => all_any ih (hT1.more (h.mono (by omega)) (Nat.le_refl _) (Nat.le_refl _)) ((hS.belowS (hb0.mono hB)).belowS (h.mono (by omega))) hnS ((hX.belowV (hb0.mono hB)).belowV (h.mono (by omega))) hnV (Nat.le_trans hB (Nat.le_trans hb0.size h.size)) hO hw 1 2
  have hs := sh_ops (rt := rt) (sig := sig) (t := t) (by omega) hoc (fun h => by omega)
  rw [chk_ops (by omega) hs, hop]
  rw [hop] at hA e0
  have HA := hide hA
  have HE := hide e0
  have HB := hide hb0
  clear hT0 hT1 hA e0 hb0 hc0 hh hL hV hP h1 h2 hS hX hO hoc hs hop ih hs0 hw hB hnV hnS
  go_enter Tryd.func38, Tryd.ntmps38
  go_wp2_with fail
  rw [unhide HE]
  refine (unhide HA _ (Below.refl _ _)).mono ?_
  rintro e w1 ⟨rfl, hb1⟩
  have HB1 := hide hb1
  clear hb1
  unfold pairV
  go_wp2
  go_ret2
  exact ⟨rfl, (unhide HB).trans ((unhide HB1).mono (unhide HB).size)⟩
set_option maxRecDepth 100000 in
set_option maxHeartbeats 16000000 in
theorem ck_op11 (ih : ∀ d' < d, CkC rt sig d') (hT : IsT w B d v t) (hS : Row B aS nS cS 3 (SigR w B sig)) (hnS : nS = sig.length) (hX : Row B aV nV cV 2 (BR w x)) (hnV : nV = x.length) (hB : B ≤ w.heap.size) (hO : OkT (RtC rt) (d + 1) t) (hw : nV + t.wt ≤ 1000) (hop : t.op = 11) (hn : t.l.length = 2) : Calls Tryd.prog 38 #[.slice aS nS cS, v, .slice aV nV cV] w (VPost (pairV (t.chk rt sig (envOf x))) w) := by
  have hT0 := hT
  obtain ⟨h1, h2, aL, aY, aP, cL, cY, cP, rfl, hL, hV, hP⟩ := hT
  simp only [tcells, List.toArray] at hT0 ⊢
  generalize t.vars.length = nY at *
  generalize t.pat.length = nP at *
  have hoc : opCount t.op.toNat = -1 ∨ opCount t.op.toNat = (t.l.length : Int) := .inr (by rw [hop, hn]; rfl)
  rw [hn] at hT0 hL ⊢
  obtain ⟨w0, e0, hb0, hs0, hc0, hh⟩ := box_new w #[.int .i64 t.op, .string t.name, .int .i64 t.sort, .string t.num, .slice aL 2 cL, .slice aY nY cY, .slice aP nP cP] 26
  have hT1 := hT0.more (hb0.mono hB) (Nat.le_refl _) (Nat.le_refl _)
  have hA := fun (W : World) (h : Below w0.heap.size w0 W) => all_any ih (hT1.more (h.mono (by omega)) (Nat.le_refl _) (Nat.le_refl _)) ((hS.belowS (hb0.mono hB)).belowS (h.mono (by omega))) hnS ((hX.belowV (hb0.mono hB)).belowV (h.mono (by omega))) hnV (Nat.le_trans hB (Nat.le_trans hb0.size h.size)) hO hw 1 2
  have hs := sh_ops (rt := rt) (sig := sig) (t := t) (by omega) hoc (fun h => by omega)
  rw [chk_ops (by omega) hs, hop]
  rw [hop] at hA e0
  have HA := hide hA
  have HE := hide e0
  have HB := hide hb0
  clear hT0 hT1 hA e0 hb0 hc0 hh hL hV hP h1 h2 hS hX hO hoc hs hop ih hs0 hw hB hnV hnS
  go_enter Tryd.func38, Tryd.ntmps38
  go_wp2_with fail
  rw [unhide HE]
  refine (unhide HA _ (Below.refl _ _)).mono ?_
  rintro e w1 ⟨rfl, hb1⟩
  have HB1 := hide hb1
  clear hb1
  unfold pairV
  go_wp2
  go_ret2
  exact ⟨rfl, (unhide HB).trans ((unhide HB1).mono (unhide HB).size)⟩
set_option maxRecDepth 100000 in
set_option maxHeartbeats 16000000 in
theorem ck_op12 (ih : ∀ d' < d, CkC rt sig d') (hT : IsT w B d v t) (hS : Row B aS nS cS 3 (SigR w B sig)) (hnS : nS = sig.length) (hX : Row B aV nV cV 2 (BR w x)) (hnV : nV = x.length) (hB : B ≤ w.heap.size) (hO : OkT (RtC rt) (d + 1) t) (hw : nV + t.wt ≤ 1000) (hop : t.op = 12) : Calls Tryd.prog 38 #[.slice aS nS cS, v, .slice aV nV cV] w (VPost (pairV (t.chk rt sig (envOf x))) w) := by
  have hT0 := hT
  obtain ⟨h1, h2, aL, aY, aP, cL, cY, cP, rfl, hL, hV, hP⟩ := hT
  simp only [tcells, List.toArray] at hT0 ⊢
  generalize t.vars.length = nY at *
  generalize t.pat.length = nP at *
  obtain ⟨nL, hnL⟩ : ∃ n, t.l.length = n := ⟨_, rfl⟩
  have hoc : opCount t.op.toNat = -1 ∨ opCount t.op.toNat = (t.l.length : Int) := .inl (by rw [hop]; rfl)
  rw [hnL] at hT0 hL ⊢
  obtain ⟨w0, e0, hb0, hs0, hc0, hh⟩ := box_new w #[.int .i64 t.op, .string t.name, .int .i64 t.sort, .string t.num, .slice aL nL cL, .slice aY nY cY, .slice aP nP cP] 26
  have hT1 := hT0.more (hb0.mono hB) (Nat.le_refl _) (Nat.le_refl _)
  have hA := fun (W : World) (h : Below w0.heap.size w0 W) => all_any ih (hT1.more (h.mono (by omega)) (Nat.le_refl _) (Nat.le_refl _)) ((hS.belowS (hb0.mono hB)).belowS (h.mono (by omega))) hnS ((hX.belowV (hb0.mono hB)).belowV (h.mono (by omega))) hnV (Nat.le_trans hB (Nat.le_trans hb0.size h.size)) hO hw 1 1
  have hs := sh_ops (rt := rt) (sig := sig) (t := t) (by omega) hoc (fun h => by omega)
  rw [chk_ops (by omega) hs, hop]
  rw [hop] at hA e0
  have HA := hide hA
  have HE := hide e0
  have HB := hide hb0
  clear hT0 hT1 hA e0 hb0 hc0 hh hL hV hP h1 h2 hS hX hO hoc hs hop ih hs0 hw hB hnV hnS
  go_enter Tryd.func38, Tryd.ntmps38
  go_wp2_with fail
  rw [unhide HE]
  refine (unhide HA _ (Below.refl _ _)).mono ?_
  rintro e w1 ⟨rfl, hb1⟩
  have HB1 := hide hb1
  clear hb1
  unfold pairV
  go_wp2
  go_ret2
  exact ⟨rfl, (unhide HB).trans ((unhide HB1).mono (unhide HB).size)⟩
set_option maxRecDepth 100000 in
set_option maxHeartbeats 16000000 in
theorem ck_op13 (ih : ∀ d' < d, CkC rt sig d') (hT : IsT w B d v t) (hS : Row B aS nS cS 3 (SigR w B sig)) (hnS : nS = sig.length) (hX : Row B aV nV cV 2 (BR w x)) (hnV : nV = x.length) (hB : B ≤ w.heap.size) (hO : OkT (RtC rt) (d + 1) t) (hw : nV + t.wt ≤ 1000) (hop : t.op = 13) (hn : t.l.length = 2) : Calls Tryd.prog 38 #[.slice aS nS cS, v, .slice aV nV cV] w (VPost (pairV (t.chk rt sig (envOf x))) w) := by
  have hT0 := hT
  obtain ⟨h1, h2, aL, aY, aP, cL, cY, cP, rfl, hL, hV, hP⟩ := hT
  simp only [tcells, List.toArray] at hT0 ⊢
  generalize t.vars.length = nY at *
  generalize t.pat.length = nP at *
  have hoc : opCount t.op.toNat = -1 ∨ opCount t.op.toNat = (t.l.length : Int) := .inr (by rw [hop, hn]; rfl)
  rw [hn] at hT0 hL ⊢
  obtain ⟨w0, e0, hb0, hs0, hc0, hh⟩ := box_new w #[.int .i64 t.op, .string t.name, .int .i64 t.sort, .string t.num, .slice aL 2 cL, .slice aY nY cY, .slice aP nP cP] 26
  have hT1 := hT0.more (hb0.mono hB) (Nat.le_refl _) (Nat.le_refl _)
  have hA := fun (W : World) (h : Below w0.heap.size w0 W) => all_any ih (hT1.more (h.mono (by omega)) (Nat.le_refl _) (Nat.le_refl _)) ((hS.belowS (hb0.mono hB)).belowS (h.mono (by omega))) hnS ((hX.belowV (hb0.mono hB)).belowV (h.mono (by omega))) hnV (Nat.le_trans hB (Nat.le_trans hb0.size h.size)) hO hw 1 1
  have hs := sh_ops (rt := rt) (sig := sig) (t := t) (by omega) hoc (fun h => by omega)
  rw [chk_ops (by omega) hs, hop]
  rw [hop] at hA e0
  have HA := hide hA
  have HE := hide e0
  have HB := hide hb0
  clear hT0 hT1 hA e0 hb0 hc0 hh hL hV hP h1 h2 hS hX hO hoc hs hop ih hs0 hw hB hnV hnS
  go_enter Tryd.func38, Tryd.ntmps38
  go_wp2_with fail
  rw [unhide HE]
  refine (unhide HA _ (Below.refl _ _)).mono ?_
  rintro e w1 ⟨rfl, hb1⟩
  have HB1 := hide hb1
  clear hb1
  unfold pairV
  go_wp2
  go_ret2
  exact ⟨rfl, (unhide HB).trans ((unhide HB1).mono (unhide HB).size)⟩
set_option maxRecDepth 100000 in
set_option maxHeartbeats 16000000 in
theorem ck_op14 (ih : ∀ d' < d, CkC rt sig d') (hT : IsT w B d v t) (hS : Row B aS nS cS 3 (SigR w B sig)) (hnS : nS = sig.length) (hX : Row B aV nV cV 2 (BR w x)) (hnV : nV = x.length) (hB : B ≤ w.heap.size) (hO : OkT (RtC rt) (d + 1) t) (hw : nV + t.wt ≤ 1000) (hop : t.op = 14) (hn : t.l.length = 1) : Calls Tryd.prog 38 #[.slice aS nS cS, v, .slice aV nV cV] w (VPost (pairV (t.chk rt sig (envOf x))) w) := by
  have hT0 := hT
  obtain ⟨h1, h2, aL, aY, aP, cL, cY, cP, rfl, hL, hV, hP⟩ := hT
  simp only [tcells, List.toArray] at hT0 ⊢
  generalize t.vars.length = nY at *
  generalize t.pat.length = nP at *
  have hoc : opCount t.op.toNat = -1 ∨ opCount t.op.toNat = (t.l.length : Int) := .inr (by rw [hop, hn]; rfl)
  rw [hn] at hT0 hL ⊢
  obtain ⟨w0, e0, hb0, hs0, hc0, hh⟩ := box_new w #[.int .i64 t.op, .string t.name, .int .i64 t.sort, .string t.num, .slice aL 1 cL, .slice aY nY cY, .slice aP nP cP] 26
  have hT1 := hT0.more (hb0.mono hB) (Nat.le_refl _) (Nat.le_refl _)
  have hA := fun (W : World) (h : Below w0.heap.size w0 W) => all_any ih (hT1.more (h.mono (by omega)) (Nat.le_refl _) (Nat.le_refl _)) ((hS.belowS (hb0.mono hB)).belowS (h.mono (by omega))) hnS ((hX.belowV (hb0.mono hB)).belowV (h.mono (by omega))) hnV (Nat.le_trans hB (Nat.le_trans hb0.size h.size)) hO hw 1 1
  have hs := sh_ops (rt := rt) (sig := sig) (t := t) (by omega) hoc (fun h => by omega)
  rw [chk_ops (by omega) hs, hop]
  rw [hop] at hA e0
  have HA := hide hA
  have HE := hide e0
  have HB := hide hb0
  clear hT0 hT1 hA e0 hb0 hc0 hh hL hV hP h1 h2 hS hX hO hoc hs hop ih hs0 hw hB hnV hnS
  go_enter Tryd.func38, Tryd.ntmps38
  go_wp2_with fail
  rw [unhide HE]
  refine (unhide HA _ (Below.refl _ _)).mono ?_
  rintro e w1 ⟨rfl, hb1⟩
  have HB1 := hide hb1
  clear hb1
  unfold pairV
  go_wp2
  go_ret2
  exact ⟨rfl, (unhide HB).trans ((unhide HB1).mono (unhide HB).size)⟩
set_option maxRecDepth 100000 in
set_option maxHeartbeats 16000000 in
theorem ck_op15 (ih : ∀ d' < d, CkC rt sig d') (hT : IsT w B d v t) (hS : Row B aS nS cS 3 (SigR w B sig)) (hnS : nS = sig.length) (hX : Row B aV nV cV 2 (BR w x)) (hnV : nV = x.length) (hB : B ≤ w.heap.size) (hO : OkT (RtC rt) (d + 1) t) (hw : nV + t.wt ≤ 1000) (hop : t.op = 15) (hn : t.l.length = 2) : Calls Tryd.prog 38 #[.slice aS nS cS, v, .slice aV nV cV] w (VPost (pairV (t.chk rt sig (envOf x))) w) := by
  obtain ⟨u, l', hul⟩ : ∃ u l', t.l = u :: l' := by
    cases h : t.l with
    | nil => rw [h] at hn; cases hn
    | cons u l' => exact ⟨u, l', rfl⟩
  have hho : headOp t.l = u.op := by rw [hul]; rfl
  have hT0 := hT
  obtain ⟨h1, h2, aL, aY, aP, cL, cY, cP, rfl, hL, hV, hP⟩ := hT
  simp only [tcells, List.toArray] at hT0 ⊢
  generalize t.vars.length = nY at *
  generalize t.pat.length = nP at *
  have hoc : opCount t.op.toNat = -1 ∨ opCount t.op.toNat = (t.l.length : Int) := .inr (by rw [hop, hn]; rfl)
  rw [hn] at hT0 hL ⊢
  obtain ⟨w0, e0, hb0, hs0, hc0, hh⟩ := box_new w #[.int .i64 t.op, .string t.name, .int .i64 t.sort, .string t.num, .slice aL 2 cL, .slice aY nY cY, .slice aP nP cP] 26
  have hT1 := hT0.more (hb0.mono hB) (Nat.le_refl _) (Nat.le_refl _)
  have hA := fun (W : World) (h : Below w0.heap.size w0 W) => all_any ih (hT1.more (h.mono (by omega)) (Nat.le_refl _) (Nat.le_refl _)) ((hS.belowS (hb0.mono hB)).belowS (h.mono (by omega))) hnS ((hX.belowV (hb0.mono hB)).belowV (h.mono (by omega))) hnV (Nat.le_trans hB (Nat.le_trans hb0.size h.size)) hO hw 1 1
  obtain ⟨b, off, rfl, hbB, hAt⟩ := (hL.below (hb0.mono hB)).at hn.symm (show 0 < 2 by omega)
  obtain ⟨d', bL, bV, bP, mL, mV, mP, kL, kV, kP, rfl, ⟨c0, c1, c2, c3, c4, c5, c6⟩, hT2⟩ := hAt.cells
  have hue : t.l[0] = u := by simp [hul]
  rw [hue] at c0
  rw [show off + 0 * 7 = off by omega] at c0
  rw [← e0, hop] at c0
  by_cases h1' : u.op = 1
  · have hs := sh_ops (rt := rt) (sig := sig) (t := t) (by omega) hoc (fun _ => by rw [hho, h1'])
    rw [chk_ops (by omega) hs, hop]
    rw [hop] at hA e0
    have HA := hide hA
    have HE := hide e0
    have HB := hide hb0
    have g1 : (u.op != 1) = false := by simp [h1']
    clear hT0 hT1 hA e0 hb0 hc0 hh hL hV hP h1 h2 hS hX hO hoc hs hop ih hn hul hho hT2 hAt c1 c2 c3 c4 c5 c6 hue h1' hs0 hw hB hnV hnS
    go_enter Tryd.func38, Tryd.ntmps38
    go_wp2_with fail
    rw [unhide HE]
    refine (unhide HA _ (Below.refl _ _)).mono ?_
    rintro e w1 ⟨rfl, hb1⟩
    have HB1 := hide hb1
    clear hb1
    unfold pairV
    go_wp2
    go_ret2
    exact ⟨rfl, (unhide HB).trans ((unhide HB1).mono (unhide HB).size)⟩
  · have hs := sh_mul (rt := rt) (sig := sig) (t := t) hop (by rw [hho]; exact h1')
    rw [chk_wrong hs (by decide), hop]
    rw [hop] at e0
    have HE := hide e0
    have HB := hide hb0
    have g1 : (u.op != 1) = true := by simp [h1']
    clear hT0 hT1 hA e0 hb0 hc0 hh hL hV hP h1 h2 hS hX hO hoc hs hop ih hn hul hho hT2 hAt c1 c2 c3 c4 c5 c6 hue h1' hs0 hw hB hnV hnS
    go_enter Tryd.func38, Tryd.ntmps38
    go_wp2
    go_ret2
    refine ⟨rfl, ?_⟩
    rw [unhide HE]
    exact unhide HB
end
end Go.Proofs.YtdkenobgfgmepaaDoor
