/- A region whose operations come in chains, each of which owns blocks of its own: whatever order is picked. -/
import Derived.Test.YtegmckpcchhmdaaDoorRows
import Derived.Test.YtegmckpcchhmdaaDoorZAS
import Derived.Lib.LaidTab
import Derived.MakeChecks
import Derived.ChangeArms
import Derived.FnData
import Derived.Test.YtegmckpcchhmdaaDoorZAR
import Derived.Test.YtegmckpcchhmdaaDoorZAA
import Derived.Laws.RangeAny
import Derived.Test.YtegmckpcchhmdaaDoorZAE
set_option linter.unusedVariables false
set_option linter.unusedSimpArgs false

/- The table of rules, as the rows read it. -/
namespace Go.Proofs.YtegmckpcchhmdaaDoor
open Go Go.RowKit
theorem ru_g : Tryd.prog.globalNamed "avow/term.rules" = some 0 := by kernel_rfl
theorem ru_gt : (Tryd.prog.globals[0]?).map (·.type) = some 158 := by kernel_rfl
theorem ru_arr : Tryd.prog.underlying 158 = some (.array 17 157) := by kernel_rfl
theorem ru_ca : Tryd.prog.cellsOf 158 = 68 := by kernel_rfl
theorem ru_ce : Tryd.prog.cellsOf 157 = 4 := by kernel_rfl
theorem ru_cs : Tryd.prog.cellsOf 9 = 1 := by kernel_rfl
theorem ru_ci : Tryd.prog.cellsOf 3 = 1 := by kernel_rfl
theorem ru_str : Tryd.prog.underlying 9 = some .string := by kernel_rfl
theorem ru_int : Tryd.prog.underlying 3 = some (.int .i64) := by kernel_rfl
theorem ru_fs : ((Tryd.prog.underlying 157).map fun d => match d with | .struct fs => fs.toList.map (fun f => (f.type, f.offset)) | _ => []) = some [(9, 0), (3, 1), (3, 2), (3, 3)] := by kernel_rfl
set_option maxRecDepth 100000 in
theorem ru_un : ∃ f0 f1 f2 f3 : Field, Tryd.prog.underlying 157 = some (.struct #[f0, f1, f2, f3]) ∧ f0.type = 9 ∧ f0.offset = 0 ∧ f1.type = 3 ∧ f1.offset = 1 ∧ f2.type = 3 ∧ f2.offset = 2 ∧ f3.type = 3 ∧ f3.offset = 3 := by
  obtain ⟨fs, hfs⟩ : ∃ fs, Tryd.prog.underlying 157 = some (.struct fs) := struct_of (by kernel_rfl)
  have h := ru_fs
  rw [hfs] at h
  simp only [Option.map_some, Option.some.injEq] at h
  obtain ⟨l, rfl⟩ : ∃ l : List Field, fs = l.toArray := ⟨fs.toList, by simp⟩
  match l, h with
  | [f0, f1, f2, f3], h =>
    simp at h
    obtain ⟨⟨a1, a2⟩, ⟨b1, b2⟩, ⟨c1, c2⟩, d1, d2⟩ := h
    exact ⟨f0, f1, f2, f3, hfs, a1, a2, b1, b2, c1, c2, d1, d2⟩
/-- One rule's cells. -/
theorem rule_cells {H : Type} {enc : TypeId × Value → H} {w : World} {base : Nat} {sp : Nat → Bool} {held : Bool} {fuel : Nat} {cs : List Value} {s : List UInt8} {a b c : Int} {p : List MemPlace} (h : DataW.trod enc Tryd.prog w base sp held fuel 157 cs = some (.agg [.lit (.string s), .lit (.int .i64 a), .lit (.int .i64 b), .lit (.int .i64 c)], p)) :
    cs[0]? = some (.string ⟨s.toArray⟩) ∧ cs[1]? = some (.int .i64 a) ∧ cs[2]? = some (.int .i64 b) ∧ cs[3]? = some (.int .i64 c) := by
  obtain ⟨f0, f1, f2, f3, hu, t0, o0, t1, o1, t2, o2, t3, o3⟩ := ru_un
  obtain ⟨xs, n, _, hx, hl, hlen, hf⟩ := DataW.trod_struct hu h
  match xs, hlen with
  | [y0, y1, y2, y3], _ =>
    have k0 := hf 0 f0 rfl
    have k1 := hf 1 f1 rfl
    have k2 := hf 2 f2 rfl
    have k3 := hf 3 f3 rfl
    rw [t0, o0, ru_cs] at k0
    rw [t1, o1, ru_ci] at k1
    rw [t2, o2, ru_ci] at k2
    rw [t3, o3, ru_ci] at k3
    obtain ⟨s', c0, e0, _⟩ := DataW.trod_string ru_str k0
    obtain ⟨n1, c1, e1, _⟩ := DataW.trod_int ru_int k1
    obtain ⟨n2, c2, e2, _⟩ := DataW.trod_int ru_int k2
    obtain ⟨n3, c3, e3, _⟩ := DataW.trod_int ru_int k3
    subst e0 e1 e2 e3
    simp only [Prod.mk.injEq, DataW.agg.injEq, List.map_cons, List.map_nil, List.cons.injEq, DataW.lit.injEq, Lit.string.injEq, Lit.int.injEq, true_and, and_true] at hx
    obtain ⟨⟨rfl, rfl, rfl, rfl⟩, _⟩ := hx
    have g : ∀ (o : Nat) (v : Value), (cs.drop o).take 1 = [v] → cs[o]? = some v := fun o v hv => by
      have := congrArg (·[0]?) hv
      simpa [List.getElem?_take, List.getElem?_drop] using this
    exact ⟨g 0 _ c0, g 1 _ c1, g 2 _ c2, g 3 _ c3⟩
theorem rules_at (n : Nat) (h1 : 4 ≤ n) (h2 : n ≤ 16) (ps : List (DataW Unit)) (h : (Rows.laid_avow_term_rules : DataW Unit) = .agg ps) : ps[n]? = some (.agg [.lit (.string (opWord n)), .lit (.int .i64 (opCount n)), .lit (.int .i64 (opEach n)), .lit (.int .i64 (opOwn n))]) := by
  unfold Rows.laid_avow_term_rules at h
  injection h with h
  subst h
  rcases (by omega : n = 4 ∨ n = 5 ∨ n = 6 ∨ n = 7 ∨ n = 8 ∨ n = 9 ∨ n = 10 ∨ n = 11 ∨ n = 12 ∨ n = 13 ∨ n = 14 ∨ n = 15 ∨ n = 16) with rfl | rfl | rfl | rfl | rfl | rfl | rfl | rfl | rfl | rfl | rfl | rfl | rfl <;> rfl
theorem rules_met {W : World} (h : laidMetH Tryd.prog [("avow/term.rules", Rows.laid_avow_term_rules)] W) : RL W := by
  have h : laidMet Tryd.prog [("avow/term.rules", Rows.laid_avow_term_rules)] W := h
  obtain ⟨_, ⟨g', t', cs, fuel, p, q, hg', ht', hvar, hd, _, _⟩, _⟩ := h
  obtain rfl := Option.some.inj (ru_g.symm.trans hg')
  obtain rfl := Option.some.inj (ru_gt.symm.trans ht')
  obtain ⟨ps, hps⟩ : ∃ ps, (Rows.laid_avow_term_rules : DataW Unit) = .agg ps := ⟨_, rfl⟩
  cases fuel with
  | zero => simp [DataW.trod] at hd
  | succ fuel =>
    simp only [DataW.trod, ru_arr, ru_ce, ru_ca] at hd
    split at hd
    · rename_i hl
      obtain ⟨xs, hm, hx⟩ := Option.map_eq_some_iff.1 hd
      have hxs : xs.map (·.1) = ps := by
        have := congrArg Prod.fst hx
        rw [hps] at this
        simpa using this
      intro n h1 h2
      obtain ⟨b, hb, hf⟩ := Lib.mapM_at hm n n (by rw [List.getElem?_range (by omega)])
      have hbn : b.1 = .agg [.lit (.string (opWord n)), .lit (.int .i64 (opCount n)), .lit (.int .i64 (opEach n)), .lit (.int .i64 (opOwn n))] := by
        have h3 := rules_at n h1 h2 ps hps
        rw [← hxs, List.getElem?_map, hb] at h3
        exact Option.some.inj h3
      obtain ⟨b1, b2⟩ := b
      simp only at hbn
      subst hbn
      obtain ⟨c0, c1, c2, c3⟩ := rule_cells hf
      have cell : ∀ (k : Nat) (v : Value), k < 4 → ((cs.toList.drop (n * 4)).take 4)[k]? = some v → W.cell? ⟨0, n * 4 + k, none⟩ = some v := fun k v hk hv => by
        rw [World.var?_cell ru_g hvar (n * 4 + k)]
        rw [List.getElem?_take, if_pos hk, List.getElem?_drop, Array.getElem?_toList] at hv
        exact hv
      exact ⟨cell 0 _ (by omega) c0, cell 1 _ (by omega) c1, cell 2 _ (by omega) c2, cell 3 _ (by omega) c3⟩
    · cases hd
end Go.Proofs.YtegmckpcchhmdaaDoor

/- The document's names and binds. -/
namespace Go.Proofs.YtegmckpcchhmdaaDoor
open Go Go.RowKit
theorem Row.atV {w : World} {B n cap : Nat} {a : Option Addr} {x : List (ByteArray × Int)} (h : Row B a n cap 2 (BR w x)) (hn : n = x.length) {i : Nat} (hi : i < n) :
    ∃ b off, a = some ⟨b, off, none⟩ ∧ b < B ∧ w.cell? ⟨b, off + i * 2, none⟩ = some (.string (x[i]'(by omega)).1) ∧ w.cell? ⟨b, off + i * 2 + 1, none⟩ = some (.int .i64 (x[i]'(by omega)).2) := by
  obtain ⟨b, off, e, hb, hj⟩ := h.2.2 (by omega)
  have := (hj i hi _ (List.getElem?_eq_getElem (by omega))).1
  exact ⟨b, off, e, hb, this 0 _ rfl, this 1 _ rfl⟩
theorem Row.belowV {w w' : World} {B n cap : Nat} {a : Option Addr} {x : List (ByteArray × Int)} (h : Row B a n cap 2 (BR w x)) (hw : Below B w w') : Row B a n cap 2 (BR w' x) :=
  h.mono (Nat.le_refl _) fun b o j hb h u hu => ⟨rangeAt_below (h u hu).1 hb hw, (h u hu).2⟩
end Go.Proofs.YtegmckpcchhmdaaDoor

/- The document's check of operands of one sort. -/
namespace Go.Proofs.YtegmckpcchhmdaaDoor
open Go Go.RowKit
theorem le_sum {x : Nat} : ∀ {l : List Nat}, x ∈ l → x ≤ l.sum
  | y :: l, h => by
    rw [List.sum_cons]
    rcases List.mem_cons.1 h with rfl | h
    · omega
    · have := le_sum h; omega
theorem wt_mem {t u : Tm} (h : u ∈ t.l) : u.wt < t.wt := by
  have h1 := le_sum (List.mem_map_of_mem (f := Tm.wt) h)
  rw [t.wt_eq]
  omega
theorem wt_memP {t u : Tm} (h : u ∈ t.pat) : u.wt < t.wt := by
  have h1 := le_sum (List.mem_map_of_mem (f := Tm.wt) h)
  rw [t.wt_eq]
  omega
end Go.Proofs.YtegmckpcchhmdaaDoor

/- The document's check: terms without operands, and wrong ones. -/
namespace Go.Proofs.YtegmckpcchhmdaaDoor
open Go Go.RowKit
def shE (rt : ByteArray → Bool) (sig : List Fn) (t : Tm) : Int := shapeE rt sig t.op t.name t.num t.l.length (headOp t.l) t.vars t.pat.length
section
variable {rt : ByteArray → Bool} {sig : List Fn} {t : Tm} {env : ByteArray → List Int}
end
section
variable {rt : ByteArray → Bool} {sig : List Fn} {d B nS cS nV cV : Nat} {aS aV : Option Addr} {v : Value} {t : Tm} {x : List (ByteArray × Int)} {w : World}
end
end Go.Proofs.YtegmckpcchhmdaaDoor

/- The document's check: operands of one sort. -/
namespace Go.Proofs.YtegmckpcchhmdaaDoor
open Go Go.RowKit
section
variable {rt : ByteArray → Bool} {sig : List Fn} {t : Tm} {env : ByteArray → List Int}
theorem sh_ops (h : 4 ≤ t.op ∧ t.op ≤ 16) (hn : opCount t.op.toNat = -1 ∨ opCount t.op.toNat = (t.l.length : Int)) (hh : t.op = 15 → headOp t.l = 1) : shE rt sig t = 0 := by
  have hb : shapeB rt t.op t.name t.num t.l.length (headOp t.l) t.vars t.pat.length = true := by
    unfold shapeB
    rw [if_neg (by omega), if_neg (by omega), if_pos h]
    unfold operandsB
    have h1 : (opCount t.op.toNat == -1 || opCount t.op.toNat == (t.l.length : Int)) = true := by
      rcases hn with h | h <;> simp [h]
    rw [h1]
    by_cases h15 : t.op = 15
    · simp [h15, hh h15]
    · simp [h15]
  unfold shE shapeE
  rw [if_neg (by omega), hb]
  rfl
end
section
variable {rt : ByteArray → Bool} {sig : List Fn} {d B nS cS nV cV : Nat} {aS aV : Option Addr} {v : Value} {t : Tm} {x : List (ByteArray × Int)} {w : World}
end
end Go.Proofs.YtegmckpcchhmdaaDoor

/- The document's check: equations, and choices. -/
namespace Go.Proofs.YtegmckpcchhmdaaDoor
open Go Go.RowKit
section
variable {rt : ByteArray → Bool} {sig : List Fn} {t u0 u1 u2 : Tm} {env : ByteArray → List Int}
theorem chk_eq (h : t.op = 9) (hl : t.l = [u0, u1]) : t.chk rt sig env = if (u0.chk rt sig env).2 ≠ 0 then (0, (u0.chk rt sig env).2) else if (u1.chk rt sig env).2 ≠ 0 then (0, (u1.chk rt sig env).2) else if (u0.chk rt sig env).1 = (u1.chk rt sig env).1 then (2, 0) else (0, 31) := by
  have hs := sh_ops (rt := rt) (sig := sig) (t := t) (by omega) (.inr (by rw [h, hl]; rfl)) (fun h => by omega)
  unfold shE at hs
  rw [Tm.chk_eq, hs, if_neg (by simp), if_neg (by omega), if_neg (by omega), hl, h]
  generalize hp0 : u0.chk rt sig env = p0
  generalize hp1 : u1.chk rt sig env = p1
  simp only [List.map_cons, List.map_nil, chkL, hp0, hp1]
  obtain ⟨s0, r0⟩ := p0
  obtain ⟨s1, r1⟩ := p1
  by_cases hr0 : r0 = 0
  · by_cases hr1 : r1 = 0
    · subst hr0 hr1
      simp [sortOfT, operatedT, opEach, opOwn]
      by_cases e : s0 = s1
      · simp [e]
      · have e2 : ¬ s1 = s0 := fun h => e h.symm
        simp [e, e2]
    · subst hr0
      simp [hr1]
  · simp [hr0]
end
section
variable {rt : ByteArray → Bool} {sig : List Fn} {d B nS cS nV cV : Nat} {aS aV : Option Addr} {v : Value} {t : Tm} {x : List (ByteArray × Int)} {w : World}
end
end Go.Proofs.YtegmckpcchhmdaaDoor

/- Slices put behind one another: elements of any number of cells. -/
namespace Go.Proofs.YtegmckpcchhmdaaDoor
open Go Go.RowKit
theorem own_nilK (w : World) (B k : Nat) (t : TypeId) : w.ownsRow B t k (.slice none 0 0) 0 [] := ⟨by simp, .inl ⟨rfl, rfl⟩⟩
theorem below_appK {w0 w w' : World} {B k : Nat} {v : Value} {t : TypeId} {n : Nat} {xs : List Value} (hb : Below B w0 w) (hg : w.grownBy w' v.ownBlock) (ho : w.ownsRow B t k v n xs) (hB : B ≤ w.heap.size) : Below B w0 w' := hb.grown hg hB (fun b e => (ho.lt b e).1)
/-- What a slice of one's own reads as. -/
theorem own_cells {w : World} {B k n : Nat} {v : Value} {t : TypeId} {xs : List Value} (h : w.ownsRow B t k v n xs) : ∃ a c, v = .slice a n c ∧ n ≤ c ∧ (n ≠ 0 → ∃ g, a = some ⟨g, 0, none⟩ ∧ B ≤ g ∧ g < w.heap.size ∧ ∀ (j : Nat) u, xs[j]? = some u → w.cell? ⟨g, j, none⟩ = some u) := by
  obtain ⟨hlen, ⟨rfl, h0⟩ | ⟨g, cap, cur, rfl, hg, hgb, hc1, hc2, hc3, hc4⟩⟩ := h
  · subst h0
    exact ⟨none, 0, rfl, Nat.le_refl _, fun h => absurd rfl h⟩
  · refine ⟨_, cap, rfl, hc1, fun _ => ⟨g, rfl, hg, (Array.getElem?_eq_some_iff.1 hgb).1, fun j u hu => ?_⟩⟩
    rw [← hc4, List.getElem?_take] at hu
    split at hu
    · exact (blk hgb).2.1 j u (by rw [← Array.getElem?_toList]; exact hu)
    · cases hu
theorem bcells_app (x y : List (ByteArray × Int)) : bcells (x ++ y) = bcells x ++ bcells y := by simp [bcells]
theorem row_own {w : World} {B n : Nat} {v : Value} {x : List (ByteArray × Int)} (h : w.ownsRow B 36 2 v n (bcells x)) (hn : n = x.length) (hf : ∀ u ∈ x, fits u.2) (hl : n ≤ 281474976710656) : ∃ a c, v = .slice a n c ∧ Row w.heap.size a n c 2 (BR w x) := by
  obtain ⟨a, c, rfl, hc, hr⟩ := own_cells h
  refine ⟨a, c, rfl, hc, hl, fun h0 => ?_⟩
  obtain ⟨g, rfl, _, hg, hj⟩ := hr h0
  refine ⟨g, 0, rfl, hg, fun j hjn u hu => ⟨fun k v hv => ?_, hf u (List.mem_of_getElem? hu)⟩⟩
  have hk2 : k < 2 := by
    have := (List.getElem?_eq_some_iff.1 hv).1
    simpa using this
  have := hj (j * 2 + k) v ((bcells_get x _ v).2 ⟨u, by rw [show (j * 2 + k) / 2 = j by omega]; exact hu, by
    rcases (by omega : k = 0 ∨ k = 1) with rfl | rfl
    · rw [if_pos (by omega)]
      simpa using hv
    · rw [if_neg (by omega)]
      simpa using hv⟩)
  rw [show 0 + j * 2 + k = j * 2 + k by omega]
  exact this
/-- An append whose run is known, at the list of a plain region's operations. -/
theorem app_run {ops : Array Oper} {rest : List Oper} {o : Oper} {a : Act} {Q : Exit → Act → World → Prop} {w w' : World} {v u v' : Value} (s x : Operand) (t : TypeId) (ho : o.op = .call { callee := .builtin .append, args := #[s, x], argTypes := #[t, t] }) (hs : a.eval s = v) (hx : a.eval x = u) (hw : Region.wanted o (yielded ops a.tmps) = true) (hr : (Builtin.append_ #[t, t] o.type #[v, u]).run Tryd.prog w = .ok v' w') (h : wpList Tryd.prog ops Q rest (a.put o.dst v') w') : wpList Tryd.prog ops Q (o :: rest) a w := by
  unfold wpList
  rw [if_pos hw]
  left
  unfold Oper.wp execOp
  simp only [ho, resolve, invoke, builtin, Sem.run_bind, Sem.run_pure, Result.andThen_ok, List.map_toArray, List.map_cons, List.map_nil, hs, hx, hr]
  exact h
end Go.Proofs.YtegmckpcchhmdaaDoor

/- The document's check: formulas for all. -/
namespace Go.Proofs.YtegmckpcchhmdaaDoor
open Go Go.RowKit
section
variable {rt : ByteArray → Bool} {sig : List Fn} {d B nS cS nV cV : Nat} {aS aV : Option Addr} {v : Value} {t u0 : Tm} {x : List (ByteArray × Int)} {w : World} {env : ByteArray → List Int}
theorem Row.upS {w : World} {B B' n cap : Nat} {a : Option Addr} {sig : List Fn} (h : Row B a n cap 3 (SigR w B sig)) (hB : B ≤ B') : Row B' a n cap 3 (SigR w B' sig) :=
  h.mono hB fun b o j _ h f hf => by
    obtain ⟨aA, cA, h1, h2, h3⟩ := h f hf
    exact ⟨aA, cA, h1, h2, h3.mono hB fun b o j _ h x hx => h x hx⟩
end
end Go.Proofs.YtegmckpcchhmdaaDoor

/- Sorts and errors; light terms; texts of numbers; signatures as the rows read them. -/
namespace Go.Proofs.YtegmckpcchhmdaaDoor
open Go Go.RowKit
/-- A light term is no deeper than it weighs. -/
theorem TmAt.lower {w : World} {B : Nat} : ∀ {m d b o : Nat} {t : Tm}, TmAt w B d b o t → t.wt ≤ m → TmAt w B m b o t
  | 0, _, _, _, t, _, h => absurd h (by have := wt_pos t; omega)
  | m + 1, 0, _, _, _, h, _ => h.elim
  | m + 1, d + 1, b, o, t, ⟨hb, h1, h2, aL, aV, aP, cL, cV, cP, hr, hL, hV, hP, hx⟩, hw =>
    ⟨hb, h1, h2, aL, aV, aP, cL, cV, cP, hr, hL.mono (Nat.le_refl _) fun b o j _ h u hu => (h u hu).lower (by have := wt_mem (List.mem_of_getElem? hu); omega), hV, hP.mono (Nat.le_refl _) fun b o j _ h u hu => (h u hu).lower (by have := wt_memP (List.mem_of_getElem? hu); omega), hx⟩
theorem IsT.lower {w : World} {B d m : Nat} {v : Value} {t : Tm} (h : IsT w B d v t) (hw : t.wt ≤ m) : IsT w B m v t := by
  obtain ⟨h1, h2, aL, aV, aP, cL, cV, cP, hr, hL, hV, hP⟩ := h
  exact ⟨h1, h2, aL, aV, aP, cL, cV, cP, hr, hL.mono (Nat.le_refl _) fun b o j _ h u hu => (h u hu).lower (by have := wt_mem (List.mem_of_getElem? hu); omega), hV, hP.mono (Nat.le_refl _) fun b o j _ h u hu => (h u hu).lower (by have := wt_memP (List.mem_of_getElem? hu); omega)⟩
theorem Row.lower {w : World} {B d m n c : Nat} {a : Option Addr} {l : List Tm} (h : Row B a n c 7 (fun b o j => ∀ u, l[j]? = some u → TmAt w B d b o u)) (hw : ∀ u ∈ l, u.wt ≤ m) : Row B a n c 7 (fun b o j => ∀ u, l[j]? = some u → TmAt w B m b o u) :=
  h.mono (Nat.le_refl _) fun b o j _ h u hu => (h u hu).lower (hw u (List.mem_of_getElem? hu))
theorem size_wt (t : Tm) : t.size ≤ t.wt ∧ t.depth ≤ t.wt := by
  refine Tm.ind (p := fun t => t.size ≤ t.wt ∧ t.depth ≤ t.wt) (fun t hl _ => ?_) t
  rw [t.size_eq, t.depth_eq, t.wt_eq]
  have h1 : ∀ l : List Tm, (∀ u ∈ l, u.size ≤ u.wt ∧ u.depth ≤ u.wt) → (l.map Tm.size).sum ≤ (l.map Tm.wt).sum ∧ maxOf (l.map Tm.depth) ≤ (l.map Tm.wt).sum := fun l => by
    refine snoc_ind (p := fun l => (∀ u ∈ l, u.size ≤ u.wt ∧ u.depth ≤ u.wt) → (l.map Tm.size).sum ≤ (l.map Tm.wt).sum ∧ maxOf (l.map Tm.depth) ≤ (l.map Tm.wt).sum) (fun _ => ⟨by simp, by simp [maxOf]⟩) (fun l a ih h => ?_) l
    have h1 := ih fun u hu => h u (by simp [hu])
    have h2 := h a (by simp)
    have e : maxOf ((l ++ [a]).map Tm.depth) = max (maxOf (l.map Tm.depth)) a.depth := by
      rw [List.map_append, maxOf, List.foldl_append]
      rfl
    rw [e, List.map_append, List.map_append, List.sum_append, List.sum_append]
    simp
    omega
  have := h1 t.l hl
  omega
end Go.Proofs.YtegmckpcchhmdaaDoor

/- A term as an argument: its cells. -/
namespace Go.Proofs.YtegmckpcchhmdaaDoor
open Go Go.RowKit Go.ChangeShapes Go.WideShapes Go.ChangeAt
set_option maxRecDepth 100000 in
theorem agg_of {H : Type} {enc : TypeId × Value → H} {W : World} {r : Reach} {base b2 n : Nat} {sp : Nat → Bool} {held : Bool} {v : Value} {x : DataW H × List MemPlace} (h : Value.okWide Tryd.prog W r base 25 v) (hd : DataW.trod enc Tryd.prog W b2 sp held n 25 v.cells.toList = some x) : ∃ l : List Value, v = .agg l.toArray ∧ l.length = 7 ∧ DataW.trod enc Tryd.prog W b2 sp held n 25 l = some x := by
  unfold Value.okWide at h
  rw [Tryd.underlying25] at h
  obtain ⟨cs, rfl, hc, _⟩ := h
  rw [cells_term] at hc
  exact ⟨cs.toList, rfl, by simpa using hc, hd⟩
end Go.Proofs.YtegmckpcchhmdaaDoor

/- The document's Same, of terms that are the same. -/
namespace Go.Proofs.YtegmckpcchhmdaaDoor
open Go Go.RowKit
theorem beq_toList {a b : ByteArray} (h : (a.toList == b.toList) = true) : a = b := by
  by_cases e : a = b
  · exact e
  · rw [str_ne e] at h
    cases h
theorem same_parts {a b : Tm} (h : a.same b = true) : a.op = b.op ∧ sameL a.l b.l = true ∧ (a.op = 1 → a.num = b.num) ∧ (a.op = 17 ∨ a.op = 18 → a.name = b.name) ∧ (a.op = 18 → a.sort = b.sort) ∧ (a.op = 19 → a.vars = b.vars ∧ sameL a.pat b.pat = true) := by
  rw [Tm.same_eq] at h
  simp only [Bool.and_eq_true] at h
  obtain ⟨h1, h2, h3⟩ := h
  unfold Tm.sameLab at h1
  simp only [Bool.and_eq_true, beq_iff_eq] at h1
  obtain ⟨ho, hn, hu, hs⟩ := h1
  refine ⟨ho, h3, fun h => ?_, fun h => ?_, fun h => ?_, fun h => ?_⟩
  · have := beq_toList (by simpa using hu)
    unfold Tm.nu at this
    rw [if_pos h, if_pos (ho ▸ h)] at this
    exact this
  · have := beq_toList (by simpa using hn)
    unfold Tm.nm at this
    rw [if_pos h, if_pos (ho ▸ h)] at this
    exact this
  · unfold Tm.so at hs
    rw [if_pos h, if_pos (ho ▸ h)] at hs
    exact hs
  · rw [h] at h2
    simpa using h2
theorem sameL_at : ∀ {l m : List Tm}, sameL l m = true → l.length = m.length ∧ ∀ j (h1 : j < l.length) (h2 : j < m.length), l[j].same m[j] = true := fun {l m} h => by
  have hl : l.length = m.length := by
    by_cases e : l.length = m.length
    · exact e
    · rw [sameL_len e] at h
      cases h
  refine ⟨hl, fun j h1 h2 => ?_⟩
  cases hs : l[j].same m[j] with
  | true => rfl
  | false => rw [sameL_no h1 h2 hs] at h; cases h
def SmC (d : Nat) : Prop := ∀ (B : Nat) (va vb : Value) (a b : Tm) (w : World), IsT w B d va a → IsT w B d vb b → B ≤ w.heap.size → a.same b = true → Calls Tryd.prog 8 #[va, vb] w (VPost (.bool true) w)
def SlC (d : Nat) : Prop := ∀ (B : Nat) (a a' : Option Addr) (n c c' : Nat) (l m : List Tm) (w : World), Row B a n c 7 (fun b o j => ∀ u, l[j]? = some u → TmAt w B d b o u) → Row B a' n c' 7 (fun b o j => ∀ u, m[j]? = some u → TmAt w B d b o u) → n = l.length → B ≤ w.heap.size → sameL l m = true → Calls Tryd.prog 25 #[.slice a n c, .slice a' n c'] w (VPost (.bool true) w)
set_option maxRecDepth 100000 in
set_option maxHeartbeats 16000000 in
theorem sl_of {d : Nat} (ih : ∀ d' < d, SmC d') : SlC d := by
  intro B a a' n c c' l m w hL hM hn hB hs
  obtain ⟨hlm, hat⟩ := sameL_at hs
  have hmax : n ≤ 281474976710656 := hL.2.1
  have HL := hide (And.intro hL (And.intro hM (And.intro hn (And.intro hB (And.intro hlm (And.intro hat ih))))))
  clear hL hM hn hB hs hlm hat ih
  go_enter Tryd.func25, Tryd.ntmps25
  go_wp2
  go_loopw [5] (fun iv wr => ∃ i : Nat, i ≤ n ∧ iv = .int .i64 i ∧ Below w.heap.size w wr) (fun iv _ => n - (intOf iv).toNat)
  case atStart => exact ⟨0, Nat.zero_le _, rfl, Below.refl _ _⟩
  case round =>
    obtain ⟨i, hi0, rfl, hb⟩ := hrel
    by_cases hi : i < n
    · obtain ⟨hL, hM, hn, hB, hlm, hat, ih⟩ := unhide HL
      have hil : i < l.length := by omega
      have him : i < m.length := by omega
      obtain ⟨b1, o1, rfl, hb1, hA1⟩ := (hL.below (hb.mono hB)).at hn hi
      obtain ⟨b2, o2, rfl, hb2, hA2⟩ := (hM.below (hb.mono hB)).at (by omega) hi
      obtain ⟨d', bL, bV, bP, mL, mV, mP, kL, kV, kP, rfl, ⟨c0, c1, c2, c3, c4, c5, c6⟩, hT⟩ := hA1.cells
      obtain ⟨d2, bL2, bV2, bP2, mL2, mV2, mP2, kL2, kV2, kP2, e2, ⟨g0, g1, g2, g3, g4, g5, g6⟩, hT2⟩ := hA2.cells
      obtain rfl : d' = d2 := by omega
      have hsm := hat i hil him
      have hw1 : b1 < wr.heap.size := by have := hb.size; omega
      have hw2 : b2 < wr.heap.size := by have := hb.size; omega
      generalize l[i] = u at *
      generalize m[i] = u' at *
      have HCa : Hid (∀ W, Below wr.heap.size wr W → Calls Tryd.prog 8 #[tval u bL bV bP mL mV mP kL kV kP, tval u' bL2 bV2 bP2 mL2 mV2 mP2 kL2 kV2 kP2] W (VPost (.bool true) W)) := fun W h => ih d' (by omega) B _ _ u u' W (hT.more (h.mono (Nat.le_trans hB hb.size)) (Nat.le_refl _) (Nat.le_refl _)) (hT2.more (h.mono (Nat.le_trans hB hb.size)) (Nat.le_refl _) (Nat.le_refl _)) (Nat.le_trans hB (Nat.le_trans hb.size h.size)) hsm
      have HSS : Hid (∀ w', Below wr.heap.size wr w' → (Below wr.heap.size wr w' ∧ Cells7 w' b1 (o1 + i * 7) u bL bV bP mL mV mP kL kV kP ∧ Cells7 w' b2 (o2 + i * 7) u' bL2 bV2 bP2 mL2 mV2 mP2 kL2 kV2 kP2)) := fun w' h => ⟨h, ⟨(h.cell (p := ⟨b1, o1 + i * 7, none⟩) hw1).trans c0, (h.cell (p := ⟨b1, o1 + i * 7 + 1, none⟩) hw1).trans c1, (h.cell (p := ⟨b1, o1 + i * 7 + 2, none⟩) hw1).trans c2, (h.cell (p := ⟨b1, o1 + i * 7 + 3, none⟩) hw1).trans c3, (h.cell (p := ⟨b1, o1 + i * 7 + 4, none⟩) hw1).trans c4, (h.cell (p := ⟨b1, o1 + i * 7 + 5, none⟩) hw1).trans c5, (h.cell (p := ⟨b1, o1 + i * 7 + 6, none⟩) hw1).trans c6⟩, ⟨(h.cell (p := ⟨b2, o2 + i * 7, none⟩) hw2).trans g0, (h.cell (p := ⟨b2, o2 + i * 7 + 1, none⟩) hw2).trans g1, (h.cell (p := ⟨b2, o2 + i * 7 + 2, none⟩) hw2).trans g2, (h.cell (p := ⟨b2, o2 + i * 7 + 3, none⟩) hw2).trans g3, (h.cell (p := ⟨b2, o2 + i * 7 + 4, none⟩) hw2).trans g4, (h.cell (p := ⟨b2, o2 + i * 7 + 5, none⟩) hw2).trans g5, (h.cell (p := ⟨b2, o2 + i * 7 + 6, none⟩) hw2).trans g6⟩⟩
      unfold Cells7 at HSS
      unfold tval at HCa
      have HB := hide hb
      have hi2 : (i : Int) < (n : Int) := by omega
      clear hL hM hn hB hlm hat ih hA1 hA2 hT hT2 hb hil him hsm hb1 hb2 hw1 hw2 e2
      go_wp2
      go_region_held3 (fun w' => Below wr.heap.size wr w' ∧ (w'.cell? ⟨b1, o1 + i * 7, none⟩ = some (.int .i64 u.op) ∧ w'.cell? ⟨b1, o1 + i * 7 + 1, none⟩ = some (.string u.name) ∧ w'.cell? ⟨b1, o1 + i * 7 + 2, none⟩ = some (.int .i64 u.sort) ∧ w'.cell? ⟨b1, o1 + i * 7 + 3, none⟩ = some (.string u.num) ∧ w'.cell? ⟨b1, o1 + i * 7 + 4, none⟩ = some (.slice bL mL kL) ∧ w'.cell? ⟨b1, o1 + i * 7 + 5, none⟩ = some (.slice bV mV kV) ∧ w'.cell? ⟨b1, o1 + i * 7 + 6, none⟩ = some (.slice bP mP kP)) ∧ w'.cell? ⟨b2, o2 + i * 7, none⟩ = some (.int .i64 u'.op) ∧ w'.cell? ⟨b2, o2 + i * 7 + 1, none⟩ = some (.string u'.name) ∧ w'.cell? ⟨b2, o2 + i * 7 + 2, none⟩ = some (.int .i64 u'.sort) ∧ w'.cell? ⟨b2, o2 + i * 7 + 3, none⟩ = some (.string u'.num) ∧ w'.cell? ⟨b2, o2 + i * 7 + 4, none⟩ = some (.slice bL2 mL2 kL2) ∧ w'.cell? ⟨b2, o2 + i * 7 + 5, none⟩ = some (.slice bV2 mV2 kV2) ∧ w'.cell? ⟨b2, o2 + i * 7 + 6, none⟩ = some (.slice bP2 mP2 kP2)) (first | assumption | exact unhide HSS _ hT1 | exact unhide HSS _ (by assumption) | exact unhide HSS _ (keep0 _)) (first
        | (go_at_call 8; refine (unhide HCa _ (by assumption)).mono ?_; rintro e v1 ⟨rfl, hv1⟩; have hT1 : Below wr.heap.size wr v1 := keepC (by assumption) hv1)
        | (go_at_call 8; refine (unhide HCa _ (keep0 _)).mono ?_; rintro e v1 ⟨rfl, hv1⟩; have hT1 : Below wr.heap.size wr v1 := (keep0 _).trans (hv1.mono (keep0 _).size)))
      all_goals
        have HT1 := hide hT1
        clear hT1
        go_wp2
        exact ⟨⟨i + 1, by omega, by simp, (unhide HB).trans ((unhide HT1).mono (unhide HB).size)⟩, by simp [intOf]; omega⟩
    · have HB := hide hb
      clear hb
      go_wp2
      go_ret
      exact ⟨rfl, unhide HB⟩
end Go.Proofs.YtegmckpcchhmdaaDoor

/- The document's Same, of terms that are the same (the terms). -/
namespace Go.Proofs.YtegmckpcchhmdaaDoor
open Go Go.RowKit
set_option maxRecDepth 100000 in
set_option maxHeartbeats 16000000 in
theorem neq_bound (s : ByteArray) (z : Int) (w : World) : (binOp .neq 36 (.agg #[.string s, .int .i64 z]) (.agg #[.string s, .int .i64 z])).run Tryd.prog w = .ok (.bool false) w := by
  go_simp
set_option maxRecDepth 100000 in
theorem eg_bound (x y : Operand) (s : ByteArray) (z : Int) (w : World) : (eqGuard .neq 36 x y (.agg #[.string s, .int .i64 z]) (.agg #[.string s, .int .i64 z])).run Tryd.prog w = .ok () w := by
  have h : Tryd.prog.eqGuardType Tryd.prog.depth 36 = false := by kernel_rfl
  unfold eqGuard
  simp [h]
set_option maxRecDepth 100000 in
set_option maxHeartbeats 16000000 in
theorem sm_of {d : Nat} (hl : SlC d) : SmC d := by
  intro B va vb a b w hA hBt hB hs
  obtain ⟨hop, hsl, hnum, hname, hsort, hall⟩ := same_parts hs
  obtain ⟨_, _, aL, aV, aP, cL, cV, cP, rfl, hL, hV, hP⟩ := hA
  obtain ⟨_, _, bL, bV, bP, kL, kV, kP, rfl, gL, gV, gP⟩ := hBt
  simp only [tcells, List.toArray]
  have hnl := (sameL_at hsl).1
  obtain ⟨n, hn⟩ : ∃ n, a.l.length = n := ⟨_, rfl⟩
  have hn2 : b.l.length = n := by omega
  rw [hn] at hL ⊢
  rw [hn2] at gL ⊢
  obtain ⟨nV, hnV⟩ : ∃ n, a.vars.length = n := ⟨_, rfl⟩
  obtain ⟨mV, hmV⟩ : ∃ n, b.vars.length = n := ⟨_, rfl⟩
  obtain ⟨nP, hnP⟩ : ∃ n, a.pat.length = n := ⟨_, rfl⟩
  obtain ⟨mP, hmP⟩ : ∃ n, b.pat.length = n := ⟨_, rfl⟩
  rw [hnV] at hV ⊢
  rw [hmV] at gV ⊢
  rw [hnP] at hP ⊢
  rw [hmP] at gP ⊢
  have hmax : nV ≤ 281474976710656 := hV.2.1
  obtain ⟨w0, e0, hb0, hs0, hc0, hh0⟩ := box_new w #[.int .i64 a.op, .string a.name, .int .i64 a.sort, .string a.num, .slice aL n cL, .slice aV nV cV, .slice aP nP cP] 25
  obtain ⟨w1, e1, hb1, hs1, hc1, hh1⟩ := box_new w0 #[.int .i64 b.op, .string b.name, .int .i64 b.sort, .string b.num, .slice bL n kL, .slice bV mV kV, .slice bP mP kP] 25
  rw [hs0] at hc1
  have hbw1 : Below w.heap.size w w1 := hb0.trans (hb1.mono (by omega))
  have HC : Hid (∀ W, Below w1.heap.size w1 W → (W.cell? ⟨w.heap.size, 0, none⟩ = some (.int .i64 a.op) ∧ W.cell? ⟨w.heap.size, 1, none⟩ = some (.string a.name) ∧ W.cell? ⟨w.heap.size, 2, none⟩ = some (.int .i64 a.sort) ∧ W.cell? ⟨w.heap.size, 3, none⟩ = some (.string a.num) ∧ W.cell? ⟨w.heap.size, 5, none⟩ = some (.slice aV nV cV) ∧ W.cell? ⟨w.heap.size, 6, none⟩ = some (.slice aP nP cP)) ∧ (W.cell? ⟨w.heap.size + 1, 1, none⟩ = some (.string b.name) ∧ W.cell? ⟨w.heap.size + 1, 2, none⟩ = some (.int .i64 b.sort) ∧ W.cell? ⟨w.heap.size + 1, 3, none⟩ = some (.string b.num) ∧ W.cell? ⟨w.heap.size + 1, 5, none⟩ = some (.slice bV mV kV) ∧ W.cell? ⟨w.heap.size + 1, 6, none⟩ = some (.slice bP mP kP)) ∧ Below w.heap.size w W) := fun W h => by
    have hq : w.heap.size < w1.heap.size := by omega
    have hq2 : w.heap.size + 1 < w1.heap.size := by omega
    have ka : ∀ (j : Nat) v, (#[Value.int .i64 a.op, .string a.name, .int .i64 a.sort, .string a.num, .slice aL n cL, .slice aV nV cV, .slice aP nP cP])[j]? = some v → W.cell? ⟨w.heap.size, j, none⟩ = some v := fun j v hv => (h.cell (p := ⟨w.heap.size, j, none⟩) hq).trans ((hb1.cell (p := ⟨w.heap.size, j, none⟩) (show w.heap.size < w0.heap.size by omega)).trans (hc0 j v hv))
    have kb : ∀ (j : Nat) v, (#[Value.int .i64 b.op, .string b.name, .int .i64 b.sort, .string b.num, .slice bL n kL, .slice bV mV kV, .slice bP mP kP])[j]? = some v → W.cell? ⟨w.heap.size + 1, j, none⟩ = some v := fun j v hv => (h.cell (p := ⟨w.heap.size + 1, j, none⟩) hq2).trans (hc1 j v hv)
    exact ⟨⟨ka 0 _ rfl, ka 1 _ rfl, ka 2 _ rfl, ka 3 _ rfl, ka 5 _ rfl, ka 6 _ rfl⟩, ⟨kb 1 _ rfl, kb 2 _ rfl, kb 3 _ rfl, kb 5 _ rfl, kb 6 _ rfl⟩, hbw1.trans (h.mono hbw1.size)⟩
  have HSl := hide (hl B aL bL n cL kL a.l b.l w1 (hL.below (hbw1.mono hB)) (gL.below (hbw1.mono hB)) hn.symm (Nat.le_trans hB hbw1.size) hsl)
  have HE := hide (And.intro e0 e1)
  have HI := hide (And.intro hV (And.intro gV (And.intro hP (And.intro gP (And.intro hnV (And.intro hmV (And.intro hnP (And.intro hmP (And.intro hB (And.intro hall (And.intro hl hmax)))))))))))
  rw [← hop]
  rw [← hop] at HE
  have HN := hide (And.intro hnum (And.intro hname hsort))
  clear hnum hname hsort hL gL hV gV hP gP e0 hb0 hs0 hc0 hh0 e1 hb1 hs1 hc1 hh1 hbw1 hall hs hsl hnl hn hn2 hnV hmV hnP hmP hop hl hB
  by_cases h1 : a.op = 1
  · have hx := (unhide HN).1 h1
    rw [h1, hx] at HE HC ⊢
    go_enter Tryd.func8, Tryd.ntmps8
    go_wp2_with fail
    rw [(unhide HE).1, (unhide HE).2]
    refine (unhide HSl).mono ?_
    rintro e w2 ⟨rfl, hb2⟩
    obtain ⟨⟨k0, k1, k2, k3, k5, k6⟩, ⟨g1, g2, g3, g5, g6⟩, hbw⟩ := unhide HC w2 hb2
    have HB := hide hbw
    clear hb2 hbw
    go_wp2
    go_ret
    exact ⟨rfl, unhide HB⟩
  by_cases h17 : a.op = 17
  · have hx := (unhide HN).2.1 (.inl h17)
    rw [h17, hx] at HE HC ⊢
    go_enter Tryd.func8, Tryd.ntmps8
    go_wp2_with fail
    rw [(unhide HE).1, (unhide HE).2]
    refine (unhide HSl).mono ?_
    rintro e w2 ⟨rfl, hb2⟩
    obtain ⟨⟨k0, k1, k2, k3, k5, k6⟩, ⟨g1, g2, g3, g5, g6⟩, hbw⟩ := unhide HC w2 hb2
    have HB := hide hbw
    clear hb2 hbw
    go_wp2
    go_ret
    exact ⟨rfl, unhide HB⟩
  by_cases h18 : a.op = 18
  · have hx := (unhide HN).2.1 (.inr h18)
    have hy := (unhide HN).2.2 h18
    rw [h18, hx, hy] at HE HC ⊢
    go_enter Tryd.func8, Tryd.ntmps8
    go_wp2_with fail
    rw [(unhide HE).1, (unhide HE).2]
    refine (unhide HSl).mono ?_
    rintro e w2 ⟨rfl, hb2⟩
    obtain ⟨⟨k0, k1, k2, k3, k5, k6⟩, ⟨g1, g2, g3, g5, g6⟩, hbw⟩ := unhide HC w2 hb2
    have HB := hide hbw
    clear hb2 hbw
    go_wp2
    go_ret
    exact ⟨rfl, unhide HB⟩
  by_cases h19 : a.op = 19
  · obtain ⟨hvv, hpp⟩ := (unhide HI).2.2.2.2.2.2.2.2.2.1 h19
    obtain rfl : nV = mV := by
      obtain ⟨_, _, _, _, hnV, hmV, _⟩ := unhide HI
      rw [← hnV, ← hmV, hvv]
    obtain rfl : nP = mP := by
      obtain ⟨_, _, _, _, _, _, hnP, hmP, _⟩ := unhide HI
      rw [← hnP, ← hmP]
      exact (sameL_at hpp).1
    rw [h19] at HE HC ⊢
    have HPP := hide (And.intro hvv hpp)
    clear hvv hpp h1 h17 h18 h19
    go_enter Tryd.func8, Tryd.ntmps8
    go_wp2_with fail
    rw [(unhide HE).1, (unhide HE).2]
    refine (unhide HSl).mono ?_
    rintro e w2 ⟨rfl, hb2⟩
    obtain ⟨⟨k0, k1, k2, k3, k5, k6⟩, ⟨g1, g2, g3, g5, g6⟩, hbw⟩ := unhide HC w2 hb2
    have HB2 := hide hb2
    clear hb2 hbw HSl
    go_wp2
    clear k0 k1 k2 k3 k5 k6 g1 g2 g3 g5 g6
    go_loopw [5] (fun iv wr => ∃ i : Nat, i ≤ nV ∧ iv = .int .i64 i ∧ Below w2.heap.size w2 wr) (fun iv _ => nV - (intOf iv).toNat)
    case atStart => exact ⟨0, Nat.zero_le _, rfl, Below.refl _ _⟩
    case round =>
      obtain ⟨i, hi0, rfl, hb⟩ := hrel
      have hb1r := (unhide HB2).trans (hb.mono (unhide HB2).size)
      obtain ⟨⟨k0, k1, k2, k3, k5, k6⟩, ⟨g1, g2, g3, g5, g6⟩, hbw⟩ := unhide HC wr hb1r
      by_cases hi : i < nV
      · obtain ⟨hV, gV, hP, gP, hnV, hmV, hnP, hmP, hB, _, hl⟩ := unhide HI
        obtain ⟨b1, o1, rfl, _, c0, c1⟩ := (hV.belowV (hbw.mono hB)).atV hnV.symm hi
        obtain ⟨b2, o2, rfl, _, d0, d1⟩ := (gV.belowV (hbw.mono hB)).atV hmV.symm hi
        have hvi : (b.vars[i]'(by omega)) = (a.vars[i]'(by omega)) := by simp only [(unhide HPP).1]
        rw [hvi] at d0 d1
        generalize (a.vars[i]'(by omega)) = y at *
        obtain ⟨ys, yz⟩ := y
        have HB := hide hb
        have hi2 : (i : Int) < (nV : Int) := by omega
        have hneq := neq_bound ys yz
        have heg := fun x y w => eg_bound x y ys yz w
        clear hV gV hP gP hnV hmV hnP hmP hB hl hvi hb hb1r hbw k0 k1 k2 k3 k6 g1 g2 g3 g6
        go_wp2
        go_quiet (fail)
        go_wp2
        exact ⟨⟨i + 1, by omega, by simp, (unhide HB).trans (below_drewN (Below.refl _ wr) _ |>.mono (unhide HB).size)⟩, by simp [intOf]; omega⟩
      · obtain ⟨hV, gV, hP, gP, hnV, hmV, hnP, hmP, hB, _, hl, _⟩ := unhide HI
        have HSp := hide (hl B aP bP nP cP kP a.pat b.pat wr (hP.below (hbw.mono hB)) (gP.below (hbw.mono hB)) hnP.symm (Nat.le_trans hB hbw.size) (unhide HPP).2)
        have HBw := hide hbw
        have hin : i = nV := by omega
        subst hin
        clear hV gV hP gP hnV hmV hnP hmP hB hl hb hb1r hbw k0 k1 k2 k3 g1 g2 g3 hi hi0
        go_wp2_with fail
        refine (unhide HSp).mono ?_
        rintro e w4 ⟨rfl, hb4⟩
        have HB4 := hide ((unhide HBw).trans (hb4.mono (unhide HBw).size))
        clear hb4
        go_wp2
        go_ret
        exact ⟨rfl, unhide HB4⟩
  · have q1 : (a.op == 1) = false := by simp [h1]
    have q2 : (a.op == 17) = false := by simp [h17]
    have q3 : (a.op == 18) = false := by simp [h18]
    have q4 : (a.op == 19) = false := by simp [h19]
    clear h1 h17 h18 h19
    go_enter Tryd.func8, Tryd.ntmps8
    go_wp2_with fail
    rw [(unhide HE).1, (unhide HE).2]
    refine (unhide HSl).mono ?_
    rintro e w2 ⟨rfl, hb2⟩
    obtain ⟨⟨k0, k1, k2, k3, k5, k6⟩, ⟨g1, g2, g3, g5, g6⟩, hbw⟩ := unhide HC w2 hb2
    have HB := hide hbw
    clear hb2 hbw
    go_wp2
    go_ret
    exact ⟨rfl, unhide HB⟩
theorem sm_any (d : Nat) : SmC d := by
  induction d using Nat.strongRecOn with
  | _ d ih => exact sm_of (sl_of ih)
end Go.Proofs.YtegmckpcchhmdaaDoor

/- What the document puts for variables: plain facts. -/
namespace Go.Proofs.YtegmckpcchhmdaaDoor
open Go Go.RowKit
def namesOf (vars : List (ByteArray × Int)) : List ByteArray := vars.map (·.1)
def hideS (op : Int) (vars : List (ByteArray × Int)) (sb : ByteArray → Option Tm) : ByteArray → Option Tm := if op = 19 then fun k => if memB k (namesOf vars) = true then none else sb k else sb
def repD (sb : ByteArray → Option Tm) (op : Int) (name : ByteArray) : Option Tm := if op = 18 then sb name else none
def Tm.putD : Tm → (ByteArray → Option Tm) → Tm
  | ⟨op, name, sort, num, l, vars, pat⟩, sb => match repD sb op name with
    | some u => u
    | none => ⟨op, name, sort, num, l.map fun u => Tm.putD u (hideS op vars sb), vars, pat.map fun u => Tm.putD u (hideS op vars sb)⟩
theorem putD_some {t u : Tm} {sb : ByteArray → Option Tm} (h : repD sb t.op t.name = some u) : t.putD sb = u := by
  cases t
  rw [Tm.putD]
  simp only [h]
theorem putD_none {t : Tm} {sb : ByteArray → Option Tm} (h : repD sb t.op t.name = none) : t.putD sb = ⟨t.op, t.name, t.sort, t.num, t.l.map fun u => u.putD (hideS t.op t.vars sb), t.vars, t.pat.map fun u => u.putD (hideS t.op t.vars sb)⟩ := by
  cases t
  rw [Tm.putD]
  simp only [h]
/-- What is still seen of what is put. -/
def vis (sub : ByteArray → Option Tm) (hid : ByteArray → Int) : ByteArray → Option Tm := fun k => match sub k with
  | some u => if hid k = 0 then some u else none
  | none => none
theorem rep_vis (sub : ByteArray → Option Tm) (hid : ByteArray → Int) (op : Int) (name : ByteArray) : repD (vis sub hid) op name = rep sub hid op name := by
  unfold repD rep vis
  by_cases h : op = 18
  · rw [if_pos h, if_pos h]
    cases sub name <;> rfl
  · rw [if_neg h, if_neg h]
theorem cnt_mem (k : ByteArray) : ∀ (l : List (ByteArray × Int)), (cnt k l = 0) ↔ memB k (namesOf l) = false
  | [] => by simp [cnt, namesOf, memB]
  | v :: l => by
    have ih := cnt_mem k l
    have e : memB k (namesOf (v :: l)) = (decide (v.1 = k) || memB k (namesOf l)) := rfl
    rw [e]
    simp only [cnt]
    by_cases h : k = v.1
    · subst h
      simp
    · have h' : ¬ v.1 = k := fun e => h e.symm
      simp only [h, if_false, Nat.zero_add, h', decide_false, Bool.false_or]
      exact ih
theorem vis_within (sub : ByteArray → Option Tm) (hid : ByteArray → Int) (op : Int) (vars : List (ByteArray × Int)) (hh : ∀ k, 0 ≤ hid k) : vis sub (within op vars hid) = hideS op vars (vis sub hid) := by
  unfold within hideS
  by_cases h : op = 19
  · rw [if_pos h, if_pos h]
    funext k
    unfold vis hidV
    have hc := cnt_mem k vars
    have hk := hh k
    cases sub k with
    | none => simp
    | some u =>
      simp only
      cases hm : memB k (namesOf vars) with
      | true =>
        have : cnt k vars ≠ 0 := fun e => by rw [hc.1 e] at hm; cases hm
        rw [if_neg (by omega)]
        simp
      | false =>
        have := hc.2 hm
        rw [this]
        simp
  · rw [if_neg h, if_neg h]
theorem within_pos {hid : ByteArray → Int} {op : Int} {vars : List (ByteArray × Int)} (hh : ∀ k, 0 ≤ hid k) : ∀ k, 0 ≤ within op vars hid k := fun k => by
  unfold within hidV
  have := hh k
  split
  · simp only
    omega
  · exact this
theorem sameL_map {f g : Tm → Tm} : ∀ {l : List Tm}, (∀ u ∈ l, (f u).same (g u) = true) → sameL (l.map f) (l.map g) = true
  | [], _ => rfl
  | u :: l, h => by
    rw [List.map_cons, List.map_cons, sameL_cons, h u List.mem_cons_self, sameL_map fun v hv => h v (List.mem_cons_of_mem _ hv)]
    rfl
theorem if_if {α : Type} (c : Prop) [Decidable c] (a b : α) : (if c then (if c then a else b) else b) = if c then a else b := by
  by_cases h : c
  · rw [if_pos h, if_pos h]
  · rw [if_neg h, if_neg h]
theorem Tm.inst_eq0 {sub : ByteArray → Option Tm} {t : Tm} {hid : ByteArray → Int} (h : rep sub hid t.op t.name = none) : t.inst sub hid = ⟨t.op, if t.op = 17 ∨ t.op = 18 then t.name else .empty, if t.op = 18 then t.sort else 0, if t.op = 1 then t.num else .empty, t.l.map fun u => u.inst sub (within t.op t.vars hid), if t.op = 19 then t.vars else [], if t.op = 19 then t.pat.map fun p => p.inst sub (within t.op t.vars hid) else []⟩ := by
  cases t
  rw [Tm.inst]
  simp only [h]
/-- Terms whose fields that say something are the same. -/
theorem same_mk {op sort : Int} {name num : ByteArray} {l l' pat pat' : List Tm} {vars : List (ByteArray × Int)} (hl : sameL l l' = true) (hp : op = 19 → sameL pat pat' = true) : Tm.same ⟨op, if op = 17 ∨ op = 18 then name else .empty, if op = 18 then sort else 0, if op = 1 then num else .empty, l, if op = 19 then vars else [], if op = 19 then pat else []⟩ ⟨op, name, sort, num, l', vars, pat'⟩ = true := by
  rw [Tm.same_eq]
  have h1 : Tm.sameLab ⟨op, if op = 17 ∨ op = 18 then name else .empty, if op = 18 then sort else 0, if op = 1 then num else .empty, l, if op = 19 then vars else [], if op = 19 then pat else []⟩ ⟨op, name, sort, num, l', vars, pat'⟩ = true := by
    unfold Tm.sameLab Tm.nm Tm.nu Tm.so
    simp only
    rw [if_if, if_if, if_if]
    simp
  rw [h1, hl]
  by_cases h : op = 19
  · simp [h, hp h]
  · simp [h]
theorem same_inst0 (t : Tm) : t.inst0.same t = true := by
  refine Tm.ind (p := fun t => t.inst0.same t = true) (fun t hl hp => ?_) t
  rw [Tm.inst0_eq]
  obtain ⟨op, name, sort, num, l, vars, pat⟩ := t
  refine same_mk ?_ (fun _ => ?_)
  · have := sameL_map (f := fun u => u.inst0) (g := fun u => u) hl
    simpa using this
  · have := sameL_map (f := fun u => u.inst0) (g := fun u => u) hp
    simpa using this
theorem same_inst (sub : ByteArray → Option Tm) (t : Tm) : ∀ hid : ByteArray → Int, (∀ k, 0 ≤ hid k) → (t.inst sub hid).same (t.putD (vis sub hid)) = true := by
  refine Tm.ind (p := fun t => ∀ hid : ByteArray → Int, (∀ k, 0 ≤ hid k) → (t.inst sub hid).same (t.putD (vis sub hid)) = true) (fun t hl hp hid hh => ?_) t
  cases hr : rep sub hid t.op t.name with
  | some u =>
    rw [(inst_some hr).1, putD_some ((rep_vis sub hid t.op t.name).trans hr)]
    exact same_inst0 u
  | none =>
    rw [Tm.inst_eq0 hr, putD_none ((rep_vis sub hid t.op t.name).trans hr), ← vis_within sub hid t.op t.vars hh]
    exact same_mk (sameL_map fun u hu => hl u hu _ (within_pos hh)) (fun _ => sameL_map fun u hu => hp u hu _ (within_pos hh))
/-- The bounds of what is made. -/
theorem isz_le {sub : ByteArray → Option Tm} {M D : Nat} (hM : 1 ≤ M) (hs : ∀ k u, sub k = some u → u.size ≤ M ∧ u.depth ≤ D) (t : Tm) : ∀ hid, t.isz sub hid ≤ t.size * M ∧ t.idp sub hid ≤ t.depth + D := by
  refine Tm.ind (p := fun t => ∀ hid, t.isz sub hid ≤ t.size * M ∧ t.idp sub hid ≤ t.depth + D) (fun t hl _ hid => ?_) t
  have hsz : 1 ≤ t.size := by rw [t.size_eq]; omega
  cases hr : rep sub hid t.op t.name with
  | some u =>
    have hu : sub t.name = some u := by
      unfold rep at hr
      split at hr
      · cases hq : sub t.name with
        | none => rw [hq] at hr; cases hr
        | some v =>
          rw [hq] at hr
          simp only at hr
          split at hr
          · exact hr
          · cases hr
      · cases hr
    have := hs _ _ hu
    rw [(isz_some hr).1, (isz_some hr).2]
    have hm : 1 * M ≤ t.size * M := Nat.mul_le_mul_right M hsz
    omega
  | none =>
    rw [(isz_none hr).1, (isz_none hr).2, t.size_eq, t.depth_eq]
    generalize within t.op t.vars hid = hid'
    have key : ∀ l : List Tm, (∀ u ∈ l, ∀ hid, u.isz sub hid ≤ u.size * M ∧ u.idp sub hid ≤ u.depth + D) → iszL sub l hid' ≤ (l.map Tm.size).sum * M ∧ idpL sub l hid' ≤ maxOf (l.map Tm.depth) + D := fun l => by
      refine snoc_ind (p := fun l => (∀ u ∈ l, ∀ hid, u.isz sub hid ≤ u.size * M ∧ u.idp sub hid ≤ u.depth + D) → iszL sub l hid' ≤ (l.map Tm.size).sum * M ∧ idpL sub l hid' ≤ maxOf (l.map Tm.depth) + D) (fun _ => ⟨by simp [iszL], by simp [idpL, maxOf]⟩) (fun l a ih h => ?_) l
      have h1 := ih fun u hu => h u (by simp [hu])
      have h2 := h a (by simp) hid'
      have e1 : maxOf ((l ++ [a]).map Tm.depth) = max (maxOf (l.map Tm.depth)) a.depth := by rw [List.map_append, maxOf, List.foldl_append]; rfl
      have e2 : idpL sub (l ++ [a]) hid' = max (idpL sub l hid') (a.idp sub hid') := by unfold idpL; rw [List.map_append, maxOf, List.foldl_append]; rfl
      have e3 : iszL sub (l ++ [a]) hid' = iszL sub l hid' + a.isz sub hid' := by unfold iszL; rw [List.map_append, List.sum_append]; simp
      have e4 : ((l ++ [a]).map Tm.size).sum = (l.map Tm.size).sum + a.size := by rw [List.map_append, List.sum_append]; simp
      rw [e1, e2, e3, e4, Nat.add_mul]
      omega
    have := key t.l hl
    rw [Nat.add_mul]
    omega
theorem icp0_le (t : Tm) : t.icp0 ≤ t.wt := by
  refine Tm.ind (p := fun t => t.icp0 + 1 ≤ t.wt) (fun t hl hp => ?_) t |> Nat.le_of_succ_le
  obtain ⟨op, name, sort, num, l, vars, pat⟩ := t
  rw [Tm.icp0, Tm.wt]
  have key : ∀ q : List Tm, (∀ u ∈ q, u.icp0 + 1 ≤ u.wt) → q.length + (q.map fun u => u.icp0).sum ≤ (q.map fun u => u.wt).sum := fun q => by
    induction q with
    | nil => intro _; simp
    | cons a q ih =>
      intro h
      have h1 := ih fun u hu => h u (by simp [hu])
      have h2 := h a (by simp)
      simp only [List.length_cons, List.map_cons, List.sum_cons]
      omega
  have k1 := key l hl
  have k2 := key pat hp
  split <;> omega
theorem icp_le {sub : ByteArray → Option Tm} {M : Nat} (hs : ∀ k u, sub k = some u → u.wt ≤ M) (t : Tm) : ∀ hid, t.icp sub hid ≤ t.wt * (M + 1) := by
  have hstrong : ∀ hid, t.icp sub hid + 1 ≤ t.wt * (M + 1) := by
    refine Tm.ind (p := fun t => ∀ hid, t.icp sub hid + 1 ≤ t.wt * (M + 1)) (fun t hl hp hid => ?_) t
    have hw := wt_pos t
    have hm : 1 * (M + 1) ≤ t.wt * (M + 1) := Nat.mul_le_mul_right _ hw
    cases hr : rep sub hid t.op t.name with
    | some u =>
      have hu : sub t.name = some u := by
        unfold rep at hr
        split at hr
        · cases hq : sub t.name with
          | none => rw [hq] at hr; cases hr
          | some v =>
            rw [hq] at hr
            simp only at hr
            split at hr
            · exact hr
            · cases hr
        · cases hr
      have h1 := hs _ _ hu
      have h2 := icp0_le u
      rw [(inst_some hr).2]
      omega
    | none =>
      obtain ⟨op, name, sort, num, l, vars, pat⟩ := t
      have hr : rep sub hid op name = none := hr
      rw [Tm.icp, Tm.wt]
      simp only [hr]
      generalize within op vars hid = hid'
      have key : ∀ q : List Tm, (∀ u ∈ q, ∀ hid, u.icp sub hid + 1 ≤ u.wt * (M + 1)) → q.length + (q.map fun u => u.icp sub hid').sum ≤ (q.map fun u => u.wt).sum * (M + 1) := fun q => by
        induction q with
        | nil => intro _; simp
        | cons a q ih =>
          intro h
          have h1 := ih fun u hu => h u (by simp [hu])
          have h2 := h a (by simp) hid'
          simp only [List.length_cons, List.map_cons, List.sum_cons, Nat.add_mul]
          omega
      have k1 := key l hl
      have k2 := key pat hp
      have k3 : vars.length * 1 ≤ vars.length * (M + 1) := Nat.mul_le_mul_left _ (by omega)
      simp only [Nat.add_mul]
      split <;> omega
  intro hid
  have := hstrong hid
  omega
end Go.Proofs.YtegmckpcchhmdaaDoor

namespace Go.Proofs.YtegmckpcchhmdaaDoor
open Go Go.RowKit
/-- What hangs on some blocks alone. -/
def OwnS (w : World) (U : List Nat) (P : World → Prop) : Prop := (∀ k ∈ U, k < w.heap.size) ∧ ∀ w' : World, w.heap.size ≤ w'.heap.size → (∀ k ∈ U, w'.heap[k]? = w.heap[k]?) → P w'
theorem OwnS.now {w : World} {U : List Nat} {P : World → Prop} (h : OwnS w U P) : P w := h.2 w (Nat.le_refl _) fun _ _ => rfl
theorem OwnS.step {w w' : World} {U : List Nat} {P : World → Prop} (h : OwnS w U P) (hs : w.heap.size ≤ w'.heap.size) (hk : ∀ k ∈ U, w'.heap[k]? = w.heap[k]?) : OwnS w' U P :=
  ⟨fun k hk' => Nat.lt_of_lt_of_le (h.1 k hk') hs, fun w2 h2 hk2 => h.2 w2 (Nat.le_trans hs h2) fun k hkU => (hk2 k hkU).trans (hk k hkU)⟩
theorem OwnS.imp {w : World} {U : List Nat} {P P' : World → Prop} (h : OwnS w U P) (hi : ∀ w', P w' → P' w') : OwnS w U P' := ⟨h.1, fun w' h1 h2 => hi w' (h.2 w' h1 h2)⟩
def Apart (C B : Nat) (U : Nat → List Nat) : Prop := (∀ c c', c < C → c' < C → c ≠ c' → ∀ k ∈ U c, k ∉ U c') ∧ ∀ c, c < C → ∀ k ∈ U c, B ≤ k
section
variable {P : Program} {X : Exit → Act → World → Prop}
theorem chains {l : List Oper} {a0 : Act} {w0 : World} (N B C : Nat) (kept : List Nat) (Φ : Nat → Value → Prop) (chn : Nat → Option Nat) (Q : Nat → List Nat → (Nat → Bool) → (Nat → Value) → World → Prop)
    (hg : fitF N 0 kept l = true) (hN : a0.tmps.size = N) (hB : B ≤ w0.heap.size)
    (hno : ((List.range l.length).all fun i => (match l[i]? with | some o => o.dst.isSome | none => false)) = true)
    (hlt : ∀ i c, chn i = some c → i < l.length ∧ c < C)
    (h0 : ∃ U : Nat → List Nat, (∀ c, c < C → OwnS w0 (U c) (Q c (U c) (fun _ => false) (slotOf l.toArray a0))) ∧ Apart C B U)
    (hloc : ∀ c, c < C → ∀ (V : List Nat) (L L' : Nat → Bool) (s s' : Nat → Value) (w : World), (∀ i, chn i = some c → L i = L' i ∧ s i = s' i) → Q c V L s w → Q c V L' s' w)
    (hpure : ∀ i o, l[i]? = some o → chn i = none → ∀ (a : Act) (w : World), Below B w0 w → a.tmps.size = N → (∀ k, k ∈ kept → a.tmps[k]? = a0.tmps[k]?) → (∀ j, (preds o).contains j = true → Φ j (slotOf l.toArray a j)) →
      if Region.wanted o (yielded l.toArray a.tmps) then o.wp P a w (fun a' w' => ∃ v, a' = a.put o.dst v ∧ w' = w ∧ Φ i v) X else Φ i undef)
    (hch : ∀ i o c, l[i]? = some o → chn i = some c → ∀ (a : Act) (w : World) (L : Nat → Bool) (U : List Nat), Below B w0 w → a.tmps.size = N → (∀ k, k ∈ kept → a.tmps[k]? = a0.tmps[k]?) → (∀ j, (preds o).contains j = true → L j = true ∧ Φ j (slotOf l.toArray a j)) → L i = false → (∀ j o', l[j]? = some o' → L j = true → ∀ k, (preds o').contains k = true → L k = true) →
      OwnS w U (Q c U L (slotOf l.toArray a)) → (∀ k ∈ U, B ≤ k) →
      Region.wanted o (yielded l.toArray a.tmps) = true ∧ o.wp P a w (fun a' w' => ∃ v U', a' = a.put o.dst v ∧ Φ i v ∧ Below B w w' ∧ (∀ k, k < w.heap.size → k ∉ U → w'.heap[k]? = w.heap[k]?) ∧ (∀ k ∈ U', k ∈ U ∨ w.heap.size ≤ k) ∧ OwnS w' U' (Q c U' (fun j => if j = i then true else L j) (fun j => if j = i then v else slotOf l.toArray a j))) X)
    (hend : ∀ (a : Act) (w : World), a.defers = a0.defers → a.tmps.size = N → (∀ k, k ∈ kept → a.tmps[k]? = a0.tmps[k]?) → (∀ i, i < l.length → Φ i (slotOf l.toArray a i)) → Below B w0 w → (∃ U : Nat → List Nat, (∀ c, c < C → OwnS w (U c) (Q c (U c) (fun _ => true) (slotOf l.toArray a))) ∧ Apart C B U) → X .normal a w) :
    wpAny P .any l.toArray X l.toArray.size (Array.replicate l.toArray.size false) a0 w0 := by
  have hspec := fitF_spec l 0 kept hg
  have hdst : ∀ (i : Nat) (o : Oper), l[i]? = some o → ∃ d, o.dst = some d := fun i o ho => by
    have hi := (List.getElem?_eq_some_iff.1 ho).1
    have h := List.all_eq_true.1 hno i (List.mem_range.2 hi)
    simp only [ho] at h
    exact Option.isSome_iff_exists.1 h
  have hslot : ∀ (i : Nat) (o : Oper) (k : Nat) (ok : Oper) (a : Act) (v : Value), l[i]? = some o → l[k]? = some ok → k ≠ i → slotOf l.toArray (a.put o.dst v) k = slotOf l.toArray a k := fun i o k ok a v ho hk hne => by
    obtain ⟨dk, hdk⟩ := hdst k ok hk
    have hk' : l.toArray[k]? = some ok := by simpa using hk
    cases hd : o.dst with
    | none => rfl
    | some d =>
      refine slot_put_other hk' hdk fun e => ?_
      subst e
      rcases Nat.lt_or_gt_of_ne hne with h | h
      · exact ((hspec i o ho).2 d hd).2.2 k ok h hk hdk
      · exact ((hspec k ok hk).2 d hdk).2.2 i o h ho hd
  have hself : ∀ (i : Nat) (o : Oper) (a : Act) (v : Value), l[i]? = some o → a.tmps.size = N → slotOf l.toArray (a.put o.dst v) i = v := fun i o a v ho hn => by
    obtain ⟨d, hd⟩ := hdst i o ho
    have ho' : l.toArray[i]? = some o := by simpa using ho
    exact slot_put_same (a := a) (v := v) ho' hd (by have := ((hspec i o ho).2 d hd).2.1; omega)
  have hget : ∀ (listed : Array Bool) (i j : Nat), i ≠ j → (listed.setIfInBounds i true).getD j false = listed.getD j false := fun listed i j e => getD_set_ne false e
  refine stepsF N kept Φ (fun listed a w => Below B w0 w ∧ ∃ U : Nat → List Nat, (∀ c, c < C → OwnS w (U c) (Q c (U c) (fun j => listed.getD j false) (slotOf l.toArray a))) ∧ Apart C B U) hg hN ?_ ?_ ?_ ?_
  · obtain ⟨U, hU, hA⟩ := h0
    refine ⟨Below.refl _ _, U, fun c hc => (hU c hc).imp fun w' h => hloc c hc _ _ _ _ _ w' (fun i _ => ⟨?_, rfl⟩) h, hA⟩
    simp only [Array.getD_eq_getD_getElem?, Array.getElem?_replicate]
    split <;> rfl
  · intro i o ho listed a w hsz hun hdown hdf hn hk hpr ⟨hb, U, hU, hA⟩
    have hi := (List.getElem?_eq_some_iff.1 ho).1
    have hun' : listed.getD i false = false := by
      have h1 : i < listed.size := by omega
      simpa [h1] using hun
    have hset : (listed.setIfInBounds i true).getD i false = true := by
      have h1 : i < listed.size := by omega
      simp [h1]
    cases hc : chn i with
    | none =>
      have hkeep : ∀ v, (∀ c, c < C → OwnS w (U c) (Q c (U c) (fun j => (listed.setIfInBounds i true).getD j false) (slotOf l.toArray (a.put o.dst v)))) := fun v c hcC => (hU c hcC).imp fun w' h => hloc c hcC _ _ _ _ _ w' (fun j hj => by
        have hne : i ≠ j := fun e => by rw [← e, hc] at hj; cases hj
        obtain ⟨hjl, _⟩ := hlt j c hj
        refine ⟨(hget listed i j hne).symm, ?_⟩
        exact (hslot i o j _ a v ho (List.getElem?_eq_getElem hjl) (Ne.symm hne)).symm) h
      have h := hpure i o ho hc a w hb hn hk fun j hj => (hpr j hj).2
      split at h
      · rename_i hw
        rw [if_pos hw]
        refine Oper.wp_mono ?_ h
        rintro a' w' ⟨v, rfl, rfl, hv⟩
        exact ⟨v, rfl, fun _ => hv, hb, U, hkeep v, hA⟩
      · rename_i hw
        rw [if_neg hw]
        exact ⟨fun _ => h, hb, U, hkeep undef, hA⟩
    | some c =>
      obtain ⟨_, hcC⟩ := hlt i c hc
      obtain ⟨hw, h⟩ := hch i o c ho hc a w (fun j => listed.getD j false) (U c) hb hn hk (fun j hj => hpr j hj) hun' (fun j o' h1 h2 k h3 => hdown j o' h1 h2 k h3) (hU c hcC) (hA.2 c hcC)
      rw [if_pos hw]
      refine Oper.wp_mono ?_ h
      rintro a' w' ⟨v, U', rfl, hv, hb', hfr, hU', hO⟩
      refine ⟨v, rfl, fun _ => hv, hb.trans hb', fun c' => if c' = c then U' else U c', fun c' hc' => ?_, ?_, ?_⟩
      · show OwnS w' (if c' = c then U' else U c') (Q c' (if c' = c then U' else U c') _ _)
        by_cases e : c' = c
        · subst e
          rw [if_pos rfl]
          refine hO.imp fun w2 h2 => hloc c' hc' _ _ _ _ _ w2 (fun j hj => ?_) h2
          by_cases ej : j = i
          · subst ej
            rw [if_pos rfl, if_pos rfl]
            exact ⟨hset.symm, (hself j o a v ho hn).symm⟩
          · obtain ⟨hjl, _⟩ := hlt j c' hj
            rw [if_neg ej, if_neg ej]
            exact ⟨(hget listed i j (Ne.symm ej)).symm, (hslot i o j _ a v ho (List.getElem?_eq_getElem hjl) ej).symm⟩
        · rw [if_neg e]
          have hO' := hU c' hc'
          refine (hO'.step hb'.size fun k hkU => hfr k (hO'.1 k hkU) fun hkc => hA.1 c' c hc' hcC e k hkU hkc).imp fun w2 h2 => hloc c' hc' _ _ _ _ _ w2 (fun j hj => ?_) h2
          have ej : j ≠ i := fun e' => by rw [e', hc] at hj; exact e (Option.some.inj hj).symm
          obtain ⟨hjl, _⟩ := hlt j c' hj
          exact ⟨(hget listed i j (Ne.symm ej)).symm, (hslot i o j _ a v ho (List.getElem?_eq_getElem hjl) ej).symm⟩
      · intro c1 c2 h1 h2 hne k hk1 hk2
        replace hk1 : k ∈ (if c1 = c then U' else U c1) := hk1
        replace hk2 : k ∈ (if c2 = c then U' else U c2) := hk2
        by_cases e1 : c1 = c
        · subst e1
          rw [if_pos rfl] at hk1
          rw [if_neg (fun e => hne e.symm)] at hk2
          rcases hU' k hk1 with h3 | h3
          · exact hA.1 c1 c2 h1 h2 hne k h3 hk2
          · have := (hU c2 h2).1 k hk2
            omega
        · rw [if_neg e1] at hk1
          by_cases e2 : c2 = c
          · subst e2
            rw [if_pos rfl] at hk2
            rcases hU' k hk2 with h3 | h3
            · exact hA.1 c1 c2 h1 h2 hne k hk1 h3
            · have := (hU c1 h1).1 k hk1
              omega
          · rw [if_neg e2] at hk2
            exact hA.1 c1 c2 h1 h2 hne k hk1 hk2
      · intro c1 h1 k hk1
        replace hk1 : k ∈ (if c1 = c then U' else U c1) := hk1
        by_cases e1 : c1 = c
        · subst e1
          rw [if_pos rfl] at hk1
          rcases hU' k hk1 with h3 | h3
          · exact hA.2 c1 h1 k h3
          · have := hb.size
            omega
        · rw [if_neg e1] at hk1
          exact hA.2 c1 h1 k hk1
  · intro i o ho hd v
    obtain ⟨d, hd'⟩ := hdst i o ho
    rw [hd] at hd'
    cases hd'
  · intro listed a w hsz hall hdf hn hk hΦ ⟨hb, U, hU, hA⟩
    refine hend a w hdf hn hk hΦ hb ⟨U, fun c hc => (hU c hc).imp fun w' h => hloc c hc _ _ _ _ _ w' (fun j hj => ⟨?_, rfl⟩) h, hA⟩
    exact hall j (hlt j c hj).1
end
end Go.Proofs.YtegmckpcchhmdaaDoor
