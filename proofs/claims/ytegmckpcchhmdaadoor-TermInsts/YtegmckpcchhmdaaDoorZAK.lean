/- The slots of some variables. -/
import Derived.Test.YtegmckpcchhmdaaDoorZAJ
set_option linter.unusedVariables false
set_option linter.unusedSimpArgs false

/- A new checker. -/
namespace Go.Proofs.YtegmckpcchhmdaaDoor
open Go Go.RowKit
theorem findF_snoc (k : ByteArray) (l : List Fn) (f : Fn) : findF k (l ++ [f]) = match findF k l with
    | some g => some g
    | none => if k = f.name then some f else none := by
  induction l with
  | nil => rfl
  | cons a l ih =>
    show (if k = a.name then some a else findF k (l ++ [f])) = match (if k = a.name then some a else findF k l) with
      | some g => some g
      | none => if k = f.name then some f else none
    by_cases h : k = a.name
    · simp [h]
    · simp only [if_neg h]
      exact ih
section
variable {A W' : World} {B r rf rb : Nat} {sig : List Fn} {env : ByteArray → List Int} {es : List (ByteArray × Value)} {f : Fn} {v : Value}
theorem KS.knownF (hK : KS A B r rf rb sig env) {g : Fn} (hf : findF f.name sig = some g) : KS A B r rf rb (sig ++ [f]) env := by
  refine ⟨hK.hr, hK.hrf, hK.hrb, hK.ne, hK.blk, ?_, hK.bm⟩
  obtain ⟨es, h1, h2⟩ := hK.fm
  refine ⟨es, h1, fun k => ?_⟩
  rw [findF_snoc]
  rcases h2 k with ⟨e1, e2⟩ | ⟨f', v, e1, e2, e3⟩
  · rw [e1]
    refine .inl ⟨?_, e2⟩
    by_cases hk : k = f.name
    · subst hk; rw [hf] at e1; cases e1
    · simp [hk]
  · rw [e1]
    exact .inr ⟨f', v, rfl, e2, e3⟩
theorem KS.addF (hK : KS A B r rf rb sig env) (hes : NM A rf es) (hf : findF f.name sig = none) (hv : FnV A B v f) (hN : NM W' rf (put f.name v es)) (hput : PutAt rf A W') : KS W' B r rf rb (sig ++ [f]) env := by
  have hrf : r ≠ rf := fun e => by
    obtain ⟨a, c, h1, _⟩ := hes
    have := hK.blk
    rw [e, h1] at this
    cases this
  have hbel : Below B A W' := ⟨hput.os, hput.tape, hput.output, by rw [hput.size]; exact Nat.le_refl _, fun k hk => hput.block k (by have := hK.hrf; omega)⟩
  refine ⟨hK.hr, hK.hrf, hK.hrb, hK.ne, by rw [hput.block r hrf]; exact hK.blk, ?_, ?_⟩
  · obtain ⟨es', h1, h2⟩ := hK.fm
    obtain rfl := nm_det hes h1
    refine ⟨_, hN, fun k => ?_⟩
    rw [findF_snoc, look_put]
    rcases h2 k with ⟨e1, e2⟩ | ⟨f', v', e1, e2, e3⟩
    · rw [e1]
      by_cases hk : k = f.name
      · exact .inr ⟨f, v, by simp [hk], by simp [hk], hv.below hbel⟩
      · exact .inl ⟨by simp [hk], by rw [if_neg hk]; exact e2⟩
    · rw [e1]
      have hk : k ≠ f.name := fun e => by rw [e, hf] at e1; cases e1
      exact .inr ⟨f', v', rfl, by rw [if_neg hk]; exact e2, e3.below hbel⟩
  · obtain ⟨es', e1, e2, e3⟩ := hK.bm
    refine ⟨es', e1.same (hput.block rb (fun e => hK.ne e.symm)), fun k => (e2 k).imp id ?_, e3⟩
    rintro ⟨v', f1, f2, f3⟩
    refine ⟨v', f1, ⟨f2.1, f2.2.imp id ?_⟩, f3⟩
    rintro ⟨g, cap, cur, rfl, k1, k2, k3⟩
    refine ⟨g, cap, cur, rfl, k1, ?_, k3⟩
    rw [hput.block g (fun e => by
      obtain ⟨a, c, h1, _⟩ := hes
      rw [e, h1] at k2
      cases k2)]
    exact k2
end
/-- Signatures, in memory. -/
def SigR (w : World) (B : Nat) (sig : List Fn) (b o j : Nat) : Prop := ∀ f, sig[j]? = some f → ∃ aA cA, w.rangeAt b o [.string f.name, .slice aA f.args.length cA, .int .i64 f.out] ∧ fits f.out ∧ Row B aA f.args.length cA 1 (IR w f.args)
theorem KS.new (w : World) {B : Nat} (hB : B ≤ w.heap.size) : KS (((w.alloc (.map #[] 0)).alloc (.map #[] 0)).alloc (.cells #[.map (some w.heap.size), .map (some (w.heap.size + 1))] 98)) B (w.heap.size + 2) w.heap.size (w.heap.size + 1) [] (fun _ => []) := by
  have h1 := NM.new w
  have h2 := NM.new (w.alloc (.map #[] 0))
  rw [asize] at h2
  have b2 := (Below.refl (w.heap.size + 1) (w.alloc (.map #[] 0))).alloc (by simp) (.map #[] 0)
  have b3 := (Below.refl (w.heap.size + 2) ((w.alloc (.map #[] 0)).alloc (.map #[] 0))).alloc (by simp) (.cells #[.map (some w.heap.size), .map (some (w.heap.size + 1))] 98)
  refine ⟨by omega, hB, by omega, by omega, ?_, ⟨[], (h1.below b2 (by omega)).below b3 (by omega), fun k => .inl ⟨rfl, rfl⟩⟩, ⟨[], h2.below b3 (by omega), fun k => .inl ⟨rfl, rfl⟩, fun k k' v v' g h => by cases h⟩⟩
  have h := new_block ((w.alloc (.map #[] 0)).alloc (.map #[] 0)) #[.map (some w.heap.size), .map (some (w.heap.size + 1))] 98
  simp only [asize] at h
  exact h
set_option maxRecDepth 1000000 in
set_option maxHeartbeats 16000000 in
theorem newChecker_any {w : World} {B n c : Nat} {a : Option Addr} {sig : List Fn} (hS : Row B a n c 3 (SigR w B sig)) (hn : n = sig.length) (hB : B ≤ w.heap.size) :
    Calls Tryd.prog 27 #[.slice a n c] w fun e w' => ∃ r rf rb, e = .returned (.pointer (some ⟨r, 0, none⟩)) ∧ KS w' B r rf rb sig (fun _ => []) ∧ w.heap.size ≤ rf ∧ w.heap.size ≤ rb ∧ w.heap.size ≤ r ∧ Below w.heap.size w w' := by
  have HS := hide hS
  have HN := hide hn
  have hmax : n ≤ 281474976710656 := by have := hS.1; have := hS.2.1; omega
  have km1 : (Instr.makeMap 95 (some (.int .i64 (n : Int)))).run Tryd.prog w = .ok (.map (some w.heap.size)) (w.alloc (.map #[] 0)) := rfl
  have km2 : (Instr.makeMap 96 none).run Tryd.prog (w.alloc (.map #[] 0)) = .ok (.map (some (w.heap.size + 1))) ((w.alloc (.map #[] 0)).alloc (.map #[] 0)) := by
    have h : ∀ W : World, (Instr.makeMap 96 none).run Tryd.prog W = .ok (.map (some W.heap.size)) (W.alloc (.map #[] 0)) := fun W => rfl
    rw [h, asize]
  have hK0 := KS.new w hB
  have hb0 : Below w.heap.size w (((w.alloc (.map #[] 0)).alloc (.map #[] 0)).alloc (.cells #[.map (some w.heap.size), .map (some (w.heap.size + 1))] 98)) := three (Below.refl _ w) (Nat.le_refl _) _ _ _
  have H0 := hide (And.intro hK0 hb0)
  clear hS hn hK0 hb0
  go_enter Tryd.func27, Tryd.ntmps27
  go_wp2
  clear km1 km2
  obtain ⟨W0, eW0⟩ : ∃ W0, (((w.alloc (.map #[] 0)).alloc (.map #[] 0)).alloc (.cells #[.map (some w.heap.size), .map (some (w.heap.size + 1))] 98)) = W0 := ⟨_, rfl⟩
  rw [eW0] at H0 ⊢
  clear eW0
  obtain ⟨r, hr⟩ : ∃ r, w.heap.size + 1 + 1 = r := ⟨_, rfl⟩
  rw [show w.heap.size + 2 = w.heap.size + 1 + 1 from rfl, hr] at H0
  rw [hr]
  have HRr := hide hr
  clear hr
  go_loopw [16] (fun iv wr => ∃ i : Nat, i ≤ n ∧ iv = .int .i64 (i : Int) ∧ KS wr B r w.heap.size (w.heap.size + 1) (sig.take i) (fun _ => []) ∧ Below w.heap.size w wr) (fun iv _ => (n - (intOf iv).toNat))
  case atStart => exact ⟨0, Nat.zero_le _, rfl, unhide H0⟩
  case round =>
    obtain ⟨i, hi, rfl, hKi, hbi⟩ := hrel
    by_cases hlt : i < n
    · have h1 : i < sig.length := by have := unhide HN; omega
      have hd1 : decide ((i : Int) < (n : Int)) = true := by simp; omega
      have hXi : (i : Int) < (n : Int) := by omega
      have hcap : (i : Int) < 281474976710656 := by omega
      obtain ⟨b, off, rfl, hbB, hj⟩ := (unhide HS).2.2 (by omega)
      obtain ⟨aA, cA, rg, hfo, hRow⟩ := hj i hlt _ (List.getElem?_eq_getElem h1)
      have hsn : sig.take (i + 1) = sig.take i ++ [sig[i]] := take_more h1
      generalize hf : sig[i] = f at *
      have hbw : b < w.heap.size := by omega
      have p0 : wr.cell? ⟨b, off + i * 3, none⟩ = some (.string f.name) := (hbi.cell (p := ⟨b, off + i * 3, none⟩) hbw).trans (rg 0 _ rfl)
      have p1 : wr.cell? ⟨b, off + i * 3 + 1, none⟩ = some (.slice aA f.args.length cA) := (hbi.cell (p := ⟨b, off + i * 3 + 1, none⟩) hbw).trans (rg 1 _ rfl)
      have p2 : wr.cell? ⟨b, off + i * 3 + 2, none⟩ = some (.int .i64 f.out) := (hbi.cell (p := ⟨b, off + i * 3 + 2, none⟩) hbw).trans (rg 2 _ rfl)
      have hbwr : b < wr.heap.size := Nat.lt_of_lt_of_le hbw hbi.size
      obtain ⟨V, eV, hbV, hsV, hcV, hhV⟩ := box_new wr #[.string f.name, .slice aA f.args.length cA, .int .i64 f.out] 41
      have hKV := hKi.below hbV (Nat.le_refl _)
      have hb0V : Below w.heap.size w V := hbi.trans (hbV.mono hbi.size)
      have hqlt : wr.heap.size < V.heap.size := (blk hhV).1
      have hFv : FnV V B (.agg #[.string f.name, .slice aA f.args.length cA, .int .i64 f.out]) f := by
        refine ⟨aA, cA, rfl, hfo, hRow.mono (Nat.le_refl _) fun b o j hb2 hj x hx => ⟨?_, (hj x hx).2⟩⟩
        exact (hb0V.cell (p := ⟨b, o, none⟩) (by show b < _; omega)).trans (hj x hx).1
      obtain ⟨v, hv, hlk, _⟩ := hKV.fm.asked f.name
      obtain ⟨fn, fa, fl, fc, fo, rfl, _⟩ := hv.form
      have HSS : Hid (∀ w', Below V.heap.size V w' → (Below V.heap.size V w' ∧ w'.cell? ⟨r, 0, none⟩ = some (.map (some w.heap.size)) ∧ w'.cell? ⟨wr.heap.size, 0, none⟩ = some (.string f.name) ∧ (Instr.lookup 95 (.map (some w.heap.size)) (.string f.name) true).run Tryd.prog w' = .ok (.tuple #[.agg #[.string fn, .slice fa fl fc, .int .i64 fo], .bool (findF f.name (sig.take i)).isSome]) w')) := fun w' h => by
        refine ⟨h, (hKV.below h (Nat.le_refl _)).cells.1, (h.cell (p := ⟨wr.heap.size, 0, none⟩) hqlt).trans ((blk hhV).2.1 0 _ rfl), ?_⟩
        obtain ⟨es, k1, k2⟩ := hKV.fm
        have hl := nm_lookup (k := f.name) umF ukS (zF w') (k1.below h k1.lt)
        have hl0 := nm_lookup (k := f.name) umF ukS (zF V) k1
        rw [hl0.1] at hlk
        injection hlk with e
        rw [hl.1, e]
      obtain ⟨_, m0, q0, _⟩ := unhide HSS V (Below.refl _ V)
      have HV := hide (And.intro hKV (And.intro hb0V (And.intro hhV (And.intro hFv (And.intro hsn hqlt)))))
      clear hj rg hfo hRow hsn hf hKi hbi hbV hsV hcV hhV hKV hb0V hqlt hFv hv hlk
      have HAr := hide (rfl : f.args.length = f.args.length)
      cases hfd : findF f.name (sig.take i) with
      | some g =>
        have HFd := hide hfd
        rw [hfd] at HSS
        simp only [Option.isSome_some] at HSS
        clear hfd
        go_wp2
        clear eV
        go_region_held3 (fun w' => Below V.heap.size V w' ∧ w'.cell? ⟨r, 0, none⟩ = some (.map (some w.heap.size)) ∧ w'.cell? ⟨wr.heap.size, 0, none⟩ = some (.string f.name) ∧ (Instr.lookup 95 (.map (some w.heap.size)) (.string f.name) true).run Tryd.prog w' = .ok (.tuple #[.agg #[.string fn, .slice fa fl fc, .int .i64 fo], .bool true]) w') (first | assumption | exact unhide HSS _ (keep0 _) | exact unhide HSS _ (keepA (by assumption) _) | exact unhide HSS _ ((keep0 _).alloc (keep0 _).size _)) (fail)
        all_goals
          obtain ⟨U, eU, hbU⟩ : ∃ U, (V.alloc (.cells #[.string fn, .slice fa fl fc, .int .i64 fo] 41)).drew = U ∧ Below V.heap.size V U := ⟨_, rfl, ((Below.refl _ V).alloc (Nat.le_refl _) _).drew⟩
          rw [eU]
          have HBU := hide hbU
          clear eU hbU m0 q0 HSS
          go_wp2
          obtain ⟨hKV, hb0V, hhV, hFv, hsn, hqlt⟩ := unhide HV
          refine ⟨⟨i + 1, by omega, rfl, ?_, hb0V.trans ((unhide HBU).mono hb0V.size)⟩, by simp only [intOf]; omega⟩
          rw [hsn]
          exact (hKV.knownF (unhide HFd)).below (unhide HBU) (Nat.le_refl _)
      | none =>
        have HFd := hide hfd
        rw [hfd] at HSS
        simp only [Option.isSome_none] at HSS
        clear hfd
        go_wp2
        clear eV
        go_region_held3 (fun w' => Below V.heap.size V w' ∧ w'.cell? ⟨r, 0, none⟩ = some (.map (some w.heap.size)) ∧ w'.cell? ⟨wr.heap.size, 0, none⟩ = some (.string f.name) ∧ (Instr.lookup 95 (.map (some w.heap.size)) (.string f.name) true).run Tryd.prog w' = .ok (.tuple #[.agg #[.string fn, .slice fa fl fc, .int .i64 fo], .bool false]) w') (first | assumption | exact unhide HSS _ (keep0 _) | exact unhide HSS _ (keepA (by assumption) _) | exact unhide HSS _ ((keep0 _).alloc (keep0 _).size _)) (fail)
        all_goals
          obtain ⟨U, eU, hbU⟩ : ∃ U, (V.alloc (.cells #[.string fn, .slice fa fl fc, .int .i64 fo] 41)).drew = U ∧ Below V.heap.size V U := ⟨_, rfl, ((Below.refl _ V).alloc (Nat.le_refl _) _).drew⟩
          rw [eU]
          obtain ⟨hKV, hb0V, hhV, hFv, hsn, hqlt⟩ := unhide HV
          have hKU := hKV.below hbU (Nat.le_refl _)
          have hhU := (hbU.block wr.heap.size hqlt).trans hhV
          have hFU := hFv.below (hbU.mono (by have := hKV.hr; have := hKV.r_lt; omega))
          have hKd := hKU.below (keep0 U) (Nat.le_refl _)
          obtain ⟨es, hes, _⟩ := hKd.fm
          obtain ⟨W9, hrun, hput, hN9⟩ := nm_update (P := Tryd.prog) (k := f.name) (v := .agg #[.string f.name, .slice aA f.args.length cA, .int .i64 f.out]) umF ukS hes
          have hK9 := hKd.addF hes (unhide HFd) (hFU.below (Below.refl B U).drew) hN9 hput
          have hx9 : W9.heap[wr.heap.size]? = some (.cells #[.string f.name, .slice aA f.args.length cA, .int .i64 f.out] 41) := (hput.block _ (fun e => by
            obtain ⟨a, c, k1, _⟩ := hes
            have k2 : U.drew.heap[wr.heap.size]? = _ := hhU
            rw [e] at k2
            rw [k1] at k2
            cases k2)).trans hhU
          have HS9 : Hid (W9.cell? ⟨r, 0, none⟩ = some (.map (some w.heap.size)) ∧ W9.cell? ⟨wr.heap.size, 0, none⟩ = some (.string f.name) ∧ W9.cell? ⟨wr.heap.size, 1, none⟩ = some (.slice aA f.args.length cA) ∧ W9.cell? ⟨wr.heap.size, 2, none⟩ = some (.int .i64 f.out)) := ⟨hK9.cells.1, (blk hx9).2.1 0 _ rfl, (blk hx9).2.1 1 _ rfl, (blk hx9).2.1 2 _ rfl⟩
          have HSC : Hid (U.drew.cell? ⟨r, 0, none⟩ = some (.map (some w.heap.size)) ∧ U.drew.cell? ⟨wr.heap.size, 0, none⟩ = some (.string f.name) ∧ U.drew.cell? ⟨wr.heap.size, 1, none⟩ = some (.slice aA f.args.length cA) ∧ U.drew.cell? ⟨wr.heap.size, 2, none⟩ = some (.int .i64 f.out)) := ⟨hKd.cells.1, (blk (show U.drew.heap[wr.heap.size]? = _ from hhU)).2.1 0 _ rfl, (blk (show U.drew.heap[wr.heap.size]? = _ from hhU)).2.1 1 _ rfl, (blk (show U.drew.heap[wr.heap.size]? = _ from hhU)).2.1 2 _ rfl⟩
          have g0 : U.cell? ⟨r, 0, none⟩ = some (.map (some w.heap.size)) := hKU.cells.1
          have g1 : U.cell? ⟨wr.heap.size, 0, none⟩ = some (.string f.name) := (blk hhU).2.1 0 _ rfl
          have g2 : U.cell? ⟨wr.heap.size, 1, none⟩ = some (.slice aA f.args.length cA) := (blk hhU).2.1 1 _ rfl
          have g3 : U.cell? ⟨wr.heap.size, 2, none⟩ = some (.int .i64 f.out) := (blk hhU).2.1 2 _ rfl
          have hb9 : Below w.heap.size w W9 := hput.below (hb0V.trans (((hbU.mono hb0V.size)).drew)) (Nat.le_refl _)
          rw [← hsn] at hK9
          have H9 := hide (And.intro hK9 hb9)
          clear eU hbU m0 q0 HSS hKV hb0V hhV hFv hsn hqlt hKU hhU hFU hKd hes hput hN9 hK9 hx9 hb9
          go_wp2
          go_region_held3 (fun w' => w'.cell? ⟨r, 0, none⟩ = some (.map (some w.heap.size)) ∧ w'.cell? ⟨wr.heap.size, 0, none⟩ = some (.string f.name) ∧ w'.cell? ⟨wr.heap.size, 1, none⟩ = some (.slice aA f.args.length cA) ∧ w'.cell? ⟨wr.heap.size, 2, none⟩ = some (.int .i64 f.out)) (first | assumption | exact (unhide HS9) | exact (unhide HSC)) (fail)
          go_wp2
          exact ⟨⟨i + 1, by omega, rfl, unhide H9⟩, by simp only [intOf]; omega⟩
    · have hin : i = n := by omega
      have hd1 : decide ((i : Int) < (n : Int)) = false := by simp; omega
      rw [List.take_of_length_le (by have := unhide HN; omega)] at hKi
      have HF := hide (And.intro hKi hbi)
      clear hKi hbi hin
      go_wp2
      go_ret
      exact ⟨r, w.heap.size, w.heap.size + 1, rfl, (unhide HF).1, Nat.le_refl _, by omega, by have := unhide HRr; omega, (unhide HF).2⟩
end Go.Proofs.YtegmckpcchhmdaaDoor

/- Check. -/
namespace Go.Proofs.YtegmckpcchhmdaaDoor
open Go Go.RowKit
def Tm.check (rt : ByteArray → Bool) (sig : List Fn) (t : Tm) : Int × Int := if limE t ≠ 0 then (0, limE t) else t.chk rt sig (fun _ => [])
set_option maxRecDepth 1000000 in
set_option maxHeartbeats 16000000 in
theorem Check_any {rt : ByteArray → Bool} {w : World} {B d n c : Nat} {a : Option Addr} {sig : List Fn} {v : Value} {t : Tm} (hT : IsT w B d v t) (hS : Row B a n c 3 (SigR w B sig)) (hn : n = sig.length) (hB : B ≤ w.heap.size) (hB0 : 0 < B) (hR : RL w) (hO : OkT (PC rt) (d + 1) t) (hwt : t.wt ≤ 1000000) :
    Calls Tryd.prog 11 #[.slice a n c, v] w (VPost (pairV (t.check rt sig)) w) := by
  obtain ⟨x0, x1, x2, x3, x4, x5, x6, rfl⟩ := hT.form
  obtain ⟨w1, e1, hb1, hs1, hc1, hh1⟩ := box_new w #[x0, x1, x2, x3, x4, x5, x6] 25
  have hA := hT.boxed hB
  rw [e1] at hA
  have hS1 : Row (w.heap.size + 1) a n c 3 (SigR w1 (w.heap.size + 1) sig) := hS.mono (by omega) fun b o j hb h f hf => by
    obtain ⟨aA, cA, k1, k2, k3⟩ := h f hf
    refine ⟨aA, cA, rangeAt_below k1 (show b < w.heap.size by omega) hb1, k2, k3.mono (by omega) fun b' o' j' hb' hj x hx => ⟨?_, (hj x hx).2⟩⟩
    exact (hb1.cell (p := ⟨b', o', none⟩) (by show b' < _; omega)).trans (hj x hx).1
  have HLim := hide (limits_any hA (by omega) hO.sizes.1 hO.sizes.2)
  have HI := hide (And.intro hA (And.intro hS1 (And.intro hn (And.intro hO hwt))))
  have HR1 := hide (hR.below hb1 (by omega))
  have HB1 := hide hb1
  have HS1 := hide hs1
  clear hT hS hA hS1 hR hn hO hwt hb1 hs1 hc1 hh1 hB
  generalize hce : t.check rt sig = ce at *
  have HCe := hide hce
  clear hce
  obtain ⟨ce1, ce2⟩ := ce
  unfold Tm.check at HCe
  by_cases hl : limE t = 0
  · rw [if_neg (by simp [hl])] at HCe
    rw [hl] at HLim
    clear hl
    go_enter Tryd.func11, Tryd.ntmps11
    go_wp2_with fail
    refine (unhide HLim).mono ?_
    rintro e w2 ⟨rfl, hb2⟩
    have hb02 : Below (w.heap.size + 1) w1 w2 := hb2.mono (by have := unhide HS1; omega)
    obtain ⟨hA, hS1, hn, hO, hwt⟩ := unhide HI
    have hsz2 : w.heap.size + 1 ≤ w2.heap.size := by have := hb2.size; have := unhide HS1; omega
    have hS2 : Row (w.heap.size + 1) a n c 3 (SigR w2 (w.heap.size + 1) sig) := hS1.mono (Nat.le_refl _) fun b o j hb h f hf => by
      obtain ⟨aA, cA, k1, k2, k3⟩ := h f hf
      refine ⟨aA, cA, rangeAt_below k1 hb hb02, k2, k3.mono (Nat.le_refl _) fun b' o' j' hb' hj x hx => ⟨?_, (hj x hx).2⟩⟩
      exact (hb02.cell (p := ⟨b', o', none⟩) hb').trans (hj x hx).1
    have HNew := hide (newChecker_any hS2 hn hsz2)
    have H2 := hide (And.intro hb02 (And.intro hb2 hsz2))
    clear hb2 hb02 hA hS1 hn hO hwt hsz2 hS2
    go_wp2_with fail
    refine (unhide HNew).mono ?_
    rintro e w3 ⟨r, rf, rb, rfl, hK3, hrf, hrb, hr, hb3⟩
    obtain ⟨hb02, hb2, hsz2⟩ := unhide H2
    obtain ⟨hA, hS1, hn, hO, hwt⟩ := unhide HI
    have hb13 : Below (w.heap.size + 1) w1 w3 := hb02.trans (hb3.mono hsz2)
    have HT := hide (kterm_any rt sig (d + 1) (w.heap.size + 1) r rf rb (fun _ => []) w3 w.heap.size 0 t (hA.more hb13 (Nat.le_refl _) (Nat.le_refl _)) hO ((unhide HR1).below hb13 (by omega)) hK3 (fun k => by simp; omega))
    rw [unhide HCe] at HT
    have H3 := hide (And.intro hb13 hK3)
    clear hK3 hrf hrb hr hb3 hb02 hb2 hsz2 hA hS1 hn hO hwt hb13
    go_wp2_with fail
    refine (unhide HT).mono ?_
    rintro e w4 ⟨rfl, hK4, hC4⟩
    obtain ⟨hb13, hK3⟩ := unhide H3
    have H4 := hide (hb13.trans (hK3.cf_below hC4))
    clear hK4 hC4 hb13 hK3
    unfold pairV
    go_wp2
    go_ret2
    exact ⟨rfl, (unhide HB1).trans ((unhide H4).mono (by omega))⟩
  · rw [if_pos hl] at HCe
    have el : (limE t != 0) = true := by simp [hl]
    generalize limE t = le at *
    clear hl
    have hcc := unhide HCe
    injection hcc with h1 h2
    subst h1 h2
    clear HCe
    go_enter Tryd.func11, Tryd.ntmps11
    go_wp2_with fail
    refine (unhide HLim).mono ?_
    rintro e w2 ⟨rfl, hb2⟩
    have HB2 := hide hb2
    clear hb2
    go_wp2
    go_ret2
    exact ⟨rfl, (unhide HB1).trans ((unhide HB2).mono (by have := unhide HS1; omega))⟩
end Go.Proofs.YtegmckpcchhmdaaDoor

/- Slots: what stands for a name. -/
namespace Go.Proofs.YtegmckpcchhmdaaDoor
open Go Go.RowKit
/-- Block k is no slot. -/
def NS (w : World) (k : Nat) : Prop := ∀ cs fr, w.heap[k]? ≠ some (.cells cs 94 fr)
/-- All stands, but one block and slots, these not below B. -/
structure XF (B r : Nat) (w w' : World) : Prop where
  os : w'.os = w.os
  tape : w'.tape = w.tape
  output : w'.output = w.output
  size : w.heap.size ≤ w'.heap.size
  block : ∀ k, k < w.heap.size → (k < B ∨ k ≠ r ∧ NS w k) → w'.heap[k]? = w.heap[k]?
theorem XF.refl (B r : Nat) (w : World) : XF B r w w := ⟨rfl, rfl, rfl, Nat.le_refl _, fun _ _ _ => rfl⟩
theorem XF.trans {B r : Nat} {a b c : World} (h : XF B r a b) (k : XF B r b c) : XF B r a c :=
  ⟨k.os.trans h.os, k.tape.trans h.tape, k.output.trans h.output, Nat.le_trans h.size k.size, fun j hj hr => by
    have e := h.block j hj hr
    refine (k.block j (Nat.lt_of_lt_of_le hj h.size) ?_).trans e
    rcases hr with hr | ⟨hr, hn⟩
    · exact .inl hr
    · exact .inr ⟨hr, fun cs fr hc => hn cs fr (e.symm.trans hc)⟩⟩
theorem XF.of {B r C : Nat} {w w' : World} (h : Below C w w') (hC : w.heap.size ≤ C) : XF B r w w' := ⟨h.os, h.tape, h.output, h.size, fun k hk _ => h.block k (Nat.lt_of_lt_of_le hk hC)⟩
theorem XF.below {B r : Nat} {w w' : World} (h : XF B r w w') (hs : B ≤ w.heap.size) : Below B w w' := ⟨h.os, h.tape, h.output, h.size, fun k hk => h.block k (by omega) (.inl hk)⟩
theorem XF.blk {B r q : Nat} {w w' : World} {cs : Array Value} {ty : TypeId} (h : XF B r w w') (hx : w.heap[q]? = some (.cells cs ty)) (hq : q ≠ r) (ht : ty ≠ 94) : w'.heap[q]? = some (.cells cs ty) := by
  rw [h.block q (Array.getElem?_eq_some_iff.1 hx).1 (.inr ⟨hq, fun cs' fr e => by rw [hx] at e; injection e with e; injection e with _ e; exact ht e⟩)]
  exact hx
theorem XF.map {B r q : Nat} {w w' : World} {es : List (ByteArray × Value)} (h : XF B r w w') (hx : NM w q es) (hq : q ≠ r) : NM w' q es := by
  refine hx.same (h.block q hx.lt (.inr ⟨hq, fun cs fr e => ?_⟩))
  obtain ⟨a, c, h1, _⟩ := hx
  rw [h1] at e
  cases e
/-- What stands for names: terms, each in a slot of its own, with its measures, and how often its name is hidden. -/
def SL (w : World) (B rs dl : Nat) (sub : ByteArray → Option Tm) (hid : ByteArray → Int) : Prop := B ≤ rs ∧ ∃ es, NM w rs es ∧ (∀ k, (sub k = none ∧ look k es = none) ∨ ∃ u q bt ot, sub k = some u ∧ look k es = some (.pointer (some ⟨q, 0, none⟩)) ∧ B ≤ q ∧ w.heap[q]? = some (.cells #[.pointer (some ⟨bt, ot, none⟩), .int .i64 u.size, .int .i64 u.depth, .bool u.ground, .int .i64 (hid k)] 94) ∧ TmAt w B dl bt ot u) ∧ ∀ k k' q, look k es = some (.pointer (some ⟨q, 0, none⟩)) → look k' es = some (.pointer (some ⟨q, 0, none⟩)) → k = k'
/-- As a value: also where there is nothing. -/
def SLv (w : World) (B : Nat) (sv : Value) (dl : Nat) (sub : ByteArray → Option Tm) (hid : ByteArray → Int) : Prop := (sv = .map none ∧ ∀ k, sub k = none) ∨ ∃ rs, sv = .map (some rs) ∧ SL w B rs dl sub hid
theorem SL.below {w w' : World} {B rs dl C : Nat} {sub : ByteArray → Option Tm} {hid : ByteArray → Int} (h : SL w B rs dl sub hid) (hb : Below C w w') (hC : w.heap.size ≤ C) : SL w' B rs dl sub hid := by
  obtain ⟨hB, es, h1, h2, h3⟩ := h
  have hlt := h1.lt
  refine ⟨hB, es, h1.below hb (by omega), fun k => (h2 k).imp id ?_, h3⟩
  rintro ⟨u, q, bt, ot, e1, e2, e3, e4, e5⟩
  exact ⟨u, q, bt, ot, e1, e2, e3, by rw [hb.block q (by have := (Array.getElem?_eq_some_iff.1 e4).1; omega)]; exact e4, e5.more (hb.mono (by omega)) (Nat.le_refl _) (Nat.le_refl _)⟩
theorem SLv.below {w w' : World} {B dl C : Nat} {sv : Value} {sub : ByteArray → Option Tm} {hid : ByteArray → Int} (h : SLv w B sv dl sub hid) (hb : Below C w w') (hC : w.heap.size ≤ C) : SLv w' B sv dl sub hid :=
  h.imp id fun ⟨rs, e, h⟩ => ⟨rs, e, h.below hb hC⟩
theorem umS : Tryd.prog.underlying 55 = some (.map 9 92) := by kernel_rfl
set_option maxRecDepth 100000 in
theorem zS (w : World) : (zeroValue 92).run Tryd.prog w = .ok (.pointer none) w := by go_simp
set_option maxRecDepth 100000 in
theorem lk_none (k : ByteArray) (w : World) : (Instr.lookup 55 (.map none) (.string k) false).run Tryd.prog w = .ok (.pointer none) w := rfl
set_option maxRecDepth 100000 in
/-- What the slots answer. -/
theorem SLv.asked {w : World} {B dl : Nat} {sv : Value} {sub : ByteArray → Option Tm} {hid : ByteArray → Int} (h : SLv w B sv dl sub hid) (k : ByteArray) : (sub k = none ∧ ∀ w', Below w.heap.size w w' → (Instr.lookup 55 sv (.string k) false).run Tryd.prog w' = .ok (.pointer none) w') ∨
    ∃ u q bt ot, sub k = some u ∧ (∀ w', Below w.heap.size w w' → (Instr.lookup 55 sv (.string k) false).run Tryd.prog w' = .ok (.pointer (some ⟨q, 0, none⟩)) w') ∧ B ≤ q ∧ w.heap[q]? = some (.cells #[.pointer (some ⟨bt, ot, none⟩), .int .i64 u.size, .int .i64 u.depth, .bool u.ground, .int .i64 (hid k)] 94) ∧ TmAt w B dl bt ot u := by
  rcases h with ⟨rfl, h⟩ | ⟨rs, rfl, hB, es, h1, h2, h3⟩
  · refine .inl ⟨h k, ?_⟩
    intro w' _
    exact lk_none k w'
  · have hl := fun w' (hw : Below w.heap.size w w') => (nm_lookup (k := k) umS ukS (zS w') (h1.below hw h1.lt)).2
    rcases h2 k with ⟨e1, e2⟩ | ⟨u, q, bt, ot, e1, e2, e3, e4, e5⟩
    · exact .inl ⟨e1, fun w' hw => by rw [hl w' hw, e2]; rfl⟩
    · exact .inr ⟨u, q, bt, ot, e1, fun w' hw => by rw [hl w' hw, e2]; rfl, e3, e4, e5⟩
set_option maxRecDepth 100000 in
/-- Behind a slot's being told how often its name is hidden. -/
theorem SL.hide {w : World} {B rs dl : Nat} {sub : ByteArray → Option Tm} {hid : ByteArray → Int} (h : SL w B rs dl sub hid) {k : ByteArray} {u : Tm} {q bt ot : Nat} (hB : B ≤ w.heap.size) (hs : sub k = some u) (hq : w.heap[q]? = some (.cells #[.pointer (some ⟨bt, ot, none⟩), .int .i64 u.size, .int .i64 u.depth, .bool u.ground, .int .i64 (hid k)] 94)) (hl : (Instr.lookup 55 (.map (some rs)) (.string k) false).run Tryd.prog w = .ok (.pointer (some ⟨q, 0, none⟩)) w) (hqB : B ≤ q) (x : Int) :
    SL (w.setCell ⟨q, 4, none⟩ (.int .i64 x)) B rs dl sub (fun j => if j = k then x else hid j) ∧ ∀ r, XF B r w (w.setCell ⟨q, 4, none⟩ (.int .i64 x)) := by
  obtain ⟨hBr, es, h1, h2, h3⟩ := h
  have hlk : look k es = some (.pointer (some ⟨q, 0, none⟩)) := by
    have h4 := (nm_lookup (k := k) umS ukS (zS w) h1).2
    rw [hl, Result.ok.injEq] at h4
    replace h4 := h4.1
    cases hk : look k es with
    | none => rw [hk] at h4; cases h4
    | some v => rw [hk] at h4; rw [show v = .pointer (some ⟨q, 0, none⟩) from h4.symm]
  have hqr : rs ≠ q := fun e => by
    obtain ⟨a, c, h5, _⟩ := h1
    rw [e, hq] at h5
    cases h5
  have hbel : Below B w (w.setCell ⟨q, 4, none⟩ (.int .i64 x)) := (Below.refl B w).setCell (p := ⟨q, 4, none⟩) hqB _
  refine ⟨⟨hBr, es, h1.same (Below.heap_setCell w ⟨q, 4, none⟩ _ rs hqr), fun j => ?_, h3⟩, fun r => ?_⟩
  · refine (h2 j).imp id ?_
    rintro ⟨u', q', bt', ot', e1, e2, e3, e4, e5⟩
    by_cases hj : j = k
    · subst hj
      rw [hlk] at e2
      injection e2 with e2
      injection e2 with e2
      injection e2 with e2
      injection e2 with e2
      subst e2
      rw [hq] at e4
      injection e4 with e4
      injection e4 with e4
      rw [hs] at e1
      injection e1 with e1
      subst e1
      have e6 := congrArg (fun a => a[0]?) e4
      simp only [List.getElem?_toArray, List.getElem?_cons_zero, Option.some.injEq, Value.pointer.injEq, Addr.mk.injEq, and_true] at e6
      obtain ⟨rfl, rfl⟩ := e6
      exact ⟨u, q, bt, ot, hs, hlk, e3, by rw [set_block hq]; simp, e5.more hbel (Nat.le_refl _) (Nat.le_refl _)⟩
    · have hne : q' ≠ q := fun e => by
        subst e
        exact hj (h3 j k q' e2 hlk)
      refine ⟨u', q', bt', ot', e1, e2, e3, ?_, e5.more hbel (Nat.le_refl _) (Nat.le_refl _)⟩
      rw [Below.heap_setCell w ⟨q, 4, none⟩ _ q' hne]
      simp only [if_neg hj]
      exact e4
  · refine ⟨rfl, rfl, rfl, by simp, fun j _ hj => Below.heap_setCell w ⟨q, 4, none⟩ _ j ?_⟩
    rcases hj with hj | ⟨_, hn⟩
    · show j ≠ q; omega
    · intro e
      subst e
      exact hn _ _ hq
end Go.Proofs.YtegmckpcchhmdaaDoor

/- Slots: asked, hidden. -/
namespace Go.Proofs.YtegmckpcchhmdaaDoor
open Go Go.RowKit
/-- What a node is replaced by. -/
def rep (sub : ByteArray → Option Tm) (hid : ByteArray → Int) (op : Int) (name : ByteArray) : Option Tm := if op = 18 then (match sub name with
    | some u => if hid name = 0 then some u else none
    | none => none) else none
def OPost (w : World) (B dl : Nat) (hid : ByteArray → Int) (name : ByteArray) (r : Option Tm) (e : Ending) (w' : World) : Prop := Below w.heap.size w w' ∧ ((r = none ∧ e = .returned (.pointer none)) ∨ ∃ u q bt ot, r = some u ∧ e = .returned (.pointer (some ⟨q, 0, none⟩)) ∧ w'.heap[q]? = some (.cells #[.pointer (some ⟨bt, ot, none⟩), .int .i64 u.size, .int .i64 u.depth, .bool u.ground, .int .i64 (hid name)] 94) ∧ TmAt w' B dl bt ot u)
set_option maxRecDepth 1000000 in
set_option maxHeartbeats 16000000 in
theorem of_any {w : World} {B dl b o : Nat} {sv : Value} {sub : ByteArray → Option Tm} {hid : ByteArray → Int} {op : Int} {name : ByteArray} (hS : SLv w B sv dl sub hid) (hB : B ≤ w.heap.size) (hb : b < w.heap.size) (c1 : w.cell? ⟨b, o + 1, none⟩ = some (.string name)) :
    Calls Tryd.prog 50 #[sv, .iface (kindOf op) (.agg #[.pointer (some ⟨b, o, none⟩)])] w (OPost w B dl hid name (rep sub hid op name)) := by
  by_cases h18 : op = 18
  · have hkk : kindOf op = 101 := by rw [h18]; rfl
    rw [hkk]
    have ta0 := fun w => ta_yes (ty := 101) (v := .agg #[.pointer (some ⟨b, o, none⟩)]) (w := w) rfl rfl
    obtain ⟨V, eV, hbV, hsV, hcV, hhV⟩ := box_new w #[.pointer (some ⟨b, o, none⟩)] 101
    have v0 : V.cell? ⟨w.heap.size, 0, none⟩ = some (.pointer (some ⟨b, o, none⟩)) := hcV 0 _ rfl
    have v1 : V.cell? ⟨b, o + 1, none⟩ = some (.string name) := (hbV.cell (p := ⟨b, o + 1, none⟩) hb).trans c1
    rcases hS.asked name with ⟨hs, hlk⟩ | ⟨u, q, bt, ot, hs, hlk, hqB, hq, hTu⟩
    · have hlkV := hlk V hbV
      have hr : rep sub hid op name = none := by unfold rep; rw [if_pos h18, hs]
      rw [hr]
      have HB := hide hbV
      clear hkk hbV hsV hcV hhV hs hlk hr hS h18 c1
      go_enter Tryd.func50, Tryd.ntmps50
      go_wp2
      go_ret
      exact ⟨unhide HB, .inl ⟨rfl, rfl⟩⟩
    · have hlkV := hlk V hbV
      have hqV := (hbV.block q (Array.getElem?_eq_some_iff.1 hq).1).trans hq
      have q4 : V.cell? ⟨q, 4, none⟩ = some (.int .i64 (hid name)) := (blk hqV).2.1 4 _ rfl
      have HV := hide (And.intro hbV (And.intro hqV (hTu.more (hbV.mono hB) (Nat.le_refl _) (Nat.le_refl _))))
      by_cases h0 : hid name = 0
      · have hr : rep sub hid op name = some u := by unfold rep; rw [if_pos h18, hs]; simp [h0]
        rw [hr]
        rw [h0] at q4
        have e0 := hide h0
        clear hkk hbV hsV hcV hhV hs hlk hr hS h18 c1 hqV hTu hq h0 hqB
        go_enter Tryd.func50, Tryd.ntmps50
        go_wp2
        go_ret
        exact ⟨(unhide HV).1, .inr ⟨u, q, bt, ot, rfl, rfl, (unhide HV).2.1, (unhide HV).2.2⟩⟩
      · have hr : rep sub hid op name = none := by unfold rep; rw [if_pos h18, hs]; simp [h0]
        rw [hr]
        have e0 : (hid name == 0) = false := by simp [h0]
        clear hkk hbV hsV hcV hhV hs hlk hr hS h18 c1 hqV hTu hq h0 hqB
        go_enter Tryd.func50, Tryd.ntmps50
        go_wp2
        go_ret
        exact ⟨(unhide HV).1, .inl ⟨rfl, rfl⟩⟩
  · have hk1 : kindOf op ≠ 101 := kindOf_var h18
    have hr : rep sub hid op name = none := by unfold rep; rw [if_neg h18]
    rw [hr]
    generalize kindOf op = kk at *
    have ta0 := fun w => ta_no (ty := 101) (v := .agg #[.pointer (some ⟨b, o, none⟩)]) (z := .agg #[.pointer none]) (w := w) hk1 rfl rfl (by go_simp)
    clear h18 hr hS
    go_enter Tryd.func50, Tryd.ntmps50
    go_wp2
    go_ret
    exact ⟨(Below.refl _ w).alloc (Nat.le_refl _) _, .inl ⟨rfl, rfl⟩⟩
/-- How often names are hidden behind some binders more, or fewer. -/
def hidV (s : Int) (l : List (ByteArray × Int)) (hid : ByteArray → Int) : ByteArray → Int := fun k => hid k + s * (cnt k l : Int)
theorem hidV_snoc (s : Int) (l : List (ByteArray × Int)) (v : ByteArray × Int) (hid : ByteArray → Int) : hidV s (l ++ [v]) hid = fun j => if j = v.1 then hidV s l hid v.1 + s else hidV s l hid j := by
  funext j
  unfold hidV
  rw [cnt_snoc]
  by_cases h : j = v.1
  · subst h
    simp only [if_true]
    rw [Int.natCast_add, Int.mul_add]
    simp
    omega
  · simp [h]
theorem hidV_back (l : List (ByteArray × Int)) (hid : ByteArray → Int) : hidV (-1) l (hidV 1 l hid) = hid := by
  funext k
  unfold hidV
  omega
theorem hidV_none {sub : ByteArray → Option Tm} {w : World} {B dl : Nat} {sv : Value} {hid hid' : ByteArray → Int} (h : SLv w B sv dl sub hid) (he : ∀ k, sub k ≠ none → hid k = hid' k) : SLv w B sv dl sub hid' := by
  refine h.imp id ?_
  rintro ⟨rs, e, hB, es, h1, h2, h3⟩
  refine ⟨rs, e, hB, es, h1, fun k => (h2 k).imp id ?_, h3⟩
  rintro ⟨u, q, bt, ot, e1, e2, e3, e4, e5⟩
  exact ⟨u, q, bt, ot, e1, e2, e3, by rw [← he k (by rw [e1]; simp)]; exact e4, e5⟩
set_option maxRecDepth 1000000 in
set_option maxHeartbeats 16000000 in
theorem hide_any {w : World} {B dl n c : Nat} {a : Option Addr} {sv : Value} {sub : ByteArray → Option Tm} {hid : ByteArray → Int} {x : List (ByteArray × Int)} {s : Int} (hS : SLv w B sv dl sub hid) (hx : Row B a n c 2 (BR w x)) (hn : n = x.length) (hB : B ≤ w.heap.size) (hs : s = 1 ∨ s = -1) (hh : ∀ k, -500000 ≤ hid k ∧ hid k ≤ 500000) (hl : x.length ≤ 400000) :
    Calls Tryd.prog 51 #[sv, .slice a n c, .int .i64 s] w fun e w' => e = .returned (.tuple #[]) ∧ SLv w' B sv dl sub (hidV s x hid) ∧ (∀ r, XF B r w w') ∧ (sv = .map none → Below w.heap.size w w') := by
  have HX := hide hx
  have HN := hide hn
  have hmax : n ≤ 281474976710656 := by have := hx.1; have := hx.2.1; omega
  have HS := hide hS
  have HH := hide (And.intro hh hl)
  have hsb : -1 ≤ s ∧ s ≤ 1 := by omega
  have HSb := hide hs
  clear hx hn hS hh hl hs
  go_enter Tryd.func51, Tryd.ntmps51
  go_wp2
  go_loopw [11] (fun iv wr => ∃ i : Nat, i ≤ n ∧ iv = .int .i64 (i : Int) ∧ SLv wr B sv dl sub (hidV s (x.take i) hid) ∧ (∀ r, XF B r w wr) ∧ (sv = .map none → Below w.heap.size w wr)) (fun iv _ => (n - (intOf iv).toNat))
  case atStart => exact ⟨0, Nat.zero_le _, rfl, hidV_none (unhide HS) (fun k _ => by simp [hidV, cnt]), fun r => XF.refl B r w, fun _ => Below.refl _ w⟩
  case round =>
    obtain ⟨i, hi, rfl, hSi, hXi, hNi⟩ := hrel
    by_cases hlt : i < n
    · have h1 : i < x.length := by have := unhide HN; omega
      have hd1 : decide ((i : Int) < (n : Int)) = true := by simp; omega
      have hIi : (i : Int) < (n : Int) := by omega
      have hcap : (i : Int) < 281474976710656 := by omega
      obtain ⟨bv, ov, rfl, hbvB, hj⟩ := (unhide HX).2.2 (by omega)
      obtain ⟨rg, hfit⟩ := hj i (by omega) _ (List.getElem?_eq_getElem h1)
      have hbel : Below B w wr := (hXi 0).below hB
      have hsn : x.take (i + 1) = x.take i ++ [x[i]] := take_more h1
      have hrange : -900000 ≤ hidV s (x.take i) hid x[i].1 ∧ hidV s (x.take i) hid x[i].1 ≤ 900000 := by
        obtain ⟨hh, hl⟩ := unhide HH
        have h2 := hh x[i].1
        have h3 := cnt_le x[i].1 (x.take i)
        rw [List.length_take] at h3
        unfold hidV
        rcases unhide HSb with rfl | rfl <;> omega
      generalize hu : x[i] = u at *
      obtain ⟨u1, u2⟩ := u
      have p0 : wr.cell? ⟨bv, ov + i * 2, none⟩ = some (.string u1) := (hbel.cell (p := ⟨bv, ov + i * 2, none⟩) hbvB).trans (rg 0 _ rfl)
      have p1 : wr.cell? ⟨bv, ov + i * 2 + 1, none⟩ = some (.int .i64 u2) := (hbel.cell (p := ⟨bv, ov + i * 2 + 1, none⟩) hbvB).trans (rg 1 _ rfl)
      have hbvr : bv < wr.heap.size := by have := (hXi 0).size; omega
      obtain ⟨V, eV, hbV, hsV, hcV, hhV⟩ := box_new wr #[.string u1, .int .i64 u2] 36
      have v0 : V.cell? ⟨wr.heap.size, 0, none⟩ = some (.string u1) := hcV 0 _ rfl
      have hSV := hSi.below hbV (Nat.le_refl _)
      have hXV : ∀ r, XF B r w V := fun r => (hXi r).trans (XF.of hbV (Nat.le_refl _))
      have hBV : B ≤ V.heap.size := by have := (hXi 0).size; omega
      have hNV : sv = .map none → Below w.heap.size w V := fun e => (hNi e).trans (hbV.mono (hNi e).size)
      rcases hSV.asked u1 with ⟨hs0, hlk⟩ | ⟨t, q, bt, ot, hs0, hlk, hqB, hq, hTu⟩
      · have hlkV := hlk V (Below.refl _ V)
        have hfin := hidV_none (hid' := hidV s (x.take (i + 1)) hid) hSV (fun k hk => by
          rw [hsn, hidV_snoc]
          have : k ≠ u1 := fun e => by subst e; exact hk hs0
          simp [this])
        have HF := hide (And.intro hfin (And.intro hXV hNV))
        clear hNV hNi hj rg hfit hbel hsn hrange hu hbV hsV hcV hhV hSV hXV hs0 hlk hSi hXi hfin
        go_wp2
        exact ⟨⟨i + 1, by omega, rfl, unhide HF⟩, by simp only [intOf]; omega⟩
      · have hlkV := hlk V (Below.refl _ V)
        obtain ⟨rs, rfl, hSL⟩ : ∃ rs, sv = .map (some rs) ∧ SL V B rs dl sub (hidV s (x.take i) hid) := by
          rcases hSV with ⟨rfl, h⟩ | h
          · rw [h u1] at hs0; cases hs0
          · exact h
        obtain ⟨hS9, hX9⟩ := hSL.hide hBV hs0 hq hlkV hqB (hidV s (x.take i) hid u1 + s)
        have q4 : V.cell? ⟨q, 4, none⟩ = some (.int .i64 (hidV s (x.take i) hid u1)) := (blk hq).2.1 4 _ rfl
        have qf := (blk hq).2.2 4
        have hfin : SLv (V.setCell ⟨q, 4, none⟩ (.int .i64 (hidV s (x.take i) hid u1 + s))) B (.map (some rs)) dl sub (hidV s (x.take (i + 1)) hid) := .inr ⟨rs, rfl, by rw [hsn, hidV_snoc]; exact hS9⟩
        have HF := hide (And.intro hfin (And.intro (fun r => (hXV r).trans (hX9 r)) (show Value.map (some rs) = .map none → Below w.heap.size w (V.setCell ⟨q, 4, none⟩ (.int .i64 (hidV s (x.take i) hid u1 + s))) from fun e => by cases e)))
        clear hNV hNi hj rg hfit hbel hsn hu hbV hsV hcV hhV hSV hXV hs0 hlk hSi hXi hfin hSL hS9 hX9 hq hTu hqB
        generalize hidV s (x.take i) hid u1 = hv at *
        go_wp2
        exact ⟨⟨i + 1, by omega, rfl, unhide HF⟩, by simp only [intOf]; omega⟩
    · have hin : i = n := by omega
      have hd1 : decide ((i : Int) < (n : Int)) = false := by simp; omega
      rw [List.take_of_length_le (by have := unhide HN; omega)] at hSi
      have HF := hide (And.intro hSi (And.intro hXi hNi))
      clear hSi hXi hNi hin
      go_wp2
      go_end0
      exact ⟨rfl, unhide HF⟩
end Go.Proofs.YtegmckpcchhmdaaDoor

namespace Go.Proofs.YtegmckpcchhmdaaDoor
open Go Go.RowKit
/-- What stands for a name: of several of one name the first one counts. -/
def subV : List (ByteArray × Int) → List Tm → ByteArray → Option Tm
  | v :: vs, t :: ts, k => if k = v.1 then some t else subV vs ts k
  | _, _, _ => none
theorem subV_snoc (v : ByteArray × Int) (t : Tm) (k : ByteArray) : ∀ (vs : List (ByteArray × Int)) (ts : List Tm), vs.length = ts.length → subV (vs ++ [v]) (ts ++ [t]) k = match subV vs ts k with
    | some u => some u
    | none => if k = v.1 then some t else none
  | [], [], _ => rfl
  | a :: vs, b :: ts, h => by
    show (if k = a.1 then some b else subV (vs ++ [v]) (ts ++ [t]) k) = match (if k = a.1 then some b else subV vs ts k) with
      | some u => some u
      | none => if k = v.1 then some t else none
    by_cases hk : k = a.1
    · simp [hk]
    · simp only [if_neg hk]
      exact subV_snoc v t k vs ts (by simpa using h)
def slotC (bt ot : Nat) (u : Tm) : Array Value := #[.pointer (some ⟨bt, ot, none⟩), .int .i64 u.size, .int .i64 u.depth, .bool u.ground, .int .i64 0]
theorem SL.new (w : World) {B : Nat} (hB : B ≤ w.heap.size) (dl : Nat) : SL (w.alloc (.map #[] 0)) B w.heap.size dl (fun _ => none) (fun _ => 0) :=
  ⟨hB, [], NM.new w, fun _ => .inl ⟨rfl, rfl⟩, fun _ _ _ h => by cases h⟩
theorem SL.lt {w : World} {B rs dl : Nat} {sub : ByteArray → Option Tm} {hid : ByteArray → Int} (h : SL w B rs dl sub hid) : rs < w.heap.size := by
  obtain ⟨_, es, h1, _⟩ := h
  exact h1.lt
set_option maxRecDepth 100000 in
/-- One more slot. -/
theorem SL.add {A A' : World} {B rs dl q bt ot : Nat} {sub : ByteArray → Option Tm} {k : ByteArray} {u : Tm} (h : SL A B rs dl sub (fun _ => 0)) (hB : B ≤ A.heap.size) (hs : sub k = none) (hb : Below A.heap.size A A') (hq : A.heap.size ≤ q) (hc : A'.heap[q]? = some (.cells (slotC bt ot u) 94)) (hT : TmAt A B dl bt ot u) :
    ∃ W9, (Instr.mapUpdate 55 (.map (some rs)) (.string k) (.pointer (some ⟨q, 0, none⟩))).run Tryd.prog A' = .ok () W9 ∧ PutAt rs A' W9 ∧ SL W9 B rs dl (fun j => match sub j with
      | some u => some u
      | none => if j = k then some u else none) (fun _ => 0) := by
  have hlt := h.lt
  have hS' := h.below hb (Nat.le_refl _)
  obtain ⟨hBr, es, h1, h2, h3⟩ := h
  have hN := h1.below hb h1.lt
  obtain ⟨W9, hrun, hput, hN9⟩ := nm_update (P := Tryd.prog) (k := k) (v := .pointer (some ⟨q, 0, none⟩)) umS ukS hN
  have hbel : Below B A W9 := (hb.mono hB).trans ⟨hput.os, hput.tape, hput.output, by rw [hput.size]; exact Nat.le_refl _, fun j hj => hput.block j (by omega)⟩
  have hlk : look k es = none := by
    rcases h2 k with ⟨_, e⟩ | ⟨u', _, _, _, e, _⟩
    · exact e
    · rw [hs] at e; cases e
  have hcell : ∀ (q' : Nat) (cs : Array Value) (ty : TypeId), A'.heap[q']? = some (.cells cs ty) → W9.heap[q']? = some (.cells cs ty) := fun q' cs ty e => by
    rw [hput.block q' (fun e' => by
      obtain ⟨a, c, k1, _⟩ := hN
      rw [e', k1] at e
      cases e)]
    exact e
  have hold : ∀ (k' : ByteArray) (q' : Nat), look k' es = some (.pointer (some ⟨q', 0, none⟩)) → q' < A.heap.size := fun k' q' e => by
    rcases h2 k' with ⟨_, e2⟩ | ⟨u', q2, bt', ot', e1, e2, e3, e4, e5⟩
    · rw [e2] at e; cases e
    · rw [e2] at e
      injection e with e
      injection e with e
      injection e with e
      injection e with e
      subst e
      exact (Array.getElem?_eq_some_iff.1 e4).1
  refine ⟨W9, hrun, hput, hBr, _, hN9, fun j => ?_, fun k1 k2 q' e1 e2 => ?_⟩
  · simp only [look_put]
    by_cases hj : j = k
    · subst hj
      refine .inr ⟨u, q, bt, ot, by rw [hs]; simp, by simp, by omega, ?_, hT.more hbel (Nat.le_refl _) (Nat.le_refl _)⟩
      exact hcell q _ _ hc
    · rcases h2 j with ⟨e1, e2⟩ | ⟨u', q', bt', ot', e1, e2, e3, e4, e5⟩
      · exact .inl ⟨by rw [e1]; simp [hj], by rw [if_neg hj]; exact e2⟩
      · refine .inr ⟨u', q', bt', ot', by rw [e1], by rw [if_neg hj]; exact e2, e3, hcell q' _ _ ?_, e5.more hbel (Nat.le_refl _) (Nat.le_refl _)⟩
        exact (hb.block q' (Array.getElem?_eq_some_iff.1 e4).1).trans e4
  · rw [look_put] at e1 e2
    by_cases g1 : k1 = k <;> by_cases g2 : k2 = k
    · rw [g1, g2]
    · rw [if_pos g1] at e1
      rw [if_neg g2] at e2
      have := hold _ _ e2
      injection e1 with e1
      injection e1 with e1
      injection e1 with e1
      injection e1 with e1
      omega
    · rw [if_neg g1] at e1
      rw [if_pos g2] at e2
      have := hold _ _ e1
      injection e2 with e2
      injection e2 with e2
      injection e2 with e2
      injection e2 with e2
      omega
    · rw [if_neg g1] at e1
      rw [if_neg g2] at e2
      exact h3 k1 k2 q' e1 e2
set_option maxRecDepth 1000000 in
set_option maxHeartbeats 16000000 in
theorem newSlots_any {w : World} {B dl n c m cm : Nat} {a am : Option Addr} {x : List (ByteArray × Int)} {l : List Tm} (hx : Row B a n c 2 (BR w x)) (hn : n = x.length) (hl : Row B am m cm 7 (fun b o j => ∀ u, l[j]? = some u → TmAt w B dl b o u)) (hm : m = l.length) (hlen : x.length = l.length) (hB : B ≤ w.heap.size) (hsz : ∀ u ∈ l, u.size ≤ 65536 ∧ u.depth ≤ 65537) :
    Calls Tryd.prog 20 #[.slice a n c, .slice am m cm] w fun e w' => ∃ rs, e = .returned (.map (some rs)) ∧ w.heap.size ≤ rs ∧ SL w' B rs dl (subV x l) (fun _ => 0) ∧ Below w.heap.size w w' := by
  have HX := hide hx
  have HL := hide hl
  have HN := hide (And.intro hn (And.intro hm hlen))
  have hmax : n ≤ 281474976710656 := by have := hx.1; have := hx.2.1; omega
  have km1 : (Instr.makeMap 55 (some (.int .i64 (n : Int)))).run Tryd.prog w = .ok (.map (some w.heap.size)) (w.alloc (.map #[] 0)) := rfl
  have H0 := hide (And.intro (SL.new w hB dl) ((Below.refl w.heap.size w).alloc (Nat.le_refl _) (.map #[] 0)))
  have HZ := hide hsz
  clear hx hn hl hm hlen hsz
  go_enter Tryd.func20, Tryd.ntmps20
  go_wp2
  clear km1
  obtain ⟨W0, eW0⟩ : ∃ W0, (w.alloc (.map #[] 0)) = W0 := ⟨_, rfl⟩
  rw [eW0] at H0 ⊢
  clear eW0
  go_loopw [13] (fun iv wr => ∃ i : Nat, i ≤ n ∧ iv = .int .i64 (i : Int) ∧ SL wr B w.heap.size dl (subV (x.take i) (l.take i)) (fun _ => 0) ∧ Below w.heap.size w wr) (fun iv _ => (n - (intOf iv).toNat))
  case atStart => exact ⟨0, Nat.zero_le _, rfl, unhide H0⟩
  case round =>
    obtain ⟨i, hi, rfl, hSi, hbi⟩ := hrel
    by_cases hlt : i < n
    · obtain ⟨en, em, elen⟩ := unhide HN
      have h1 : i < x.length := by omega
      have h2 : i < l.length := by omega
      have hmi : i < m := by omega
      have hd1 : decide ((i : Int) < (n : Int)) = true := by simp; omega
      have hXi : (i : Int) < (n : Int) := by omega
      have hXm : (i : Int) < (m : Int) := by omega
      have hcap : (i : Int) < 281474976710656 := by omega
      obtain ⟨b, off, rfl, hbB, hj⟩ := (unhide HX).2.2 (by omega)
      obtain ⟨rg, hfit⟩ := hj i (by omega) _ (List.getElem?_eq_getElem h1)
      obtain ⟨bl, ol, rfl, hblB, hjl⟩ := (unhide HL).2.2 (by omega)
      have hTl := hjl i (by omega) _ (List.getElem?_eq_getElem h2)
      have hsn : ∀ k, subV (x.take (i + 1)) (l.take (i + 1)) k = match subV (x.take i) (l.take i) k with
          | some u => some u
          | none => if k = x[i].1 then some l[i] else none := fun k => by
        rw [take_more h1, take_more h2]
        exact subV_snoc _ _ k _ _ (by simp; omega)
      have hZi := unhide HZ l[i] (List.getElem_mem h2)
      generalize hu : x[i] = u at *
      generalize ht : l[i] = t at *
      obtain ⟨u1, u2⟩ := u
      have hbw : b < w.heap.size := by omega
      have p0 : wr.cell? ⟨b, off + i * 2, none⟩ = some (.string u1) := (hbi.cell (p := ⟨b, off + i * 2, none⟩) hbw).trans (rg 0 _ rfl)
      have p1 : wr.cell? ⟨b, off + i * 2 + 1, none⟩ = some (.int .i64 u2) := (hbi.cell (p := ⟨b, off + i * 2 + 1, none⟩) hbw).trans (rg 1 _ rfl)
      have hbwr : b < wr.heap.size := Nat.lt_of_lt_of_le hbw hbi.size
      obtain ⟨V, eV, hbV, hsV, hcV, hhV⟩ := box_new wr #[.string u1, .int .i64 u2] 36
      have hSV := hSi.below hbV (Nat.le_refl _)
      have hb0V : Below w.heap.size w V := hbi.trans (hbV.mono hbi.size)
      have hqlt : wr.heap.size < V.heap.size := (blk hhV).1
      have hTV := hTl.more (hb0V.mono hB) (Nat.le_refl _) (Nat.le_refl _)
      have v0 : V.cell? ⟨wr.heap.size, 0, none⟩ = some (.string u1) := hcV 0 _ rfl
      have hBV : B ≤ V.heap.size := by have := hb0V.size; omega
      have hSVv : SLv V B (.map (some w.heap.size)) dl (subV (x.take i) (l.take i)) (fun _ => 0) := .inr ⟨_, rfl, hSV⟩
      rcases hSVv.asked u1 with ⟨hs0, hlk⟩ | ⟨t', q', bt', ot', hs0, hlk, _, _, _⟩
      · have hlkV := hlk V (Below.refl _ V)
        have HSC : Hid (∀ w', Below V.heap.size V w' → w'.cell? ⟨wr.heap.size, 0, none⟩ = some (.string u1)) := fun w' h => (h.cell (p := ⟨wr.heap.size, 0, none⟩) hqlt).trans v0
        have HMe : Hid (∀ w', Below V.heap.size V w' → Calls Tryd.prog 31 #[.pointer (some ⟨bl, ol + i * 7, none⟩)] w' (VPost (.agg #[.int .i64 t.size, .int .i64 t.depth, .bool t.ground]) w')) := fun w' h => measure_any (hTV.more (h.mono hBV) (Nat.le_refl _) (Nat.le_refl _)) (by have := h.size; omega) hZi.1 hZi.2
        have HAft : Hid (∀ M : World, Below V.heap.size V M → ∃ W9, (Instr.mapUpdate 55 (.map (some w.heap.size)) (.string u1) (.pointer (some ⟨M.heap.size, 0, none⟩))).run Tryd.prog (M.alloc (.cells #[.pointer (some ⟨bl, ol + i * 7, none⟩), .int .i64 t.size, .int .i64 t.depth, .bool t.ground, .int .i64 0] 94)) = .ok () W9 ∧ W9.cell? ⟨wr.heap.size, 0, none⟩ = some (.string u1) ∧ SL W9 B w.heap.size dl (subV (x.take (i + 1)) (l.take (i + 1))) (fun _ => 0) ∧ Below w.heap.size w W9) := fun M hM => by
          have hSM := hSV.below hM (Nat.le_refl _)
          have hA := (Below.refl M.heap.size M).alloc (Nat.le_refl _) (.cells #[.pointer (some ⟨bl, ol + i * 7, none⟩), .int .i64 t.size, .int .i64 t.depth, .bool t.ground, .int .i64 0] 94)
          obtain ⟨W9, k1, k2, k3⟩ := hSM.add (k := u1) (u := t) (by have := hM.size; omega) hs0 hA (Nat.le_refl _) (new_block M _ _) (hTV.more (hM.mono hBV) (Nat.le_refl _) (Nat.le_refl _))
          have hbA : Below V.heap.size V (M.alloc (.cells #[.pointer (some ⟨bl, ol + i * 7, none⟩), .int .i64 t.size, .int .i64 t.depth, .bool t.ground, .int .i64 0] 94)) := hM.trans (hA.mono hM.size)
          have hne : wr.heap.size ≠ w.heap.size := fun e => by
            obtain ⟨_, es, hes, _⟩ := hSV
            obtain ⟨a, c, k1, _⟩ := hes
            rw [e, k1] at hhV
            cases hhV
          refine ⟨W9, k1, ?_, ?_, k2.below (hb0V.trans (hbA.mono hb0V.size)) (Nat.le_refl _)⟩
          · rw [World.cell?_of_block (a := ⟨wr.heap.size, 0, none⟩) (k2.block wr.heap.size hne)]
            exact unhide HSC _ hbA
          · rw [show subV (x.take (i + 1)) (l.take (i + 1)) = _ from funext hsn]
            exact k3
        clear hj rg hfit hjl hTl hsn hZi hu ht hSi hbi hbV hsV hcV hhV hSV hb0V hqlt hTV hSVv hs0 hlk en em elen HX HL HZ
        go_wp2
        clear eV
        go_region_held3 (fun w' => w'.cell? ⟨wr.heap.size, 0, none⟩ = some (.string u1)) (first | assumption | exact (unhide HS9) | exact unhide HSC _ (keep0 _) | exact unhide HSC _ hT1 | exact unhide HSC _ (hT1.alloc hT1.size _)) ((go_at_call 31; refine (unhide HMe _ (keep0 _)).mono ?_; rintro e v1 ⟨rfl, hv1⟩; have hT1 : Below V.heap.size V v1 := (keep0 V).trans hv1; obtain ⟨W9, hrun, hS9, h10⟩ := unhide HAft v1 hT1; have HS9 := hide hS9; have H10 := hide h10; clear hv1 hS9 h10))
        all_goals
          clear hrun
          go_wp2
          exact ⟨⟨i + 1, by omega, rfl, unhide H10⟩, by simp only [intOf]; omega⟩
      · have hlkV := hlk V (Below.refl _ V)
        have hsame : subV (x.take (i + 1)) (l.take (i + 1)) = subV (x.take i) (l.take i) := funext fun k => by
          rw [hsn]
          cases hk : subV (x.take i) (l.take i) k with
          | some _ => rfl
          | none =>
            have : k ≠ u1 := fun e => by subst e; rw [hk] at hs0; cases hs0
            simp [this]
        rw [← hsame] at hSV
        have HF := hide (And.intro hSV hb0V)
        clear hj rg hfit hjl hTl hsn hZi hu ht hSi hbi hbV hsV hcV hhV hSV hb0V hqlt hTV hSVv hs0 hlk en em elen HX HL HZ hsame
        go_wp2
        exact ⟨⟨i + 1, by omega, rfl, unhide HF⟩, by simp only [intOf]; omega⟩
    · have hin : i = n := by omega
      have hd1 : decide ((i : Int) < (n : Int)) = false := by simp; omega
      obtain ⟨en, em, elen⟩ := unhide HN
      rw [List.take_of_length_le (by omega), List.take_of_length_le (by omega)] at hSi
      have HF := hide (And.intro hSi hbi)
      clear hSi hbi hin en em elen
      go_wp2
      go_ret
      exact ⟨w.heap.size, rfl, Nat.le_refl _, unhide HF⟩
end Go.Proofs.YtegmckpcchhmdaaDoor
