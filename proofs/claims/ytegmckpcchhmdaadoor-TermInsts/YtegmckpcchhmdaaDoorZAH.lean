/- Patterns: what may stand in them, and the names in them. -/
import Derived.Test.YtegmckpcchhmdaaDoorZAG
set_option linter.unusedVariables false
set_option linter.unusedSimpArgs false

/- A variable's sort. -/
namespace Go.Proofs.YtegmckpcchhmdaaDoor
open Go Go.RowKit
def pairV (p : Int × Int) : Value := .tuple #[.int .i64 p.1, .int .i64 p.2]
theorem varE_none {name : ByteArray} {sort : Int} {env : ByteArray → List Int} (h : (env name).length = 0) : varE name sort env = (0, 32) := by
  unfold varE
  rw [List.length_eq_zero_iff.1 h]
  rfl
theorem varE_some {name : ByteArray} {sort : Int} {env : ByteArray → List Int} {n : Nat} {s : Int} (h : (env name).length = n + 1) (hs : (env name)[n]? = some s) : varE name sort env = if s = sort then (sort, 0) else (0, 31) := by
  unfold varE
  rw [List.getLast?_eq_getElem?, h, Nat.add_sub_cancel, hs]
set_option maxRecDepth 1000000 in
set_option maxHeartbeats 16000000 in
theorem variable_any {w : World} {B r rf rb b o : Nat} {name : ByteArray} {sort : Int} {sig : List Fn} {env : ByteArray → List Int} (hK : KS w B r rf rb sig env) (hb : b < w.heap.size) (c1 : w.cell? ⟨b, o + 1, none⟩ = some (.string name)) (c2 : w.cell? ⟨b, o + 2, none⟩ = some (.int .i64 sort)) (hlen : (env name).length ≤ 1000000) :
    Calls Tryd.prog 38 #[.pointer (some ⟨r, 0, none⟩), .agg #[.pointer (some ⟨b, o, none⟩)]] w (VPost (pairV (varE name sort env)) w) := by
  obtain ⟨W, eW, hbW, hsW, hcW, hhW⟩ := box_new w #[.pointer (some ⟨b, o, none⟩)] 101
  have hKW : KS W B r rf rb sig env := hK.below hbW (Nat.le_refl _)
  have hqlt : w.heap.size < W.heap.size := (blk hhW).1
  obtain ⟨v, hI, _, hlk⟩ := hKW.bm.asked name (by omega)
  have hbW2 : b < W.heap.size := Nat.lt_of_lt_of_le hb hbW.size
  obtain ⟨a, c, rfl, hmax, hcell⟩ := hI
  have HSS : Hid (∀ w', Below W.heap.size W w' → (Below W.heap.size W w' ∧ w'.cell? ⟨r, 1, none⟩ = some (.map (some rb)) ∧ w'.cell? ⟨w.heap.size, 0, none⟩ = some (.pointer (some ⟨b, o, none⟩)) ∧ w'.cell? ⟨b, o + 1, none⟩ = some (.string name) ∧ (Instr.lookup 96 (.map (some rb)) (.string name) false).run Tryd.prog w' = .ok (.slice a (env name).length c) w')) := fun w' h => by
    refine ⟨h, (hKW.below h (Nat.le_refl _)).cells.2, (h.cell (p := ⟨w.heap.size, 0, none⟩) hqlt).trans ((blk hhW).2.1 0 _ rfl), ((hbW.trans (h.mono hbW.size)).cell (p := ⟨b, o + 1, none⟩) hb).trans c1, ?_⟩
    obtain ⟨es, h1, h2⟩ := hKW.bm
    have hl := nm_lookup (k := name) umB ukS (zB w') (h1.below h h1.lt)
    have hl0 := nm_lookup (k := name) umB ukS (zB W) h1
    rw [hl0.2] at hlk
    injection hlk with e
    rw [hl.2, e]
  have d2 : W.cell? ⟨b, o + 2, none⟩ = some (.int .i64 sort) := (hbW.cell (p := ⟨b, o + 2, none⟩) hb).trans c2
  have q0 : W.cell? ⟨w.heap.size, 0, none⟩ = some (.pointer (some ⟨b, o, none⟩)) := (blk hhW).2.1 0 _ rfl
  have HB := hide hbW
  have HC := hide hcell
  have HV0 := hide (fun h => varE_none (sort := sort) (env := env) (name := name) h)
  have HV1 := hide (fun n s h hs => varE_some (sort := sort) (env := env) (name := name) (n := n) (s := s) h hs)
  clear hK hb c1 c2 hbW hsW hcW hhW hKW hqlt hlk hcell
  generalize hn : (env name).length = n at *
  obtain ⟨_, m1, _, n1, _⟩ := unhide HSS W (Below.refl _ W)
  cases n with
  | zero =>
    go_enter Tryd.func38, Tryd.ntmps38
    go_wp2
    go_region_held3 (fun w' => Below W.heap.size W w' ∧ w'.cell? ⟨r, 1, none⟩ = some (.map (some rb)) ∧ w'.cell? ⟨w.heap.size, 0, none⟩ = some (.pointer (some ⟨b, o, none⟩)) ∧ w'.cell? ⟨b, o + 1, none⟩ = some (.string name) ∧ (Instr.lookup 96 (.map (some rb)) (.string name) false).run Tryd.prog w' = .ok (.slice a 0 c) w') (first | assumption | exact unhide HSS _ (keep0 _)) (fail)
    all_goals
      go_wp2
      go_ret2
      refine ⟨?_, (unhide HB).drew⟩
      rw [unhide HV0 (by simp)]
      rfl
  | succ n =>
    have hn1 : n < (env name).length := by omega
    obtain ⟨b2, off, rfl, hb2, hc⟩ := unhide HC (by omega)
    have p2 : W.cell? ⟨b2, off + n, none⟩ = some (.int .i64 (env name)[n]) := hc n _ (List.getElem?_eq_getElem hn1)
    have hV := unhide HV1 n _ rfl (List.getElem?_eq_getElem hn1)
    generalize (env name)[n] = s at *
    have HV := hide hV
    have ez : (((n + 1 : Nat) : Int) == 0) = false := by simp; omega
    have es1 : ((n + 1 : Nat) : Int) - 1 = (n : Int) := by omega
    clear hV hc hn hn1 HV0 HV1 HC
    by_cases hs : s = sort
    · subst hs
      rw [if_pos rfl] at HV
      go_enter Tryd.func38, Tryd.ntmps38
      go_wp2
      go_region_held3 (fun w' => Below W.heap.size W w' ∧ w'.cell? ⟨r, 1, none⟩ = some (.map (some rb)) ∧ w'.cell? ⟨w.heap.size, 0, none⟩ = some (.pointer (some ⟨b, o, none⟩)) ∧ w'.cell? ⟨b, o + 1, none⟩ = some (.string name) ∧ (Instr.lookup 96 (.map (some rb)) (.string name) false).run Tryd.prog w' = .ok (.slice (some ⟨b2, off, none⟩) (n + 1) c) w') (first | assumption | exact unhide HSS _ (keep0 _)) (fail)
      go_wp2
      go_quiet (fail)
      go_wp2
      go_ret2
      exact ⟨by rw [unhide HV]; rfl, by first | exact below_drewN (unhide HB) _ | exact below_drewN (unhide HB).drew _⟩
    · rw [if_neg hs] at HV
      have ens : (s != sort) = true := by simp [hs]
      clear hs
      go_enter Tryd.func38, Tryd.ntmps38
      go_wp2
      go_region_held3 (fun w' => Below W.heap.size W w' ∧ w'.cell? ⟨r, 1, none⟩ = some (.map (some rb)) ∧ w'.cell? ⟨w.heap.size, 0, none⟩ = some (.pointer (some ⟨b, o, none⟩)) ∧ w'.cell? ⟨b, o + 1, none⟩ = some (.string name) ∧ (Instr.lookup 96 (.map (some rb)) (.string name) false).run Tryd.prog w' = .ok (.slice (some ⟨b2, off, none⟩) (n + 1) c) w') (first | assumption | exact unhide HSS _ (keep0 _)) (fail)
      go_wp2
      go_quiet (fail)
      go_wp2
      go_ret2
      exact ⟨by rw [unhide HV]; rfl, by first | exact below_drewN (unhide HB) _ | exact below_drewN (unhide HB).drew _⟩
end Go.Proofs.YtegmckpcchhmdaaDoor

namespace Go.Proofs.YtegmckpcchhmdaaDoor
open Go Go.RowKit
theorem Tm.bare_eq (t : Tm) : t.bare = ((t.op == 1 || (decide (12 ≤ t.op) && decide (t.op ≤ 15)) || t.op == 17 || t.op == 18) && t.l.all Tm.bare) := by
  cases t
  rw [Tm.bare, List.all_map]
  rfl
theorem Tm.vn_eq (t : Tm) : t.vn = (if t.op = 18 then [t.name] else []) ++ (t.l.map Tm.vn).flatten := by
  cases t
  rw [Tm.vn]
def PP (m : Nat) (names : List ByteArray) (bare : Bool) (vn : List ByteArray) (w : World) (e : Ending) (w' : World) : Prop := e = .returned (.bool bare) ∧ (∃ ns, NM w' m (seenL ns) ∧ (bare = true → ns = names ++ vn)) ∧ But m w w'
def PatC (d : Nat) : Prop := ∀ (B m : Nat) (w : World) (b o : Nat) (t : Tm) (names : List ByteArray), TmAt w B d b o t → NM w m (seenL names) → B ≤ m → RL w →
    Calls Tryd.prog 83 #[.pointer (some ⟨b, o, none⟩), .map (some m)] w (PP m names t.bare t.vn w)
theorem op_bare {t : Tm} (h : (t.op == 1 || (decide (12 ≤ t.op) && decide (t.op ≤ 15)) || t.op == 17 || t.op == 18) = false) : t.bare = false := by rw [t.bare_eq, h]; rfl
theorem own_one {k : Nat} (h1 : 4 ≤ k) (h2 : k ≤ 16) : (opOwn k != 1) = !(decide (12 ≤ k) && decide (k ≤ 15)) := by
  unfold opOwn
  by_cases h16 : k = 16
  · subst h16; rfl
  · rw [if_neg h16]
    by_cases h11 : k ≤ 11
    · rw [if_pos h11]
      have : decide (12 ≤ k) = false := by simp; omega
      rw [this]; rfl
    · rw [if_neg h11]
      have e1 : decide (12 ≤ k) = true := by simp; omega
      have e2 : decide (k ≤ 15) = true := by simp; omega
      rw [e1, e2]; rfl
set_option maxRecDepth 1000000 in
set_option maxHeartbeats 16000000 in
theorem pat_numeral {d : Nat} (ih : PatC d) {B m : Nat} {w : World} {b o : Nat} {t : Tm} {names : List ByteArray} (hT : TmAt w B (d + 1) b o t) (hM : NM w m (seenL names)) (hBm : B ≤ m) (hR : RL w) (hop : t.op = 1) :
    Calls Tryd.prog 83 #[.pointer (some ⟨b, o, none⟩), .map (some m)] w (PP m names t.bare t.vn w) := by
  have HIH := hide ih
  obtain ⟨hb, _, _, aL, aV, aP, cL, cV, cP, hrg, hL, hV, hP, _⟩ := hT
  have hmw := hM.lt
  have hbw : b < w.heap.size := by omega
  have hB0 : 0 < B := by omega
  have h0w : 0 < w.heap.size := by omega
  have hLm : t.l.length ≤ 281474976710656 := by have := hL.1; have := hL.2.1; omega
  have c0 : w.cell? ⟨b, o, none⟩ = some (.int .i64 t.op) := hrg 0 _ rfl
  have c1 : w.cell? ⟨b, o + 1, none⟩ = some (.string t.name) := hrg 1 _ rfl
  have c4 : w.cell? ⟨b, o + 4, none⟩ = some (.slice aL t.l.length cL) := hrg 4 _ rfl
  obtain ⟨n, hn⟩ : ∃ n, t.l.length = n := ⟨_, rfl⟩
  have HN := hide hn
  rw [hn] at c4 hLm hL
  have HC4 := hide c4
  have HRow := hide hL
  have HR := hide hR
  have HM := hide hM
  clear ih hrg hL hV hP hR hM hn
  have ta0 := fun w => ta_no (k := 108) (ty := 101) (v := .agg #[.pointer (some ⟨b, o, none⟩)]) (z := .agg #[.pointer none]) (w := w) (by decide) rfl rfl (by go_simp)
  have ta1 := fun w => ta_no (k := 108) (ty := 133) (v := .agg #[.pointer (some ⟨b, o, none⟩)]) (z := .agg #[.pointer none]) (w := w) (by decide) rfl rfl (by go_simp)
  have ta2 := fun w => ta_no (k := 108) (ty := 132) (v := .agg #[.pointer (some ⟨b, o, none⟩)]) (z := .agg #[.pointer none]) (w := w) (by decide) rfl rfl (by go_simp)
  have ta3 := fun w => ta_no (k := 108) (ty := 82) (v := .agg #[.pointer (some ⟨b, o, none⟩)]) (z := .agg #[.pointer none]) (w := w) (by decide) rfl rfl (by go_simp)
  have ta4 := fun w => ta_no (k := 108) (ty := 135) (v := .agg #[.pointer (some ⟨b, o, none⟩)]) (z := .agg #[.pointer none]) (w := w) (by decide) rfl rfl (by go_simp)
  have HOpB := hide (show (t.op == 1 || (decide (12 ≤ t.op) && decide (t.op ≤ 15)) || t.op == 17 || t.op == 18) = true by rw [hop]; rfl)
  have HNs : Hid ((if t.op = 18 then [t.name] else []) = ([] : List ByteArray)) := by show _ = _; rw [if_neg (by omega)]
  have hkk : kindOf t.op = 108 := by rw [hop]; rfl
  clear hop
  go_enter Tryd.func83, Tryd.ntmps83
  go_wp2_with fail
  refine (view_any b o t.op w c0 hbw).mono ?_
  rintro e w1 ⟨rfl, hb1⟩
  rw [hkk]
  obtain ⟨U, eU, hbU⟩ : ∃ U, ((((w1.alloc (.cells #[.pointer none] 101)).alloc (.cells #[.pointer none] 133)).alloc (.cells #[.pointer none] 132)).alloc (.cells #[.pointer none] 82)).alloc (.cells #[.pointer none] 135) = U ∧ Below w.heap.size w U := ⟨_, rfl, five hb1 hb1.size _ _ _ _ _⟩
  have e4 := fun x y z u s => ((five hb1 hb1.size x y z u s).cell (p := ⟨b, o + 4, none⟩) hbw).trans (unhide HC4)
  have HB1 := hide hb1
  have HU := hide (And.intro ((unhide HM).below hbU hmw) (show But m w U from But.of hbU (Nat.le_refl _)))
  rw [← eU] at HU
  obtain ⟨ns0, hns0⟩ : ∃ ns0, names = ns0 := ⟨_, rfl⟩
  subst hns0
  clear hkk c0 c1 c4 hb1 hbU eU
  go_wp2
  go_loopw [74] (fun iv wr => ∃ i : Nat, i ≤ n ∧ iv = .int .i64 (i : Int) ∧ ((t.l.take i).all Tm.bare) = true ∧ NM wr m (seenL (names ++ ((t.l.take i).map Tm.vn).flatten)) ∧ But m w wr) (fun iv _ => (n - (intOf iv).toNat))
  case atStart => exact ⟨0, Nat.zero_le _, rfl, rfl, by simpa using (unhide HU).1, (unhide HU).2⟩
  case round =>
    obtain ⟨i, hi, rfl, hok, hNMi, hbut⟩ := hrel
    by_cases hlt : i < n
    · have h1 : i < t.l.length := by have := unhide HN; omega
      have hd1 : decide ((i : Int) < (n : Int)) = true := by simp; omega
      have hXi : (i : Int) < (n : Int) := by omega
      have hcap : (i : Int) < 281474976710656 := by omega
      have hbel : Below B w wr := hbut.below hBm (by omega)
      have c4i : wr.cell? ⟨b, o + 4, none⟩ = some (.slice aL n cL) := (hbel.cell (p := ⟨b, o + 4, none⟩) hb).trans (unhide HC4)
      obtain ⟨b', off, rfl, hbB', hj⟩ := (unhide HRow).2.2 (by omega)
      have hA := (hj i hlt _ (List.getElem?_eq_getElem h1)).more hbel (Nat.le_refl _) (Nat.le_refl _)
      have HCall := hide (unhide HIH B m wr b' (off + i * 7) t.l[i] _ hA hNMi hBm ((unhide HR).below hbel hB0))
      have htk : ((t.l.take (i + 1)).all Tm.bare) = (((t.l.take i).all Tm.bare) && t.l[i].bare) := by rw [take_more h1, List.all_append]; simp
      have hvn : names ++ ((t.l.take (i + 1)).map Tm.vn).flatten = (names ++ ((t.l.take i).map Tm.vn).flatten) ++ t.l[i].vn := by rw [take_more h1, List.map_append, List.flatten_append]; simp
      have hno : t.l[i].bare = false → t.l.all Tm.bare = false := fun h => by rw [List.all_eq_false]; exact ⟨_, List.getElem_mem h1, by rw [h]; decide⟩
      have HP := hide (And.intro hok (And.intro htk (And.intro hvn (And.intro hno hbut))))
      clear hj hA hok htk hvn hno hNMi hbut hbel
      cases hq : t.l[i].bare with
      | true =>
        rw [hq] at HCall
        have HQ := hide hq
        clear hq
        go_wp2_with fail
        refine (unhide HCall).mono ?_
        rintro e w4 ⟨rfl, h4, h5⟩
        have H4 := hide (And.intro h4 h5)
        clear h4 h5
        go_wp2
        obtain ⟨hok, htk, hvn, _, hbut⟩ := unhide HP
        obtain ⟨⟨ns, hns, hnse⟩, h5⟩ := unhide H4
        refine ⟨⟨i + 1, by omega, rfl, by rw [htk, hok, unhide HQ]; rfl, ?_, hbut.trans h5⟩, by simp only [intOf]; omega⟩
        rw [hvn, ← hnse (by first | rfl | trivial)]
        exact hns
      | false =>
        rw [hq] at HCall
        have HQ := hide hq
        clear hq
        go_wp2_with fail
        refine (unhide HCall).mono ?_
        rintro e w4 ⟨rfl, h4, h5⟩
        have H4 := hide (And.intro h4 h5)
        clear h4 h5
        go_wp2
        go_ret
        obtain ⟨hok, htk, hvn, hno, hbut⟩ := unhide HP
        obtain ⟨⟨ns, hns, hnse⟩, h5⟩ := unhide H4
        have hbf : t.bare = false := by rw [t.bare_eq, hno (unhide HQ), Bool.and_false]
        exact ⟨by rw [hbf]; rfl, ⟨ns, hns, fun h => by rw [hbf] at h; cases h⟩, hbut.trans h5⟩
    · have hin : i = n := by omega
      have hd1 : decide ((i : Int) < (n : Int)) = false := by simp; omega
      have htake : t.l.take i = t.l := List.take_of_length_le (by have := unhide HN; omega)
      rw [htake] at hok hNMi
      have HF := hide (And.intro hok (And.intro hNMi hbut))
      clear htake hok hNMi hbut hin
      go_wp2
      go_ret
      obtain ⟨hok, hNMi, hbut⟩ := unhide HF
      have hbt : t.bare = true := by rw [t.bare_eq, hok, unhide HOpB]; rfl
      refine ⟨by rw [hbt]; rfl, ⟨_, hNMi, fun _ => ?_⟩, hbut⟩
      rw [t.vn_eq, unhide HNs]
      simp
set_option maxRecDepth 1000000 in
set_option maxHeartbeats 16000000 in
theorem pat_application {d : Nat} (ih : PatC d) {B m : Nat} {w : World} {b o : Nat} {t : Tm} {names : List ByteArray} (hT : TmAt w B (d + 1) b o t) (hM : NM w m (seenL names)) (hBm : B ≤ m) (hR : RL w) (hop : t.op = 17) :
    Calls Tryd.prog 83 #[.pointer (some ⟨b, o, none⟩), .map (some m)] w (PP m names t.bare t.vn w) := by
  have HIH := hide ih
  obtain ⟨hb, _, _, aL, aV, aP, cL, cV, cP, hrg, hL, hV, hP, _⟩ := hT
  have hmw := hM.lt
  have hbw : b < w.heap.size := by omega
  have hB0 : 0 < B := by omega
  have h0w : 0 < w.heap.size := by omega
  have hLm : t.l.length ≤ 281474976710656 := by have := hL.1; have := hL.2.1; omega
  have c0 : w.cell? ⟨b, o, none⟩ = some (.int .i64 t.op) := hrg 0 _ rfl
  have c1 : w.cell? ⟨b, o + 1, none⟩ = some (.string t.name) := hrg 1 _ rfl
  have c4 : w.cell? ⟨b, o + 4, none⟩ = some (.slice aL t.l.length cL) := hrg 4 _ rfl
  obtain ⟨n, hn⟩ : ∃ n, t.l.length = n := ⟨_, rfl⟩
  have HN := hide hn
  rw [hn] at c4 hLm hL
  have HC4 := hide c4
  have HRow := hide hL
  have HR := hide hR
  have HM := hide hM
  clear ih hrg hL hV hP hR hM hn
  have ta0 := fun w => ta_no (k := 134) (ty := 101) (v := .agg #[.pointer (some ⟨b, o, none⟩)]) (z := .agg #[.pointer none]) (w := w) (by decide) rfl rfl (by go_simp)
  have ta1 := fun w => ta_no (k := 134) (ty := 133) (v := .agg #[.pointer (some ⟨b, o, none⟩)]) (z := .agg #[.pointer none]) (w := w) (by decide) rfl rfl (by go_simp)
  have ta2 := fun w => ta_no (k := 134) (ty := 132) (v := .agg #[.pointer (some ⟨b, o, none⟩)]) (z := .agg #[.pointer none]) (w := w) (by decide) rfl rfl (by go_simp)
  have ta3 := fun w => ta_no (k := 134) (ty := 82) (v := .agg #[.pointer (some ⟨b, o, none⟩)]) (z := .agg #[.pointer none]) (w := w) (by decide) rfl rfl (by go_simp)
  have ta4 := fun w => ta_no (k := 134) (ty := 135) (v := .agg #[.pointer (some ⟨b, o, none⟩)]) (z := .agg #[.pointer none]) (w := w) (by decide) rfl rfl (by go_simp)
  have HOpB := hide (show (t.op == 1 || (decide (12 ≤ t.op) && decide (t.op ≤ 15)) || t.op == 17 || t.op == 18) = true by rw [hop]; rfl)
  have HNs : Hid ((if t.op = 18 then [t.name] else []) = ([] : List ByteArray)) := by show _ = _; rw [if_neg (by omega)]
  have hkk : kindOf t.op = 134 := by rw [hop]; rfl
  clear hop
  go_enter Tryd.func83, Tryd.ntmps83
  go_wp2_with fail
  refine (view_any b o t.op w c0 hbw).mono ?_
  rintro e w1 ⟨rfl, hb1⟩
  rw [hkk]
  obtain ⟨U, eU, hbU⟩ : ∃ U, ((((w1.alloc (.cells #[.pointer none] 101)).alloc (.cells #[.pointer none] 133)).alloc (.cells #[.pointer none] 132)).alloc (.cells #[.pointer none] 82)).alloc (.cells #[.pointer none] 135) = U ∧ Below w.heap.size w U := ⟨_, rfl, five hb1 hb1.size _ _ _ _ _⟩
  have e4 := fun x y z u s => ((five hb1 hb1.size x y z u s).cell (p := ⟨b, o + 4, none⟩) hbw).trans (unhide HC4)
  have HB1 := hide hb1
  have HU := hide (And.intro ((unhide HM).below hbU hmw) (show But m w U from But.of hbU (Nat.le_refl _)))
  rw [← eU] at HU
  obtain ⟨ns0, hns0⟩ : ∃ ns0, names = ns0 := ⟨_, rfl⟩
  subst hns0
  clear hkk c0 c1 c4 hb1 hbU eU
  go_wp2
  go_loopw [74] (fun iv wr => ∃ i : Nat, i ≤ n ∧ iv = .int .i64 (i : Int) ∧ ((t.l.take i).all Tm.bare) = true ∧ NM wr m (seenL (names ++ ((t.l.take i).map Tm.vn).flatten)) ∧ But m w wr) (fun iv _ => (n - (intOf iv).toNat))
  case atStart => exact ⟨0, Nat.zero_le _, rfl, rfl, by simpa using (unhide HU).1, (unhide HU).2⟩
  case round =>
    obtain ⟨i, hi, rfl, hok, hNMi, hbut⟩ := hrel
    by_cases hlt : i < n
    · have h1 : i < t.l.length := by have := unhide HN; omega
      have hd1 : decide ((i : Int) < (n : Int)) = true := by simp; omega
      have hXi : (i : Int) < (n : Int) := by omega
      have hcap : (i : Int) < 281474976710656 := by omega
      have hbel : Below B w wr := hbut.below hBm (by omega)
      have c4i : wr.cell? ⟨b, o + 4, none⟩ = some (.slice aL n cL) := (hbel.cell (p := ⟨b, o + 4, none⟩) hb).trans (unhide HC4)
      obtain ⟨b', off, rfl, hbB', hj⟩ := (unhide HRow).2.2 (by omega)
      have hA := (hj i hlt _ (List.getElem?_eq_getElem h1)).more hbel (Nat.le_refl _) (Nat.le_refl _)
      have HCall := hide (unhide HIH B m wr b' (off + i * 7) t.l[i] _ hA hNMi hBm ((unhide HR).below hbel hB0))
      have htk : ((t.l.take (i + 1)).all Tm.bare) = (((t.l.take i).all Tm.bare) && t.l[i].bare) := by rw [take_more h1, List.all_append]; simp
      have hvn : names ++ ((t.l.take (i + 1)).map Tm.vn).flatten = (names ++ ((t.l.take i).map Tm.vn).flatten) ++ t.l[i].vn := by rw [take_more h1, List.map_append, List.flatten_append]; simp
      have hno : t.l[i].bare = false → t.l.all Tm.bare = false := fun h => by rw [List.all_eq_false]; exact ⟨_, List.getElem_mem h1, by rw [h]; decide⟩
      have HP := hide (And.intro hok (And.intro htk (And.intro hvn (And.intro hno hbut))))
      clear hj hA hok htk hvn hno hNMi hbut hbel
      cases hq : t.l[i].bare with
      | true =>
        rw [hq] at HCall
        have HQ := hide hq
        clear hq
        go_wp2_with fail
        refine (unhide HCall).mono ?_
        rintro e w4 ⟨rfl, h4, h5⟩
        have H4 := hide (And.intro h4 h5)
        clear h4 h5
        go_wp2
        obtain ⟨hok, htk, hvn, _, hbut⟩ := unhide HP
        obtain ⟨⟨ns, hns, hnse⟩, h5⟩ := unhide H4
        refine ⟨⟨i + 1, by omega, rfl, by rw [htk, hok, unhide HQ]; rfl, ?_, hbut.trans h5⟩, by simp only [intOf]; omega⟩
        rw [hvn, ← hnse (by first | rfl | trivial)]
        exact hns
      | false =>
        rw [hq] at HCall
        have HQ := hide hq
        clear hq
        go_wp2_with fail
        refine (unhide HCall).mono ?_
        rintro e w4 ⟨rfl, h4, h5⟩
        have H4 := hide (And.intro h4 h5)
        clear h4 h5
        go_wp2
        go_ret
        obtain ⟨hok, htk, hvn, hno, hbut⟩ := unhide HP
        obtain ⟨⟨ns, hns, hnse⟩, h5⟩ := unhide H4
        have hbf : t.bare = false := by rw [t.bare_eq, hno (unhide HQ), Bool.and_false]
        exact ⟨by rw [hbf]; rfl, ⟨ns, hns, fun h => by rw [hbf] at h; cases h⟩, hbut.trans h5⟩
    · have hin : i = n := by omega
      have hd1 : decide ((i : Int) < (n : Int)) = false := by simp; omega
      have htake : t.l.take i = t.l := List.take_of_length_le (by have := unhide HN; omega)
      rw [htake] at hok hNMi
      have HF := hide (And.intro hok (And.intro hNMi hbut))
      clear htake hok hNMi hbut hin
      go_wp2
      go_ret
      obtain ⟨hok, hNMi, hbut⟩ := unhide HF
      have hbt : t.bare = true := by rw [t.bare_eq, hok, unhide HOpB]; rfl
      refine ⟨by rw [hbt]; rfl, ⟨_, hNMi, fun _ => ?_⟩, hbut⟩
      rw [t.vn_eq, unhide HNs]
      simp
set_option maxRecDepth 1000000 in
set_option maxHeartbeats 16000000 in
theorem pat_operation {d : Nat} (ih : PatC d) {B m : Nat} {w : World} {b o : Nat} {t : Tm} {names : List ByteArray} (hT : TmAt w B (d + 1) b o t) (hM : NM w m (seenL names)) (hBm : B ≤ m) (hR : RL w) {k : Nat} (hop : t.op = (k : Int)) (hk1 : 12 ≤ k) (hk2 : k ≤ 15) :
    Calls Tryd.prog 83 #[.pointer (some ⟨b, o, none⟩), .map (some m)] w (PP m names t.bare t.vn w) := by
  have HIH := hide ih
  obtain ⟨hb, _, _, aL, aV, aP, cL, cV, cP, hrg, hL, hV, hP, _⟩ := hT
  have hmw := hM.lt
  have hbw : b < w.heap.size := by omega
  have hB0 : 0 < B := by omega
  have h0w : 0 < w.heap.size := by omega
  have hLm : t.l.length ≤ 281474976710656 := by have := hL.1; have := hL.2.1; omega
  have c0 : w.cell? ⟨b, o, none⟩ = some (.int .i64 t.op) := hrg 0 _ rfl
  have c1 : w.cell? ⟨b, o + 1, none⟩ = some (.string t.name) := hrg 1 _ rfl
  have c4 : w.cell? ⟨b, o + 4, none⟩ = some (.slice aL t.l.length cL) := hrg 4 _ rfl
  obtain ⟨n, hn⟩ : ∃ n, t.l.length = n := ⟨_, rfl⟩
  have HN := hide hn
  rw [hn] at c4 hLm hL
  have HC4 := hide c4
  have HRow := hide hL
  have HR := hide hR
  have HM := hide hM
  clear ih hrg hL hV hP hR hM hn
  have ta0 := fun w => ta_no (k := 133) (ty := 101) (v := .agg #[.pointer (some ⟨b, o, none⟩)]) (z := .agg #[.pointer none]) (w := w) (by decide) rfl rfl (by go_simp)
  have ta1 := fun w => ta_yes (ty := 133) (v := .agg #[.pointer (some ⟨b, o, none⟩)]) (w := w) rfl rfl
  have ta2 := fun w => ta_no (k := 133) (ty := 132) (v := .agg #[.pointer (some ⟨b, o, none⟩)]) (z := .agg #[.pointer none]) (w := w) (by decide) rfl rfl (by go_simp)
  have ta3 := fun w => ta_no (k := 133) (ty := 82) (v := .agg #[.pointer (some ⟨b, o, none⟩)]) (z := .agg #[.pointer none]) (w := w) (by decide) rfl rfl (by go_simp)
  have ta4 := fun w => ta_no (k := 133) (ty := 135) (v := .agg #[.pointer (some ⟨b, o, none⟩)]) (z := .agg #[.pointer none]) (w := w) (by decide) rfl rfl (by go_simp)
  have HOpB := hide (show (t.op == 1 || (decide (12 ≤ t.op) && decide (t.op ≤ 15)) || t.op == 17 || t.op == 18) = true by
    have e1 : decide (12 ≤ t.op) = true := by simp; omega
    have e2 : decide (t.op ≤ 15) = true := by simp; omega
    rw [e1, e2]; simp)
  have HNs : Hid ((if t.op = 18 then [t.name] else []) = ([] : List ByteArray)) := by show _ = _; rw [if_neg (by omega)]
  have hkk : kindOf t.op = 133 := by
    rcases op_kind (op := t.op) with ⟨h, e⟩ | ⟨h, e⟩ | ⟨h, e⟩ | ⟨h, e⟩ | ⟨h, e⟩ | ⟨h, e⟩ | ⟨h, e⟩ <;> first | exact e | omega
  have hki : (k : Int) < 17 := by omega
  have hown : (opOwn k != 1) = false := by
    rw [own_one (by omega) (by omega)]
    have e1 : decide (12 ≤ k) = true := by simp; omega
    have e2 : decide (k ≤ 15) = true := by simp; omega
    rw [e1, e2]; rfl
  rw [hop] at c0
  have HRk := hide ((unhide HR) k (by omega) (by omega)).2.2.2
  have HOp := hide hop
  go_enter Tryd.func83, Tryd.ntmps83
  go_wp2_with fail
  refine (view_any b o (k : Int) w c0 hbw).mono ?_
  rw [← hop]
  rintro e w1 ⟨rfl, hb1⟩
  rw [hkk]
  obtain ⟨U, eU, hbU⟩ : ∃ U, ((((w1.alloc (.cells #[.pointer none] 101)).alloc (.cells #[.pointer (some ⟨b, o, none⟩)] 133)).alloc (.cells #[.pointer none] 132)).alloc (.cells #[.pointer none] 82)).alloc (.cells #[.pointer none] 135) = U ∧ Below w.heap.size w U := ⟨_, rfl, five hb1 hb1.size _ _ _ _ _⟩
  have e4 := fun x y z u s => ((five hb1 hb1.size x y z u s).cell (p := ⟨b, o + 4, none⟩) hbw).trans (unhide HC4)
  have e0 := fun x y => (((hb1.alloc hb1.size x).alloc (by have := hb1.size; simp; omega) y).cell (p := ⟨b, o, none⟩) hbw).trans c0
  have er := fun x y => (((hb1.alloc hb1.size x).alloc (by have := hb1.size; simp; omega) y).cell (p := ⟨0, k * 4 + 3, none⟩) h0w).trans (unhide HRk)
  generalize opOwn k = oo at *
  clear hk1 hk2
  have HB1 := hide hb1
  have HU := hide (And.intro ((unhide HM).below hbU hmw) (show But m w U from But.of hbU (Nat.le_refl _)))
  rw [← eU] at HU
  obtain ⟨ns0, hns0⟩ : ∃ ns0, names = ns0 := ⟨_, rfl⟩
  subst hns0
  clear hkk c0 c1 c4 hb1 hbU eU hop
  go_wp2
  go_loopw [74] (fun iv wr => ∃ i : Nat, i ≤ n ∧ iv = .int .i64 (i : Int) ∧ ((t.l.take i).all Tm.bare) = true ∧ NM wr m (seenL (names ++ ((t.l.take i).map Tm.vn).flatten)) ∧ But m w wr) (fun iv _ => (n - (intOf iv).toNat))
  case atStart => exact ⟨0, Nat.zero_le _, rfl, rfl, by simpa using (unhide HU).1, (unhide HU).2⟩
  case round =>
    obtain ⟨i, hi, rfl, hok, hNMi, hbut⟩ := hrel
    by_cases hlt : i < n
    · have h1 : i < t.l.length := by have := unhide HN; omega
      have hd1 : decide ((i : Int) < (n : Int)) = true := by simp; omega
      have hXi : (i : Int) < (n : Int) := by omega
      have hcap : (i : Int) < 281474976710656 := by omega
      have hbel : Below B w wr := hbut.below hBm (by omega)
      have c4i : wr.cell? ⟨b, o + 4, none⟩ = some (.slice aL n cL) := (hbel.cell (p := ⟨b, o + 4, none⟩) hb).trans (unhide HC4)
      obtain ⟨b', off, rfl, hbB', hj⟩ := (unhide HRow).2.2 (by omega)
      have hA := (hj i hlt _ (List.getElem?_eq_getElem h1)).more hbel (Nat.le_refl _) (Nat.le_refl _)
      have HCall := hide (unhide HIH B m wr b' (off + i * 7) t.l[i] _ hA hNMi hBm ((unhide HR).below hbel hB0))
      have htk : ((t.l.take (i + 1)).all Tm.bare) = (((t.l.take i).all Tm.bare) && t.l[i].bare) := by rw [take_more h1, List.all_append]; simp
      have hvn : names ++ ((t.l.take (i + 1)).map Tm.vn).flatten = (names ++ ((t.l.take i).map Tm.vn).flatten) ++ t.l[i].vn := by rw [take_more h1, List.map_append, List.flatten_append]; simp
      have hno : t.l[i].bare = false → t.l.all Tm.bare = false := fun h => by rw [List.all_eq_false]; exact ⟨_, List.getElem_mem h1, by rw [h]; decide⟩
      have HP := hide (And.intro hok (And.intro htk (And.intro hvn (And.intro hno hbut))))
      clear hj hA hok htk hvn hno hNMi hbut hbel
      cases hq : t.l[i].bare with
      | true =>
        rw [hq] at HCall
        have HQ := hide hq
        clear hq
        go_wp2_with fail
        refine (unhide HCall).mono ?_
        rintro e w4 ⟨rfl, h4, h5⟩
        have H4 := hide (And.intro h4 h5)
        clear h4 h5
        go_wp2
        obtain ⟨hok, htk, hvn, _, hbut⟩ := unhide HP
        obtain ⟨⟨ns, hns, hnse⟩, h5⟩ := unhide H4
        refine ⟨⟨i + 1, by omega, rfl, by rw [htk, hok, unhide HQ]; rfl, ?_, hbut.trans h5⟩, by simp only [intOf]; omega⟩
        rw [hvn, ← hnse (by first | rfl | trivial)]
        exact hns
      | false =>
        rw [hq] at HCall
        have HQ := hide hq
        clear hq
        go_wp2_with fail
        refine (unhide HCall).mono ?_
        rintro e w4 ⟨rfl, h4, h5⟩
        have H4 := hide (And.intro h4 h5)
        clear h4 h5
        go_wp2
        go_ret
        obtain ⟨hok, htk, hvn, hno, hbut⟩ := unhide HP
        obtain ⟨⟨ns, hns, hnse⟩, h5⟩ := unhide H4
        have hbf : t.bare = false := by rw [t.bare_eq, hno (unhide HQ), Bool.and_false]
        exact ⟨by rw [hbf]; rfl, ⟨ns, hns, fun h => by rw [hbf] at h; cases h⟩, hbut.trans h5⟩
    · have hin : i = n := by omega
      have hd1 : decide ((i : Int) < (n : Int)) = false := by simp; omega
      have htake : t.l.take i = t.l := List.take_of_length_le (by have := unhide HN; omega)
      rw [htake] at hok hNMi
      have HF := hide (And.intro hok (And.intro hNMi hbut))
      clear htake hok hNMi hbut hin
      go_wp2
      go_ret
      obtain ⟨hok, hNMi, hbut⟩ := unhide HF
      have hbt : t.bare = true := by rw [t.bare_eq, hok, unhide HOpB]; rfl
      refine ⟨by rw [hbt]; rfl, ⟨_, hNMi, fun _ => ?_⟩, hbut⟩
      rw [t.vn_eq, unhide HNs]
      simp
set_option maxRecDepth 1000000 in
set_option maxHeartbeats 16000000 in
theorem pat_variable {d : Nat} (ih : PatC d) {B m : Nat} {w : World} {b o : Nat} {t : Tm} {names : List ByteArray} (hT : TmAt w B (d + 1) b o t) (hM : NM w m (seenL names)) (hBm : B ≤ m) (hR : RL w) (hop : t.op = 18) :
    Calls Tryd.prog 83 #[.pointer (some ⟨b, o, none⟩), .map (some m)] w (PP m names t.bare t.vn w) := by
  have HIH := hide ih
  obtain ⟨hb, _, _, aL, aV, aP, cL, cV, cP, hrg, hL, hV, hP, _⟩ := hT
  have hmw := hM.lt
  have hbw : b < w.heap.size := by omega
  have hB0 : 0 < B := by omega
  have h0w : 0 < w.heap.size := by omega
  have hLm : t.l.length ≤ 281474976710656 := by have := hL.1; have := hL.2.1; omega
  have c0 : w.cell? ⟨b, o, none⟩ = some (.int .i64 t.op) := hrg 0 _ rfl
  have c1 : w.cell? ⟨b, o + 1, none⟩ = some (.string t.name) := hrg 1 _ rfl
  have c4 : w.cell? ⟨b, o + 4, none⟩ = some (.slice aL t.l.length cL) := hrg 4 _ rfl
  obtain ⟨n, hn⟩ : ∃ n, t.l.length = n := ⟨_, rfl⟩
  have HN := hide hn
  rw [hn] at c4 hLm hL
  have HC4 := hide c4
  have HRow := hide hL
  have HR := hide hR
  have HM := hide hM
  clear ih hrg hL hV hP hR hM hn
  have ta0 := fun w => ta_yes (ty := 101) (v := .agg #[.pointer (some ⟨b, o, none⟩)]) (w := w) rfl rfl
  have ta1 := fun w => ta_no (k := 101) (ty := 133) (v := .agg #[.pointer (some ⟨b, o, none⟩)]) (z := .agg #[.pointer none]) (w := w) (by decide) rfl rfl (by go_simp)
  have ta2 := fun w => ta_no (k := 101) (ty := 132) (v := .agg #[.pointer (some ⟨b, o, none⟩)]) (z := .agg #[.pointer none]) (w := w) (by decide) rfl rfl (by go_simp)
  have ta3 := fun w => ta_no (k := 101) (ty := 82) (v := .agg #[.pointer (some ⟨b, o, none⟩)]) (z := .agg #[.pointer none]) (w := w) (by decide) rfl rfl (by go_simp)
  have ta4 := fun w => ta_no (k := 101) (ty := 135) (v := .agg #[.pointer (some ⟨b, o, none⟩)]) (z := .agg #[.pointer none]) (w := w) (by decide) rfl rfl (by go_simp)
  have HOpB := hide (show (t.op == 1 || (decide (12 ≤ t.op) && decide (t.op ≤ 15)) || t.op == 17 || t.op == 18) = true by rw [hop]; rfl)
  have HNs : Hid ((if t.op = 18 then [t.name] else []) = [t.name]) := by show _ = _; rw [if_pos hop]
  have hkk : kindOf t.op = 101 := by rw [hop]; rfl
  clear hop
  go_enter Tryd.func83, Tryd.ntmps83
  go_wp2_with fail
  refine (view_any b o t.op w c0 hbw).mono ?_
  rintro e w1 ⟨rfl, hb1⟩
  rw [hkk]
  obtain ⟨V, eV, hbV, hsV, hcV, hhV⟩ := box_new w1 #[.pointer (some ⟨b, o, none⟩)] 101
  have hbwV : Below w.heap.size w V := hb1.trans (hbV.mono hb1.size)
  have v0 : V.cell? ⟨w1.heap.size, 0, none⟩ = some (.pointer (some ⟨b, o, none⟩)) := hcV 0 _ rfl
  have v1 : V.cell? ⟨b, o + 1, none⟩ = some (.string t.name) := (hbwV.cell (p := ⟨b, o + 1, none⟩) hbw).trans c1
  obtain ⟨W, hrun, hput, hNMW⟩ := nm_update (P := Tryd.prog) (k := t.name) (v := .agg #[]) umU ukS ((unhide HM).below hbwV hmw)
  have hbutW : But m w W := by
    refine (But.of hbwV (Nat.le_refl _)).trans ⟨hput.os, hput.tape, hput.output, by rw [hput.size]; exact Nat.le_refl _, fun k _ hk => hput.block k hk⟩
  have hsWw : W.heap.size = V.heap.size := hput.size
  have hmW : m < W.heap.size := hNMW.lt
  rw [← seenL_snoc] at hNMW
  have hbW' : b < W.heap.size := by have := hbwV.size; omega
  have w4 : W.cell? ⟨b, o + 4, none⟩ = some (.slice aL n cL) := cell_but hbutW hbw (by omega) (unhide HC4)
  have e4 := fun x y z u => a4 hbW' w4 x y z u
  obtain ⟨ns0, hns0⟩ : ∃ ns0, names ++ [t.name] = ns0 := ⟨_, rfl⟩
  rw [hns0] at hNMW
  have HNs0 := hide hns0
  have HU := hide (show NM ((((W.alloc (.cells #[.pointer none] 133)).alloc (.cells #[.pointer none] 132)).alloc (.cells #[.pointer none] 82)).alloc (.cells #[.pointer none] 135)) m (seenL ns0) ∧ But m w ((((W.alloc (.cells #[.pointer none] 133)).alloc (.cells #[.pointer none] 132)).alloc (.cells #[.pointer none] 82)).alloc (.cells #[.pointer none] 135)) from ⟨hNMW.below (four (Below.refl _ W) (Nat.le_refl _) _ _ _ _) hmW, hbutW.trans (But.of (four (Below.refl _ W) (Nat.le_refl _) _ _ _ _) (Nat.le_refl _))⟩)
  have HS := hide (And.intro hsWw hsV)
  clear hkk c0 c1 c4 hb1 hbV hsV hcV hhV hbwV hput hNMW hbutW hsWw hns0
  go_wp2
  go_loopw [74] (fun iv wr => ∃ i : Nat, i ≤ n ∧ iv = .int .i64 (i : Int) ∧ ((t.l.take i).all Tm.bare) = true ∧ NM wr m (seenL (ns0 ++ ((t.l.take i).map Tm.vn).flatten)) ∧ But m w wr) (fun iv _ => (n - (intOf iv).toNat))
  case atStart => exact ⟨0, Nat.zero_le _, rfl, rfl, by simpa using (unhide HU).1, (unhide HU).2⟩
  case round =>
    obtain ⟨i, hi, rfl, hok, hNMi, hbut⟩ := hrel
    by_cases hlt : i < n
    · have h1 : i < t.l.length := by have := unhide HN; omega
      have hd1 : decide ((i : Int) < (n : Int)) = true := by simp; omega
      have hXi : (i : Int) < (n : Int) := by omega
      have hcap : (i : Int) < 281474976710656 := by omega
      have hbel : Below B w wr := hbut.below hBm (by omega)
      have c4i : wr.cell? ⟨b, o + 4, none⟩ = some (.slice aL n cL) := (hbel.cell (p := ⟨b, o + 4, none⟩) hb).trans (unhide HC4)
      obtain ⟨b', off, rfl, hbB', hj⟩ := (unhide HRow).2.2 (by omega)
      have hA := (hj i hlt _ (List.getElem?_eq_getElem h1)).more hbel (Nat.le_refl _) (Nat.le_refl _)
      have HCall := hide (unhide HIH B m wr b' (off + i * 7) t.l[i] _ hA hNMi hBm ((unhide HR).below hbel hB0))
      have htk : ((t.l.take (i + 1)).all Tm.bare) = (((t.l.take i).all Tm.bare) && t.l[i].bare) := by rw [take_more h1, List.all_append]; simp
      have hvn : ns0 ++ ((t.l.take (i + 1)).map Tm.vn).flatten = (ns0 ++ ((t.l.take i).map Tm.vn).flatten) ++ t.l[i].vn := by rw [take_more h1, List.map_append, List.flatten_append]; simp
      have hno : t.l[i].bare = false → t.l.all Tm.bare = false := fun h => by rw [List.all_eq_false]; exact ⟨_, List.getElem_mem h1, by rw [h]; decide⟩
      have HP := hide (And.intro hok (And.intro htk (And.intro hvn (And.intro hno hbut))))
      clear hj hA hok htk hvn hno hNMi hbut hbel
      cases hq : t.l[i].bare with
      | true =>
        rw [hq] at HCall
        have HQ := hide hq
        clear hq
        go_wp2_with fail
        refine (unhide HCall).mono ?_
        rintro e w4 ⟨rfl, h4, h5⟩
        have H4 := hide (And.intro h4 h5)
        clear h4 h5
        go_wp2
        obtain ⟨hok, htk, hvn, _, hbut⟩ := unhide HP
        obtain ⟨⟨ns, hns, hnse⟩, h5⟩ := unhide H4
        refine ⟨⟨i + 1, by omega, rfl, by rw [htk, hok, unhide HQ]; rfl, ?_, hbut.trans h5⟩, by simp only [intOf]; omega⟩
        rw [hvn, ← hnse (by first | rfl | trivial)]
        exact hns
      | false =>
        rw [hq] at HCall
        have HQ := hide hq
        clear hq
        go_wp2_with fail
        refine (unhide HCall).mono ?_
        rintro e w4 ⟨rfl, h4, h5⟩
        have H4 := hide (And.intro h4 h5)
        clear h4 h5
        go_wp2
        go_ret
        obtain ⟨hok, htk, hvn, hno, hbut⟩ := unhide HP
        obtain ⟨⟨ns, hns, hnse⟩, h5⟩ := unhide H4
        have hbf : t.bare = false := by rw [t.bare_eq, hno (unhide HQ), Bool.and_false]
        exact ⟨by rw [hbf]; rfl, ⟨ns, hns, fun h => by rw [hbf] at h; cases h⟩, hbut.trans h5⟩
    · have hin : i = n := by omega
      have hd1 : decide ((i : Int) < (n : Int)) = false := by simp; omega
      have htake : t.l.take i = t.l := List.take_of_length_le (by have := unhide HN; omega)
      rw [htake] at hok hNMi
      have HF := hide (And.intro hok (And.intro hNMi hbut))
      clear htake hok hNMi hbut hin
      go_wp2
      go_ret
      obtain ⟨hok, hNMi, hbut⟩ := unhide HF
      have hbt : t.bare = true := by rw [t.bare_eq, hok, unhide HOpB]; rfl
      refine ⟨by rw [hbt]; rfl, ⟨_, hNMi, fun _ => ?_⟩, hbut⟩
      rw [t.vn_eq, unhide HNs]
      rw [← unhide HNs0]; simp
set_option maxRecDepth 1000000 in
set_option maxHeartbeats 16000000 in
theorem pat_truth_no {d : Nat} (ih : PatC d) {B m : Nat} {w : World} {b o : Nat} {t : Tm} {names : List ByteArray} (hT : TmAt w B (d + 1) b o t) (hM : NM w m (seenL names)) (hBm : B ≤ m) (hR : RL w) (hop : t.op = 2 ∨ t.op = 3) :
    Calls Tryd.prog 83 #[.pointer (some ⟨b, o, none⟩), .map (some m)] w (PP m names t.bare t.vn w) := by
  have HIH := hide ih
  obtain ⟨hb, _, _, aL, aV, aP, cL, cV, cP, hrg, hL, hV, hP, _⟩ := hT
  have hmw := hM.lt
  have hbw : b < w.heap.size := by omega
  have hB0 : 0 < B := by omega
  have h0w : 0 < w.heap.size := by omega
  have hLm : t.l.length ≤ 281474976710656 := by have := hL.1; have := hL.2.1; omega
  have c0 : w.cell? ⟨b, o, none⟩ = some (.int .i64 t.op) := hrg 0 _ rfl
  have c1 : w.cell? ⟨b, o + 1, none⟩ = some (.string t.name) := hrg 1 _ rfl
  have c4 : w.cell? ⟨b, o + 4, none⟩ = some (.slice aL t.l.length cL) := hrg 4 _ rfl
  obtain ⟨n, hn⟩ : ∃ n, t.l.length = n := ⟨_, rfl⟩
  have HN := hide hn
  rw [hn] at c4 hLm hL
  have HC4 := hide c4
  have HRow := hide hL
  have HR := hide hR
  have HM := hide hM
  clear ih hrg hL hV hP hR hM hn
  have ta0 := fun w => ta_no (k := 132) (ty := 101) (v := .agg #[.pointer (some ⟨b, o, none⟩)]) (z := .agg #[.pointer none]) (w := w) (by decide) rfl rfl (by go_simp)
  have ta1 := fun w => ta_no (k := 132) (ty := 133) (v := .agg #[.pointer (some ⟨b, o, none⟩)]) (z := .agg #[.pointer none]) (w := w) (by decide) rfl rfl (by go_simp)
  have ta2 := fun w => ta_yes (ty := 132) (v := .agg #[.pointer (some ⟨b, o, none⟩)]) (w := w) rfl rfl
  have hbf : t.bare = false := op_bare (by
    have e1 : (t.op == 1) = false := by simp; omega
    have e2 : (t.op == 17) = false := by simp; omega
    have e3 : (t.op == 18) = false := by simp; omega
    have e4 : (decide (12 ≤ t.op) && decide (t.op ≤ 15)) = false := by
      by_cases h : 12 ≤ t.op
      · have : decide (t.op ≤ 15) = false := by simp; omega
        rw [this, Bool.and_false]
      · have : decide (12 ≤ t.op) = false := by simp; omega
        rw [this, Bool.false_and]
    rw [e1, e2, e3, e4]; rfl)
  have hkk : kindOf t.op = 132 := by
    rcases op_kind (op := t.op) with ⟨h, e⟩ | ⟨h, e⟩ | ⟨h, e⟩ | ⟨h, e⟩ | ⟨h, e⟩ | ⟨h, e⟩ | ⟨h, e⟩ <;> first | exact e | omega
  clear hop
  go_enter Tryd.func83, Tryd.ntmps83
  go_wp2_with fail
  refine (view_any b o t.op w c0 hbw).mono ?_
  rintro e w1 ⟨rfl, hb1⟩
  rw [hkk]
  have HB1 := hide hb1
  have HBf := hide hbf
  clear hkk c0 c1 c4 hb1 hbf
  go_wp2
  go_ret
  have hb1 := unhide HB1
  have hbb := fun x y z => three hb1 hb1.size x y z
  exact ⟨by rw [unhide HBf]; rfl, ⟨names, (unhide HM).below (hbb _ _ _) hmw, fun h => by rw [unhide HBf] at h; cases h⟩, But.of (hbb _ _ _) (Nat.le_refl _)⟩
set_option maxRecDepth 1000000 in
set_option maxHeartbeats 16000000 in
theorem pat_universal_no {d : Nat} (ih : PatC d) {B m : Nat} {w : World} {b o : Nat} {t : Tm} {names : List ByteArray} (hT : TmAt w B (d + 1) b o t) (hM : NM w m (seenL names)) (hBm : B ≤ m) (hR : RL w) (hop : t.op = 19) :
    Calls Tryd.prog 83 #[.pointer (some ⟨b, o, none⟩), .map (some m)] w (PP m names t.bare t.vn w) := by
  have HIH := hide ih
  obtain ⟨hb, _, _, aL, aV, aP, cL, cV, cP, hrg, hL, hV, hP, _⟩ := hT
  have hmw := hM.lt
  have hbw : b < w.heap.size := by omega
  have hB0 : 0 < B := by omega
  have h0w : 0 < w.heap.size := by omega
  have hLm : t.l.length ≤ 281474976710656 := by have := hL.1; have := hL.2.1; omega
  have c0 : w.cell? ⟨b, o, none⟩ = some (.int .i64 t.op) := hrg 0 _ rfl
  have c1 : w.cell? ⟨b, o + 1, none⟩ = some (.string t.name) := hrg 1 _ rfl
  have c4 : w.cell? ⟨b, o + 4, none⟩ = some (.slice aL t.l.length cL) := hrg 4 _ rfl
  obtain ⟨n, hn⟩ : ∃ n, t.l.length = n := ⟨_, rfl⟩
  have HN := hide hn
  rw [hn] at c4 hLm hL
  have HC4 := hide c4
  have HRow := hide hL
  have HR := hide hR
  have HM := hide hM
  clear ih hrg hL hV hP hR hM hn
  have ta0 := fun w => ta_no (k := 82) (ty := 101) (v := .agg #[.pointer (some ⟨b, o, none⟩)]) (z := .agg #[.pointer none]) (w := w) (by decide) rfl rfl (by go_simp)
  have ta1 := fun w => ta_no (k := 82) (ty := 133) (v := .agg #[.pointer (some ⟨b, o, none⟩)]) (z := .agg #[.pointer none]) (w := w) (by decide) rfl rfl (by go_simp)
  have ta2 := fun w => ta_no (k := 82) (ty := 132) (v := .agg #[.pointer (some ⟨b, o, none⟩)]) (z := .agg #[.pointer none]) (w := w) (by decide) rfl rfl (by go_simp)
  have ta3 := fun w => ta_yes (ty := 82) (v := .agg #[.pointer (some ⟨b, o, none⟩)]) (w := w) rfl rfl
  have hbf : t.bare = false := op_bare (by
    have e1 : (t.op == 1) = false := by simp; omega
    have e2 : (t.op == 17) = false := by simp; omega
    have e3 : (t.op == 18) = false := by simp; omega
    have e4 : (decide (12 ≤ t.op) && decide (t.op ≤ 15)) = false := by
      by_cases h : 12 ≤ t.op
      · have : decide (t.op ≤ 15) = false := by simp; omega
        rw [this, Bool.and_false]
      · have : decide (12 ≤ t.op) = false := by simp; omega
        rw [this, Bool.false_and]
    rw [e1, e2, e3, e4]; rfl)
  have hkk : kindOf t.op = 82 := by
    rcases op_kind (op := t.op) with ⟨h, e⟩ | ⟨h, e⟩ | ⟨h, e⟩ | ⟨h, e⟩ | ⟨h, e⟩ | ⟨h, e⟩ | ⟨h, e⟩ <;> first | exact e | omega
  clear hop
  go_enter Tryd.func83, Tryd.ntmps83
  go_wp2_with fail
  refine (view_any b o t.op w c0 hbw).mono ?_
  rintro e w1 ⟨rfl, hb1⟩
  rw [hkk]
  have HB1 := hide hb1
  have HBf := hide hbf
  clear hkk c0 c1 c4 hb1 hbf
  go_wp2
  go_ret
  have hb1 := unhide HB1
  have hbb := fun x y z u => four hb1 hb1.size x y z u
  exact ⟨by rw [unhide HBf]; rfl, ⟨names, (unhide HM).below (hbb _ _ _ _) hmw, fun h => by rw [unhide HBf] at h; cases h⟩, But.of (hbb _ _ _ _) (Nat.le_refl _)⟩
set_option maxRecDepth 1000000 in
set_option maxHeartbeats 16000000 in
theorem pat_stranger_no {d : Nat} (ih : PatC d) {B m : Nat} {w : World} {b o : Nat} {t : Tm} {names : List ByteArray} (hT : TmAt w B (d + 1) b o t) (hM : NM w m (seenL names)) (hBm : B ≤ m) (hR : RL w) (hop : t.op < 1 ∨ 19 < t.op) :
    Calls Tryd.prog 83 #[.pointer (some ⟨b, o, none⟩), .map (some m)] w (PP m names t.bare t.vn w) := by
  have HIH := hide ih
  obtain ⟨hb, _, _, aL, aV, aP, cL, cV, cP, hrg, hL, hV, hP, _⟩ := hT
  have hmw := hM.lt
  have hbw : b < w.heap.size := by omega
  have hB0 : 0 < B := by omega
  have h0w : 0 < w.heap.size := by omega
  have hLm : t.l.length ≤ 281474976710656 := by have := hL.1; have := hL.2.1; omega
  have c0 : w.cell? ⟨b, o, none⟩ = some (.int .i64 t.op) := hrg 0 _ rfl
  have c1 : w.cell? ⟨b, o + 1, none⟩ = some (.string t.name) := hrg 1 _ rfl
  have c4 : w.cell? ⟨b, o + 4, none⟩ = some (.slice aL t.l.length cL) := hrg 4 _ rfl
  obtain ⟨n, hn⟩ : ∃ n, t.l.length = n := ⟨_, rfl⟩
  have HN := hide hn
  rw [hn] at c4 hLm hL
  have HC4 := hide c4
  have HRow := hide hL
  have HR := hide hR
  have HM := hide hM
  clear ih hrg hL hV hP hR hM hn
  have ta0 := fun w => ta_no (k := 135) (ty := 101) (v := .agg #[.pointer (some ⟨b, o, none⟩)]) (z := .agg #[.pointer none]) (w := w) (by decide) rfl rfl (by go_simp)
  have ta1 := fun w => ta_no (k := 135) (ty := 133) (v := .agg #[.pointer (some ⟨b, o, none⟩)]) (z := .agg #[.pointer none]) (w := w) (by decide) rfl rfl (by go_simp)
  have ta2 := fun w => ta_no (k := 135) (ty := 132) (v := .agg #[.pointer (some ⟨b, o, none⟩)]) (z := .agg #[.pointer none]) (w := w) (by decide) rfl rfl (by go_simp)
  have ta3 := fun w => ta_no (k := 135) (ty := 82) (v := .agg #[.pointer (some ⟨b, o, none⟩)]) (z := .agg #[.pointer none]) (w := w) (by decide) rfl rfl (by go_simp)
  have ta4 := fun w => ta_yes (ty := 135) (v := .agg #[.pointer (some ⟨b, o, none⟩)]) (w := w) rfl rfl
  have hbf : t.bare = false := op_bare (by
    have e1 : (t.op == 1) = false := by simp; omega
    have e2 : (t.op == 17) = false := by simp; omega
    have e3 : (t.op == 18) = false := by simp; omega
    have e4 : (decide (12 ≤ t.op) && decide (t.op ≤ 15)) = false := by
      by_cases h : 12 ≤ t.op
      · have : decide (t.op ≤ 15) = false := by simp; omega
        rw [this, Bool.and_false]
      · have : decide (12 ≤ t.op) = false := by simp; omega
        rw [this, Bool.false_and]
    rw [e1, e2, e3, e4]; rfl)
  have hkk : kindOf t.op = 135 := by
    rcases op_kind (op := t.op) with ⟨h, e⟩ | ⟨h, e⟩ | ⟨h, e⟩ | ⟨h, e⟩ | ⟨h, e⟩ | ⟨h, e⟩ | ⟨h, e⟩ <;> first | exact e | omega
  clear hop
  go_enter Tryd.func83, Tryd.ntmps83
  go_wp2_with fail
  refine (view_any b o t.op w c0 hbw).mono ?_
  rintro e w1 ⟨rfl, hb1⟩
  rw [hkk]
  have HB1 := hide hb1
  have HBf := hide hbf
  clear hkk c0 c1 c4 hb1 hbf
  go_wp2
  go_ret
  have hb1 := unhide HB1
  have hbb := fun x y z u s => five hb1 hb1.size x y z u s
  exact ⟨by rw [unhide HBf]; rfl, ⟨names, (unhide HM).below (hbb _ _ _ _ _) hmw, fun h => by rw [unhide HBf] at h; cases h⟩, But.of (hbb _ _ _ _ _) (Nat.le_refl _)⟩
set_option maxRecDepth 1000000 in
set_option maxHeartbeats 16000000 in
theorem pat_operation_no {d : Nat} (ih : PatC d) {B m : Nat} {w : World} {b o : Nat} {t : Tm} {names : List ByteArray} (hT : TmAt w B (d + 1) b o t) (hM : NM w m (seenL names)) (hBm : B ≤ m) (hR : RL w) {k : Nat} (hop : t.op = (k : Int)) (hk1 : 4 ≤ k) (hk2 : k ≤ 16) (hk3 : ¬ (12 ≤ k ∧ k ≤ 15)) :
    Calls Tryd.prog 83 #[.pointer (some ⟨b, o, none⟩), .map (some m)] w (PP m names t.bare t.vn w) := by
  have HIH := hide ih
  obtain ⟨hb, _, _, aL, aV, aP, cL, cV, cP, hrg, hL, hV, hP, _⟩ := hT
  have hmw := hM.lt
  have hbw : b < w.heap.size := by omega
  have hB0 : 0 < B := by omega
  have h0w : 0 < w.heap.size := by omega
  have hLm : t.l.length ≤ 281474976710656 := by have := hL.1; have := hL.2.1; omega
  have c0 : w.cell? ⟨b, o, none⟩ = some (.int .i64 t.op) := hrg 0 _ rfl
  have c1 : w.cell? ⟨b, o + 1, none⟩ = some (.string t.name) := hrg 1 _ rfl
  have c4 : w.cell? ⟨b, o + 4, none⟩ = some (.slice aL t.l.length cL) := hrg 4 _ rfl
  obtain ⟨n, hn⟩ : ∃ n, t.l.length = n := ⟨_, rfl⟩
  have HN := hide hn
  rw [hn] at c4 hLm hL
  have HC4 := hide c4
  have HRow := hide hL
  have HR := hide hR
  have HM := hide hM
  clear ih hrg hL hV hP hR hM hn
  have ta0 := fun w => ta_no (k := 133) (ty := 101) (v := .agg #[.pointer (some ⟨b, o, none⟩)]) (z := .agg #[.pointer none]) (w := w) (by decide) rfl rfl (by go_simp)
  have ta1 := fun w => ta_yes (ty := 133) (v := .agg #[.pointer (some ⟨b, o, none⟩)]) (w := w) rfl rfl
  have hbf : t.bare = false := op_bare (by
    have e1 : (t.op == 1) = false := by simp; omega
    have e2 : (t.op == 17) = false := by simp; omega
    have e3 : (t.op == 18) = false := by simp; omega
    have e4 : (decide (12 ≤ t.op) && decide (t.op ≤ 15)) = false := by
      by_cases h : 12 ≤ t.op
      · have : decide (t.op ≤ 15) = false := by simp; omega
        rw [this, Bool.and_false]
      · have : decide (12 ≤ t.op) = false := by simp; omega
        rw [this, Bool.false_and]
    rw [e1, e2, e3, e4]; rfl)
  have hkk : kindOf t.op = 133 := by
    rcases op_kind (op := t.op) with ⟨h, e⟩ | ⟨h, e⟩ | ⟨h, e⟩ | ⟨h, e⟩ | ⟨h, e⟩ | ⟨h, e⟩ | ⟨h, e⟩ <;> first | exact e | omega
  have hki : (k : Int) < 17 := by omega
  have hown : (opOwn k != 1) = true := by
    rw [own_one hk1 hk2]
    by_cases h : 12 ≤ k
    · have : decide (k ≤ 15) = false := by simp; omega
      rw [this, Bool.and_false]; rfl
    · have : decide (12 ≤ k) = false := by simp; omega
      rw [this, Bool.false_and]; rfl
  rw [hop] at c0
  have HRk := hide ((unhide HR) k hk1 hk2).2.2.2
  go_enter Tryd.func83, Tryd.ntmps83
  go_wp2_with fail
  refine (view_any b o (k : Int) w c0 hbw).mono ?_
  rw [← hop]
  rintro e w1 ⟨rfl, hb1⟩
  rw [hkk]
  have HB1 := hide hb1
  have e0 := fun x y => (((hb1.alloc hb1.size x).alloc (by have := hb1.size; simp; omega) y).cell (p := ⟨b, o, none⟩) hbw).trans c0
  have er := fun x y => (((hb1.alloc hb1.size x).alloc (by have := hb1.size; simp; omega) y).cell (p := ⟨0, k * 4 + 3, none⟩) h0w).trans (unhide HRk)
  generalize opOwn k = oo at *
  clear hk1 hk2 hk3 hop
  have HBf := hide hbf
  clear hkk c0 c1 c4 hb1 hbf
  go_wp2
  go_ret
  have hb1 := unhide HB1
  have hbb := fun x y => (hb1.alloc hb1.size x).alloc (by have := hb1.size; simp; omega) y
  exact ⟨by rw [unhide HBf]; rfl, ⟨names, (unhide HM).below (hbb _ _) hmw, fun h => by rw [unhide HBf] at h; cases h⟩, But.of (hbb _ _) (Nat.le_refl _)⟩
theorem pat_of {d : Nat} (ih : PatC d) : PatC (d + 1) := by
  intro B m w b o t names hT hM hBm hR
  rcases op_kind (op := t.op) with ⟨h, _⟩ | ⟨h, _⟩ | ⟨h, _⟩ | ⟨h, _⟩ | ⟨h, _⟩ | ⟨h, _⟩ | ⟨h, _⟩
  · exact pat_numeral ih hT hM hBm hR h
  · exact pat_truth_no ih hT hM hBm hR h
  · obtain ⟨k, hk⟩ : ∃ k : Nat, t.op = (k : Int) := ⟨t.op.toNat, by omega⟩
    by_cases h2 : 12 ≤ k ∧ k ≤ 15
    · exact pat_operation ih hT hM hBm hR hk h2.1 h2.2
    · exact pat_operation_no ih hT hM hBm hR hk (by omega) (by omega) h2
  · exact pat_application ih hT hM hBm hR h
  · exact pat_variable ih hT hM hBm hR h
  · exact pat_universal_no ih hT hM hBm hR h
  · exact pat_stranger_no ih hT hM hBm hR h
theorem pat_any : ∀ d, PatC d
  | 0 => fun _ _ _ _ _ _ _ h => h.elim
  | d + 1 => pat_of (pat_any d)
end Go.Proofs.YtegmckpcchhmdaaDoor
