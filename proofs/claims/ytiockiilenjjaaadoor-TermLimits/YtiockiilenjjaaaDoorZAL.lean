/- A TAll, checked. -/
import Derived.Test.YtiockiilenjjaaaDoorZAK
set_option linter.unusedVariables false
set_option linter.unusedSimpArgs false

/- Under binders: the body, the patterns, the names in them. -/
namespace Go.Proofs.YtiockiilenjjaaaDoor
open Go Go.RowKit
theorem CF.cm {m rb : Nat} {w0 w1 w2 : World} (h : CF rb w0 w1) (k : CM m rb w1 w2) (hm : w0.heap.size ≤ m) : CF rb w0 w2 :=
  ⟨k.os.trans h.os, k.tape.trans h.tape, k.output.trans h.output, Nat.le_trans h.size k.size, fun j hj hr ho => by
    refine (k.block j (Nat.lt_of_lt_of_le hj h.size) hr (by omega) fun o => ?_).trans (h.block j hj hr ho)
    rcases h.own j o with o | o
    · exact ho o
    · omega, fun g o => by
    rcases k.own g o with o | o
    · exact h.own g o
    · exact .inr (Nat.le_trans h.size o)⟩
def Tm.under (rt : ByteArray → Bool) (sig : List Fn) (env : ByteArray → List Int) (t : Tm) : Int := underE (headF (t.l.map (Tm.chk rt sig)) env) (t.pat.map (Tm.patE rt sig env)) t.vars ((t.pat.map Tm.vn).flatten)
theorem firstE_snoc (l : List Int) (e : Int) : firstE (l ++ [e]) = if firstE l ≠ 0 then firstE l else e := by
  induction l with
  | nil =>
    show (if e ≠ 0 then e else firstE []) = _
    by_cases h : e = 0
    · simp [h, firstE]
    · simp [h, firstE]
  | cons a l ih =>
    show (if a ≠ 0 then a else firstE (l ++ [e])) = if (if a ≠ 0 then a else firstE l) ≠ 0 then (if a ≠ 0 then a else firstE l) else e
    by_cases h : a = 0
    · simp only [h, ne_eq, not_true_eq_false, if_false]
      rw [ih]
    · simp [h]
theorem firstE_at {l : List Int} {i : Nat} (h : i < l.length) (h0 : firstE (l.take i) = 0) (he : l[i] ≠ 0) : firstE l = l[i] := by
  induction l generalizing i with
  | nil => simp at h
  | cons a l ih =>
    cases i with
    | zero =>
      have he' : a ≠ 0 := he
      show (if a ≠ 0 then a else firstE l) = a
      rw [if_pos he']
    | succ i =>
      have h0' : (if a ≠ 0 then a else firstE (l.take i)) = 0 := h0
      by_cases ha : a = 0
      · subst ha
        rw [if_neg (by simp)] at h0'
        have h2 : i < l.length := by simpa using h
        show (if (0 : Int) ≠ 0 then 0 else firstE l) = l[i]'h2
        rw [if_neg (by simp)]
        exact ih h2 h0' he
      · rw [if_pos ha] at h0'
        exact absurd h0' ha
theorem type_free {w : World} {B r rf rb : Nat} {sig : List Fn} {env : ByteArray → List Int} (h : KS w B r rf rb sig env) {q : Nat} {cs : Array Value} {ty : TypeId} (hq : w.heap[q]? = some (.cells cs ty)) (ht : ty ≠ 3) : ¬ OB w rb q := fun o => by
  obtain ⟨_, _, cur, hc⟩ := h.owned o
  rw [hq] at hc
  injection hc with hc
  injection hc with _ hc
  exact ht hc
theorem cells_ne {w : World} {B r rf rb : Nat} {sig : List Fn} {env : ByteArray → List Int} (h : KS w B r rf rb sig env) {q : Nat} {cs : Array Value} {ty : TypeId} (hq : w.heap[q]? = some (.cells cs ty)) : q ≠ rb := fun e => by
  obtain ⟨es, ⟨a, c, h1, _⟩, _⟩ := h.bm
  rw [e, h1] at hq
  cases hq
theorem nm_ne {w : World} {q m : Nat} {es : List (ByteArray × Value)} {cs : Array Value} {ty : TypeId} (h : NM w m es) (hq : w.heap[q]? = some (.cells cs ty)) : q ≠ m := fun e => by
  obtain ⟨a, c, h1, _⟩ := h
  rw [e, h1] at hq
  cases hq
theorem seenL_val (k : ByteArray) (l : List ByteArray) : look k (seenL l) = if memB k l = true then some (.agg #[]) else none := by
  refine snoc_ind (p := fun l => look k (seenL l) = if memB k l = true then some (.agg #[]) else none) rfl (fun l a ih => ?_) l
  rw [seenL_snoc, look_put, memB_snoc, ih]
  by_cases h : k = a
  · simp [h]
  · have : ¬ a = k := fun e => h e.symm
    rw [if_neg h]
    simp [this]
theorem seen_asked {w : World} {m : Nat} {l : List ByteArray} (h : NM w m (seenL l)) (k : ByteArray) : (Instr.lookup 205 (.map (some m)) (.string k) true).run Tryd.prog w = .ok (.tuple #[.agg #[], .bool (memB k l)]) w := by
  have hl := (nm_lookup (k := k) umU ukS (zero_unit w) h).1
  rw [seenL_val] at hl
  cases hm : memB k l with
  | true => rw [hm, if_pos rfl] at hl; exact hl
  | false => rw [hm, if_neg (by decide)] at hl; exact hl
def UPost (err : Int) (B r rf rb : Nat) (sig : List Fn) (env : ByteArray → List Int) (w : World) (e : Ending) (w' : World) : Prop := e = .returned (.int .i64 err) ∧ KS w' B r rf rb sig env ∧ CF rb w w'
set_option maxRecDepth 1000000 in
set_option maxHeartbeats 16000000 in
theorem under_any {rt : ByteArray → Bool} {sig : List Fn} {d : Nat} (ih : KTermC rt sig d) {B r rf rb : Nat} {env : ByteArray → List Int} {w : World} {b o : Nat} {t : Tm} (hT : TmAt w B (d + 1) b o t) (hO : OkT (PC rt) (d + 1) t) (hR : RL w) (hK : KS w B r rf rb sig env) (hE : ∀ k, (env k).length + (lwt t.l + lwt t.pat) ≤ 1000000) (h1 : t.l.length = 1) :
    Calls Tryd.prog 82 #[.pointer (some ⟨r, 0, none⟩), .agg #[.pointer (some ⟨b, o, none⟩)]] w (UPost (t.under rt sig env) B r rf rb sig env w) := by
  have hBw : B ≤ w.heap.size := by have := hK.r_lt; have := hK.hr; omega
  have hrb := hK.rb_lt
  obtain ⟨_, _, hO3, _, _, hOl, hOp⟩ := hO
  obtain ⟨hb, _, _, aL, aV, aP, cL, cV, cP, hrg, hL, hV, hP, _⟩ := hT
  have hbw : b < w.heap.size := by omega
  have hB0 : 0 < B := by omega
  obtain ⟨u, hu⟩ : ∃ u, t.l = [u] := by
    match hl : t.l, h1 with
    | [u], _ => exact ⟨u, rfl⟩
  obtain ⟨bl, ol, hbl⟩ : ∃ bl ol, aL = some ⟨bl, ol, none⟩ ∧ TmAt w B d bl ol u := by
    obtain ⟨bl, ol, e, _, hj⟩ := hL.2.2 (by omega)
    have := hj 0 (by omega) u (by rw [hu]; rfl)
    simp only [Nat.zero_mul, Nat.add_zero] at this
    exact ⟨bl, ol, e, this⟩
  obtain ⟨rfl, hTu⟩ := hbl
  have hOu : OkT (PC rt) d u := hOl u (by rw [hu]; exact List.mem_singleton.2 rfl)
  have hlu : lwt t.l = u.wt := by rw [hu]; simp [lwt]
  have hUn : t.under rt sig env = underE (u.chk rt sig env) (t.pat.map (Tm.patE rt sig env)) t.vars ((t.pat.map Tm.vn).flatten) := by unfold Tm.under; rw [hu]; rfl
  obtain ⟨V, eV, hbV, hsV, hcV, hhV⟩ := box_new w #[.pointer (some ⟨b, o, none⟩)] 112
  have hKV := hK.below hbV (Nat.le_refl _)
  have v0 : V.cell? ⟨w.heap.size, 0, none⟩ = some (.pointer (some ⟨b, o, none⟩)) := hcV 0 _ rfl
  have v4 : V.cell? ⟨b, o + 4, none⟩ = some (.slice (some ⟨bl, ol, none⟩) t.l.length cL) := (hbV.cell (p := ⟨b, o + 4, none⟩) hbw).trans (hrg 4 _ rfl)
  rw [h1] at v4
  have HC1 := hide (ih B r rf rb env V bl ol u (hTu.more (hbV.mono hBw) (Nat.le_refl _) (Nat.le_refl _)) hOu (hR.below hbV (by omega)) hKV (fun k => by have := hE k; omega))
  have HG := hide hrg
  have HI := hide (And.intro hV (And.intro hP (And.intro hR (And.intro hO3 (And.intro hOp hE)))))
  have HIH := hide ih
  have HU := hide hUn
  have HK := hide hK
  have HV := hide (And.intro hbV (And.intro hhV (And.intro hsV hKV)))
  have hpm : t.pat.length ≤ 281474976710656 := by have := hP.1; have := hP.2.1; omega
  have hvm : t.vars.length ≤ 281474976710656 := by have := hV.1; have := hV.2.1; omega
  clear hK hE ih hO3 hOl hOp hrg hL hV hP hR hTu hOu hlu hu hUn hbV hsV hcV hhV hKV h1
  obtain ⟨x, y, hxy⟩ : ∃ x y, u.chk rt sig env = (x, y) := ⟨_, _, rfl⟩
  rw [hxy] at HC1 HU
  clear hxy
  generalize hue : t.under rt sig env = ue at *
  go_enter Tryd.func82, Tryd.ntmps82
  go_wp2_with fail
  refine (unhide HC1).mono ?_
  rintro e w2 ⟨rfl, hK2, hC2⟩
  unfold pairV
  obtain ⟨hbV, hhV, hsV, hKV⟩ := unhide HV
  have hq2 := hC2.blk hhV (cells_ne hKV hhV) (type_free hKV hhV (by decide))
  have hC02 : CF rb w w2 := (CF.of hbV (Nat.le_refl _) hrb).trans hC2
  have H2 := hide (And.intro hK2 (And.intro hC02 hq2))
  clear hK2 hC2 hbV hhV hsV hKV hq2 hC02 v0 v4 HC1 HV eV
  by_cases hy : y = 0
  · subst hy
    by_cases hx : x = 2
    · subst hx
      have km : (Instr.makeMap 205 none).run Tryd.prog w2 = .ok (.map (some w2.heap.size)) (w2.alloc (.map #[] 0)) := rfl
      obtain ⟨np, hnp⟩ : ∃ n, t.pat.length = n := ⟨_, rfl⟩
      obtain ⟨nv, hnv⟩ : ∃ n, t.vars.length = n := ⟨_, rfl⟩
      have HNN := hide (And.intro hnp hnv)
      rw [hnp] at hpm
      rw [hnv] at hvm
      clear hnp hnv
      obtain ⟨W, eW, hbW, hsW, hNW⟩ : ∃ W, w2.alloc (.map #[] 0) = W ∧ Below w2.heap.size w2 W ∧ W.heap.size = w2.heap.size + 1 ∧ NM W w2.heap.size (seenL []) := ⟨_, rfl, (Below.refl _ w2).alloc (Nat.le_refl _) _, by simp, NM.new w2⟩
      rw [eW] at km
      obtain ⟨hK2, hC02, hq2⟩ := unhide H2
      have hq2lt := (Array.getElem?_eq_some_iff.1 hq2).1
      have hKW := hK2.below hbW (Nat.le_refl _)
      have hC0W : CF rb w W := hC02.trans (CF.of hbW (Nat.le_refl _) hK2.rb_lt)
      have hqW := (hbW.block w.heap.size hq2lt).trans hq2
      have hbelW : Below B w W := ((unhide HK).cf_below hC02).trans (hbW.mono (by have := hC02.size; omega))
      have hmB : B ≤ w2.heap.size := by have := hC02.size; omega
      have hmf : rf ≠ w2.heap.size := by have := hK2.rf_lt; omega
      have hmb : rb ≠ w2.heap.size := by have := hK2.rb_lt; omega
      have hmw : w.heap.size ≤ w2.heap.size := hC02.size
      have HWW := hide (And.intro hKW (And.intro hC0W (And.intro hqW (And.intro hbelW hNW))))
      have q0 : W.cell? ⟨w.heap.size, 0, none⟩ = some (.pointer (some ⟨b, o, none⟩)) := (blk hqW).2.1 0 _ rfl
      have d6 : W.cell? ⟨b, o + 6, none⟩ = some (.slice aP np cP) := by
        rw [← (unhide HNN).1]
        exact (hbelW.cell (p := ⟨b, o + 6, none⟩) hb).trans ((unhide HG) 6 _ rfl)
      clear hK2 hC02 hq2 hq2lt hKW hC0W hqW hbelW hNW hbW eW
      generalize w2.heap.size = m at *
      have HSW := hide hsW
      clear hsW
      go_wp2
      go_loopw [41] (fun iv wr => ∃ i : Nat, i ≤ np ∧ iv = .int .i64 (i : Int) ∧ firstE ((t.pat.take i).map (Tm.patE rt sig env)) = 0 ∧ NM wr m (seenL ((t.pat.take i).map Tm.vn).flatten) ∧ KS wr B r rf rb sig env ∧ CM m rb W wr ∧ wr.heap[w.heap.size]? = some (.cells #[.pointer (some ⟨b, o, none⟩)] 112)) (fun iv _ => (np - (intOf iv).toNat))
      case atStart =>
        obtain ⟨hKW, hC0W, hqW, hbelW, hNW⟩ := unhide HWW
        exact ⟨0, Nat.zero_le _, rfl, rfl, hNW, hKW, CM.refl _ _ _, hqW⟩
      case round =>
        obtain ⟨i, hi, rfl, hfe, hNi, hKi, hCi, hqi⟩ := hrel
        obtain ⟨hKW, hC0W, hqW, hbelW, hNW⟩ := unhide HWW
        have hbeli : Below B w wr := hbelW.trans (hKW.cm_below hCi hmB)
        have q0i : wr.cell? ⟨w.heap.size, 0, none⟩ = some (.pointer (some ⟨b, o, none⟩)) := (blk hqi).2.1 0 _ rfl
        clear q0 d6
        by_cases hlt : i < np
        · have h1 : i < t.pat.length := by have := (unhide HNN).1; omega
          have hd1 : decide ((i : Int) < (np : Int)) = true := by simp; omega
          have hXi : (i : Int) < (np : Int) := by omega
          have hcap : (i : Int) < 281474976710656 := by omega
          have c6i : wr.cell? ⟨b, o + 6, none⟩ = some (.slice aP np cP) := by
            rw [← (unhide HNN).1]
            exact (hbeli.cell (p := ⟨b, o + 6, none⟩) hb).trans ((unhide HG) 6 _ rfl)
          obtain ⟨hV, hP, hR, hO3, hOp, hE⟩ := unhide HI
          obtain ⟨bp, op, rfl, hbpB, hj⟩ := hP.2.2 (by omega)
          have hA := (hj i h1 _ (List.getElem?_eq_getElem h1)).more hbeli (Nat.le_refl _) (Nat.le_refl _)
          have hEi : ∀ k, (env k).length + t.pat[i].wt ≤ 1000000 := fun k => by
            have h2 := hE k
            have h3 : t.pat[i].wt ≤ lwt t.pat := by
              have := lwt_more h1
              have := lwt_take t.pat (i + 1)
              omega
            omega
          have HCall := hide (pattern_any (unhide HIH) (names := ((t.pat.take i).map Tm.vn).flatten) hA (hOp _ (List.getElem_mem h1)) (hR.below hbeli hB0) hKi hEi hNi hmB hmf hmb)
          have hsn : (t.pat.take (i + 1)).map (Tm.patE rt sig env) = (t.pat.take i).map (Tm.patE rt sig env) ++ [t.pat[i].patE rt sig env] := by rw [take_more h1, List.map_append]; rfl
          have hvn : ((t.pat.take (i + 1)).map Tm.vn).flatten = ((t.pat.take i).map Tm.vn).flatten ++ t.pat[i].vn := by rw [take_more h1, List.map_append, List.flatten_append]; simp
          have hat : t.pat[i].patE rt sig env ≠ 0 → firstE (t.pat.map (Tm.patE rt sig env)) = t.pat[i].patE rt sig env := fun h => by
            have := firstE_at (l := t.pat.map (Tm.patE rt sig env)) (i := i) (by simpa using h1) (by rw [← List.map_take]; exact hfe) (by simpa using h)
            simpa using this
          have HP := hide (And.intro hfe (And.intro hsn (And.intro hvn (And.intro hat (And.intro hKi (And.intro hCi (And.intro hqi hNi)))))))
          have hpq : Hid (t.pat[i].patE rt sig env = t.pat[i].patE rt sig env) := rfl
          clear hKW hC0W hqW hbelW hNW hbeli hV hP hR hO3 hOp hE hj hA hEi hsn hvn hat hfe hNi hKi hCi hqi
          generalize hpe : t.pat[i].patE rt sig env = pe at *
          clear hpq hpe
          by_cases hp0 : pe = 0
          · subst hp0
            go_wp2_with fail
            refine (unhide HCall).mono ?_
            rintro e w4 ⟨rfl, h4, h5, h6⟩
            have H4 := hide (And.intro h4 (And.intro h5 h6))
            clear h4 h5 h6
            go_wp2
            obtain ⟨hfe, hsn, hvn, hat, hKi, hCi, hqi, hNi⟩ := unhide HP
            obtain ⟨hK4, ⟨ns, hns, hnse⟩, hC4⟩ := unhide H4
            refine ⟨⟨i + 1, by omega, rfl, ?_, ?_, hK4, hCi.trans hC4, hC4.blk hqi (cells_ne hKi hqi) (nm_ne hNi hqi) (type_free hKi hqi (by decide))⟩, by simp only [intOf]; omega⟩
            · rw [hsn, firstE_snoc, hfe]; simp
            · rw [hvn, ← hnse (by first | rfl | trivial)]; exact hns
          · have ep : (pe != 0) = true := by simp [hp0]
            have HP0 := hide hp0
            clear hp0
            go_wp2_with fail
            refine (unhide HCall).mono ?_
            rintro e w4 ⟨rfl, h4, h5, h6⟩
            have H4 := hide (And.intro h4 (And.intro h5 h6))
            clear h4 h5 h6
            go_wp2
            go_ret
            obtain ⟨hfe, hsn, hvn, hat, hKi, hCi, hqi, hNi⟩ := unhide HP
            obtain ⟨hK4, _, hC4⟩ := unhide H4
            obtain ⟨hKW, hC0W, hqW, hbelW, hNW⟩ := unhide HWW
            refine ⟨?_, hK4, hC0W.cm (hCi.trans hC4) hmw⟩
            rw [unhide HU]
            unfold underE
            rw [if_neg (by simp), if_neg (by simp), hat (unhide HP0), if_pos (unhide HP0)]
            rfl
        · have hin : i = np := by omega
          have hd1 : decide ((i : Int) < (np : Int)) = false := by simp; omega
          have htake : t.pat.take i = t.pat := List.take_of_length_le (by have := (unhide HNN).1; omega)
          rw [htake] at hfe hNi
          have d5 : wr.cell? ⟨b, o + 5, none⟩ = some (.slice aV nv cV) := by
            rw [← (unhide HNN).2]
            exact (hbeli.cell (p := ⟨b, o + 5, none⟩) hb).trans ((unhide HG) 5 _ rfl)
          have hmlt := hNi.lt
          have HF := hide (And.intro hfe (And.intro hNi (And.intro hKi (And.intro (hC0W.cm hCi hmw) hbeli))))
          clear htake hfe hNi hKi hCi hqi hin hKW hC0W hqW hbelW hNW hbeli
          obtain ⟨W5, e5⟩ : ∃ W5, W5 = wr := ⟨_, rfl⟩
          subst e5
          go_wp2
          go_loopw [66] (fun jv ws => ∃ j : Nat, j ≤ nv ∧ jv = .int .i64 (j : Int) ∧ ((t.vars.take j).all fun v => memB v.1 ((t.pat.map Tm.vn).flatten)) = true ∧ Below W5.heap.size W5 ws) (fun jv _ => (nv - (intOf jv).toNat))
          case atStart => exact ⟨0, Nat.zero_le _, rfl, rfl, Below.refl _ _⟩
          case round =>
            obtain ⟨j, hj, rfl, hall, hbs⟩ := hrel
            clear q0i d5
            obtain ⟨hfe, hN5, hK5, hC05, hbel5⟩ := unhide HF
            have hBW5 : B ≤ W5.heap.size := by have := hK5.hr; have := hK5.r_lt; omega
            by_cases hlt2 : j < nv
            · have h1 : j < t.vars.length := by have := (unhide HNN).2; omega
              have hd2 : decide ((j : Int) < (nv : Int)) = true := by simp; omega
              have hXj : (j : Int) < (nv : Int) := by omega
              have hcapj : (j : Int) < 281474976710656 := by omega
              obtain ⟨hV, hP, hR, hO3, hOp, hE⟩ := unhide HI
              obtain ⟨bv, ov, rfl, hbvB, hjv⟩ := hV.2.2 (by omega)
              obtain ⟨rg, hfit⟩ := hjv j h1 _ (List.getElem?_eq_getElem h1)
              have hbels : Below B w wr := hbel5.trans (hbs.mono hBW5)
              have htk : ((t.vars.take (j + 1)).all fun v => memB v.1 ((t.pat.map Tm.vn).flatten)) = (((t.vars.take j).all fun v => memB v.1 ((t.pat.map Tm.vn).flatten)) && memB t.vars[j].1 ((t.pat.map Tm.vn).flatten)) := by rw [take_more h1, List.all_append]; simp
              have hno : memB t.vars[j].1 ((t.pat.map Tm.vn).flatten) = false → (t.vars.all fun v => memB v.1 ((t.pat.map Tm.vn).flatten)) = false := fun h => by rw [List.all_eq_false]; exact ⟨_, List.getElem_mem h1, by rw [h]; decide⟩
              generalize hu : t.vars[j] = u at *
              obtain ⟨u1, u2⟩ := u
              have p0 : wr.cell? ⟨bv, ov + j * 2, none⟩ = some (.string u1) := (hbels.cell (p := ⟨bv, ov + j * 2, none⟩) hbvB).trans (rg 0 _ rfl)
              have p1 : wr.cell? ⟨bv, ov + j * 2 + 1, none⟩ = some (.int .i64 u2) := (hbels.cell (p := ⟨bv, ov + j * 2 + 1, none⟩) hbvB).trans (rg 1 _ rfl)
              have hbvr : bv < wr.heap.size := by have := hbs.size; omega
              obtain ⟨V, eV, hbV, hsV, hcV, hhV⟩ := box_new wr #[.string u1, .int .i64 u2] 45
              have v0 : V.cell? ⟨wr.heap.size, 0, none⟩ = some (.string u1) := hcV 0 _ rfl
              have hbV5 : Below W5.heap.size W5 V := hbs.trans (hbV.mono hbs.size)
              have hlk := seen_asked (hN5.below hbV5 hN5.lt) u1
              have HJ := hide (And.intro hall (And.intro htk (And.intro hno hbV5)))
              clear hfe hN5 hK5 hC05 hbel5 hV hP hR hO3 hOp hE hjv rg hfit hbels htk hno hu hbV hsV hcV hhV hbV5 hall hbs
              cases hmm : memB u1 ((t.pat.map Tm.vn).flatten) with
              | true =>
                rw [hmm] at hlk
                have HMM := hide hmm
                clear hmm
                go_wp2
                obtain ⟨hall, htk, hno, hbV5⟩ := unhide HJ
                exact ⟨⟨j + 1, by omega, rfl, by rw [htk, hall, unhide HMM]; rfl, hbV5.alloc hbV5.size _⟩, by simp only [intOf]; omega⟩
              | false =>
                rw [hmm] at hlk
                have HMM := hide hmm
                clear hmm
                go_wp2
                go_ret
                obtain ⟨hall, htk, hno, hbV5⟩ := unhide HJ
                obtain ⟨hfe, hN5, hK5, hC05, hbel5⟩ := unhide HF
                have hbb : Below W5.heap.size W5 (V.alloc (.cells #[] 179)) := hbV5.alloc hbV5.size _
                refine ⟨?_, hK5.below hbb (Nat.le_refl _), hC05.trans (CF.of hbb (Nat.le_refl _) hK5.rb_lt)⟩
                rw [unhide HU]
                unfold underE
                rw [if_neg (by simp), if_neg (by simp), hfe, if_neg (by simp), hno (unhide HMM)]
                rfl
            · have hjn : j = nv := by omega
              have hd2 : decide ((j : Int) < (nv : Int)) = false := by simp; omega
              rw [List.take_of_length_le (by have := (unhide HNN).2; omega)] at hall
              have HJ := hide (And.intro hall hbs)
              clear hfe hN5 hK5 hC05 hbel5 hall hbs hjn
              go_wp2
              go_ret
              obtain ⟨hall, hbs⟩ := unhide HJ
              obtain ⟨hfe, hN5, hK5, hC05, hbel5⟩ := unhide HF
              refine ⟨?_, hK5.below hbs (Nat.le_refl _), hC05.trans (CF.of hbs (Nat.le_refl _) hK5.rb_lt)⟩
              rw [unhide HU]
              unfold underE
              rw [if_neg (by simp), if_neg (by simp), hfe, if_neg (by simp), hall]
              rfl
    · have ex : (x != 2) = true := by simp [hx]
      have HX := hide hx
      clear hx
      go_wp2
      go_ret
      obtain ⟨hK2, hC02, _⟩ := unhide H2
      refine ⟨?_, hK2, hC02⟩
      rw [unhide HU]
      unfold underE
      rw [if_neg (by simp), if_pos (unhide HX)]
      rfl
  · have ey : (y != 0) = true := by simp [hy]
    have HY := hide hy
    clear hy
    go_wp2
    go_ret
    obtain ⟨hK2, hC02, _⟩ := unhide H2
    refine ⟨?_, hK2, hC02⟩
    rw [unhide HU]
    unfold underE
    rw [if_pos (unhide HY)]
    rfl
end Go.Proofs.YtiockiilenjjaaaDoor

/- Names, bound and let go. -/
namespace Go.Proofs.YtiockiilenjjaaaDoor
open Go Go.RowKit
def bind1 (k : ByteArray) (s : Int) (env : ByteArray → List Int) : ByteArray → List Int := fun j => if j = k then env j ++ [s] else env j
def drop1 (k : ByteArray) (env : ByteArray → List Int) : ByteArray → List Int := fun j => if j = k then (env j).dropLast else env j
section
variable {A w1 W' : World} {B r rf rb : Nat} {sig : List Fn} {env : ByteArray → List Int} {es : List (ByteArray × Value)} {k : ByteArray} {v : Value}
/-- What was looked up is a row of the map's own. -/
theorem KS.row (hK : KS A B r rf rb sig env) (hes : NM A rb es) (hv : v = (look k es).getD (.slice none 0 0)) : A.ownsRow B 3 1 v (env k).length ((env k).map (Value.int .i64)) := by
  obtain ⟨es', h1, h2, _⟩ := hK.bm
  obtain rfl := nm_det hes h1
  rcases h2 k with ⟨e1, e2⟩ | ⟨v', e1, e2, _⟩
  · rw [e1] at hv
    subst hv
    rw [e2]
    exact ⟨rfl, .inl ⟨rfl, rfl⟩⟩
  · rw [e1] at hv
    subst hv
    exact e2
theorem look_own (hes : NM A rb es) (hv : v = (look k es).getD (.slice none 0 0)) {g : Nat} (hg : v.ownBlock = some g) : look k es = some v ∧ OB A rb g := by
  cases hl : look k es with
  | none => rw [hl] at hv; subst hv; cases hg
  | some v' =>
    rw [hl] at hv
    have e : v = v' := hv
    subst e
    exact ⟨rfl, es, k, v, hes, hl, hg⟩
theorem KS.bound (hK : KS A B r rf rb sig env) (hes : NM A rb es) (hv : v = (look k es).getD (.slice none 0 0)) {s : Int} (hs : fits s) {g n cap : Nat} (hn : n = (env k).length) (hown : w1.ownsRow B 3 1 (.slice (some ⟨g, 0, none⟩) (n + 1) cap) (n + 1) ((env k).map (Value.int .i64) ++ [.int .i64 s])) (hgrow : A.grownBy w1 v.ownBlock) (hat : v.ownBlock = some g ∨ g = A.heap.size)
    (hNM : NM W' rb (put k (.slice (some ⟨g, 0, none⟩) (n + 1) cap) es)) (hput : PutAt rb w1 W') : KS W' B r rf rb sig (bind1 k s env) ∧ CF rb A W' := by
  have hrow := hK.row hes hv
  have hfree : ∀ q, ¬ OB A rb q → some q ≠ v.ownBlock := fun q ho e => ho (look_own hes hv e.symm).2
  have hrbo : some rb ≠ v.ownBlock := fun e => by
    obtain ⟨_, _, cur, hc⟩ := hK.owned (look_own hes hv e.symm).2
    obtain ⟨a, c, h1, _⟩ := hes
    rw [h1] at hc
    cases hc
  have hblk : ∀ q, q < A.heap.size → q ≠ rb → ¬ OB A rb q → W'.heap[q]? = A.heap[q]? := fun q hq hr ho => (hput.block q hr).trans (hgrow.block q hq (hfree q ho))
  have hsz : A.heap.size ≤ W'.heap.size := by rw [hput.size]; exact hgrow.size
  have hw1rb : w1.heap[rb]? = A.heap[rb]? := hgrow.block rb hK.rb_lt hrbo
  have hgrb : g ≠ rb := fun e => by
    rcases hown.2 with ⟨h, _⟩ | ⟨g', cap', cur, h, _, hg', _⟩
    · cases h
    · injection h with h1 _ _
      injection h1 with h1
      injection h1 with h1
      subst h1
      obtain ⟨a, c, h2, _⟩ := hes
      rw [e, hw1rb, h2] at hg'
      cases hg'
  obtain ⟨es', e1, e2, e3⟩ := hK.bm
  obtain rfl := nm_det hes e1
  have hold : ∀ g', OB A rb g' → g' < A.heap.size := fun g' o => (hK.owned o).2.1
  have hnew : ∀ j v', j ≠ k → look j es = some v' → ∀ g', v'.ownBlock = some g' → g' ≠ g := fun j v' hjk hl g' hg' e => by
    subst e
    rcases hat with h | h
    · have := (look_own hes hv h).1
      exact hjk (e3 j k v' v g' hl this hg' h)
    · have := hold g' ⟨es, j, v', hes, hl, hg'⟩
      omega
  have hCF : CF rb A W' := by
    refine ⟨hput.os.trans hgrow.os, hput.tape.trans hgrow.tape, hput.output.trans hgrow.output, hsz, hblk, fun g' o => ?_⟩
    obtain ⟨es2, j, v', f1, f2, f3⟩ := o
    obtain rfl := nm_det hNM f1
    rw [look_put] at f2
    by_cases hj : j = k
    · rw [if_pos hj] at f2
      injection f2 with f2
      subst f2
      have hgg : g' = g := by
        have : (some g : Option Nat) = some g' := f3
        injection this with this
        exact this.symm
      subst hgg
      rcases hat with h | h
      · exact .inl (look_own hes hv h).2
      · exact .inr (by omega)
    · rw [if_neg hj] at f2
      exact .inl ⟨es, j, v', hes, f2, f3⟩
  refine ⟨⟨hK.hr, hK.hrf, hK.hrb, hK.ne, ?_, ?_, ?_⟩, hCF⟩
  · rw [hblk r hK.r_lt hK.r_ne hK.r_free]; exact hK.blk
  · exact hK.fm.same (hK.cf_below hCF) (hblk rf hK.rf_lt hK.ne hK.rf_free)
  · refine ⟨_, hNM, fun j => ?_, fun j j' v1 v2 g' h1 h2 h3 h4 => ?_⟩
    · rw [look_put]
      by_cases hj : j = k
      · refine .inr ⟨_, by rw [if_pos hj], ?_, ?_⟩
        · unfold bind1
          rw [if_pos hj, hj]
          rw [show (env k ++ [s]).length = n + 1 by simp [hn], show (env k ++ [s]).map (Value.int .i64) = (env k).map (Value.int .i64) ++ [.int .i64 s] by simp]
          refine ⟨hown.1, hown.2.imp id ?_⟩
          rintro ⟨g', cap', cur, h, h5, h6, h7⟩
          refine ⟨g', cap', cur, h, h5, ?_, h7⟩
          injection h with h1 _ _
          injection h1 with h1
          injection h1 with h1
          subst h1
          rw [hput.block g hgrb]
          exact h6
        · intro x hx
          unfold bind1 at hx
          rw [if_pos hj] at hx
          rcases List.mem_append.1 hx with hx | hx
          · rcases e2 j with ⟨_, e5⟩ | ⟨_, _, _, e5⟩
            · rw [e5] at hx; cases hx
            · exact e5 x hx
          · rw [List.mem_singleton.1 hx]; exact hs
      · rw [if_neg hj]
        unfold bind1
        rw [if_neg hj]
        refine (e2 j).imp id ?_
        rintro ⟨v', f1, f2, f3⟩
        refine ⟨v', f1, ⟨f2.1, f2.2.imp id ?_⟩, f3⟩
        rintro ⟨g', cap', cur, rfl, h5, h6, h7⟩
        refine ⟨g', cap', cur, rfl, h5, ?_, h7⟩
        have ho : OB A rb g' := ⟨es, j, _, hes, f1, rfl⟩
        have hne : g' ≠ rb := fun e => by
          obtain ⟨a, c, h2, _⟩ := hes
          rw [e, h2] at h6
          cases h6
        rw [hput.block g' hne, hgrow.block g' (hold g' ho) (fun e => by
          have h8 := look_own hes hv e.symm
          exact hj (e3 j k _ v g' f1 h8.1 rfl e.symm))]
        exact h6
    · rw [look_put] at h1 h2
      by_cases hj : j = k
      · by_cases hj' : j' = k
        · rw [hj, hj']
        · rw [if_pos hj] at h1
          rw [if_neg hj'] at h2
          injection h1 with h1
          subst h1
          have hgg : g' = g := by
            have : (some g : Option Nat) = some g' := h3
            injection this with this
            exact this.symm
          exact absurd hgg (hnew j' v2 hj' h2 g' h4)
      · rw [if_neg hj] at h1
        by_cases hj' : j' = k
        · rw [if_pos hj'] at h2
          injection h2 with h2
          subst h2
          have hgg : g' = g := by
            have : (some g : Option Nat) = some g' := h4
            injection this with this
            exact this.symm
          exact absurd hgg (hnew j v1 hj h1 g' h3)
        · rw [if_neg hj'] at h2
          exact e3 j j' v1 v2 g' h1 h2 h3 h4
theorem KS.unbound (hK : KS A B r rf rb sig env) (hes : NM A rb es) {g n cap : Nat} (hl : look k es = some (.slice (some ⟨g, 0, none⟩) (n + 1) cap)) (hn : (env k).length = n + 1)
    (hNM : NM W' rb (put k (.slice (some ⟨g, 0, none⟩) n cap) es)) (hput : PutAt rb A W') : KS W' B r rf rb sig (drop1 k env) ∧ CF rb A W' := by
  have hblk : ∀ q, q ≠ rb → W'.heap[q]? = A.heap[q]? := fun q hq => hput.block q hq
  obtain ⟨es', e1, e2, e3⟩ := hK.bm
  obtain rfl := nm_det hes e1
  have hCF : CF rb A W' := by
    refine ⟨hput.os, hput.tape, hput.output, by rw [hput.size]; exact Nat.le_refl _, fun q _ hr _ => hblk q hr, fun g' o => ?_⟩
    obtain ⟨es2, j, v', f1, f2, f3⟩ := o
    obtain rfl := nm_det hNM f1
    rw [look_put] at f2
    by_cases hj : j = k
    · rw [if_pos hj] at f2
      injection f2 with f2
      subst f2
      exact .inl ⟨es, k, _, hes, hl, f3⟩
    · rw [if_neg hj] at f2
      exact .inl ⟨es, j, v', hes, f2, f3⟩
  have hnrb : ∀ g' cur, A.heap[g']? = some (.cells cur 3 (0, 0)) → g' ≠ rb := fun g' cur h e => by
    obtain ⟨a, c, h2, _⟩ := hes
    rw [e, h2] at h
    cases h
  refine ⟨⟨hK.hr, hK.hrf, hK.hrb, hK.ne, ?_, ?_, ?_⟩, hCF⟩
  · rw [hblk r hK.r_ne]; exact hK.blk
  · exact hK.fm.same (hK.cf_below hCF) (hblk rf hK.ne)
  · refine ⟨_, hNM, fun j => ?_, fun j j' v1 v2 g' h1 h2 h3 h4 => ?_⟩
    · rw [look_put]
      unfold drop1
      by_cases hj : j = k
      · refine .inr ⟨_, by rw [if_pos hj], ?_, ?_⟩
        · rw [if_pos hj, hj]
          rcases e2 k with ⟨f1, _⟩ | ⟨v', f1, f2, _⟩
          · rw [hl] at f1; cases f1
          · rw [hl] at f1
            injection f1 with f1
            subst f1
            rw [show ((env k).dropLast).length = n by rw [List.length_dropLast, hn]; rfl]
            refine ⟨by rw [List.length_map, List.length_dropLast, hn]; omega, .inr ?_⟩
            rcases f2.2 with ⟨h, _⟩ | ⟨g', cap', cur, h, h5, h6, h7, h8, h9, h10⟩
            · cases h
            · injection h with h1 _ h2
              injection h1 with h1
              injection h1 with h1
              subst h1 h2
              refine ⟨g, cap, cur, rfl, h5, by rw [hblk g (hnrb g cur h6)]; exact h6, by omega, h8, h9, ?_⟩
              rw [hn] at h10
              rw [List.map_dropLast, ← h10, List.dropLast_eq_take, List.length_take, List.take_take]
              congr 1
              have := cur.size
              rw [Array.length_toList, h9]
              omega
        · intro x hx
          rw [if_pos hj] at hx
          rcases e2 j with ⟨_, e5⟩ | ⟨_, _, _, e5⟩
          · rw [e5] at hx; cases hx
          · exact e5 x ((List.dropLast_sublist _).subset hx)
      · rw [if_neg hj, if_neg hj]
        refine (e2 j).imp id ?_
        rintro ⟨v', f1, f2, f3⟩
        refine ⟨v', f1, ⟨f2.1, f2.2.imp id ?_⟩, f3⟩
        rintro ⟨g', cap', cur, rfl, h5, h6, h7⟩
        exact ⟨g', cap', cur, rfl, h5, by rw [hblk g' (hnrb g' cur h6)]; exact h6, h7⟩
    · rw [look_put] at h1 h2
      have hto : ∀ j v', (if j = k then some (Value.slice (some ⟨g, 0, none⟩) n cap) else look j es) = some v' → v'.ownBlock = some g' → ∃ v'', look j es = some v'' ∧ v''.ownBlock = some g' := fun j v' h h' => by
        by_cases hj : j = k
        · rw [if_pos hj] at h
          injection h with h
          subst h
          exact ⟨.slice (some ⟨g, 0, none⟩) (n + 1) cap, by rw [hj]; exact hl, h'⟩
        · rw [if_neg hj] at h
          exact ⟨v', h, h'⟩
      obtain ⟨a1, b1, c1⟩ := hto j v1 h1 h3
      obtain ⟨a2, b2, c2⟩ := hto j' v2 h2 h4
      exact e3 j j' a1 a2 g' b1 b2 c1 c2
end
end Go.Proofs.YtiockiilenjjaaaDoor

/- Names, bound and let go: plain facts. -/
namespace Go.Proofs.YtiockiilenjjaaaDoor
open Go Go.RowKit
def cnt (k : ByteArray) : List (ByteArray × Int) → Nat
  | [] => 0
  | v :: l => (if k = v.1 then 1 else 0) + cnt k l
theorem cnt_snoc (k : ByteArray) (l : List (ByteArray × Int)) (v : ByteArray × Int) : cnt k (l ++ [v]) = cnt k l + if k = v.1 then 1 else 0 := by
  induction l with
  | nil => simp [cnt]
  | cons a l ih => simp only [List.cons_append, cnt, ih]; omega
theorem bindV_snoc (l : List (ByteArray × Int)) (v : ByteArray × Int) (env : ByteArray → List Int) : bindV (l ++ [v]) env = bind1 v.1 v.2 (bindV l env) := by
  induction l generalizing env with
  | nil => rfl
  | cons a l ih => simp only [List.cons_append, bindV, ih]
theorem bindV_len (k : ByteArray) (l : List (ByteArray × Int)) (env : ByteArray → List Int) : (bindV l env k).length = (env k).length + cnt k l ∧ (bindV l env k).take (env k).length = env k := by
  induction l generalizing env with
  | nil => exact ⟨rfl, by simp [bindV]⟩
  | cons a l ih =>
    have h := ih (fun j => if j = a.1 then env j ++ [a.2] else env j)
    simp only [bindV, cnt]
    by_cases hk : k = a.1
    · simp only [hk] at h ⊢
      simp only [if_true] at h ⊢
      refine ⟨by rw [h.1]; simp; omega, ?_⟩
      have h2 := congrArg (List.take (env a.1).length) h.2
      rw [List.take_take, List.take_left'] at h2
      · rw [Nat.min_eq_left (by simp)] at h2
        exact h2
      · rfl
    · simp only [if_neg hk] at h ⊢
      exact ⟨by rw [h.1]; omega, h.2⟩
def unb (l : List (ByteArray × Int)) (e : ByteArray → List Int) : ByteArray → List Int := l.foldl (fun e v => drop1 v.1 e) e
theorem unb_snoc (l : List (ByteArray × Int)) (v : ByteArray × Int) (e : ByteArray → List Int) : unb (l ++ [v]) e = drop1 v.1 (unb l e) := by simp [unb]
theorem unb_at (k : ByteArray) (l : List (ByteArray × Int)) (e : ByteArray → List Int) : unb l e k = (e k).take ((e k).length - cnt k l) := by
  refine snoc_ind (p := fun l => unb l e k = (e k).take ((e k).length - cnt k l)) (by simp [unb, cnt]) (fun l v ih => ?_) l
  rw [unb_snoc, cnt_snoc]
  unfold drop1
  by_cases hk : k = v.1
  · rw [if_pos hk, if_pos hk, ih, List.dropLast_eq_take, List.length_take, List.take_take]
    congr 1
    omega
  · rw [if_neg hk, if_neg hk, ih, Nat.add_zero]
theorem cnt_take_le (k : ByteArray) (l : List (ByteArray × Int)) (i : Nat) : cnt k (l.take i) ≤ cnt k l := by
  induction l generalizing i with
  | nil => simp [cnt]
  | cons a l ih =>
    cases i with
    | zero => simp [cnt]
    | succ i => simp only [List.take_succ_cons, cnt]; have := ih i; omega
theorem unb_bindV (l : List (ByteArray × Int)) (env : ByteArray → List Int) : unb l (bindV l env) = env := by
  funext k
  rw [unb_at, (bindV_len k l env).1, Nat.add_sub_cancel]
  exact (bindV_len k l env).2
/-- When a name is let go, it is bound. -/
theorem unb_pos {l : List (ByteArray × Int)} {i : Nat} (h : i < l.length) (env : ByteArray → List Int) : ∃ n, (unb (l.take i) (bindV l env) l[i].1).length = n + 1 := by
  have h1 := unb_at l[i].1 (l.take i) (bindV l env)
  have h2 := (bindV_len l[i].1 l env).1
  have h3 := cnt_take_le l[i].1 l (i + 1)
  rw [take_more h, cnt_snoc, if_pos rfl] at h3
  refine ⟨(unb (l.take i) (bindV l env) l[i].1).length - 1, ?_⟩
  rw [h1, List.length_take]
  omega
theorem unb_le (k : ByteArray) (l : List (ByteArray × Int)) (e : ByteArray → List Int) : (unb l e k).length ≤ (e k).length := by
  rw [unb_at, List.length_take]
  omega
theorem cnt_le (k : ByteArray) (l : List (ByteArray × Int)) : cnt k l ≤ l.length := by
  induction l with
  | nil => exact Nat.le_refl _
  | cons a l ih =>
    simp only [cnt, List.length_cons]
    split <;> omega
end Go.Proofs.YtiockiilenjjaaaDoor

namespace Go.Proofs.YtiockiilenjjaaaDoor
open Go Go.RowKit
theorem infInt : (Tryd.prog.info? 3).map (fun i => (i.zero, i.size, i.bytes)) = some (some (.int .i64 0), 1, 8) := by kernel_rfl
theorem tInts : Tryd.prog.underlying 54 = some (.slice 3) := by kernel_rfl
set_option maxRecDepth 100000 in
theorem cut_last (g n cap : Nat) (h : n + 1 ≤ cap) (hm : cap ≤ 9223372036854775807) (w : World) : (Instr.slice 54 (.slice (some ⟨g, 0, none⟩) (n + 1) cap) none (some (.int .i64 (n : Int))) none).run Tryd.prog w = .ok (.slice (some ⟨g, 0, none⟩) n cap) w := by
  have h0 : (0 : Int) ≤ (n : Int) := by omega
  have h1 : (n : Int) ≤ (cap : Int) := by omega
  have hc : ¬ cap = 0 := by omega
  unfold Instr.slice
  simp [run_underlying tInts, Instr.sliceBounds, run_sliceBound _ _ _ _ _ h0 h1, hc]
  go_simp
def allP (e : Int) : Int × Int := if e ≠ 0 then (0, e) else (2, 0)
theorem KS.asked {w : World} {B r rf rb : Nat} {sig : List Fn} {env : ByteArray → List Int} (hK : KS w B r rf rb sig env) (k : ByteArray) : ∃ es v, NM w rb es ∧ v = (look k es).getD (.slice none 0 0) ∧ ∀ w', Below w.heap.size w w' → NM w' rb es ∧ (Instr.lookup 98 (.map (some rb)) (.string k) false).run Tryd.prog w' = .ok v w' := by
  obtain ⟨es, h1, h2⟩ := hK.bm
  refine ⟨es, _, h1, rfl, fun w' h => ?_⟩
  have h3 := h1.below h h1.lt
  exact ⟨h3, (nm_lookup (k := k) umB ukS (zB w') h3).2⟩
set_option maxRecDepth 1000000 in
set_option maxHeartbeats 16000000 in
theorem universal_any {rt : ByteArray → Bool} {sig : List Fn} {d : Nat} (ih : KTermC rt sig d) {B r rf rb : Nat} {env : ByteArray → List Int} {w : World} {b o : Nat} {t : Tm} (hT : TmAt w B (d + 1) b o t) (hO : OkT (PC rt) (d + 1) t) (hR : RL w) (hK : KS w B r rf rb sig env) (hE : ∀ k, (env k).length + t.wt ≤ 1000000) (h1 : t.l.length = 1) :
    Calls Tryd.prog 57 #[.pointer (some ⟨r, 0, none⟩), .agg #[.pointer (some ⟨b, o, none⟩)]] w (KPo (allP (t.under rt sig (bindV t.vars env))) B r rf rb sig env w) := by
  obtain ⟨i0, hi0, hz0, hz1, hz2⟩ := inf_of infInt
  have hBw : B ≤ w.heap.size := by have := hK.r_lt; have := hK.hr; omega
  have hrb := hK.rb_lt
  have HT := hide hT
  have HO := hide hO
  obtain ⟨hb, _, _, aL, aV, aP, cL, cV, cP, hrg, hL, hV, hP, _⟩ := hT
  have hbw : b < w.heap.size := by omega
  have hB0 : 0 < B := by omega
  have hvm : t.vars.length ≤ 281474976710656 := by have := hV.1; have := hV.2.1; omega
  obtain ⟨V, eV, hbV, hsV, hcV, hhV⟩ := box_new w #[.pointer (some ⟨b, o, none⟩)] 112
  have hKV := hK.below hbV (Nat.le_refl _)
  have v0 : V.cell? ⟨w.heap.size, 0, none⟩ = some (.pointer (some ⟨b, o, none⟩)) := hcV 0 _ rfl
  obtain ⟨nv, hnv⟩ : ∃ n, t.vars.length = n := ⟨_, rfl⟩
  have HNV := hide hnv
  have v5 : V.cell? ⟨b, o + 5, none⟩ = some (.slice aV nv cV) := by
    rw [← hnv]
    exact (hbV.cell (p := ⟨b, o + 5, none⟩) hbw).trans (hrg 5 _ rfl)
  rw [hnv] at hvm
  have hwt : ∀ k, (env k).length + t.vars.length + (lwt t.l + lwt t.pat) ≤ 1000000 := fun k => by
    have := hE k
    rw [t.wt_eq] at this
    unfold lwt
    omega
  have HVar := hide hV
  have HG := hide hrg
  have HE := hide hwt
  have HR := hide hR
  have HIH := hide ih
  have HK := hide hK
  have HV := hide (And.intro hKV (And.intro (CF.of hbV (Nat.le_refl _) hrb) hhV))
  have H1 := hide h1
  clear hO hrg hL hV hP hwt hR ih hK hE hbV hsV hcV hhV hKV hnv h1
  go_enter Tryd.func57, Tryd.ntmps57
  go_wp2
  go_loopw [18] (fun iv wr => ∃ i : Nat, i ≤ nv ∧ iv = .int .i64 (i : Int) ∧ KS wr B r rf rb sig (bindV (t.vars.take i) env) ∧ CF rb w wr ∧ wr.heap[w.heap.size]? = some (.cells #[.pointer (some ⟨b, o, none⟩)] 112)) (fun iv _ => (nv - (intOf iv).toNat))
  case atStart => exact ⟨0, Nat.zero_le _, rfl, (unhide HV)⟩
  case round =>
    obtain ⟨i, hi, rfl, hKi, hCi, hqi⟩ := hrel
    clear v0 v5 eV
    by_cases hlt : i < nv
    · have h1 : i < t.vars.length := by have := unhide HNV; omega
      have hd1 : decide ((i : Int) < (nv : Int)) = true := by simp; omega
      have hXi : (i : Int) < (nv : Int) := by omega
      have hcap : (i : Int) < 281474976710656 := by omega
      obtain ⟨bv, ov, rfl, hbvB, hjv⟩ := (unhide HVar).2.2 (by have := unhide HNV; omega)
      obtain ⟨rg, hfit⟩ := hjv i h1 _ (List.getElem?_eq_getElem h1)
      have hbeli : Below B w wr := (unhide HK).cf_below hCi
      have hsn : bindV (t.vars.take (i + 1)) env = bind1 t.vars[i].1 t.vars[i].2 (bindV (t.vars.take i) env) := by rw [take_more h1, bindV_snoc]
      have hlen : (bindV (t.vars.take i) env t.vars[i].1).length + 1 ≤ 1000001 := by
        have h2 := (bindV_len t.vars[i].1 (t.vars.take i) env).1
        have h3 := cnt_le t.vars[i].1 (t.vars.take i)
        rw [List.length_take] at h3
        have h4 := unhide HE t.vars[i].1
        omega
      generalize hu : t.vars[i] = u at *
      obtain ⟨u1, u2⟩ := u
      have p0 : wr.cell? ⟨bv, ov + i * 2, none⟩ = some (.string u1) := (hbeli.cell (p := ⟨bv, ov + i * 2, none⟩) hbvB).trans (rg 0 _ rfl)
      have p1 : wr.cell? ⟨bv, ov + i * 2 + 1, none⟩ = some (.int .i64 u2) := (hbeli.cell (p := ⟨bv, ov + i * 2 + 1, none⟩) hbvB).trans (rg 1 _ rfl)
      have hbvr : bv < wr.heap.size := by have := hKi.hr; have := hKi.r_lt; omega
      obtain ⟨V, eV, hbV, hsV, hcV, hhV⟩ := box_new wr #[.string u1, .int .i64 u2] 45
      have hKV := hKi.below hbV (Nat.le_refl _)
      have hrb2 := hKi.rb_lt
      have hCV : CF rb w V := hCi.trans (CF.of hbV (Nat.le_refl _) hrb2)
      have hqlt := (Array.getElem?_eq_some_iff.1 hqi).1
      have hqV := (hbV.block w.heap.size hqlt).trans hqi
      have hVlt : wr.heap.size < V.heap.size := by omega
      obtain ⟨es, v, hes, hv, hask⟩ := hKV.asked u1
      have hrow := hKV.row hes hv
      obtain ⟨va, vn, vc, rfl⟩ : ∃ va vn vc, v = .slice va vn vc := by
        rcases hrow.2 with ⟨h, _⟩ | ⟨g, cap, cur, h, _⟩
        · exact ⟨_, _, _, h⟩
        · exact ⟨_, _, _, h⟩
      have HSS : Hid (∀ w', Below V.heap.size V w' → (Below V.heap.size V w' ∧ w'.cell? ⟨r, 1, none⟩ = some (.map (some rb)) ∧ w'.cell? ⟨wr.heap.size, 0, none⟩ = some (.string u1) ∧ w'.cell? ⟨wr.heap.size, 1, none⟩ = some (.int .i64 u2) ∧ (Instr.lookup 98 (.map (some rb)) (.string u1) false).run Tryd.prog w' = .ok (.slice va vn vc) w')) := fun w' h => ⟨h, (hKV.below h (Nat.le_refl _)).cells.2, (h.cell (p := ⟨wr.heap.size, 0, none⟩) hVlt).trans ((blk hhV).2.1 0 _ rfl), (h.cell (p := ⟨wr.heap.size, 1, none⟩) hVlt).trans ((blk hhV).2.1 1 _ rfl), (hask w' h).2⟩
      obtain ⟨_, m1, n0, n1, _⟩ := unhide HSS V (Below.refl _ V)
      have HBx := hide hhV
      have HKV := hide (And.intro hKV (And.intro hCV (And.intro hqV (And.intro hes (And.intro hv (And.intro hask (And.intro hrow (And.intro hsn (And.intro hfit hlen)))))))))
      clear hjv rg hfit hbeli hsn hlen hu hbV hsV hcV hhV hKV hCV hqV hes hv hask hrow hKi hCi hqi hqlt hrb2 hVlt
      go_wp2
      clear eV
      have HA : Hid (∀ A : World, A.heap = (V.alloc (.cells #[.int .i64 u2] 3)).heap → A.os = V.os → A.tape = V.tape → A.output = V.output → KS A B r rf rb sig (bindV (t.vars.take i) env) ∧ A.ownsRow B 3 1 (.slice va vn vc) (bindV (t.vars.take i) env u1).length ((bindV (t.vars.take i) env u1).map (Value.int .i64)) ∧ (∀ j u, [Value.int .i64 u2][j]? = some u → A.cell? ((⟨V.heap.size, 0, none⟩ : Addr).add j) = some u) ∧ B ≤ A.heap.size ∧ A.heap.size = V.heap.size + 1 ∧ NM A rb es ∧ Below V.heap.size V A) := fun A hA h1 h2 h3 => by
        obtain ⟨hKV, hCV, hqV, hes, hv, hask, hrow, hsn, hfit, hlen⟩ := unhide HKV
        have hb0 := (Below.refl V.heap.size V).alloc (Nat.le_refl _) (.cells #[.int .i64 u2] 3)
        have hbA : Below V.heap.size V A := ⟨h1, h2, h3, by rw [hA]; exact hb0.size, fun k hk => by rw [hA]; exact hb0.block k hk⟩
        have hKA := hKV.below hbA (Nat.le_refl _)
        have hNA := (hask A hbA).1
        refine ⟨hKA, hKA.row hNA hv, ?_, by have := hKA.hr; have := hKA.r_lt; omega, by rw [hA]; simp, hNA, hbA⟩
        have hnb : A.heap[V.heap.size]? = some (.cells #[.int .i64 u2] 3) := by rw [hA]; exact new_block V _ _
        exact World.news_of_block hnb
      have HAft : Hid (∀ A : World, A.heap = (V.alloc (.cells #[.int .i64 u2] 3)).heap → A.os = V.os → A.tape = V.tape → A.output = V.output → ∀ (g cap : Nat) (w1 : World), w1.ownsRow B 3 1 (.slice (some ⟨g, 0, none⟩) ((bindV (t.vars.take i) env u1).length + 1) cap) ((bindV (t.vars.take i) env u1).length + 1) ((bindV (t.vars.take i) env u1).map (Value.int .i64) ++ [.int .i64 u2]) → A.grownBy w1 (Value.slice va vn vc).ownBlock → ((Value.slice va vn vc).ownBlock = some g ∨ g = V.heap.size + 1) →
          ∃ W9, (Instr.mapUpdate 98 (.map (some rb)) (.string u1) (.slice (some ⟨g, 0, none⟩) ((bindV (t.vars.take i) env u1).length + 1) cap)).run Tryd.prog w1 = .ok () W9 ∧ (w1.cell? ⟨r, 1, none⟩ = some (.map (some rb)) ∧ w1.cell? ⟨wr.heap.size, 0, none⟩ = some (.string u1) ∧ w1.cell? ⟨wr.heap.size, 1, none⟩ = some (.int .i64 u2)) ∧ (W9.cell? ⟨r, 1, none⟩ = some (.map (some rb)) ∧ W9.cell? ⟨wr.heap.size, 0, none⟩ = some (.string u1) ∧ W9.cell? ⟨wr.heap.size, 1, none⟩ = some (.int .i64 u2)) ∧ KS W9 B r rf rb sig (bindV (t.vars.take (i + 1)) env) ∧ CF rb w W9 ∧ W9.heap[w.heap.size]? = some (.cells #[.pointer (some ⟨b, o, none⟩)] 112)) := fun A hA h1 h2 h3 g cap w1 hown hgrow hat => by
        obtain ⟨hKA, hrowA, hnews, hBA, hsA, hNA, hbA⟩ := unhide HA A hA h1 h2 h3
        obtain ⟨hKV, hCV, hqV, hes, hv, hask, hrow, hsn, hfit, hlen⟩ := unhide HKV
        have hnown : ∀ q, ¬ OB A rb q → some q ≠ (Value.slice va vn vc).ownBlock := fun q ho e => ho (look_own hNA hv e.symm).2
        have hbox : ∀ (q : Nat) (cs : Array Value) (ty : TypeId), V.heap[q]? = some (.cells cs ty) → ty ≠ 3 → w1.heap[q]? = some (.cells cs ty) := fun q cs ty hq ht => by
          have hqA := (hbA.block q (Array.getElem?_eq_some_iff.1 hq).1).trans hq
          rw [hgrow.block q (Array.getElem?_eq_some_iff.1 hqA).1 (hnown q (type_free hKA hqA ht))]
          exact hqA
        have hrbo : some rb ≠ (Value.slice va vn vc).ownBlock := hnown rb (hKA.map_free hNA)
        have hN1 : NM w1 rb es := hNA.same (hgrow.block rb hKA.rb_lt hrbo)
        obtain ⟨W9, hrun, hput, hN9⟩ := nm_update (P := Tryd.prog) (k := u1) (v := .slice (some ⟨g, 0, none⟩) ((bindV (t.vars.take i) env u1).length + 1) cap) umB ukS hN1
        obtain ⟨hK9, hC9⟩ := hKA.bound hNA hv hfit rfl hown hgrow (by rw [hsA]; exact hat) hN9 hput
        have hhV : V.heap[wr.heap.size]? = some (.cells #[.string u1, .int .i64 u2] 45) := unhide HBx
        have hput9 : ∀ (q : Nat) (cs : Array Value) (ty : TypeId), V.heap[q]? = some (.cells cs ty) → ty ≠ 3 → W9.heap[q]? = some (.cells cs ty) := fun q cs ty hq ht => (hput.block q (cells_ne hKV hq)).trans (hbox q cs ty hq ht)
        have hCA : CF rb V A := CF.of hbA (Nat.le_refl _) hKV.rb_lt
        refine ⟨W9, hrun, ⟨(blk (hbox r _ _ hKV.blk (by decide))).2.1 1 _ rfl, (blk (hbox _ _ _ hhV (by decide))).2.1 0 _ rfl, (blk (hbox _ _ _ hhV (by decide))).2.1 1 _ rfl⟩, ⟨hK9.cells.2, (blk (hput9 _ _ _ hhV (by decide))).2.1 0 _ rfl, (blk (hput9 _ _ _ hhV (by decide))).2.1 1 _ rfl⟩, by rw [hsn]; exact hK9, hCV.trans (hCA.trans hC9), (hCA.trans hC9).blk hqV (cells_ne hKV hqV) (type_free hKV hqV (by decide))⟩
      have HSC : Hid (∀ w', Below V.heap.size V w' → (w'.cell? ⟨r, 1, none⟩ = some (.map (some rb)) ∧ w'.cell? ⟨wr.heap.size, 0, none⟩ = some (.string u1) ∧ w'.cell? ⟨wr.heap.size, 1, none⟩ = some (.int .i64 u2))) := fun w' h => ⟨(unhide HSS w' h).2.1, (unhide HSS w' h).2.2.1, (unhide HSS w' h).2.2.2.1⟩
      have hlk1 := (unhide HSS _ (keep0 V)).2.2.2.2
      have hlk2 := fun x => (unhide HSS _ (((Below.refl _ V).alloc (Nat.le_refl _) x).drew)).2.2.2.2
      have hone : ∀ u ∈ [Value.int .i64 u2], u.oneCell' = true := by intro u hu; simp at hu; subst hu; rfl
      have hlen := (unhide HKV).2.2.2.2.2.2.2.2.2
      have h63 : (bindV (t.vars.take i) env u1).length + 1 ≤ maxLen := by unfold maxLen; omega
      have hby : ((bindV (t.vars.take i) env u1).length + 1) * 8 ≤ 140737488355328 := by omega
      have HNum := hide (And.intro hone (And.intro h63 hby))
      clear hone h63 hby hlen
      go_region_held3 (fun w' => w'.cell? ⟨r, 1, none⟩ = some (.map (some rb)) ∧ w'.cell? ⟨wr.heap.size, 0, none⟩ = some (.string u1) ∧ w'.cell? ⟨wr.heap.size, 1, none⟩ = some (.int .i64 u2)) (first | assumption | exact (unhide HS10) | exact (unhide HS9) | exact unhide HSC _ (keep0 _) | exact unhide HSC _ ((keep0 _).alloc (keep0 _).size _) | exact unhide HSC _ (((Below.refl _ _).alloc (Nat.le_refl _) _).drew))
        ((refine step_append_lies _ (by rfl) _ _ _ (by rfl) B 3 i0 (.int .i64 0) 1 8 tInts hi0 hz0 hz1 hz2 rfl (by omega) (.slice va vn vc) _ _ (by rfl) (unhide HA _ rfl rfl rfl rfl).2.1 ⟨V.heap.size, 0, none⟩ 1 1 [.int .i64 u2] (by rfl) rfl (unhide HA _ rfl rfl rfl rfl).2.2.1 (unhide HNum).1 (by omega) (unhide HNum).2.1 (unhide HNum).2.2 (unhide HA _ rfl rfl rfl rfl).2.2.2.1 (V.heap.size + 1) (unhide HA _ rfl rfl rfl rfl).2.2.2.2.1 ?_; intro g cap w1 hown hgrow hat hlt1; obtain ⟨W9, hrun, hS9, hS10, h10⟩ := unhide HAft ((V.alloc (.cells #[.int .i64 u2] 3)).drew) rfl rfl rfl rfl g cap w1 hown hgrow hat; have HS9 := hide hS9; have HS10 := hide hS10; have H10 := hide h10; clear hown hgrow hat hlt1 hS9 hS10 h10))
      all_goals
        clear hrun hlk1 hlk2
        go_wp2
        obtain ⟨hK9, hC9, hq9⟩ := unhide H10
        exact ⟨⟨i + 1, by omega, rfl, hK9, hC9, hq9⟩, by simp only [intOf]; omega⟩
    · have hin : i = nv := by omega
      have hd1 : decide ((i : Int) < (nv : Int)) = false := by simp; omega
      have htake : t.vars.take i = t.vars := List.take_of_length_le (by have := unhide HNV; omega)
      rw [htake] at hKi
      have hbeli : Below B w wr := (unhide HK).cf_below hCi
      have q0 : wr.cell? ⟨w.heap.size, 0, none⟩ = some (.pointer (some ⟨b, o, none⟩)) := (blk hqi).2.1 0 _ rfl
      have HUn := hide (under_any (unhide HIH) ((unhide HT).more hbeli (Nat.le_refl _) (Nat.le_refl _)) (unhide HO) ((unhide HR).below hbeli hB0) hKi (fun k => by
        have h2 := (bindV_len k t.vars env).1
        have h3 := cnt_le k t.vars
        have h4 := unhide HE k
        omega) (unhide H1))
      have HI := hide (And.intro hKi (And.intro hCi hqi))
      clear htake hKi hCi hqi hin hbeli
      generalize hue : t.under rt sig (bindV t.vars env) = ue at *
      have HUe := hide hue
      clear hue
      go_wp2_with fail
      refine (unhide HUn).mono ?_
      rintro e w3 ⟨rfl, hK3, hC3⟩
      obtain ⟨hKi, hCi, hqi⟩ := unhide HI
      have hq3 := hC3.blk hqi (cells_ne hKi hqi) (type_free hKi hqi (by decide))
      have hC03 := hCi.trans hC3
      have hbel3 : Below B w w3 := (unhide HK).cf_below hC03
      have q3 : w3.cell? ⟨w.heap.size, 0, none⟩ = some (.pointer (some ⟨b, o, none⟩)) := (blk hq3).2.1 0 _ rfl
      have d5 : w3.cell? ⟨b, o + 5, none⟩ = some (.slice aV nv cV) := by
        rw [← unhide HNV]
        exact (hbel3.cell (p := ⟨b, o + 5, none⟩) hb).trans ((unhide HG) 5 _ rfl)
      have H3 := hide (And.intro hK3 hC03)
      clear hK3 hC3 hKi hCi hqi hq3 hC03 hbel3 q0 HUn HI
      go_wp2
      go_loopw [50] (fun iv ws => ∃ j : Nat, j ≤ nv ∧ iv = .int .i64 (j : Int) ∧ KS ws B r rf rb sig (unb (t.vars.take j) (bindV t.vars env)) ∧ CF rb w ws) (fun iv _ => (nv - (intOf iv).toNat))
      case atStart => exact ⟨0, Nat.zero_le _, rfl, unhide H3⟩
      case round =>
        obtain ⟨j, hj, rfl, hKj, hCj⟩ := hrel
        clear q3 d5
        by_cases hlt2 : j < nv
        · have h1 : j < t.vars.length := by have := unhide HNV; omega
          have hd2 : decide ((j : Int) < (nv : Int)) = true := by simp; omega
          have hXj : (j : Int) < (nv : Int) := by omega
          have hcapj : (j : Int) < 281474976710656 := by omega
          obtain ⟨bv, ov, rfl, hbvB, hjv⟩ := (unhide HVar).2.2 (by have := unhide HNV; omega)
          obtain ⟨rg, hfit⟩ := hjv j h1 _ (List.getElem?_eq_getElem h1)
          have hbelj : Below B w wr := (unhide HK).cf_below hCj
          have hsn : unb (t.vars.take (j + 1)) (bindV t.vars env) = drop1 t.vars[j].1 (unb (t.vars.take j) (bindV t.vars env)) := by rw [take_more h1, unb_snoc]
          obtain ⟨n, hn⟩ := unb_pos h1 env
          have hnle : n ≤ 1000000 := by
            have h2 := unb_le t.vars[j].1 (t.vars.take j) (bindV t.vars env)
            have h3 := (bindV_len t.vars[j].1 t.vars env).1
            have h4 := cnt_le t.vars[j].1 t.vars
            have h5 := unhide HE t.vars[j].1
            omega
          generalize hu : t.vars[j] = u at *
          obtain ⟨u1, u2⟩ := u
          have p0 : wr.cell? ⟨bv, ov + j * 2, none⟩ = some (.string u1) := (hbelj.cell (p := ⟨bv, ov + j * 2, none⟩) hbvB).trans (rg 0 _ rfl)
          have p1 : wr.cell? ⟨bv, ov + j * 2 + 1, none⟩ = some (.int .i64 u2) := (hbelj.cell (p := ⟨bv, ov + j * 2 + 1, none⟩) hbvB).trans (rg 1 _ rfl)
          have hbvr : bv < wr.heap.size := by have := hKj.hr; have := hKj.r_lt; omega
          obtain ⟨V, eV, hbV, hsV, hcV, hhV⟩ := box_new wr #[.string u1, .int .i64 u2] 45
          have hKV := hKj.below hbV (Nat.le_refl _)
          have hCV : CF rb w V := hCj.trans (CF.of hbV (Nat.le_refl _) hKj.rb_lt)
          have hVlt : wr.heap.size < V.heap.size := by omega
          obtain ⟨es, v, hes, hv, hask⟩ := hKV.asked u1
          have hrow := hKV.row hes hv
          rw [hn] at hrow
          obtain ⟨g, cap, cur, rfl, hgB, hg, hncap, hcapm, hcsz, htk⟩ : ∃ g cap cur, v = .slice (some ⟨g, 0, none⟩) (n + 1) cap ∧ B ≤ g ∧ V.heap[g]? = some (.cells cur 3 (0, 0)) ∧ n + 1 ≤ cap ∧ cap ≤ maxLen ∧ cur.size = cap * 1 ∧ cur.toList.take ((n + 1) * 1) = (unb (t.vars.take j) (bindV t.vars env) u1).map (Value.int .i64) := by
            rcases hrow.2 with ⟨_, h⟩ | ⟨g, cap, cur, h⟩
            · omega
            · exact ⟨g, cap, cur, h⟩
          have hlook : look u1 es = some (.slice (some ⟨g, 0, none⟩) (n + 1) cap) := (look_own hes hv (g := g) rfl).1
          have HSC : Hid (∀ w', Below V.heap.size V w' → (w'.cell? ⟨r, 1, none⟩ = some (.map (some rb)) ∧ w'.cell? ⟨wr.heap.size, 0, none⟩ = some (.string u1) ∧ w'.cell? ⟨wr.heap.size, 1, none⟩ = some (.int .i64 u2))) := fun w' h => ⟨(hKV.below h (Nat.le_refl _)).cells.2, (h.cell (p := ⟨wr.heap.size, 0, none⟩) hVlt).trans ((blk hhV).2.1 0 _ rfl), (h.cell (p := ⟨wr.heap.size, 1, none⟩) hVlt).trans ((blk hhV).2.1 1 _ rfl)⟩
          have hlk1 := (hask _ (keep0 V)).2
          have hKVd := hKV.below (keep0 V) (Nat.le_refl _)
          obtain ⟨W9, hrun, hput, hN9⟩ := nm_update (P := Tryd.prog) (k := u1) (v := .slice (some ⟨g, 0, none⟩) n cap) umB ukS (hask _ (keep0 V)).1
          obtain ⟨hK9, hC9⟩ := hKVd.unbound (hask _ (keep0 V)).1 hlook hn hN9 hput
          have HS10 : Hid (W9.cell? ⟨r, 1, none⟩ = some (.map (some rb)) ∧ W9.cell? ⟨wr.heap.size, 0, none⟩ = some (.string u1) ∧ W9.cell? ⟨wr.heap.size, 1, none⟩ = some (.int .i64 u2)) := by
            have hx : W9.heap[wr.heap.size]? = some (.cells #[.string u1, .int .i64 u2] 45) := (hput.block _ (cells_ne hKV hhV)).trans hhV
            exact ⟨hK9.cells.2, (blk hx).2.1 0 _ rfl, (blk hx).2.1 1 _ rfl⟩
          rw [← hsn] at hK9
          have H10 := hide (And.intro hK9 ((hCV.trans (CF.of (keep0 V) (Nat.le_refl _) hKV.rb_lt)).trans hC9))
          have hwr : IntKind.i64.wrap (((n + 1 : Nat) : Int) - 1) = (n : Int) := by simp only [IntKind.wrap_i64]; omega
          have hwr3 : IntKind.i64.wrap (n : Int) = (n : Int) := by simp only [IntKind.wrap_i64]; omega
          have HNle := hide hnle
          clear hnle
          have hsl := fun w => cut_last g n cap hncap (by unfold maxLen at hcapm; omega) w
          obtain ⟨m1, n0, n1⟩ := unhide HSC V (Below.refl _ V)
          clear hjv rg hfit hbelj hsn hn hu hbV hsV hcV hhV hKV hCV hVlt hes hv hask hrow hgB hg hncap hcapm hcsz htk hlook hKVd hput hN9 hK9 hC9 hKj hCj
          generalize n + 1 = N at *
          go_wp2
          clear eV
          go_region_held3 (fun w' => w'.cell? ⟨r, 1, none⟩ = some (.map (some rb)) ∧ w'.cell? ⟨wr.heap.size, 0, none⟩ = some (.string u1) ∧ w'.cell? ⟨wr.heap.size, 1, none⟩ = some (.int .i64 u2)) (first | assumption | exact (unhide HS10) | exact unhide HSC _ (keep0 _)) (fail)
          all_goals
            clear hrun hlk1 hsl
            go_wp2
            obtain ⟨hK9, hC9⟩ := unhide H10
            exact ⟨⟨j + 1, by omega, rfl, hK9, hC9⟩, by simp only [intOf]; omega⟩
        · have hjn : j = nv := by omega
          have hd2 : decide ((j : Int) < (nv : Int)) = false := by simp; omega
          have htake : t.vars.take j = t.vars := List.take_of_length_le (by have := unhide HNV; omega)
          rw [htake, unb_bindV] at hKj
          have HJ := hide (And.intro hKj hCj)
          clear htake hKj hCj hjn
          by_cases h0 : ue = 0
          · subst h0
            go_wp2
            go_ret2
            exact ⟨rfl, unhide HJ⟩
          · have e0 : (ue != 0) = true := by simp [h0]
            have H0 := hide h0
            clear h0
            go_wp2
            go_ret2
            refine ⟨?_, unhide HJ⟩
            unfold allP
            rw [if_pos (unhide H0)]
            rfl
end Go.Proofs.YtiockiilenjjaaaDoor
