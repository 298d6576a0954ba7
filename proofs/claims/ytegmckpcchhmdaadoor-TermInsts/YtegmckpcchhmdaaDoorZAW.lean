/- measure: region 19. -/
import Derived.Test.YtegmckpcchhmdaaDoorZAV
set_option linter.unusedVariables false
set_option linter.unusedSimpArgs false

/- Put: terms that are neither variables nor universal. -/
namespace Go.Proofs.YtegmckpcchhmdaaDoor
open Go Go.RowKit
theorem len_wt : ∀ (l : List Tm), l.length ≤ (l.map Tm.wt).sum
  | [] => by simp
  | u :: l => by
    have := len_wt l
    have := wt_pos u
    simp
    omega
set_option maxRecDepth 1000000 in
set_option maxHeartbeats 16000000 in
theorem put_plain {e d : Nat} (ih : ∀ d', d = d' + 1 → PutC e d') (w : World) (B : Nat) (v : Value) (t : Tm) (vs : List (ByteArray × Int)) (ls : List Tm) (aX aM : Option Addr) (n cX cM : Nat) (hT : IsT w B d v t) (hVs : Row w.heap.size aX n cX 2 (BR w vs)) (hLs : LR w B w.heap.size e aM n cM ls) (hn1 : n = vs.length) (hn2 : n = ls.length) (hB : B ≤ w.heap.size) (hwt : t.wt ≤ 1000000) (hn : n ≤ 1000000) (h18 : t.op ≠ 18) (h19 : t.op ≠ 19) : Calls Tryd.prog 24 #[v, .slice aX n cX, .slice aM n cM] w fun ex w' => ∃ r, ex = .returned r ∧ Below w.heap.size w w' ∧ IsO w' (NBk B w.heap.size w') (d + e + 1) r (t.putD (subV vs ls)) := by
  obtain ⟨f1, f2, aL, aV, aP, cL, cV, cP, rfl, hL, hV, hP⟩ := hT
  simp only [tcells, List.toArray]
  have hwl := t.wt_eq
  have hl1 : t.l.length ≤ 1000000 := by have := len_wt t.l; omega
  have hl2 : t.pat.length ≤ 1000000 := by have := len_wt t.pat; omega
  have hl3 : t.vars.length ≤ 1000000 := by omega
  obtain ⟨nL, hnL⟩ : ∃ n, t.l.length = n := ⟨_, rfl⟩
  obtain ⟨nV, hnV⟩ : ∃ n, t.vars.length = n := ⟨_, rfl⟩
  obtain ⟨nP, hnP⟩ : ∃ n, t.pat.length = n := ⟨_, rfl⟩
  rw [hnL] at hL hl1 ⊢
  rw [hnV] at hV hl3 ⊢
  rw [hnP] at hP hl2 ⊢
  obtain ⟨w0, e0, hb0, hs0, hc0, hh0⟩ := box_new w #[.int .i64 t.op, .string t.name, .int .i64 t.sort, .string t.num, .slice aL nL cL, .slice aV nV cV, .slice aP nP cP] 25
  obtain ⟨w1, e1, hb1, hs1, hc1, hh1⟩ := box_new w0 #[.int .i64 0, .string ⟨#[]⟩, .int .i64 0, .string ⟨#[]⟩, .slice none 0 0, .slice none 0 0, .slice none 0 0] 25
  rw [hs0] at hc1 hh1
  have hbw1 : Below w.heap.size w w1 := hb0.trans (hb1.mono (by omega))
  have hg3 : w1.heap[w.heap.size]? = some (.cells #[.int .i64 t.op, .string t.name, .int .i64 t.sort, .string t.num, .slice aL nL cL, .slice aV nV cV, .slice aP nP cP] 25) := (hb1.block _ (by omega)).trans hh0
  have hn' : (n : Int) ≤ 1000000 := by omega
  have HE := hide (And.intro e0 e1)
  have x0 : w1.cell? ⟨w.heap.size, 0, none⟩ = some (.int .i64 t.op) := (blk hg3).2.1 0 _ rfl
  have x1 : w1.cell? ⟨w.heap.size, 1, none⟩ = some (.string t.name) := (blk hg3).2.1 1 _ rfl
  have x2 : w1.cell? ⟨w.heap.size, 2, none⟩ = some (.int .i64 t.sort) := (blk hg3).2.1 2 _ rfl
  have x3 : w1.cell? ⟨w.heap.size, 3, none⟩ = some (.string t.num) := (blk hg3).2.1 3 _ rfl
  have x4 : w1.cell? ⟨w.heap.size, 4, none⟩ = some (.slice aL nL cL) := (blk hg3).2.1 4 _ rfl
  have x5 : w1.cell? ⟨w.heap.size, 5, none⟩ = some (.slice aV nV cV) := (blk hg3).2.1 5 _ rfl
  have x6 : w1.cell? ⟨w.heap.size, 6, none⟩ = some (.slice aP nP cP) := (blk hg3).2.1 6 _ rfl
  have hs2 : w1.heap.size = w.heap.size + 2 := by omega
  have HI := hide (And.intro hL (And.intro hV (And.intro hP (And.intro hg3 (And.intro hh1 (And.intro hbw1 (And.intro hVs (And.intro hLs (And.intro hB ih)))))))))
  have HN := hide (And.intro hnL (And.intro hnV (And.intro hnP (And.intro hn1 (And.intro hn2 (And.intro hwt (And.intro f1 f2)))))))
  clear hL hV hP hg3 hh1 hbw1 hVs hLs hB ih hnL hnV hnP hn1 hn2 hwt f1 f2 e0 hb0 hs0 hc0 hh0 e1 hb1 hs1 hc1 hwl
  go_enter Tryd.func24, Tryd.ntmps24
  change Code.wp Tryd.prog (.seq (Go.Proofs.YtegmckpcchhmdaaDoor.cL (pAll Tryd.f24)) (.seq (Go.Proofs.YtegmckpcchhmdaaDoor.cL (Go.Proofs.YtegmckpcchhmdaaDoor.cR (pAll Tryd.f24))) (.seq (Go.Proofs.YtegmckpcchhmdaaDoor.cL (Go.Proofs.YtegmckpcchhmdaaDoor.cR (cR (pAll Tryd.f24)))) (pTail Tryd.f24)))) _ _ _
  conv => arg 2; arg 1; whnf
  conv => arg 2; arg 2; arg 1; whnf
  conv => arg 2; arg 2; arg 2; arg 1; whnf
  have q18 : decide (t.op = 18) = false := by simp [h18]
  have q19 : decide (t.op = 19) = false := by simp [h19]
  go_wp2_with fail
  show Code.wp _ _ _ _ ((w.alloc (.cells #[.int .i64 t.op, .string t.name, .int .i64 t.sort, .string t.num, .slice aL nL cL, .slice aV nV cV, .slice aP nP cP] 25)).alloc (.cells #[.int .i64 0, .string ⟨#[]⟩, .int .i64 0, .string ⟨#[]⟩, .slice none 0 0, .slice none 0 0, .slice none 0 0] 25))
  rw [show (w.alloc (.cells #[.int .i64 t.op, .string t.name, .int .i64 t.sort, .string t.num, .slice aL nL cL, .slice aV nV cV, .slice aP nP cP] 25)) = w0 from (unhide HE).1, show (w0.alloc (.cells #[.int .i64 0, .string ⟨#[]⟩, .int .i64 0, .string ⟨#[]⟩, .slice none 0 0, .slice none 0 0, .slice none 0 0] 25)) = w1 from (unhide HE).2]
  obtain ⟨hL, hV, hP, hg3, hh1, hbw1, hVs, hLs, hB, ih⟩ := unhide HI
  obtain ⟨hnL, hnV, hnP, hn1, hn2, hwt, f1, f2⟩ := unhide HN
  refine put_fin ih rfl rfl rfl rfl rfl rfl hg3 hh1 ⟨f1, f2⟩ hB hnL hnV hnP hwt hl1 hl2 hL hV hP hbw1 (BR.below hVs hbw1 hbw1.size) (hLs.below hbw1 hB hbw1.size) hn1 hn2 hn ?_
  intro r w' hb hI
  refine ⟨r, rfl, hb, ?_⟩
  rw [putD_none (show repD (subV vs ls) t.op t.name = none from if_neg h18), hideS_not h19]
  exact hI
end Go.Proofs.YtegmckpcchhmdaaDoor

/- Put: variables. -/
namespace Go.Proofs.YtegmckpcchhmdaaDoor
open Go Go.RowKit
theorem LR.at {w : World} {B H e n c : Nat} {a : Option Addr} {ls : List Tm} (h : LR w B H e a n c ls) (hn : n = ls.length) {i : Nat} (hi : i < n) : ∃ b o, a = some ⟨b, o, none⟩ ∧ b < H ∧ ∃ (aL aV aP : Option Addr) (lL lV lP cL cV cP : Nat), w.rangeAt b (o + i * 7) [.int .i64 (ls[i]'(by omega)).op, .string (ls[i]'(by omega)).name, .int .i64 (ls[i]'(by omega)).sort, .string (ls[i]'(by omega)).num, .slice aL lL cL, .slice aV lV cV, .slice aP lP cP] ∧ IsT w B e (.agg ([.int .i64 (ls[i]'(by omega)).op, .string (ls[i]'(by omega)).name, .int .i64 (ls[i]'(by omega)).sort, .string (ls[i]'(by omega)).num, .slice aL lL cL, .slice aV lV cV, .slice aP lP cP] : List Value).toArray) (ls[i]'(by omega)) := by
  obtain ⟨b, o, ha, hb, hj⟩ := h.2.2 (by omega)
  exact ⟨b, o, ha, hb, hj i hi _ (List.getElem?_eq_getElem (by omega))⟩
set_option maxRecDepth 1000000 in
set_option maxHeartbeats 16000000 in
theorem put_var {e d : Nat} (ih : ∀ d', d = d' + 1 → PutC e d') (w : World) (B : Nat) (v : Value) (t : Tm) (vs : List (ByteArray × Int)) (ls : List Tm) (aX aM : Option Addr) (n cX cM : Nat) (hT : IsT w B d v t) (hVs : Row w.heap.size aX n cX 2 (BR w vs)) (hLs : LR w B w.heap.size e aM n cM ls) (hn1 : n = vs.length) (hn2 : n = ls.length) (hB : B ≤ w.heap.size) (hwt : t.wt ≤ 1000000) (hn : n ≤ 1000000) (h18 : t.op = 18) : Calls Tryd.prog 24 #[v, .slice aX n cX, .slice aM n cM] w fun ex w' => ∃ r, ex = .returned r ∧ Below w.heap.size w w' ∧ IsO w' (NBk B w.heap.size w') (d + e + 1) r (t.putD (subV vs ls)) := by
  obtain ⟨f1, f2, aL, aV, aP, cL, cV, cP, rfl, hL, hV, hP⟩ := hT
  simp only [tcells, List.toArray]
  have hwl := t.wt_eq
  have hl1 : t.l.length ≤ 1000000 := by have := len_wt t.l; omega
  have hl2 : t.pat.length ≤ 1000000 := by have := len_wt t.pat; omega
  have hl3 : t.vars.length ≤ 1000000 := by omega
  obtain ⟨nL, hnL⟩ : ∃ n, t.l.length = n := ⟨_, rfl⟩
  obtain ⟨nV, hnV⟩ : ∃ n, t.vars.length = n := ⟨_, rfl⟩
  obtain ⟨nP, hnP⟩ : ∃ n, t.pat.length = n := ⟨_, rfl⟩
  rw [hnL] at hL hl1 ⊢
  rw [hnV] at hV hl3 ⊢
  rw [hnP] at hP hl2 ⊢
  obtain ⟨w0, e0, hb0, hs0, hc0, hh0⟩ := box_new w #[.int .i64 t.op, .string t.name, .int .i64 t.sort, .string t.num, .slice aL nL cL, .slice aV nV cV, .slice aP nP cP] 25
  obtain ⟨w1, e1, hb1, hs1, hc1, hh1⟩ := box_new w0 #[.int .i64 0, .string ⟨#[]⟩, .int .i64 0, .string ⟨#[]⟩, .slice none 0 0, .slice none 0 0, .slice none 0 0] 25
  rw [hs0] at hc1 hh1
  have hbw1 : Below w.heap.size w w1 := hb0.trans (hb1.mono (by omega))
  have hg3 : w1.heap[w.heap.size]? = some (.cells #[.int .i64 t.op, .string t.name, .int .i64 t.sort, .string t.num, .slice aL nL cL, .slice aV nV cV, .slice aP nP cP] 25) := (hb1.block _ (by omega)).trans hh0
  have hn' : (n : Int) ≤ 1000000 := by omega
  have HE := hide (And.intro e0 e1)
  have x0 : w1.cell? ⟨w.heap.size, 0, none⟩ = some (.int .i64 t.op) := (blk hg3).2.1 0 _ rfl
  have x1 : w1.cell? ⟨w.heap.size, 1, none⟩ = some (.string t.name) := (blk hg3).2.1 1 _ rfl
  have x2 : w1.cell? ⟨w.heap.size, 2, none⟩ = some (.int .i64 t.sort) := (blk hg3).2.1 2 _ rfl
  have x3 : w1.cell? ⟨w.heap.size, 3, none⟩ = some (.string t.num) := (blk hg3).2.1 3 _ rfl
  have x4 : w1.cell? ⟨w.heap.size, 4, none⟩ = some (.slice aL nL cL) := (blk hg3).2.1 4 _ rfl
  have x5 : w1.cell? ⟨w.heap.size, 5, none⟩ = some (.slice aV nV cV) := (blk hg3).2.1 5 _ rfl
  have x6 : w1.cell? ⟨w.heap.size, 6, none⟩ = some (.slice aP nP cP) := (blk hg3).2.1 6 _ rfl
  have hs2 : w1.heap.size = w.heap.size + 2 := by omega
  have HI := hide (And.intro hL (And.intro hV (And.intro hP (And.intro hg3 (And.intro hh1 (And.intro hbw1 (And.intro hVs (And.intro hLs (And.intro hB ih)))))))))
  have HN := hide (And.intro hnL (And.intro hnV (And.intro hnP (And.intro hn1 (And.intro hn2 (And.intro hwt (And.intro f1 f2)))))))
  clear hL hV hP hg3 hh1 hbw1 hVs hLs hB ih hnL hnV hnP hn1 hn2 hwt f1 f2 e0 hb0 hs0 hc0 hh0 e1 hb1 hs1 hc1 hwl
  go_enter Tryd.func24, Tryd.ntmps24
  change Code.wp Tryd.prog (.seq (Go.Proofs.YtegmckpcchhmdaaDoor.cL (pAll Tryd.f24)) (.seq (Go.Proofs.YtegmckpcchhmdaaDoor.cL (Go.Proofs.YtegmckpcchhmdaaDoor.cR (pAll Tryd.f24))) (.seq (Go.Proofs.YtegmckpcchhmdaaDoor.cL (Go.Proofs.YtegmckpcchhmdaaDoor.cR (cR (pAll Tryd.f24)))) (pTail Tryd.f24)))) _ _ _
  conv => arg 2; arg 1; whnf
  conv => arg 2; arg 2; arg 1; whnf
  conv => arg 2; arg 2; arg 2; arg 1; whnf
  have q18 : (t.op == 18) = true := by simp [h18]
  have q19 : (t.op == 19) = false := by simp [h18]
  have H18 := hide h18
  clear h18
  go_wp2_with fail
  show Code.wp _ _ _ _ ((w.alloc (.cells #[.int .i64 t.op, .string t.name, .int .i64 t.sort, .string t.num, .slice aL nL cL, .slice aV nV cV, .slice aP nP cP] 25)).alloc (.cells #[.int .i64 0, .string ⟨#[]⟩, .int .i64 0, .string ⟨#[]⟩, .slice none 0 0, .slice none 0 0, .slice none 0 0] 25))
  rw [show (w.alloc (.cells #[.int .i64 t.op, .string t.name, .int .i64 t.sort, .string t.num, .slice aL nL cL, .slice aV nV cV, .slice aP nP cP] 25)) = w0 from (unhide HE).1, show (w0.alloc (.cells #[.int .i64 0, .string ⟨#[]⟩, .int .i64 0, .string ⟨#[]⟩, .slice none 0 0, .slice none 0 0, .slice none 0 0] 25)) = w1 from (unhide HE).2]
  clear HE x2 x3 x4 x5 x6
  go_loopw [7] (fun iv wr => ∃ i : Nat, i ≤ n ∧ iv = .int .i64 (i : Int) ∧ Below w1.heap.size w1 wr ∧ ∀ j (h : j < vs.length), j < i → vs[j].1 ≠ t.name) (fun iv _ => n - (intOf iv).toNat)
  case atStart => exact ⟨0, Nat.zero_le _, rfl, Below.refl _ _, fun j _ h => absurd h (by omega)⟩
  case round =>
    obtain ⟨i, hi0, rfl, hb, hno⟩ := hrel
    obtain ⟨hL, hV, hP, hg3, hh1, hbw1, hVs, hLs, hB, ih⟩ := unhide HI
    obtain ⟨hnL, hnV, hnP, hn1, hn2, hwt, f1, f2⟩ := unhide HN
    have hbw : Below w.heap.size w wr := hbw1.trans (hb.mono (by omega))
    have hsr := hb.size
    by_cases hi : i < n
    · have hiv : i < vs.length := by omega
      have hil : i < ls.length := by omega
      obtain ⟨bX, oX, rfl, hbX, cx, -⟩ := (hVs.belowV hbw).atV hn1 hi
      obtain ⟨bM, oM, rfl, hbM, bL, bV, bP, lL, lV, lP, kL, kV, kP, hra, hTu⟩ := (hLs.below hbw hB (Nat.le_refl _)).at hn2 hi
      have y1 := (hb.cell (p := ⟨w.heap.size, 1, none⟩) (show w.heap.size < w1.heap.size by omega)).trans x1
      have hi2 : (i : Int) < (n : Int) := by omega
      have hz : wr.heap[w.heap.size + 1]? = some (.cells #[.int .i64 0, .string ⟨#[]⟩, .int .i64 0, .string ⟨#[]⟩, .slice none 0 0, .slice none 0 0, .slice none 0 0] 25) := (hb.block _ (by omega)).trans hh1
      by_cases heq : vs[i].1 = t.name
      · have hsub : t.putD (subV vs ls) = ls[i] := putD_some (show repD (subV vs ls) t.op t.name = some ls[i] from (if_pos (unhide H18)).trans (subV_first hiv hil (fun j h => hno j (by omega) h) heq))
        rw [heq] at cx
        generalize ls[i] = u at *
        have r0 : wr.cell? ⟨bM, oM + i * 7, none⟩ = some (.int .i64 u.op) := hra 0 _ rfl
        have r1 : wr.cell? ⟨bM, oM + i * 7 + 1, none⟩ = some (.string u.name) := hra 1 _ rfl
        have r2 : wr.cell? ⟨bM, oM + i * 7 + 2, none⟩ = some (.int .i64 u.sort) := hra 2 _ rfl
        have r3 : wr.cell? ⟨bM, oM + i * 7 + 3, none⟩ = some (.string u.num) := hra 3 _ rfl
        have r4 : wr.cell? ⟨bM, oM + i * 7 + 4, none⟩ = some (.slice bL lL kL) := hra 4 _ rfl
        have r5 : wr.cell? ⟨bM, oM + i * 7 + 5, none⟩ = some (.slice bV lV kV) := hra 5 _ rfl
        have r6 : wr.cell? ⟨bM, oM + i * 7 + 6, none⟩ = some (.slice bP lP kP) := hra 6 _ rfl
        have z0 := (blk hz).2.1 0 (.int .i64 0) rfl
        have g0 := (blk hz).2.2 0
        have z1 := (blk hz).2.1 1 (.string ⟨#[]⟩) rfl
        have g1 := (blk hz).2.2 1
        have z2 := (blk hz).2.1 2 (.int .i64 0) rfl
        have g2 := (blk hz).2.2 2
        have z3 := (blk hz).2.1 3 (.string ⟨#[]⟩) rfl
        have g3 := (blk hz).2.2 3
        have z4 := (blk hz).2.1 4 (.slice none 0 0) rfl
        have g4 := (blk hz).2.2 4
        have z5 := (blk hz).2.1 5 (.slice none 0 0) rfl
        have g5 := (blk hz).2.2 5
        have z6 := (blk hz).2.1 6 (.slice none 0 0) rfl
        have g6 := (blk hz).2.2 6
        have HR := hide (And.intro hra (And.intro hTu (And.intro hbw (And.intro hz (And.intro hB hsub)))))
        clear hL hV hP hg3 hh1 hbw1 hVs hLs hB ih hnL hnV hnP hn1 hn2 hwt f1 f2 hra hTu hz hbw hb hno hsub heq hil hiv
        go_wp2
        go_quiet (fail)
        go_wp2
        rename_i nq
        obtain ⟨hra, hTu, hbw, hz, hB, hsub⟩ := unhide HR
        have hbd : Below wr.heap.size wr (wr.drewN nq) := below_drewN (Below.refl _ wr) nq
        have hzd : (wr.drewN nq).heap[w.heap.size + 1]? = some (.cells #[.int .i64 0, .string ⟨#[]⟩, .int .i64 0, .string ⟨#[]⟩, .slice none 0 0, .slice none 0 0, .slice none 0 0] 25) := (hbd.block _ (by omega)).trans hz
        refine ⟨rfl, _, res_row (cs := [.int .i64 u.op, .string u.name, .int .i64 u.sort, .string u.num, .slice bL lL kL, .slice bV lV kV, .slice bP lP kP]) rfl rfl (range_block (fill7 hzd)) rfl rfl rfl, _, rfl, (hbw.trans (hbd.mono hbw.size)).trans (put7_below (B := w.heap.size) (w := wr.drewN nq) (g := w.heap.size + 1) (m := 0) (by omega)), ?_⟩
        rw [hsub]
        refine (hTu.o).keep (fun k hk => ⟨.inl hk, ?_⟩) (by omega)
        exact (put7_far (by omega)).trans (hbd.block k (by omega))
      · have hne : (vs[i].1.toList == t.name.toList) = false := str_ne heq
        have hnx : ∀ j (h : j < vs.length), j < i + 1 → vs[j].1 ≠ t.name := fun j h hj => by
          by_cases hji : j = i
          · subst hji
            exact heq
          · exact hno j h (by omega)
        have HR := hide (And.intro hb hnx)
        clear heq hno hnx
        generalize vs[i].1 = x at *
        clear hL hV hP hg3 hh1 hbw1 hVs hLs hB ih hnL hnV hnP hn1 hn2 hwt f1 f2 hra hTu hz hbw hb hil
        go_wp2
        go_quiet (fail)
        go_wp2
        obtain ⟨hb, hnx⟩ := unhide HR
        exact ⟨⟨i + 1, by omega, by simp, hb.trans (below_drewN (Below.refl _ wr) _ |>.mono hb.size), hnx⟩, by simp [intOf]; omega⟩
    · obtain rfl : i = n := by omega
      have hnone : subV vs ls t.name = none := subV_no fun u hu => by
        obtain ⟨j, hj, e⟩ := List.mem_iff_getElem.1 hu
        exact e ▸ hno j hj (by omega)
      have hd9 : decide ((i : Int) < (i : Int)) = false := by simp
      have y0 := (hb.cell (p := ⟨w.heap.size, 0, none⟩) (show w.heap.size < w1.heap.size by omega)).trans x0
      have HR := hide (And.intro hb (And.intro hbw hnone))
      clear hL hV hP hg3 hh1 hbw1 hVs hLs hB ih hnL hnV hnP hn1 hn2 hwt f1 f2 hbw hb hno hi hnone
      go_wp2_with fail
      obtain ⟨hb, hbw, hnone⟩ := unhide HR
      obtain ⟨hL, hV, hP, hg3, hh1, hbw1, hVs, hLs, hB, ih⟩ := unhide HI
      obtain ⟨hnL, hnV, hnP, hn1, hn2, hwt, f1, f2⟩ := unhide HN
      refine put_fin ih rfl rfl rfl rfl rfl rfl ((hb.block _ (by omega)).trans hg3) ((hb.block _ (by omega)).trans hh1) ⟨f1, f2⟩ hB hnL hnV hnP hwt hl1 hl2 hL hV hP hbw (BR.below hVs hbw hbw.size) (hLs.below hbw hB hbw.size) hn1 hn2 hn ?_
      intro r w' hb hI
      refine ⟨r, rfl, hb, ?_⟩
      rw [putD_none (show repD (subV vs ls) t.op t.name = none from (if_pos (unhide H18)).trans hnone), hideS_not (by rw [unhide H18]; decide)]
      exact hI
end Go.Proofs.YtegmckpcchhmdaaDoor

/- Put: universal terms. -/
namespace Go.Proofs.YtegmckpcchhmdaaDoor
open Go Go.RowKit
theorem El.lr {w : World} {B E n e : Nat} {v : Value} {ts : List Tm} {xs : List Value} (hE : El w (fun k => k < B) e ts xs) (ho : w.ownsRow E 25 7 v n xs) (hn : n = ts.length) (hl : n ≤ 281474976710656) : ∃ a c, v = .slice a n c ∧ LR w B w.heap.size e a n c ts := by
  obtain ⟨a, c, rfl, hc, hr⟩ := own_cells ho
  refine ⟨a, c, rfl, hc, hl, fun h0 => ?_⟩
  obtain ⟨g, rfl, _, hg, hj⟩ := hr h0
  refine ⟨g, 0, rfl, hg, fun j hjn u hu => ?_⟩
  obtain ⟨cs, h1, h2, h3⟩ := hE.2 j u hu
  have h4 := h3.isT (B := B) fun k hk => hk
  obtain ⟨q1, q2, aL, aV, aP, cL, cV, cP, e, hL, hV, hPt⟩ := h4
  have ecs : cs = tcells u aL aV aP cL cV cP := by
    injection e with e
    simpa using congrArg Array.toList e
  refine ⟨aL, aV, aP, _, _, _, cL, cV, cP, fun i x hx => ?_, q1, q2, aL, aV, aP, cL, cV, cP, rfl, hL, hV, hPt⟩
  have hi : i < 7 := by
    have := (List.getElem?_eq_some_iff.1 hx).1
    simpa using this
  rw [show 0 + j * 7 + i = j * 7 + i by omega]
  refine hj _ x ?_
  rw [h2 i hi, ecs]
  exact hx
theorem keepP_len (ns : List ByteArray) (vs : List (ByteArray × Int)) (ls : List Tm) : (keepP ns vs ls).length ≤ vs.length := by
  refine Nat.le_trans (List.length_filter_le _ _) ?_
  rw [List.length_zip]
  omega
theorem keepP_mem {ns : List ByteArray} {vs : List (ByteArray × Int)} {ls : List Tm} {u : ByteArray × Int} (h : u ∈ (keepP ns vs ls).map (·.1)) : u ∈ vs := by
  obtain ⟨p, hp, rfl⟩ := List.mem_map.1 h
  obtain ⟨a, b⟩ := p
  exact (List.of_mem_zip (List.mem_filter.1 hp).1).1
theorem names_snoc {vars : List (ByteArray × Int)} {k : Nat} (h : k < vars.length) (x : ByteArray) : memB x (namesOf (vars.take (k + 1))) = (memB x (namesOf (vars.take k)) || decide (vars[k].1 = x)) := by
  rw [take_more h]
  unfold namesOf
  rw [List.map_append]
  exact memB_snoc x _ _
/-- How far the filter has come. -/
def KFl (w : World) (B E e : Nat) (v8 v9 : Value) (K : List ((ByteArray × Int) × Tm)) : Prop := ∃ ys, w.ownsRow E 36 2 v8 K.length (bcells (K.map (·.1))) ∧ w.ownsRow E 25 7 v9 K.length ys ∧ El w (fun k => k < B) e (K.map (·.2)) ys ∧ ∀ g, v8.ownBlock = some g → v9.ownBlock ≠ some g
theorem KFl.below {w w' : World} {B E e : Nat} {v8 v9 : Value} {K : List ((ByteArray × Int) × Tm)} (h : KFl w B E e v8 v9 K) (hw : Below w.heap.size w w') (hB : B ≤ w.heap.size) : KFl w' B E e v8 v9 K := by
  obtain ⟨ys, h1, h2, h3, h4⟩ := h
  exact ⟨ys, own_sameK h1 fun g hg => hw.block g (h1.lt g hg).2, own_sameK h2 fun g hg => hw.block g (h2.lt g hg).2, h3.keep fun k hk => ⟨hk, hw.block k (by omega)⟩, h4⟩
set_option maxRecDepth 1000000 in
set_option maxHeartbeats 16000000 in
theorem put_all {e d : Nat} (ih : ∀ d', d = d' + 1 → PutC e d') (w : World) (B : Nat) (v : Value) (t : Tm) (vs : List (ByteArray × Int)) (ls : List Tm) (aX aM : Option Addr) (n cX cM : Nat) (hT : IsT w B d v t) (hVs : Row w.heap.size aX n cX 2 (BR w vs)) (hLs : LR w B w.heap.size e aM n cM ls) (hn1 : n = vs.length) (hn2 : n = ls.length) (hB : B ≤ w.heap.size) (hwt : t.wt ≤ 1000000) (hn : n ≤ 1000000) (h19 : t.op = 19) : Calls Tryd.prog 24 #[v, .slice aX n cX, .slice aM n cM] w fun ex w' => ∃ r, ex = .returned r ∧ Below w.heap.size w w' ∧ IsO w' (NBk B w.heap.size w') (d + e + 1) r (t.putD (subV vs ls)) := by
  obtain ⟨f1, f2, aL, aV, aP, cL, cV, cP, rfl, hL, hV, hP⟩ := hT
  simp only [tcells, List.toArray]
  have hwl := t.wt_eq
  have hl1 : t.l.length ≤ 1000000 := by have := len_wt t.l; omega
  have hl2 : t.pat.length ≤ 1000000 := by have := len_wt t.pat; omega
  have hl3 : t.vars.length ≤ 1000000 := by omega
  obtain ⟨nL, hnL⟩ : ∃ n, t.l.length = n := ⟨_, rfl⟩
  obtain ⟨nV, hnV⟩ : ∃ n, t.vars.length = n := ⟨_, rfl⟩
  obtain ⟨nP, hnP⟩ : ∃ n, t.pat.length = n := ⟨_, rfl⟩
  rw [hnL] at hL hl1 ⊢
  rw [hnV] at hV hl3 ⊢
  rw [hnP] at hP hl2 ⊢
  obtain ⟨w0, e0, hb0, hs0, hc0, hh0⟩ := box_new w #[.int .i64 t.op, .string t.name, .int .i64 t.sort, .string t.num, .slice aL nL cL, .slice aV nV cV, .slice aP nP cP] 25
  obtain ⟨w1, e1, hb1, hs1, hc1, hh1⟩ := box_new w0 #[.int .i64 0, .string ⟨#[]⟩, .int .i64 0, .string ⟨#[]⟩, .slice none 0 0, .slice none 0 0, .slice none 0 0] 25
  rw [hs0] at hc1 hh1
  have hbw1 : Below w.heap.size w w1 := hb0.trans (hb1.mono (by omega))
  have hg3 : w1.heap[w.heap.size]? = some (.cells #[.int .i64 t.op, .string t.name, .int .i64 t.sort, .string t.num, .slice aL nL cL, .slice aV nV cV, .slice aP nP cP] 25) := (hb1.block _ (by omega)).trans hh0
  have hn' : (n : Int) ≤ 1000000 := by omega
  have HE := hide (And.intro e0 e1)
  have x0 : w1.cell? ⟨w.heap.size, 0, none⟩ = some (.int .i64 t.op) := (blk hg3).2.1 0 _ rfl
  have x1 : w1.cell? ⟨w.heap.size, 1, none⟩ = some (.string t.name) := (blk hg3).2.1 1 _ rfl
  have x2 : w1.cell? ⟨w.heap.size, 2, none⟩ = some (.int .i64 t.sort) := (blk hg3).2.1 2 _ rfl
  have x3 : w1.cell? ⟨w.heap.size, 3, none⟩ = some (.string t.num) := (blk hg3).2.1 3 _ rfl
  have x4 : w1.cell? ⟨w.heap.size, 4, none⟩ = some (.slice aL nL cL) := (blk hg3).2.1 4 _ rfl
  have x5 : w1.cell? ⟨w.heap.size, 5, none⟩ = some (.slice aV nV cV) := (blk hg3).2.1 5 _ rfl
  have x6 : w1.cell? ⟨w.heap.size, 6, none⟩ = some (.slice aP nP cP) := (blk hg3).2.1 6 _ rfl
  have hs2 : w1.heap.size = w.heap.size + 2 := by omega
  have HI := hide (And.intro hL (And.intro hV (And.intro hP (And.intro hg3 (And.intro hh1 (And.intro hbw1 (And.intro hVs (And.intro hLs (And.intro hB ih)))))))))
  have HN := hide (And.intro hnL (And.intro hnV (And.intro hnP (And.intro hn1 (And.intro hn2 (And.intro hwt (And.intro f1 f2)))))))
  clear hL hV hP hg3 hh1 hbw1 hVs hLs hB ih hnL hnV hnP hn1 hn2 hwt f1 f2 e0 hb0 hs0 hc0 hh0 e1 hb1 hs1 hc1 hwl
  go_enter Tryd.func24, Tryd.ntmps24
  change Code.wp Tryd.prog (.seq (Go.Proofs.YtegmckpcchhmdaaDoor.cL (pAll Tryd.f24)) (.seq (Go.Proofs.YtegmckpcchhmdaaDoor.cL (Go.Proofs.YtegmckpcchhmdaaDoor.cR (pAll Tryd.f24))) (.seq (Go.Proofs.YtegmckpcchhmdaaDoor.cL (Go.Proofs.YtegmckpcchhmdaaDoor.cR (cR (pAll Tryd.f24)))) (pTail Tryd.f24)))) _ _ _
  conv => arg 2; arg 1; whnf
  conv => arg 2; arg 2; arg 1; whnf
  conv => arg 2; arg 2; arg 2; arg 1; whnf
  have q18 : (t.op == 18) = false := by simp [h19]
  have q19 : (t.op == 19) = true := by simp [h19]
  have H19 := hide h19
  have hV' : (nV : Int) ≤ 1000000 := by omega
  clear h19
  go_wp2_with fail
  show Code.wp _ _ _ _ ((w.alloc (.cells #[.int .i64 t.op, .string t.name, .int .i64 t.sort, .string t.num, .slice aL nL cL, .slice aV nV cV, .slice aP nP cP] 25)).alloc (.cells #[.int .i64 0, .string ⟨#[]⟩, .int .i64 0, .string ⟨#[]⟩, .slice none 0 0, .slice none 0 0, .slice none 0 0] 25))
  rw [show (w.alloc (.cells #[.int .i64 t.op, .string t.name, .int .i64 t.sort, .string t.num, .slice aL nL cL, .slice aV nV cV, .slice aP nP cP] 25)) = w0 from (unhide HE).1, show (w0.alloc (.cells #[.int .i64 0, .string ⟨#[]⟩, .int .i64 0, .string ⟨#[]⟩, .slice none 0 0, .slice none 0 0, .slice none 0 0] 25)) = w1 from (unhide HE).2]
  clear HE x1 x2 x3 x4 x6 x0 q18 q19
  go_loopw [8, 9, 10] (fun v8 v9 iv wr => ∃ i : Nat, i ≤ n ∧ iv = .int .i64 (i : Int) ∧ Below w1.heap.size w1 wr ∧ KFl wr B w1.heap.size e v8 v9 (keepP (namesOf t.vars) (vs.take i) (ls.take i))) (fun _ _ iv _ => n - (intOf iv).toNat)
  case atStart => exact ⟨0, Nat.zero_le _, rfl, Below.refl _ _, [], own_nilK _ _ _ _, own_nilK _ _ _ _, El.nil, fun g hg => by simp [Value.ownBlock] at hg⟩
  case round =>
    obtain ⟨i, hi0, rfl, hb, hK⟩ := hrel
    obtain ⟨hL, hV, hP, hg3, hh1, hbw1, hVs, hLs, hB, ih⟩ := unhide HI
    obtain ⟨hnL, hnV, hnP, hn1, hn2, hwt, f1, f2⟩ := unhide HN
    have hbw : Below w.heap.size w wr := hbw1.trans (hb.mono (by omega))
    have hsr := hb.size
    by_cases hi : i < n
    · have hiv : i < vs.length := by omega
      have hil : i < ls.length := by omega
      obtain ⟨bX, oX, rfl, hbX, cx, cx1⟩ := (hVs.belowV hbw).atV hn1 hi
      obtain ⟨bM, oM, rfl, hbM, bL, bV, bP, lL, lV, lP, kL, kV, kP, hra, hTu⟩ := (hLs.below hbw hB (Nat.le_refl _)).at hn2 hi
      have hi2 : (i : Int) < (n : Int) := by omega
      have hsn := keepP_snoc (ns := namesOf t.vars) hiv hil
      generalize vs[i] = xv at *
      generalize ls[i] = u at *
      obtain ⟨xs0, xz⟩ := xv
      have HR := hide (And.intro hra (And.intro hTu (And.intro hbw (And.intro hb (And.intro hK (And.intro cx (And.intro cx1 (And.intro hsn (And.intro hV (And.intro hnV hB))))))))))
      clear hL hV hP hg3 hh1 hbw1 hVs hLs hB ih hnL hnV hnP hn1 hn2 hwt f1 f2 hra hTu hbw hb hK cx cx1 hsn
      obtain ⟨wi, ewi⟩ : ∃ W, W = wr := ⟨_, rfl⟩
      subst ewi
      go_wp2_with fail
      go_loopw [11, 12] (fun hv kv wq => ∃ k : Nat, k ≤ nV ∧ kv = .int .i64 (k : Int) ∧ hv = .bool (memB xs0 (namesOf (t.vars.take k))) ∧ Below wi.heap.size wi wq) (fun _ kv _ => nV - (intOf kv).toNat)
      case atStart => exact ⟨0, Nat.zero_le _, rfl, rfl, Below.refl _ _⟩
      case round =>
        obtain ⟨k, hk0, rfl, rfl, hb2⟩ := hrel
        obtain ⟨hra, hTu, hbw, hb, hK, cx, cx1, hsn, hV, hnV, hB⟩ := unhide HR
        have hb02 : Below w1.heap.size w1 wr := hb.trans (hb2.mono hb.size)
        have y5 := (hb02.cell (p := ⟨w.heap.size, 5, none⟩) (show w.heap.size < w1.heap.size by omega)).trans x5
        have hs2r := hb2.size
        by_cases hk : k < nV
        · have hkl : k < t.vars.length := by omega
          have cx' := (hb2.cell (p := ⟨bX, oX + i * 2, none⟩) (show bX < wi.heap.size by omega)).trans cx
          obtain ⟨b', o', rfl, hbB', cv, -⟩ := (hV.belowV ((hbw.trans (hb2.mono hbw.size)).mono hB)).atV hnV.symm hk
          have hnx := names_snoc hkl xs0
          generalize memB xs0 (namesOf (t.vars.take k)) = so at *
          generalize t.vars[k] = yv at *
          obtain ⟨ys0, yz⟩ := yv
          have hk2 : (k : Int) < (nV : Int) := by omega
          have HNx := hide hnx
          have HB2 := hide hb2
          clear hra hTu hbw hb hK cx cx1 hsn hV hnV hB hb2 hb02 hnx
          cases so with
          | true =>
            go_wp2
            go_quiet (fail)
            go_wp2
            rename_i nq
            exact ⟨⟨k + 1, by omega, by simp, by rw [unhide HNx]; rfl, below_drewN (unhide HB2) _⟩, by simp [intOf]; omega⟩
          | false =>
            by_cases heq : ys0 = xs0
            · subst heq
              go_wp2
              go_quiet (fail)
              go_wp2
              exact ⟨⟨k + 1, by omega, by simp, by rw [unhide HNx]; simp, below_drewN (unhide HB2) _⟩, by simp [intOf]; omega⟩
            · have hne : (ys0.toList == xs0.toList) = false := str_ne heq
              have hdn : decide (ys0 = xs0) = false := by simp [heq]
              have HD := hide hdn
              clear hdn heq
              go_wp2
              go_quiet (fail)
              go_wp2
              exact ⟨⟨k + 1, by omega, by simp, by rw [unhide HNx]; simp only [unhide HD]; rfl, below_drewN (unhide HB2) _⟩, by simp [intOf]; omega⟩
        · obtain rfl : k = nV := by omega
          rw [show t.vars.take k = t.vars from List.take_of_length_le (by omega)]
          have hd9 : decide ((k : Int) < (k : Int)) = false := by simp
          have hK2 := hK.below hb2 (by omega)
          have hra2 := rangeAt_below hra (show bM < wi.heap.size by omega) hb2
          have hT2 := hTu.more (hb2.mono (show B ≤ wi.heap.size by omega)) (Nat.le_refl _) (Nat.le_refl _)
          have hcx : wr.rangeAt bX (oX + i * 2) [.string xs0, .int .i64 xz] := fun j v hv => by
            have hj2 : j < 2 := by
              have := (List.getElem?_eq_some_iff.1 hv).1
              simpa using this
            rcases (by omega : j = 0 ∨ j = 1) with rfl | rfl
            · obtain rfl : Value.string xs0 = v := by simpa using hv
              exact (hb2.cell (p := ⟨bX, oX + i * 2, none⟩) (show bX < wi.heap.size by omega)).trans cx
            · obtain rfl : Value.int .i64 xz = v := by simpa using hv
              exact (hb2.cell (p := ⟨bX, oX + i * 2 + 1, none⟩) (show bX < wi.heap.size by omega)).trans cx1
          cases hm : memB xs0 (namesOf t.vars) with
          | true =>
            rw [if_pos (show memB (xs0, xz).1 (namesOf t.vars) = true from hm), List.append_nil] at hsn
            rw [← hsn] at hK2
            have H9 := hide (And.intro hb02 hK2)
            clear hra hTu hbw hb hK cx cx1 hsn hV hnV hB hb2 hb02 hK2 hra2 hT2 hcx hm
            go_wp2
            obtain ⟨q1, q2⟩ := unhide H9
            exact ⟨⟨i + 1, by omega, by simp, q1, q2⟩, by simp [intOf]; omega⟩
          | false =>
            rw [if_neg (show ¬ memB (xs0, xz).1 (namesOf t.vars) = true by rw [show memB (xs0, xz).1 (namesOf t.vars) = false from hm]; decide)] at hsn
            have hlen := keepP_len (namesOf t.vars) (vs.take i) (ls.take i)
            rw [List.length_take] at hlen
            have H9 := hide (And.intro hb02 (And.intro hK2 (And.intro hra2 (And.intro hT2 (And.intro hcx (And.intro hsn hB))))))
            clear hra hTu hbw hb hK cx cx1 hsn hV hnV hB hb2 hb02 hK2 hra2 hT2 hcx hm
            go_wp2_with fail
            obtain ⟨hb02, hK2, hra2, hT2, hcx, hsn, hB⟩ := unhide H9
            generalize keepP (namesOf t.vars) (vs.take i) (ls.take i) = K at *
            obtain ⟨ys, o8, o9, hE, hap⟩ := hK2
            refine put_r19 (w0 := wr) (B := w1.heap.size) (i := i) (n := K.length) (m := K.length) (s := xs0) (z := xz) rfl (by omega) rfl rfl rfl rfl rfl hi hi (by omega) (by omega) hcx hra2 o8 o9 hap (by omega) (by omega) ?_
            intro a w' hdf hna hk9 hB' o8' o9' hap'
            obtain ⟨x, ea, hx⟩ := act_set [8, 9, 82, 83, 84, 85, 86, 87, 88, 89, 90, 91, 92, 93, 94, 95] (by kernel_rfl) hdf hna rfl hk9
            rw [← hx 8] at o8' hap'
            rw [← hx 9] at o9' hap'
            subst ea
            have hK9 : KFl w' B w1.heap.size e (x 8) (x 9) (keepP (namesOf t.vars) (vs.take (i + 1)) (ls.take (i + 1))) := by
              rw [hsn]
              refine ⟨ys ++ [.int .i64 u.op, .string u.name, .int .i64 u.sort, .string u.num, .slice bL lL kL, .slice bV lV kV, .slice bP lP kP], ?_, ?_, ?_, hap'⟩
              · rw [List.length_append, List.map_append, bcells_app]
                exact o8'
              · rw [List.length_append]
                exact o9'
              · rw [List.map_append]
                exact (hE.keep fun k hk => ⟨hk, hB'.block k (by omega)⟩).snoc rfl ((hT2.more (hB'.mono (by omega)) (Nat.le_refl _) (Nat.le_refl _)).o)
            have H10 := hide (And.intro (hb02.trans hB') hK9)
            clear hx hdf hna hk9 hB' o8' o9' hap' hK9 hb02 hra2 hT2 hcx hsn o8 o9 hE hap H9
            simp only [setAll]
            go_wp2
            obtain ⟨q1, q2⟩ := unhide H10
            exact ⟨⟨i + 1, by omega, by simp, q1, q2⟩, by simp [intOf]; omega⟩
    · obtain rfl : i = n := by omega
      have hd9 : decide ((i : Int) < (i : Int)) = false := by simp
      rw [show vs.take i = vs from List.take_of_length_le (by omega), show ls.take i = ls from List.take_of_length_le (by omega)] at hK
      have hkl := keepP_len (namesOf t.vars) vs ls
      have hke := hide_keep t.vars vs ls
      have hfi : ∀ u ∈ (keepP (namesOf t.vars) vs ls).map (·.1), fits u.2 := fun u hu => by
        obtain ⟨j, hj, e⟩ := List.mem_iff_getElem.1 (keepP_mem hu)
        obtain ⟨b, o, _, _, h⟩ := hVs.2.2 (by omega)
        exact (h j (by omega) u (by rw [List.getElem?_eq_getElem hj, e])).2
      generalize keepP (namesOf t.vars) vs ls = K at *
      obtain ⟨ys, o8, o9, hE, hap⟩ := hK
      obtain ⟨a8, c8, rfl, r8⟩ := row_own o8 (by simp) hfi (by omega)
      obtain ⟨a9, c9, rfl, r9⟩ := hE.lr o9 (by simp) (by omega)
      have H9 := hide (And.intro hb (And.intro hbw (And.intro r8 (And.intro r9 (And.intro hke hkl)))))
      clear hL hV hP hg3 hh1 hbw1 hVs hLs hB ih hnL hnV hnP hn1 hn2 hwt f1 f2 hbw hb hi o8 o9 hE hap r8 r9 hke hkl hfi
      go_wp2_with fail
      obtain ⟨hb, hbw, r8, r9, hke, hkl⟩ := unhide H9
      obtain ⟨hL, hV, hP, hg3, hh1, hbw1, hVs, hLs, hB, ih⟩ := unhide HI
      obtain ⟨hnL, hnV, hnP, hn1, hn2, hwt, f1, f2⟩ := unhide HN
      refine put_fin ih rfl rfl rfl rfl rfl rfl ((hb.block _ (by omega)).trans hg3) ((hb.block _ (by omega)).trans hh1) ⟨f1, f2⟩ hB hnL hnV hnP hwt hl1 hl2 hL hV hP hbw r8 r9 (by simp) (by simp) (by omega) ?_
      intro r w' hb hI
      refine ⟨r, rfl, hb, ?_⟩
      rw [putD_none (show repD (subV vs ls) t.op t.name = none from if_neg (by rw [unhide H19]; decide)), show hideS t.op t.vars (subV vs ls) = hideS 19 t.vars (subV vs ls) by rw [unhide H19], ← hke]
      exact hI
/-- Put, whatever is put into. -/
theorem put_any (e : Nat) : ∀ d, PutC e d
  | 0 => fun w B v t vs ls aX aM n cX cM hT hVs hLs hn1 hn2 hB hwt hn => by
    have ih : ∀ d', 0 = d' + 1 → PutC e d' := fun d' h => absurd h (by omega)
    by_cases h18 : t.op = 18
    · exact put_var ih w B v t vs ls aX aM n cX cM hT hVs hLs hn1 hn2 hB hwt hn h18
    · by_cases h19 : t.op = 19
      · exact put_all ih w B v t vs ls aX aM n cX cM hT hVs hLs hn1 hn2 hB hwt hn h19
      · exact put_plain ih w B v t vs ls aX aM n cX cM hT hVs hLs hn1 hn2 hB hwt hn h18 h19
  | d + 1 => fun w B v t vs ls aX aM n cX cM hT hVs hLs hn1 hn2 hB hwt hn => by
    have ih : ∀ d', d + 1 = d' + 1 → PutC e d' := fun d' h => by
      obtain rfl : d = d' := by omega
      exact put_any e d
    by_cases h18 : t.op = 18
    · exact put_var ih w B v t vs ls aX aM n cX cM hT hVs hLs hn1 hn2 hB hwt hn h18
    · by_cases h19 : t.op = 19
      · exact put_all ih w B v t vs ls aX aM n cX cM hT hVs hLs hn1 hn2 hB hwt hn h19
      · exact put_plain ih w B v t vs ls aX aM n cX cM hT hVs hLs hn1 hn2 hB hwt hn h18 h19
end Go.Proofs.YtegmckpcchhmdaaDoor

namespace Go.Proofs.YtegmckpcchhmdaaDoor
open Go Go.RowKit
set_option maxRecDepth 100000 in
theorem idxI {b off n c i : Nat} (h : i < n) (w : World) : (Instr.indexAt 39 (.slice (some ⟨b, off, none⟩) n c) (.int .i64 (i : Int))).run Tryd.prog w = .ok (.pointer (some ⟨b, off + i, none⟩)) w := by
  have h1 : (i : Int) < (n : Int) := by omega
  go_simp
set_option maxRecDepth 100000 in
theorem ldI {b o : Nat} {z : Int} {w : World} (h : w.cell? ⟨b, o, none⟩ = some (.int .i64 z)) : (Instr.loadAt 3 (.pointer (some ⟨b, o, none⟩))).run Tryd.prog w = .ok (.int .i64 z) w := by
  go_simp
def keptM : List Nat := (List.range 139).filter fun i => !(i == 13 || i == 14 || i == 15 || (decide (82 ≤ i) && decide (i ≤ 102)))
def chnM (i : Nat) : Option Nat := if i = 0 ∨ i = 5 ∨ i = 6 ∨ i = 21 then some 0 else if i = 7 ∨ i = 12 ∨ i = 13 ∨ i = 22 then some 1 else if i = 14 ∨ i = 19 ∨ i = 20 ∨ i = 23 then some 2 else none
def phiM (vV vS vD ve : Value) (bV oV bS oS bD oD i : Nat) (zs zd : Int) (j : Nat) (v : Value) : Prop := (j = 1 → v = vV) ∧ (j = 2 ∨ j = 9 ∨ j = 16 → v = .int .i64 (i : Int)) ∧ (j = 3 → v = .pointer (some ⟨bV, oV + i * 2, none⟩)) ∧ (j = 4 → v = ve) ∧ (j = 8 → v = vS) ∧ (j = 10 → v = .pointer (some ⟨bS, oS + i, none⟩)) ∧ (j = 11 → v = .int .i64 zs) ∧ (j = 15 → v = vD) ∧ (j = 17 → v = .pointer (some ⟨bD, oD + i, none⟩)) ∧ (j = 18 → v = .int .i64 zd)
theorem ownL_dis {v8 v9 : Value} (hap : ∀ g, v8.ownBlock = some g → v9.ownBlock ≠ some g) : ∀ g ∈ ownL v8, g ∉ ownL v9 := fun g hg hg' => by
  unfold ownL at hg hg'
  cases h8' : v8.ownBlock with
  | none => rw [h8'] at hg; cases hg
  | some x =>
    rw [h8'] at hg
    obtain rfl : g = x := by simpa using hg
    have := hap g h8'
    cases h9' : v9.ownBlock with
    | none => rw [h9'] at hg'; cases hg'
    | some y =>
      rw [h9'] at hg' this
      obtain rfl : g = y := by simpa using hg'
      exact this rfl
set_option maxRecDepth 100000 in
set_option maxHeartbeats 4000000 in
theorem meas_r19 {X : Exit → Act → World → Prop} {a0 : Act} {w0 : World} {B bV oV nV cV bS oS nS cS bD oD nD cD i n : Nat} {v8 v9 v10 : Value} {xs ys zs0 : List Value} {s : ByteArray} {z zs zd : Int}
    (hN : a0.tmps.size = 139) (hB : B ≤ w0.heap.size) (h1 : a0.tmps[1]? = some (.slice (some ⟨bV, oV, none⟩) nV cV)) (h3 : a0.tmps[3]? = some (.slice (some ⟨bS, oS, none⟩) nS cS)) (h4 : a0.tmps[4]? = some (.slice (some ⟨bD, oD, none⟩) nD cD)) (h16 : a0.tmps[16]? = some (.int .i64 (i : Int))) (h13 : a0.tmps[13]? = some v8) (h14 : a0.tmps[14]? = some v9) (h15 : a0.tmps[15]? = some v10)
    (hiV : i < nV) (hiS : i < nS) (hiD : i < nD) (hbV : bV < B) (hbS : bS < B) (hbD : bD < B) (cV0 : w0.rangeAt bV (oV + i * 2) [.string s, .int .i64 z]) (cS0 : w0.cell? ⟨bS, oS + i, none⟩ = some (.int .i64 zs)) (cD0 : w0.cell? ⟨bD, oD + i, none⟩ = some (.int .i64 zd))
    (o8 : w0.ownsRow B 36 2 v8 n xs) (o9 : w0.ownsRow B 3 1 v9 n ys) (o10 : w0.ownsRow B 3 1 v10 n zs0) (p1 : ∀ g, v8.ownBlock = some g → v9.ownBlock ≠ some g) (p2 : ∀ g, v8.ownBlock = some g → v10.ownBlock ≠ some g) (p3 : ∀ g, v9.ownBlock = some g → v10.ownBlock ≠ some g) (hn : n ≤ 1000000)
    (hend : ∀ (a : Act) (w : World), a.defers = a0.defers → a.tmps.size = 139 → (∀ k, k ∈ keptM → a.tmps[k]? = a0.tmps[k]?) → Below B w0 w → w.ownsRow B 36 2 (a.tmps.getD 13 undef) (n + 1) (xs ++ [.string s, .int .i64 z]) → w.ownsRow B 3 1 (a.tmps.getD 14 undef) (n + 1) (ys ++ [.int .i64 zs]) → w.ownsRow B 3 1 (a.tmps.getD 15 undef) (n + 1) (zs0 ++ [.int .i64 zd]) → (∀ g, (a.tmps.getD 13 undef).ownBlock = some g → (a.tmps.getD 14 undef).ownBlock ≠ some g) → (∀ g, (a.tmps.getD 13 undef).ownBlock = some g → (a.tmps.getD 15 undef).ownBlock ≠ some g) → (∀ g, (a.tmps.getD 14 undef).ownBlock = some g → (a.tmps.getD 15 undef).ownBlock ≠ some g) → X .normal a w) :
    (Code.region 19 (regionOf Tryd.f23 19).toArray true).wp Tryd.prog X a0 w0 := by
  have hD : Below B w0 w0.drew := ((Below.refl w0.heap.size w0).drew).mono hB
  obtain ⟨iB, hiB, hzB, hsB, hbB⟩ := inf_of infBound
  obtain ⟨iI, hiI, hzI, hsI, hbI⟩ := inf_of infInt
  have hl : (regionOf Tryd.f23 19).length = 24 := by kernel_rfl
  refine wp_region_any (by kernel_rfl) ?_
  refine chains2 (l := (regionOf Tryd.f23 19)) (w0 := w0.drew) 139 B 3 keptM (phiM (.slice (some ⟨bV, oV, none⟩) nV cV) (.slice (some ⟨bS, oS, none⟩) nS cS) (.slice (some ⟨bD, oD, none⟩) nD cD) (.agg #[.string s, .int .i64 z]) bV oV bS oS bD oD i zs zd) chnM
    (fun c => if c = 0 then AQ B 36 2 v8 n xs [.string s, .int .i64 z] 0 5 6 21 else if c = 1 then AQ B 3 1 v9 n ys [.int .i64 zs] 7 12 13 22 else AQ B 3 1 v10 n zs0 [.int .i64 zd] 14 19 20 23)
    (by kernel_rfl) hN hB (by kernel_rfl) ?_ ?_ ?_ ?_ ?_ ?_
  · intro j c hj
    unfold chnM at hj
    split at hj
    · have := Option.some.inj hj; omega
    · split at hj
      · have := Option.some.inj hj; omega
      · split at hj
        · have := Option.some.inj hj; omega
        · cases hj
  · refine ⟨fun c => if c = 0 then ownL v8 else if c = 1 then ownL v9 else ownL v10, fun c hc => ?_, ?_⟩
    · rcases (by omega : c = 0 ∨ c = 1 ∨ c = 2) with rfl | rfl | rfl
      · exact AQ.start (w := w0.drew) (own_sameK o8 fun _ _ => rfl) (getD_of h13)
      · exact AQ.start (w := w0.drew) (own_sameK o9 fun _ _ => rfl) (getD_of h14)
      · exact AQ.start (w := w0.drew) (own_sameK o10 fun _ _ => rfl) (getD_of h15)
    · refine ⟨fun c c' hc hc' hne k hk hk' => ?_, fun c hc k hk => ?_⟩
      · rcases (by omega : c = 0 ∧ c' = 1 ∨ c = 1 ∧ c' = 0 ∨ c = 0 ∧ c' = 2 ∨ c = 2 ∧ c' = 0 ∨ c = 1 ∧ c' = 2 ∨ c = 2 ∧ c' = 1) with ⟨rfl, rfl⟩ | ⟨rfl, rfl⟩ | ⟨rfl, rfl⟩ | ⟨rfl, rfl⟩ | ⟨rfl, rfl⟩ | ⟨rfl, rfl⟩
        · exact ownL_dis p1 k hk hk'
        · exact ownL_dis p1 k hk' hk
        · exact ownL_dis p2 k hk hk'
        · exact ownL_dis p2 k hk' hk
        · exact ownL_dis p3 k hk hk'
        · exact ownL_dis p3 k hk' hk
      · rcases (by omega : c = 0 ∨ c = 1 ∨ c = 2) with rfl | rfl | rfl
        · exact ownL_ge o8 k hk
        · exact ownL_ge o9 k hk
        · exact ownL_ge o10 k hk
  · intro c hc V L L' s s' w hloc h
    rcases (by omega : c = 0 ∨ c = 1 ∨ c = 2) with rfl | rfl | rfl
    · exact AQ.loc h (hloc 5 rfl) (hloc 6 rfl) (hloc 21 rfl) (hloc 0 rfl)
    · exact AQ.loc h (hloc 12 rfl) (hloc 13 rfl) (hloc 22 rfl) (hloc 7 rfl)
    · exact AQ.loc h (hloc 19 rfl) (hloc 20 rfl) (hloc 23 rfl) (hloc 14 rfl)
  · intro j hj hcn a w hb hn' hk hp
    rw [hl] at hj
    have hbw : Below B w0 w := hD.trans hb
    have hj' : j = 1 ∨ j = 2 ∨ j = 3 ∨ j = 4 ∨ j = 8 ∨ j = 9 ∨ j = 10 ∨ j = 11 ∨ j = 15 ∨ j = 16 ∨ j = 17 ∨ j = 18 := by
      unfold chnM at hcn
      split at hcn
      · cases hcn
      · split at hcn
        · cases hcn
        · split at hcn
          · cases hcn
          · omega
    rcases hj' with rfl | rfl | rfl | rfl | rfl | rfl | rfl | rfl | rfl | rfl | rfl | rfl
    · refine st_want (wnone rfl) (op_move ⟨_, rfl, rfl, ?_⟩)
      have : a.eval (.tmp 1) = .slice (some ⟨bV, oV, none⟩) nV cV := getD_of ((hk 1 (by decide)).trans h1)
      rw [this]
      simp [phiM]
    · refine st_want (wnone rfl) (op_move ⟨_, rfl, rfl, ?_⟩)
      have : a.eval (.tmp 16) = .int .i64 (i : Int) := getD_of ((hk 16 (by decide)).trans h16)
      rw [this]
      simp [phiM]
    · have e1 : a.tmps.getD 83 undef = .slice (some ⟨bV, oV, none⟩) nV cV := (hp 1 rfl).1 rfl
      have e2 : a.tmps.getD 84 undef = .int .i64 (i : Int) := (hp 2 rfl).2.1 (.inl rfl)
      exact st_want (wnone rfl) (op_idx e1 e2 (idxB hiV w) ⟨_, rfl, rfl, by simp [phiM]⟩)
    · have e1 : a.eval (.tmp 85) = .pointer (some ⟨bV, oV + i * 2, none⟩) := (hp 3 rfl).2.2.1 rfl
      exact st_want (wnone rfl) (op_load e1 (run_loadAt_mid (P := Tryd.prog) w bV (oV + i * 2) 36 _ _ (rangeAt_below cV0 hbV hbw) rfl rfl rfl) ⟨_, rfl, rfl, by simp [phiM]⟩)
    · refine st_want (wnone rfl) (op_move ⟨_, rfl, rfl, ?_⟩)
      have : a.eval (.tmp 3) = .slice (some ⟨bS, oS, none⟩) nS cS := getD_of ((hk 3 (by decide)).trans h3)
      rw [this]
      simp [phiM]
    · refine st_want (wnone rfl) (op_move ⟨_, rfl, rfl, ?_⟩)
      have : a.eval (.tmp 16) = .int .i64 (i : Int) := getD_of ((hk 16 (by decide)).trans h16)
      rw [this]
      simp [phiM]
    · have e1 : a.tmps.getD 90 undef = .slice (some ⟨bS, oS, none⟩) nS cS := (hp 8 rfl).2.2.2.2.1 rfl
      have e2 : a.tmps.getD 91 undef = .int .i64 (i : Int) := (hp 9 rfl).2.1 (.inr (.inl rfl))
      exact st_want (wnone rfl) (op_idx e1 e2 (idxI hiS w) ⟨_, rfl, rfl, by simp [phiM]⟩)
    · have e1 : a.eval (.tmp 92) = .pointer (some ⟨bS, oS + i, none⟩) := (hp 10 rfl).2.2.2.2.2.1 rfl
      exact st_want (wnone rfl) (op_load e1 (ldI ((hbw.cell (p := ⟨bS, oS + i, none⟩) hbS).trans cS0)) ⟨_, rfl, rfl, by simp [phiM]⟩)
    · refine st_want (wnone rfl) (op_move ⟨_, rfl, rfl, ?_⟩)
      have : a.eval (.tmp 4) = .slice (some ⟨bD, oD, none⟩) nD cD := getD_of ((hk 4 (by decide)).trans h4)
      rw [this]
      simp [phiM]
    · refine st_want (wnone rfl) (op_move ⟨_, rfl, rfl, ?_⟩)
      have : a.eval (.tmp 16) = .int .i64 (i : Int) := getD_of ((hk 16 (by decide)).trans h16)
      rw [this]
      simp [phiM]
    · have e1 : a.tmps.getD 97 undef = .slice (some ⟨bD, oD, none⟩) nD cD := (hp 15 rfl).2.2.2.2.2.2.2.1 rfl
      have e2 : a.tmps.getD 98 undef = .int .i64 (i : Int) := (hp 16 rfl).2.1 (.inr (.inr rfl))
      exact st_want (wnone rfl) (op_idx e1 e2 (idxI hiD w) ⟨_, rfl, rfl, by simp [phiM]⟩)
    · have e1 : a.eval (.tmp 99) = .pointer (some ⟨bD, oD + i, none⟩) := (hp 17 rfl).2.2.2.2.2.2.2.2.1 rfl
      exact st_want (wnone rfl) (op_load e1 (ldI ((hbw.cell (p := ⟨bD, oD + i, none⟩) hbD).trans cD0)) ⟨_, rfl, rfl, by simp [phiM]⟩)
  · intro j c hcn a w L U hb hn' hk hp hLj hd hO hU
    have hBw : B ≤ w.heap.size := Nat.le_trans hB hb.size
    have dn : ∀ j k, j < 24 → (preds ((regionOf Tryd.f23 19).getD j default)).contains k = true → L k = false → L j = false := fun j k hj hk hLk => by
      cases hL : L j with
      | false => rfl
      | true => rw [hd j (by rw [hl]; exact hj) hL k hk] at hLk; cases hLk
    have hj' : (c = 0 ∧ (j = 0 ∨ j = 5 ∨ j = 6 ∨ j = 21)) ∨ (c = 1 ∧ (j = 7 ∨ j = 12 ∨ j = 13 ∨ j = 22)) ∨ (c = 2 ∧ (j = 14 ∨ j = 19 ∨ j = 20 ∨ j = 23)) := by
      unfold chnM at hcn
      split at hcn
      · have := Option.some.inj hcn; omega
      · split at hcn
        · have := Option.some.inj hcn; omega
        · split at hcn
          · have := Option.some.inj hcn; omega
          · cases hcn
    rcases hj' with ⟨rfl, hj'⟩ | ⟨rfl, hj'⟩ | ⟨rfl, hj'⟩
    · have hO : OwnS w U (AQ B 36 2 v8 n xs [.string s, .int .i64 z] 0 5 6 21 U L (slotOf (regionOf Tryd.f23 19).toArray a)) := hO
      rcases hj' with rfl | rfl | rfl | rfl
      · have lp := dn 6 0 (by decide) rfl hLj
        have lq := dn 21 6 (by decide) rfl lp
        obtain ⟨eq, hO'⟩ := AQ.take hO lp (by cases L 5 <;> simp) lq (by decide) (by decide) (by decide)
        have e8 : a.eval (.tmp 13) = v8 := eq
        refine ⟨wnone rfl, op_move ⟨_, U, rfl, by simp [phiM], Below.refl _ _, fun _ _ _ => rfl, fun _ h => .inl h, ?_⟩⟩
        rw [e8]
        exact hO'
      · have lp := dn 6 5 (by decide) rfl hLj
        have lq := dn 21 6 (by decide) rfl lp
        have e9 : a.tmps.getD 86 undef = .agg #[.string s, .int .i64 z] := (hp 4 rfl).2.2.2.2.1 rfl
        obtain ⟨U', k1, k2, k3, k4⟩ := AQ.bs hO hU hBw lp lq (by decide) (by decide) (by decide)
        exact ⟨wnone rfl, op_bsB e9 ⟨_, U', rfl, by simp [phiM], k1, k2, k3, k4⟩⟩
      · have lq := dn 21 6 (by decide) rfl hLj
        obtain ⟨v', w', U', hr, k1, k2, k3, k4⟩ := AQ.ap (t := 23) tBounds hiB hzB hsB hbB rfl (by omega) (by omega) rfl (by simp [Value.oneCell']) hn 23 hO hU hBw (hp 5 rfl).1 hLj lq (hp 0 rfl).1 (by decide) (by decide)
        exact ⟨wnone rfl, op_app rfl rfl hr ⟨_, U', rfl, by simp [phiM], k1, k2, k3, k4⟩⟩
      · have hO' := AQ.asg hO (hp 6 rfl).1 (hd 6 (by rw [hl]; decide) (hp 6 rfl).1 5 rfl) (by decide) (by decide)
        exact ⟨wnone rfl, op_assign ⟨_, U, rfl, by simp [phiM], Below.refl _ _, fun _ _ _ => rfl, fun _ h => .inl h, hO'⟩⟩
    · have hO : OwnS w U (AQ B 3 1 v9 n ys [.int .i64 zs] 7 12 13 22 U L (slotOf (regionOf Tryd.f23 19).toArray a)) := hO
      rcases hj' with rfl | rfl | rfl | rfl
      · have lp := dn 13 7 (by decide) rfl hLj
        have lq := dn 22 13 (by decide) rfl lp
        obtain ⟨eq, hO'⟩ := AQ.take hO lp (by cases L 12 <;> simp) lq (by decide) (by decide) (by decide)
        have e8 : a.eval (.tmp 14) = v9 := eq
        refine ⟨wnone rfl, op_move ⟨_, U, rfl, by simp [phiM], Below.refl _ _, fun _ _ _ => rfl, fun _ h => .inl h, ?_⟩⟩
        rw [e8]
        exact hO'
      · have lp := dn 13 12 (by decide) rfl hLj
        have lq := dn 22 13 (by decide) rfl lp
        have e9 : a.tmps.getD 93 undef = .int .i64 zs := (hp 11 rfl).2.2.2.2.2.2.2.1 rfl
        obtain ⟨U', k1, k2, k3, k4⟩ := AQ.bs hO hU hBw lp lq (by decide) (by decide) (by decide)
        exact ⟨wnone rfl, op_bsI e9 ⟨_, U', rfl, by simp [phiM], k1, k2, k3, k4⟩⟩
      · have lq := dn 22 13 (by decide) rfl hLj
        obtain ⟨v', w', U', hr, k1, k2, k3, k4⟩ := AQ.ap (t := 39) tInts hiI hzI hsI hbI rfl (by omega) (by omega) rfl (by simp [Value.oneCell']) hn 39 hO hU hBw (hp 12 rfl).1 hLj lq (hp 7 rfl).1 (by decide) (by decide)
        exact ⟨wnone rfl, op_app rfl rfl hr ⟨_, U', rfl, by simp [phiM], k1, k2, k3, k4⟩⟩
      · have hO' := AQ.asg hO (hp 13 rfl).1 (hd 13 (by rw [hl]; decide) (hp 13 rfl).1 12 rfl) (by decide) (by decide)
        exact ⟨wnone rfl, op_assign ⟨_, U, rfl, by simp [phiM], Below.refl _ _, fun _ _ _ => rfl, fun _ h => .inl h, hO'⟩⟩
    · have hO : OwnS w U (AQ B 3 1 v10 n zs0 [.int .i64 zd] 14 19 20 23 U L (slotOf (regionOf Tryd.f23 19).toArray a)) := hO
      rcases hj' with rfl | rfl | rfl | rfl
      · have lp := dn 20 14 (by decide) rfl hLj
        have lq := dn 23 20 (by decide) rfl lp
        obtain ⟨eq, hO'⟩ := AQ.take hO lp (by cases L 19 <;> simp) lq (by decide) (by decide) (by decide)
        have e8 : a.eval (.tmp 15) = v10 := eq
        refine ⟨wnone rfl, op_move ⟨_, U, rfl, by simp [phiM], Below.refl _ _, fun _ _ _ => rfl, fun _ h => .inl h, ?_⟩⟩
        rw [e8]
        exact hO'
      · have lp := dn 20 19 (by decide) rfl hLj
        have lq := dn 23 20 (by decide) rfl lp
        have e9 : a.tmps.getD 100 undef = .int .i64 zd := (hp 18 rfl).2.2.2.2.2.2.2.2.2.2 rfl
        obtain ⟨U', k1, k2, k3, k4⟩ := AQ.bs hO hU hBw lp lq (by decide) (by decide) (by decide)
        exact ⟨wnone rfl, op_bsI e9 ⟨_, U', rfl, by simp [phiM], k1, k2, k3, k4⟩⟩
      · have lq := dn 23 20 (by decide) rfl hLj
        obtain ⟨v', w', U', hr, k1, k2, k3, k4⟩ := AQ.ap (t := 39) tInts hiI hzI hsI hbI rfl (by omega) (by omega) rfl (by simp [Value.oneCell']) hn 39 hO hU hBw (hp 19 rfl).1 hLj lq (hp 14 rfl).1 (by decide) (by decide)
        exact ⟨wnone rfl, op_app rfl rfl hr ⟨_, U', rfl, by simp [phiM], k1, k2, k3, k4⟩⟩
      · have hO' := AQ.asg hO (hp 20 rfl).1 (hd 20 (by rw [hl]; decide) (hp 20 rfl).1 19 rfl) (by decide) (by decide)
        exact ⟨wnone rfl, op_assign ⟨_, U, rfl, by simp [phiM], Below.refl _ _, fun _ _ _ => rfl, fun _ h => .inl h, hO'⟩⟩
  · intro a w hdf hn' hk _ hb ⟨U, hUo, hA⟩
    have k0 : AQ B 36 2 v8 n xs [.string s, .int .i64 z] 0 5 6 21 (U 0) (fun _ => true) (slotOf (regionOf Tryd.f23 19).toArray a) w := (hUo 0 (by decide)).now
    have k1 : AQ B 3 1 v9 n ys [.int .i64 zs] 7 12 13 22 (U 1) (fun _ => true) (slotOf (regionOf Tryd.f23 19).toArray a) w := (hUo 1 (by decide)).now
    have k2 : AQ B 3 1 v10 n zs0 [.int .i64 zd] 14 19 20 23 (U 2) (fun _ => true) (slotOf (regionOf Tryd.f23 19).toArray a) w := (hUo 2 (by decide)).now
    have q0 : a.tmps.getD 13 undef = slotOf (regionOf Tryd.f23 19).toArray a 6 := k0.2.2.2.1 rfl
    have q1 : a.tmps.getD 14 undef = slotOf (regionOf Tryd.f23 19).toArray a 13 := k1.2.2.2.1 rfl
    have q2 : a.tmps.getD 15 undef = slotOf (regionOf Tryd.f23 19).toArray a 20 := k2.2.2.2.1 rfl
    refine hend a w hdf hn' hk (hD.trans hb) ?_ ?_ ?_ ?_ ?_ ?_
    · rw [q0]; exact (k0.2.2.1 rfl).1
    · rw [q1]; exact (k1.2.2.1 rfl).1
    · rw [q2]; exact (k2.2.2.1 rfl).1
    · rw [q0, q1]
      exact fun g h1 h2 => hA.1 0 1 (by decide) (by decide) (by decide) g ((k0.2.2.1 rfl).2 g h1) ((k1.2.2.1 rfl).2 g h2)
    · rw [q0, q2]
      exact fun g h1 h2 => hA.1 0 2 (by decide) (by decide) (by decide) g ((k0.2.2.1 rfl).2 g h1) ((k2.2.2.1 rfl).2 g h2)
    · rw [q1, q2]
      exact fun g h1 h2 => hA.1 1 2 (by decide) (by decide) (by decide) g ((k1.2.2.1 rfl).2 g h1) ((k2.2.2.1 rfl).2 g h2)
end Go.Proofs.YtegmckpcchhmdaaDoor
