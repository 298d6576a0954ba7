/- The document's parser: its state in memory, its small functions. -/
import Derived.Test.YtljhpbjngbbjbaaDoorZAG
import Derived.Test.YtljhpbjngbbjbaaDoorZAA
import Derived.Test.YtljhpbjngbbjbaaDoorZAC
set_option linter.unusedVariables false
set_option linter.unusedSimpArgs false

/- Package scope: decl. -/
namespace Go.Proofs.YtljhpbjngbbjbaaDoor
open Go Go.RowKit
set_option maxRecDepth 100000 in
set_option maxHeartbeats 16000000 in
theorem xdecl_any {H r mc md K lo hi q o : Nat} {w : World} {z : RZ} {d : Dz} (h : RS0 H r mc md w z) (hx : OD w K lo hi q o d) (hA : Ap H lo hi q) (hK : K ≤ 1000000) : Calls Tryd.prog 23 #[.pointer (some ⟨r, 0, none⟩), .pointer (some ⟨q, o, none⟩)] w fun e w' => e = .returned (.tuple #[]) ∧ RS0 H r mc md w' (rxD K z d).2 ∧ OD w' K lo hi q o (rxD K z d).1 ∧ Fr H (Foot lo hi q o 22) w w' := by
  obtain ⟨c0, c1, c3, c21⟩ := hx.cells
  have HD := hide (declared_any h d.name)
  have HRF := hide (refus0_any h d.at' 171)
  have HR0 := hide h
  have HX := hide hx
  have HA := hide hA
  have HK := hide hK
  unfold rxD
  clear h hx hA hK
  cases hs : z.has d.name with
  | true =>
    rw [hs] at HD
    rw [if_pos rfl]
    obtain ⟨z1, hz1⟩ : ∃ z1, z.ref d.at' 171 = z1 := ⟨_, rfl⟩
    rw [hz1] at HRF ⊢
    clear hs c0 c3
    go_enter Tryd.func23, Tryd.ntmps23
    go_wp2_with fail
    refine (unhide HD).mono ?_
    rintro e w0 ⟨rfl, hw0⟩
    rw [hw0]
    clear hw0
    go_wp2_with fail
    refine (unhide HRF).mono ?_
    rintro e W1 ⟨rfl, hRq, hbq⟩
    have HR1 := hide hRq
    have HX1 := hide ((unhide HX).low (unhide HA) hbq)
    have HB1 := hide hbq
    clear hRq hbq hz1 HD HRF HR0 c1 c21 HX
    obtain ⟨c0, c1, c3, -⟩ := (unhide HX1).cells
    obtain ⟨mb, pw, x0, x1, -, -, -, -, -, -⟩ := (unhide HR1).cells
    have nl := (nm_len (ty := 3) umI (unhide HR1).nc)
    have ml := (nm_len (ty := 3) umI (unhide HR1).nd)
    rw [iM_len] at nl ml
    cases hcell : d.cell with
    | true =>
      rw [hcell] at c0
      obtain ⟨V, hrun, hput, hN⟩ := updated ((unhide HR1).below (Below.refl _ W1).drew).nc d.name z1.cells.length
      have hB := ((unhide HR1).below (Below.refl _ W1).drew).putC hput hN
      have hBW : Below H W1 V := (Below.refl H W1).drew.trans hB.2
      have HF := hide (show RS0 H r mc md V (rxC K z1 d).2 ∧ OD V K lo hi q o (rxC K z1 d).1 ∧ Fr H (Foot lo hi q o 22) w V from by
        have e : rxC K z1 d = (d, z1.setC d.name z1.cells.length) := by unfold rxC; rw [if_pos hcell]
        rw [e]
        exact ⟨hB.1, (unhide HX1).low (unhide HA) hBW, Fr.of _ ((unhide HB1).trans hBW)⟩)
      clear hput hN hB hBW hcell ml x1 c3
      go_wp2_with fail
      go_region
      go_wp2
      refine bodyPost_ret (results_none rfl _ _ _) rfl ?_
      exact ⟨rfl, unhide HF⟩
    | false =>
      rw [hcell] at c0
      obtain ⟨N, hN0⟩ : ∃ N : Int, (z1.defs.length : Int) = N := ⟨_, rfl⟩
      rw [hN0] at ml
      have HC0 := hide (And.intro hcell hN0)
      clear hcell nl x0 hN0
      cases hag : d.again with
      | true =>
        rw [hag] at c3
        obtain ⟨V, hrun, hput, hN⟩ := updated ((unhide HR1).below (Below.refl _ W1).drew).nd d.name N
        have hB := ((unhide HR1).below (Below.refl _ W1).drew).putD hput hN
        have hBW : Below H W1 V := (Below.refl H W1).drew.trans hB.2
        have hXV := (unhide HX1).low (unhide HA) hBW
        have HC := hide (xdef_any hB.1 hXV (unhide HA) (unhide HK))
        have HB2 := hide ((unhide HB1).trans hBW)
        have HAG := hide hag
        clear hput hN hB hBW hXV hag
        go_wp2_with fail
        go_region
        go_wp2_with fail
        refine (unhide HC).mono ?_
        rintro e w2 ⟨rfl, p1, p2, p3⟩
        have hcd := p2.cells
        obtain ⟨-, e1, -, -⟩ := hcd
        have ename : (rxF K (z1.setD d.name N) d).1.name = d.name := rfl
        rw [ename] at e1
        obtain ⟨mb2, pw2, -, y1, -, -, -, -, -, -⟩ := p1.cells
        obtain ⟨V2, hrun2, hput2, hN2⟩ := updated (p1.below (Below.refl _ w2).drew).nd d.name N
        have hB2 := (p1.below (Below.refl _ w2).drew).putD hput2 hN2
        have hBW2 : Below H w2 V2 := (Below.refl H w2).drew.trans hB2.2
        have HF := hide (show RS0 H r mc md V2 (rxC K z1 d).2 ∧ OD V2 K lo hi q o (rxC K z1 d).1 ∧ Fr H (Foot lo hi q o 22) w V2 from by
          have e : rxC K z1 d = ((rxF K (z1.setD d.name N) d).1, (rxF K (z1.setD d.name N) d).2.setD d.name N) := by
            unfold rxC
            rw [if_neg (by rw [(unhide HC0).1]; simp), if_pos (unhide HAG), (unhide HC0).2]
          rw [e]
          exact ⟨hB2.1, p2.low (unhide HA) hBW2, ((Fr.of _ (unhide HB2)).trans p3).trans (Fr.of _ hBW2)⟩)
        clear p1 p2 p3 hput2 hN2 hB2 hBW2 HC ename
        go_wp2_with fail
        go_region
        go_wp2
        refine bodyPost_end (results_none rfl _ _ _) rfl ?_
        exact ⟨rfl, unhide HF⟩
      | false =>
        rw [hag] at c3
        have HC := hide (xdef_any (unhide HR1) (unhide HX1) (unhide HA) (unhide HK))
        have HB2 := hide (unhide HB1)
        have HAG := hide hag
        clear hag
        go_wp2_with fail
        refine (unhide HC).mono ?_
        rintro e w2 ⟨rfl, p1, p2, p3⟩
        have hcd := p2.cells
        obtain ⟨-, e1, -, -⟩ := hcd
        have ename : (rxF K (z1) d).1.name = d.name := rfl
        rw [ename] at e1
        obtain ⟨mb2, pw2, -, y1, -, -, -, -, -, -⟩ := p1.cells
        obtain ⟨V2, hrun2, hput2, hN2⟩ := updated (p1.below (Below.refl _ w2).drew).nd d.name N
        have hB2 := (p1.below (Below.refl _ w2).drew).putD hput2 hN2
        have hBW2 : Below H w2 V2 := (Below.refl H w2).drew.trans hB2.2
        have HF := hide (show RS0 H r mc md V2 (rxC K z1 d).2 ∧ OD V2 K lo hi q o (rxC K z1 d).1 ∧ Fr H (Foot lo hi q o 22) w V2 from by
          have e : rxC K z1 d = ((rxF K (z1) d).1, (rxF K (z1) d).2.setD d.name N) := by
            unfold rxC
            rw [if_neg (by rw [(unhide HC0).1]; simp), if_neg (by rw [unhide HAG]; simp), (unhide HC0).2]
          rw [e]
          exact ⟨hB2.1, p2.low (unhide HA) hBW2, ((Fr.of _ (unhide HB2)).trans p3).trans (Fr.of _ hBW2)⟩)
        clear p1 p2 p3 hput2 hN2 hB2 hBW2 HC ename
        go_wp2_with fail
        go_region
        go_wp2
        refine bodyPost_end (results_none rfl _ _ _) rfl ?_
        exact ⟨rfl, unhide HF⟩
  | false =>
    rw [hs] at HD
    rw [if_neg (by simp)]
    clear hs c0 c1 c3
    go_enter Tryd.func23, Tryd.ntmps23
    have c1 := (unhide HX).cells.2.1
    go_wp2_with fail
    refine (unhide HD).mono ?_
    rintro e W1 ⟨rfl, rfl⟩
    obtain ⟨z1, hz1⟩ : ∃ z1, z = z1 := ⟨_, rfl⟩
    have HR1 := hide (unhide HR0)
    have HX1 := hide (unhide HX)
    have HB1 := hide (Below.refl H W1)
    subst hz1
    clear HD HRF HR0 c1 c21 HX
    obtain ⟨c0, c1, c3, -⟩ := (unhide HX1).cells
    obtain ⟨mb, pw, x0, x1, -, -, -, -, -, -⟩ := (unhide HR1).cells
    have nl := (nm_len (ty := 3) umI (unhide HR1).nc)
    have ml := (nm_len (ty := 3) umI (unhide HR1).nd)
    rw [iM_len] at nl ml
    cases hcell : d.cell with
    | true =>
      rw [hcell] at c0
      obtain ⟨V, hrun, hput, hN⟩ := updated ((unhide HR1).below (Below.refl _ W1).drew).nc d.name z.cells.length
      have hB := ((unhide HR1).below (Below.refl _ W1).drew).putC hput hN
      have hBW : Below H W1 V := (Below.refl H W1).drew.trans hB.2
      have HF := hide (show RS0 H r mc md V (rxC K z d).2 ∧ OD V K lo hi q o (rxC K z d).1 ∧ Fr H (Foot lo hi q o 22) W1 V from by
        have e : rxC K z d = (d, z.setC d.name z.cells.length) := by unfold rxC; rw [if_pos hcell]
        rw [e]
        exact ⟨hB.1, (unhide HX1).low (unhide HA) hBW, Fr.of _ ((unhide HB1).trans hBW)⟩)
      clear hput hN hB hBW hcell ml x1 c3
      go_wp2_with fail
      go_region
      go_wp2
      refine bodyPost_ret (results_none rfl _ _ _) rfl ?_
      exact ⟨rfl, unhide HF⟩
    | false =>
      rw [hcell] at c0
      obtain ⟨N, hN0⟩ : ∃ N : Int, (z.defs.length : Int) = N := ⟨_, rfl⟩
      rw [hN0] at ml
      have HC0 := hide (And.intro hcell hN0)
      clear hcell nl x0 hN0
      cases hag : d.again with
      | true =>
        rw [hag] at c3
        obtain ⟨V, hrun, hput, hN⟩ := updated ((unhide HR1).below (Below.refl _ W1).drew).nd d.name N
        have hB := ((unhide HR1).below (Below.refl _ W1).drew).putD hput hN
        have hBW : Below H W1 V := (Below.refl H W1).drew.trans hB.2
        have hXV := (unhide HX1).low (unhide HA) hBW
        have HC := hide (xdef_any hB.1 hXV (unhide HA) (unhide HK))
        have HB2 := hide ((unhide HB1).trans hBW)
        have HAG := hide hag
        clear hput hN hB hBW hXV hag
        go_wp2_with fail
        go_region
        go_wp2_with fail
        refine (unhide HC).mono ?_
        rintro e w2 ⟨rfl, p1, p2, p3⟩
        have hcd := p2.cells
        obtain ⟨-, e1, -, -⟩ := hcd
        have ename : (rxF K (z.setD d.name N) d).1.name = d.name := rfl
        rw [ename] at e1
        obtain ⟨mb2, pw2, -, y1, -, -, -, -, -, -⟩ := p1.cells
        obtain ⟨V2, hrun2, hput2, hN2⟩ := updated (p1.below (Below.refl _ w2).drew).nd d.name N
        have hB2 := (p1.below (Below.refl _ w2).drew).putD hput2 hN2
        have hBW2 : Below H w2 V2 := (Below.refl H w2).drew.trans hB2.2
        have HF := hide (show RS0 H r mc md V2 (rxC K z d).2 ∧ OD V2 K lo hi q o (rxC K z d).1 ∧ Fr H (Foot lo hi q o 22) W1 V2 from by
          have e : rxC K z d = ((rxF K (z.setD d.name N) d).1, (rxF K (z.setD d.name N) d).2.setD d.name N) := by
            unfold rxC
            rw [if_neg (by rw [(unhide HC0).1]; simp), if_pos (unhide HAG), (unhide HC0).2]
          rw [e]
          exact ⟨hB2.1, p2.low (unhide HA) hBW2, ((Fr.of _ (unhide HB2)).trans p3).trans (Fr.of _ hBW2)⟩)
        clear p1 p2 p3 hput2 hN2 hB2 hBW2 HC ename
        go_wp2_with fail
        go_region
        go_wp2
        refine bodyPost_end (results_none rfl _ _ _) rfl ?_
        exact ⟨rfl, unhide HF⟩
      | false =>
        rw [hag] at c3
        have HC := hide (xdef_any (unhide HR1) (unhide HX1) (unhide HA) (unhide HK))
        have HB2 := hide (unhide HB1)
        have HAG := hide hag
        clear hag
        go_wp2_with fail
        refine (unhide HC).mono ?_
        rintro e w2 ⟨rfl, p1, p2, p3⟩
        have hcd := p2.cells
        obtain ⟨-, e1, -, -⟩ := hcd
        have ename : (rxF K (z) d).1.name = d.name := rfl
        rw [ename] at e1
        obtain ⟨mb2, pw2, -, y1, -, -, -, -, -, -⟩ := p1.cells
        obtain ⟨V2, hrun2, hput2, hN2⟩ := updated (p1.below (Below.refl _ w2).drew).nd d.name N
        have hB2 := (p1.below (Below.refl _ w2).drew).putD hput2 hN2
        have hBW2 : Below H w2 V2 := (Below.refl H w2).drew.trans hB2.2
        have HF := hide (show RS0 H r mc md V2 (rxC K z d).2 ∧ OD V2 K lo hi q o (rxC K z d).1 ∧ Fr H (Foot lo hi q o 22) W1 V2 from by
          have e : rxC K z d = ((rxF K (z) d).1, (rxF K (z) d).2.setD d.name N) := by
            unfold rxC
            rw [if_neg (by rw [(unhide HC0).1]; simp), if_neg (by rw [unhide HAG]; simp), (unhide HC0).2]
          rw [e]
          exact ⟨hB2.1, p2.low (unhide HA) hBW2, ((Fr.of _ (unhide HB2)).trans p3).trans (Fr.of _ hBW2)⟩)
        clear p1 p2 p3 hput2 hN2 hB2 hBW2 HC ename
        go_wp2_with fail
        go_region
        go_wp2
        refine bodyPost_end (results_none rfl _ _ _) rfl ?_
        exact ⟨rfl, unhide HF⟩
end Go.Proofs.YtljhpbjngbbjbaaDoor

/- Package scope: copied of no declarations; newResolver. -/
namespace Go.Proofs.YtljhpbjngbbjbaaDoor
open Go Go.RowKit
set_option maxRecDepth 100000 in
set_option maxHeartbeats 8000000 in
theorem copied_nil {K c : Nat} {w : World} {a : Option Addr} : Calls Tryd.prog 21 #[.slice a 0 c] w (CoP K 0 [] w) := by
  obtain ⟨A, eA, hbA, hsA, hhA⟩ := box_new w #[.int .i64 65536] 91
  have hrun := app_nil (w := w.alloc (.cells #[.int .i64 65536] 91)) (a := a) (c := c) unD infD22 23
  have R1 := hide hrun
  have HE := hide (And.intro eA hbA)
  clear hrun eA hbA hsA hhA
  go_enter Tryd.func21, Tryd.ntmps21
  go_wp2_with (at_builtin; refine app_run _ _ _ rfl rfl rfl rfl (unhide R1) ?_; clear R1)
  go_wp2_with fail
  go_loopw [12] (fun iv wr => iv = .int .i64 (0 : Nat) ∧ Hid (Below w.heap.size w wr)) (fun iv _ => 0)
  case atStart =>
    refine ⟨rfl, ?_⟩
    have h := unhide HE
    rw [h.1]
    exact h.2
  case round =>
    obtain ⟨rfl, HB⟩ := hrel
    go_wp2
    go_ret
    have h := unhide HB
    exact ⟨none, 0, rfl, ⟨rfl, Nat.le_refl _, by omega, h.size, fun e => absurd rfl e, fun _ => ⟨rfl, rfl⟩⟩, h⟩
theorem copied_any {K n c : Nat} {w : World} {a : Option Addr} {l : List De} {P : Nat → Prop} (hx : DsQ w P (.slice a n c) l) (hk : l.all (hiD K) = true) (hL : coS K l ≤ 65536) : Calls Tryd.prog 21 #[.slice a n c] w (CoP K n l w) := by
  by_cases h0 : n = 0
  · subst h0
    obtain ⟨a', c', e0, -⟩ := hx
    obtain ⟨-, hn, -⟩ : a = a' ∧ 0 = l.length ∧ c = c' := by simpa using e0
    have hl : l = [] := List.length_eq_zero_iff.1 hn.symm
    subst hl
    exact copied_nil
  · obtain ⟨a', c', e0, hr1, hr2, hr3⟩ := hx
    obtain ⟨rfl, hn, rfl⟩ : a = a' ∧ n = l.length ∧ c = c' := by simpa using e0
    obtain ⟨b', off', rfl, hPb, hbw, hrow⟩ := hr3 (by omega)
    exact copied_some ⟨_, _, e0, hr1, hr2, hr3⟩ hk h0 hL
set_option maxRecDepth 100000 in
set_option maxHeartbeats 8000000 in
theorem newRes_any {w : World} : Calls Tryd.prog 22 #[] w fun e w' => e = .returned (.pointer (some ⟨w.heap.size + 2, 0, none⟩)) ∧ RS0 w.heap.size (w.heap.size + 2) w.heap.size (w.heap.size + 1) w' rxZ ∧ Below w.heap.size w w' := by
  have km : ∀ w : World, (Instr.makeMap 59 none).run Tryd.prog w = .ok (.map (some w.heap.size)) (w.alloc (.map #[] 0)) := fun _ => rfl
  go_enter Tryd.func22, Tryd.ntmps22
  go_wp2
  go_ret
  obtain ⟨A, eA, hbA, hsA, hhA⟩ := box_new ((w.alloc (.map #[] 0)).alloc (.map #[] 0)) #[.map (some w.heap.size), .map (some (w.heap.size + 1)), .map none, .int .i64 0, .bool false, .pointer none] 62
  have hs : ((w.alloc (.map #[] 0)).alloc (.map #[] 0)).heap.size = w.heap.size + 2 := by simp
  rw [hs] at hbA hsA hhA
  have h1 : NM (w.alloc (.map #[] 0)) w.heap.size (iM []) := NM.new w
  have h2 : NM ((w.alloc (.map #[] 0)).alloc (.map #[] 0)) (w.heap.size + 1) (iM []) := by
    have h := NM.new (w.alloc (.map #[] 0))
    have e : (w.alloc (.map #[] 0)).heap.size = w.heap.size + 1 := by simp
    rw [e] at h
    exact h
  have b1 : Below w.heap.size w (w.alloc (.map #[] 0)) := (Below.refl _ w).alloc (Nat.le_refl _) _
  have b2 : Below (w.heap.size + 1) (w.alloc (.map #[] 0)) ((w.alloc (.map #[] 0)).alloc (.map #[] 0)) := (Below.refl _ _).alloc (by simp) _
  have h1' := (h1.below b2 (by omega)).below hbA (by omega)
  have h2' := h2.below hbA (by omega)
  refine ⟨rfl, ⟨⟨none, none, ?_, rfl⟩, ?_, ?_, by omega, Nat.le_refl _, by omega, by omega⟩, ?_⟩
  · rw [eA]; exact hhA
  · rw [eA]; exact h1'
  · rw [eA]; exact h2'
  · rw [eA]; exact (b1.trans (b2.mono (by omega))).trans (hbA.mono (by omega))
end Go.Proofs.YtljhpbjngbbjbaaDoor

/- Package scope: Resolve. -/
namespace Go.Proofs.YtljhpbjngbbjbaaDoor
open Go Go.RowKit
/-- What Resolve answers. -/
def ResP (K n : Nat) (l : List De) (w : World) (e : Ending) (w' : World) : Prop := Below w.heap.size w w' ∧ match rxR K l with
  | .error (a, k) => ∃ p, e = .returned (.tuple #[.slice none 0 0, .iface 60 (.pointer (some ⟨p, 0, none⟩))]) ∧ w'.heap[p]? = some (.cells #[.int .i64 a, .int .i64 k] 67)
  | .ok ds => ∃ a c hi, e = .returned (.tuple #[.slice a n c, .nilIface]) ∧ OSg 22 (OD w' K) w.heap.size hi a n c ds ∧ hi ≤ w'.heap.size
/-- Between declarations that are gone through. -/
def RW (H r mc md K lo hi n c : Nat) (a : Option Addr) (l : List Dz) (z : RZ) (w W : World) : Prop := RS0 H r mc md W z ∧ OSg 22 (OD W K) lo hi a n c l ∧ Below lo w W
set_option maxRecDepth 100000 in
set_option maxHeartbeats 16000000 in
theorem resolve_any {K n c : Nat} {w : World} {a : Option Addr} {l : List De} {P : Nat → Prop} (hx : DsQ w P (.slice a n c) l) (hk : l.all (hiD K) = true) (hL : coS K l ≤ 65536) (hK : K ≤ 1000000) : Calls Tryd.prog 8 #[.slice a n c] w (ResP K n l w) := by
  have hn : n = l.length := by
    obtain ⟨a', c', e0, -⟩ := hx
    obtain ⟨-, hn, -⟩ : a = a' ∧ n = l.length ∧ c = c' := by simpa using e0
    exact hn
  have HC := hide (copied_any hx hk hL)
  have HN := hide (And.intro hn hK)
  clear hx hk hL hn hK
  go_enter Tryd.func8, Tryd.ntmps8
  generalize hQQ : bodyPost Tryd.prog Tryd.f8 (ResP K n l w) = QQ
  have HQQ := hide hQQ
  clear hQQ
  go_wp2_with fail
  refine (unhide HC).mono ?_
  rintro e w1 ⟨a2, c2, rfl, k1, k2⟩
  have H1 := hide (And.intro k1 k2)
  have g4 : (n : Int) ≤ 1000000 := by have := k1.2.2.1; omega
  clear k1 k2 HC
  go_wp2_with fail
  refine newRes_any.mono ?_
  rintro e w2 ⟨rfl, k3, k4⟩
  obtain ⟨k1, k2⟩ := unhide H1
  obtain ⟨HH, hHH⟩ : ∃ x, w1.heap.size = x := ⟨_, rfl⟩
  rw [hHH] at k1 k3 k4 ⊢
  have hs := k2.size
  rw [hHH] at hs
  have hw0 : RW HH (HH + 2) HH (HH + 1) K w.heap.size HH n c2 a2 (l.map (dr K)) rxZ w w2 := by
    refine ⟨k3, ?_, k2.trans (k4.mono hs)⟩
    obtain ⟨h3, h4, h5, h6, h7, h8⟩ := k1
    refine ⟨h3, h4, h5, h6, fun hl => ?_, h8⟩
    obtain ⟨q, o, e, g1, g2, g3⟩ := h7 hl
    exact ⟨q, o, e, g1, g2, ODl.fr g3 (Fr.of (fun _ _ => False) k4) g2 (Nat.le_refl _) (fun _ _ _ h => h) fun _ _ _ _ h => h⟩
  have HI := hide hw0
  have HS := hide hs
  clear k1 k2 k3 k4 H1 hHH hw0 hs
  go_wp2_with fail
  go_loopw [12] (fun iv wr => ∃ (j : Nat) (u rest : List Dz) (y : RZ), iv = .int .i64 j ∧ j ≤ n ∧ Hid (u.length = j ∧ n = j + rest.length ∧ thr (rxD K) rxZ (l.map (dr K)) = (u ++ (thr (rxD K) y rest).1, (thr (rxD K) y rest).2) ∧ RW HH (HH + 2) HH (HH + 1) K w.heap.size HH n c2 a2 (u ++ rest) y w wr)) (fun iv _ => n - (intOf iv).toNat)
  case atStart => exact ⟨0, [], l.map (dr K), rxZ, rfl, Nat.zero_le _, rfl, by have := (unhide HN).1; simp; omega, rfl, unhide HI⟩
  case round =>
    obtain ⟨j, u, rest, y, rfl, hj, HB⟩ := hrel
    have g3 : (0 : Int) ≤ (j : Int) := by omega
    by_cases hjn : j < n
    · obtain ⟨hu, hn, ht, hR, hO, hb⟩ := unhide HB
      obtain ⟨d, rest, rfl⟩ : ∃ t r2, rest = t :: r2 := by
        cases rest with
        | nil => simp at hn; omega
        | cons t r2 => exact ⟨t, r2, rfl⟩
      obtain ⟨b1, b2, b3, b4, b5, b6⟩ := hO
      obtain ⟨q, o, rfl, k1, k2, k3⟩ := b5 (by simp)
      obtain ⟨m1, m2, e1, e2, e3, e4⟩ := k3.at
      have l1 := OLg.le _ _ _ _ e1
      have l4 := OLg.le _ _ _ _ e4
      rw [hu] at e3
      have hA2 : Ap HH m1 m2 q := ⟨k2, by omega, .inl (by omega)⟩
      have HC := hide (xdecl_any hR e3 hA2 (unhide HN).2)
      rw [Nat.mul_comm 22 j] at HC
      have HK := hide (And.intro hu (And.intro hn (And.intro ht (And.intro hb (And.intro k1 (And.intro k2 (And.intro e1 (And.intro e2 (And.intro e4 (And.intro b1 (And.intro b2 (And.intro b3 b4))))))))))))
      have g1 : (j : Int) < (n : Int) := by omega
      have g2 : decide ((j : Int) < (n : Int)) = true := by simp; omega
      clear hu hn ht hR hb b1 b2 b3 b4 b5 b6 k1 k2 k3 e1 e2 e3 e4 l1 l4 hA2 hj HB HI
      have HJ := hide hjn
      clear hjn
      go_wp2_with fail
      refine (unhide HC).mono ?_
      rintro e w3 ⟨rfl, p1, p2, p3⟩
      have hstep : u.length = j ∧ n = j + (d :: rest).length ∧ thr (rxD K) rxZ (l.map (dr K)) = (u ++ (thr (rxD K) y (d :: rest)).1, (thr (rxD K) y (d :: rest)).2) ∧ RW HH (HH + 2) HH (HH + 1) K w.heap.size HH n c2 (some ⟨q, o, none⟩) ((u ++ [(rxD K y d).1]) ++ rest) (rxD K y d).2 w w3 := by
        obtain ⟨hu, hn, ht, hb, k1, k2, e1, e2, e4, b1, b2, b3, b4⟩ := unhide HK
        have l1 := OLg.le _ _ _ _ e1
        have l4 := OLg.le _ _ _ _ e4
        rw [Nat.mul_comm j 22] at p2 p3
        have hrow : OLg 22 (OD w3 K) q (q + 1) HH o ((u ++ [(rxD K y d).1]) ++ rest) := by
          rw [List.append_assoc, OLg.split]
          refine ⟨m1, ODl.fr e1 p3 (by omega) (by omega) (fun i q1 q2 hk => ?_) (fun k i q1 q2 hk => ?_), m2, e2, by rw [hu]; exact p2, ODl.fr e4 p3 (by omega) (by omega) (fun i q1 q2 hk => ?_) fun k i q1 q2 hk => ?_⟩
          all_goals rcases hk with ⟨g1, g2⟩ | ⟨g1, g2, g3⟩ <;> omega
        refine ⟨hu, hn, ht, p1, ⟨by rw [b1]; simp, b2, b3, b4, fun _ => ⟨q, o, rfl, k1, k2, hrow⟩, fun e => by simp at e⟩, hb.trans (p3.low b4 fun k i hk => ?_)⟩
        rcases hk with ⟨g1, g2⟩ | ⟨g1, g2, g3⟩ <;> omega
      have HZ := hide (show (u ++ [(rxD K y d).1]).length = j + 1 ∧ n = (j + 1) + rest.length ∧ thr (rxD K) rxZ (l.map (dr K)) = ((u ++ [(rxD K y d).1]) ++ (thr (rxD K) (rxD K y d).2 rest).1, (thr (rxD K) (rxD K y d).2 rest).2) ∧ RW HH (HH + 2) HH (HH + 1) K w.heap.size HH n c2 (some ⟨q, o, none⟩) ((u ++ [(rxD K y d).1]) ++ rest) (rxD K y d).2 w w3 from ⟨by simp [hstep.1], by have := hstep.2.1; simp at this; omega, thr_go hstep.2.2.1, hstep.2.2.2⟩)
      clear hstep p1 p2 p3 HK HC
      go_wp2
      exact ⟨⟨j + 1, _, rest, _, by push_cast; rfl, by have := unhide HJ; omega, unhide HZ⟩, by simp only [intOf]; have := unhide HJ; omega⟩
    · have g1 : ¬ ((j : Int) < (n : Int)) := by omega
      have g2 : decide ((j : Int) < (n : Int)) = false := by simp; omega
      obtain ⟨hu, hn, ht, hR, hO, hb⟩ := unhide HB
      obtain rfl : rest = [] := List.length_eq_zero_iff.1 (by omega)
      have ep : thr (rxD K) rxZ (l.map (dr K)) = (u, y) := by rw [ht]; simp [thr]
      obtain ⟨mb, pw, -, -, -, -, -, x5, -, hw⟩ := hR.cells
      rw [List.append_nil] at hO
      cases hwr : y.wr with
      | none =>
        rw [hwr] at hw
        obtain rfl : pw = none := hw
        have er : rxR K l = .ok u := by unfold rxR; rw [ep]; dsimp only; rw [hwr]
        have HF := hide (show ResP K n l w (.returned (.tuple #[.slice a2 n c2, .nilIface])) wr from ⟨hb, by rw [er]; exact ⟨a2, c2, HH, rfl, hO, by have := hR.lt; omega⟩⟩)
        clear hu hn ht hR hO hb ep hj hjn HB HI hwr er
        go_wp2
        rw [← unhide HQQ]
        go_ret2
        exact unhide HF
      | some er0 =>
        rw [hwr] at hw
        obtain ⟨p, rfl, hp, hq⟩ := hw
        obtain ⟨a0, k0⟩ := er0
        have er : rxR K l = .error (a0, k0) := by unfold rxR; rw [ep]; dsimp only; rw [hwr]
        have HF := hide (fun nq => show ResP K n l w (.returned (.tuple #[.slice none 0 0, .iface 60 (.pointer (some ⟨p, 0, none⟩))])) (wr.drewN nq) from ⟨hb.trans (below_dw _ _ _), by rw [er]; exact ⟨p, rfl, ((below_dw (p + 1) wr nq).block p (by omega)).trans hq⟩⟩)
        clear hu hn ht hR hO hb ep hj hjn HB HI hwr er hp hq
        go_wp2_with fail
        go_quiet (fail)
        go_wp2
        rw [← unhide HQQ]
        go_ret2
        exact unhide HF nq
end Go.Proofs.YtljhpbjngbbjbaaDoor

/- Package scope: Cells, Defs. -/
namespace Go.Proofs.YtljhpbjngbbjbaaDoor
open Go Go.RowKit
def celK (l : List De) : Nat → List ByteArray
  | 0 => []
  | j + 1 => match l[j]? with
    | some d => if d.cell then celK l j ++ [d.name] else celK l j
    | none => celK l j
def defK (l : List De) : Nat → List Int
  | 0 => []
  | j + 1 => match l[j]? with
    | some d => if d.cell then defK l j else defK l j ++ [(j : Int)]
    | none => defK l j
theorem celK_le (l : List De) : ∀ j, (celK l j).length ≤ j
  | 0 => Nat.le_refl _
  | j + 1 => by
    have := celK_le l j
    unfold celK
    split
    · split
      · simp; omega
      · omega
    · omega
theorem defK_le (l : List De) : ∀ j, (defK l j).length ≤ j
  | 0 => Nat.le_refl _
  | j + 1 => by
    have := defK_le l j
    unfold defK
    split
    · split
      · omega
      · simp; omega
    · omega
theorem infStr : (Tryd.prog.info? 9).map (fun i => (i.zero.map fun z => z.cells.size, i.size, i.bytes)) = some (some 1, 1, 16) := by kernel_rfl
theorem infInt : (Tryd.prog.info? 3).map (fun i => (i.zero.map fun z => z.cells.size, i.size, i.bytes)) = some (some 1, 1, 8) := by kernel_rfl
theorem unS : Tryd.prog.underlying 36 = some (.slice 9) := by kernel_rfl
theorem unI : Tryd.prog.underlying 39 = some (.slice 3) := by kernel_rfl
/-- One more element of one cell. -/
theorem one_more {w : World} {t e : TypeId} {by' B n : Nat} {v x : Value} {xs : List Value} (ht : Tryd.prog.underlying t = some (.slice e)) (hi : (Tryd.prog.info? e).map (fun i => (i.zero.map fun z => z.cells.size, i.size, i.bytes)) = some (some 1, 1, by')) (hb : by' ≤ 16) (hown : w.ownsRow B e 1 v n xs) (hx : x.oneCell' = true) (hn : n ≤ 1000000) (hB : B ≤ w.heap.size) (ty : TypeId) :
    ∃ v' w', (Builtin.append_ #[t, t] ty #[v, .slice (some ⟨w.heap.size, 0, none⟩) 1 1]).run Tryd.prog (w.alloc (.cells #[x] e)) = .ok v' w' ∧ w'.ownsRow B e 1 v' (n + 1) (xs ++ [x]) ∧ Below B w w' := by
  obtain ⟨i, h1, h2⟩ := Option.map_eq_some_iff.1 hi
  simp only [Prod.mk.injEq] at h2
  obtain ⟨z, h3, h4⟩ := Option.map_eq_some_iff.1 h2.1
  have hown2 := hown.alloc (.cells #[x] e)
  obtain ⟨A, eA, hbA, hsA, hhA⟩ := box_new w #[x] e
  rw [eA] at hown2 ⊢
  obtain ⟨v', w', hr, ho, hg, _⟩ := run_append_own (P := Tryd.prog) A B t ty e i z 1 by' ht h1 h3 h2.2.1 h2.2.2 h4 (by omega) v n xs hown2 ⟨w.heap.size, 0, none⟩ 1 1 [x] rfl (fun j u hu => by
    rcases j with _ | j
    · obtain rfl := Option.some.inj hu
      rw [Addr.add_lit]
      exact (blk hhA).2.1 0 _ rfl
    · simp at hu) (fun u hu => by obtain rfl := List.mem_singleton.1 hu; exact hx) (by unfold maxLen; omega) (by
      have : (n + 1) * by' ≤ 1000001 * 16 := Nat.mul_le_mul (by omega) hb
      omega) (by omega)
  exact ⟨v', w', hr, ho, (hbA.mono hB).grown hg (by omega) fun k e => (hown2.lt k e).1⟩
set_option maxRecDepth 100000 in
set_option maxHeartbeats 8000000 in
theorem scel_any {w : World} {n c : Nat} {a : Option Addr} {l : List De} {P : Nat → Prop} (hx : DsQ w P (.slice a n c) l) : Calls Tryd.prog 13 #[.slice a n c] w fun e w' => ∃ v, e = .returned v ∧ w'.ownsRow w.heap.size 9 1 v (celK l n).length ((celK l n).map fun x => .string x) ∧ Below w.heap.size w w' := by
  obtain ⟨a', c', e0, hr1, hr2, hr3⟩ := hx
  obtain ⟨rfl, hn, rfl⟩ : a = a' ∧ n = l.length ∧ c = c' := by simpa using e0
  rw [← hn] at hr1 hr2 hr3
  have g4 : (n : Int) ≤ 1000000 := by omega
  have HR := hide (And.intro hr3 (And.intro hn hr2))
  clear hr1 hr2 hr3 hn e0
  go_enter Tryd.func13, Tryd.ntmps13
  go_wp2_with fail
  go_loopw [3, 7] (fun ov iv wr => ∃ j : Nat, iv = .int .i64 j ∧ j ≤ n ∧ Hid (wr.ownsRow w.heap.size 9 1 ov (celK l j).length ((celK l j).map fun x => .string x) ∧ Below w.heap.size w wr)) (fun _ iv _ => n - (intOf iv).toNat)
  case atStart => exact ⟨0, rfl, Nat.zero_le _, ⟨by simp [celK], .inl ⟨rfl, rfl⟩⟩, Below.refl _ _⟩
  case round =>
    rename_i ov _
    obtain ⟨j, rfl, hj, HB⟩ := hrel
    have g3 : (0 : Int) ≤ (j : Int) := by omega
    by_cases hjn : j < n
    rotate_left
    · have g1 : ¬ ((j : Int) < (n : Int)) := by omega
      have g2 : decide ((j : Int) < (n : Int)) = false := by simp; omega
      obtain rfl : j = n := by omega
      clear hj hjn
      go_wp2
      go_ret
      exact ⟨_, rfl, (unhide HB).1, (unhide HB).2⟩
    · obtain ⟨hr3, hn, hr2⟩ := unhide HR
      obtain ⟨b, off, rfl, hPb, hbw, hrow⟩ := hr3 (by omega)
      obtain ⟨cs, k1, k2⟩ := hrow j hjn
      obtain ⟨d, hd⟩ : ∃ d, l[j]? = some d := ⟨_, List.getElem?_eq_getElem (by omega)⟩
      obtain ⟨x, rfl, -⟩ := k2 d hd
      obtain ⟨ho, hb⟩ := unhide HB
      have y0 : wr.cell? ⟨b, off + j * 22, none⟩ = some (.bool d.cell) := (hb.cell (p := ⟨b, off + j * 22, none⟩) hbw).trans (k1 0 _ rfl)
      have y1 : wr.cell? ⟨b, off + j * 22 + 1, none⟩ = some (.string d.name) := (hb.cell (p := ⟨b, off + j * 22 + 1, none⟩) hbw).trans (k1 1 _ rfl)
      have hle := celK_le l j
      obtain ⟨v2, w2, hrun, ho2, hb2⟩ := one_more (x := .string d.name) unS infStr (by omega) ho rfl (by omega) hb.size 36
      have e1 : celK l (j + 1) = if d.cell then celK l j ++ [d.name] else celK l j := by
        show (match l[j]? with | some d => _ | none => _) = _
        rw [hd]
      have g1 : (j : Int) < (n : Int) := by omega
      have g2 : decide ((j : Int) < (n : Int)) = true := by simp; omega
      have HJ := hide hjn
      have HE := hide e1
      have HO := hide (And.intro ho hb)
      have HN := hide (And.intro ho2 (hb.trans hb2))
      have R1 := hide hrun
      clear hr3 hn hr2 hPb hbw hrow k1 k2 hd ho hb ho2 hb2 hle e1 hj hjn hrun HB HR
      cases hc : d.cell with
      | true =>
        rw [hc] at y0
        have HCC := hide hc
        clear hc
        go_wp2_with (at_builtin; refine app_run _ _ _ rfl rfl rfl rfl (unhide R1) ?_; clear R1)
        go_wp2
        refine ⟨⟨j + 1, by push_cast; rfl, by have := unhide HJ; omega, ?_⟩, by simp only [intOf]; have := unhide HJ; omega⟩
        rw [unhide HE, unhide HCC]
        show World.ownsRow _ _ _ _ _ (celK l j ++ [d.name]).length ((celK l j ++ [d.name]).map _) ∧ _
        rw [List.length_append, List.map_append]
        exact unhide HN
      | false =>
        rw [hc] at y0
        have HCC := hide hc
        clear hc R1 HN
        go_wp2
        refine ⟨⟨j + 1, by push_cast; rfl, by have := unhide HJ; omega, ?_⟩, by simp only [intOf]; have := unhide HJ; omega⟩
        rw [unhide HE, unhide HCC]
        exact unhide HO
set_option maxRecDepth 100000 in
set_option maxHeartbeats 8000000 in
theorem sdef_any {w : World} {n c : Nat} {a : Option Addr} {l : List De} {P : Nat → Prop} (hx : DsQ w P (.slice a n c) l) : Calls Tryd.prog 16 #[.slice a n c] w fun e w' => ∃ v, e = .returned v ∧ w'.ownsRow w.heap.size 3 1 v (defK l n).length ((defK l n).map fun x => .int .i64 x) ∧ Below w.heap.size w w' := by
  obtain ⟨a', c', e0, hr1, hr2, hr3⟩ := hx
  obtain ⟨rfl, hn, rfl⟩ : a = a' ∧ n = l.length ∧ c = c' := by simpa using e0
  rw [← hn] at hr1 hr2 hr3
  have g4 : (n : Int) ≤ 1000000 := by omega
  have HR := hide (And.intro hr3 (And.intro hn hr2))
  clear hr1 hr2 hr3 hn e0
  go_enter Tryd.func16, Tryd.ntmps16
  go_wp2_with fail
  go_loopw [3, 7] (fun ov iv wr => ∃ j : Nat, iv = .int .i64 j ∧ j ≤ n ∧ Hid (wr.ownsRow w.heap.size 3 1 ov (defK l j).length ((defK l j).map fun x => .int .i64 x) ∧ Below w.heap.size w wr)) (fun _ iv _ => n - (intOf iv).toNat)
  case atStart => exact ⟨0, rfl, Nat.zero_le _, ⟨by simp [defK], .inl ⟨rfl, rfl⟩⟩, Below.refl _ _⟩
  case round =>
    rename_i ov _
    obtain ⟨j, rfl, hj, HB⟩ := hrel
    have g3 : (0 : Int) ≤ (j : Int) := by omega
    by_cases hjn : j < n
    rotate_left
    · have g1 : ¬ ((j : Int) < (n : Int)) := by omega
      have g2 : decide ((j : Int) < (n : Int)) = false := by simp; omega
      obtain rfl : j = n := by omega
      clear hj hjn
      go_wp2
      go_ret
      exact ⟨_, rfl, (unhide HB).1, (unhide HB).2⟩
    · obtain ⟨hr3, hn, hr2⟩ := unhide HR
      obtain ⟨b, off, rfl, hPb, hbw, hrow⟩ := hr3 (by omega)
      obtain ⟨cs, k1, k2⟩ := hrow j hjn
      obtain ⟨d, hd⟩ : ∃ d, l[j]? = some d := ⟨_, List.getElem?_eq_getElem (by omega)⟩
      obtain ⟨x, rfl, -⟩ := k2 d hd
      obtain ⟨ho, hb⟩ := unhide HB
      have y0 : wr.cell? ⟨b, off + j * 22, none⟩ = some (.bool d.cell) := (hb.cell (p := ⟨b, off + j * 22, none⟩) hbw).trans (k1 0 _ rfl)
      have y1 : wr.cell? ⟨b, off + j * 22 + 1, none⟩ = some (.string d.name) := (hb.cell (p := ⟨b, off + j * 22 + 1, none⟩) hbw).trans (k1 1 _ rfl)
      have hle := defK_le l j
      obtain ⟨v2, w2, hrun, ho2, hb2⟩ := one_more (x := .int .i64 (j : Int)) unI infInt (by omega) ho rfl (by omega) hb.size 39
      have e1 : defK l (j + 1) = if d.cell then defK l j else defK l j ++ [(j : Int)] := by
        show (match l[j]? with | some d => _ | none => _) = _
        rw [hd]
      have g1 : (j : Int) < (n : Int) := by omega
      have g2 : decide ((j : Int) < (n : Int)) = true := by simp; omega
      have HJ := hide hjn
      have HE := hide e1
      have HO := hide (And.intro ho hb)
      have HN := hide (And.intro ho2 (hb.trans hb2))
      have R1 := hide hrun
      clear hr3 hn hr2 hPb hbw hrow k1 k2 hd ho hb ho2 hb2 hle e1 hj hjn hrun HB HR
      cases hc : d.cell with
      | false =>
        rw [hc] at y0
        have HCC := hide hc
        clear hc
        go_wp2_with (at_builtin; refine app_run _ _ _ rfl rfl rfl rfl (unhide R1) ?_; clear R1)
        go_wp2
        refine ⟨⟨j + 1, by push_cast; rfl, by have := unhide HJ; omega, ?_⟩, by simp only [intOf]; have := unhide HJ; omega⟩
        rw [unhide HE, unhide HCC]
        show World.ownsRow _ _ _ _ _ (defK l j ++ [(j : Int)]).length ((defK l j ++ [(j : Int)]).map _) ∧ _
        rw [List.length_append, List.map_append]
        exact unhide HN
      | true =>
        rw [hc] at y0
        have HCC := hide hc
        clear hc R1 HN
        go_wp2
        refine ⟨⟨j + 1, by push_cast; rfl, by have := unhide HJ; omega, ?_⟩, by simp only [intOf]; have := unhide HJ; omega⟩
        rw [unhide HE, unhide HCC]
        exact unhide HO
end Go.Proofs.YtljhpbjngbbjbaaDoor

/- avowhelp.Strings, Ints: of rows that read alike they tell true. -/
namespace Go.Proofs.YtljhpbjngbbjbaaDoor
open Go Go.RowKit
/-- What a slice of one's own reads as. -/
theorem own_cells1 {w : World} {B k n : Nat} {v : Value} {t : TypeId} {xs : List Value} (h : w.ownsRow B t k v n xs) : ∃ a c, v = .slice a n c ∧ n ≤ c ∧ (n ≠ 0 → ∃ g, a = some ⟨g, 0, none⟩ ∧ B ≤ g ∧ g < w.heap.size ∧ ∀ (j : Nat) u, xs[j]? = some u → w.cell? ⟨g, j, none⟩ = some u) := by
  obtain ⟨hlen, ⟨rfl, h0⟩ | ⟨g, cap, cur, rfl, hg, hgb, hc1, hc2, hc3, hc4⟩⟩ := h
  · subst h0
    exact ⟨none, 0, rfl, Nat.le_refl _, fun h => absurd rfl h⟩
  · refine ⟨_, cap, rfl, hc1, fun _ => ⟨g, rfl, hg, (Array.getElem?_eq_some_iff.1 hgb).1, fun j u hu => ?_⟩⟩
    rw [← hc4, List.getElem?_take] at hu
    split at hu
    · exact (blk hgb).2.1 j u (by rw [← Array.getElem?_toList]; exact hu)
    · cases hu
/-- A row of values of one cell. -/
def Rd1 (w : World) (v : Value) (xs : List Value) : Prop := ∃ a c, v = .slice a xs.length c ∧ xs.length ≤ 1000000 ∧ (xs ≠ [] → ∃ q o, a = some ⟨q, o, none⟩ ∧ q < w.heap.size ∧ ∀ j x, xs[j]? = some x → w.cell? ⟨q, o + j, none⟩ = some x)
theorem Rd1.below {w w' : World} {v : Value} {xs : List Value} (h : Rd1 w v xs) (hb : Below w.heap.size w w') : Rd1 w' v xs := by
  obtain ⟨a, c, e, h1, h2⟩ := h
  refine ⟨a, c, e, h1, fun h0 => ?_⟩
  obtain ⟨q, o, e2, h3, h4⟩ := h2 h0
  exact ⟨q, o, e2, Nat.lt_of_lt_of_le h3 hb.size, fun j x hx => (hb.cell (p := ⟨q, o + j, none⟩) h3).trans (h4 j x hx)⟩
theorem Rd1.own {w : World} {B : Nat} {e : TypeId} {v : Value} {xs : List Value} (h : w.ownsRow B e 1 v xs.length xs) (hl : xs.length ≤ 1000000) : Rd1 w v xs := by
  obtain ⟨a, c, rfl, h1, h2⟩ := own_cells1 h
  refine ⟨a, c, rfl, hl, fun h0 => ?_⟩
  obtain ⟨g, e2, h3, h4, h5⟩ := h2 (fun e => h0 (List.length_eq_zero_iff.1 e))
  exact ⟨g, 0, e2, h4, fun j x hx => by rw [Nat.zero_add]; exact h5 j x hx⟩
set_option maxRecDepth 100000 in
set_option maxHeartbeats 8000000 in
theorem strings_like {w : World} {va vb : Value} {xs : List ByteArray} (ha : Rd1 w va (xs.map fun x => Value.string x)) (hb : Rd1 w vb (xs.map fun x => Value.string x)) : Calls Tryd.prog 12 #[va, vb] w fun e w' => e = .returned (.bool true) ∧ Below w.heap.size w w' := by
  obtain ⟨a1, c1, rfl, h1, h2⟩ := ha
  obtain ⟨a2, c2, rfl, h3, h4⟩ := hb
  rw [List.length_map] at h1 h3 ⊢
  obtain ⟨n, hn⟩ : ∃ n, xs.length = n := ⟨_, rfl⟩
  rw [hn] at h1 h3 ⊢
  have g4 : (n : Int) ≤ 1000000 := by omega
  have HR := hide (And.intro h2 (And.intro h4 hn))
  clear h1 h2 h3 h4 hn
  go_enter Tryd.func12, Tryd.ntmps12
  go_wp2_with fail
  go_loopw [5] (fun iv wr => ∃ j : Nat, iv = .int .i64 j ∧ j ≤ n ∧ Hid (Below w.heap.size w wr)) (fun iv _ => n - (intOf iv).toNat)
  case atStart => exact ⟨0, rfl, Nat.zero_le _, Below.refl _ _⟩
  case round =>
    obtain ⟨j, rfl, hj, HB⟩ := hrel
    have g3 : (0 : Int) ≤ (j : Int) := by omega
    by_cases hjn : j < n
    rotate_left
    · have g1 : ¬ ((j : Int) < (n : Int)) := by omega
      have g2 : decide ((j : Int) < (n : Int)) = false := by simp; omega
      clear hj hjn
      go_wp2
      go_ret
      exact ⟨rfl, unhide HB⟩
    · obtain ⟨h2, h4, hn⟩ := unhide HR
      have hne : (xs.map fun x => Value.string x) ≠ [] := fun e => by
        have := congrArg List.length e
        simp at this
        rw [this] at hn
        simp at hn
        omega
      obtain ⟨q1, o1, rfl, k1, k2⟩ := h2 hne
      obtain ⟨q2, o2, rfl, k3, k4⟩ := h4 hne
      obtain ⟨x, hx⟩ : ∃ x, xs[j]? = some x := ⟨_, List.getElem?_eq_getElem (by omega)⟩
      have hv : (xs.map fun x => Value.string x)[j]? = some (Value.string x) := by rw [List.getElem?_map, hx]; rfl
      have y1 : wr.cell? ⟨q1, o1 + j, none⟩ = some (Value.string x) := ((unhide HB).cell (p := ⟨q1, o1 + j, none⟩) k1).trans (k2 j _ hv)
      have y2 : wr.cell? ⟨q2, o2 + j, none⟩ = some (Value.string x) := ((unhide HB).cell (p := ⟨q2, o2 + j, none⟩) k3).trans (k4 j _ hv)
      have g1 : (j : Int) < (n : Int) := by omega
      have g2 : decide ((j : Int) < (n : Int)) = true := by simp; omega
      have HJ := hide hjn
      clear h2 h4 hn hne k1 k2 k3 k4 hx hv hj hjn HR
      go_wp2_with fail
      go_quiet (fail)
      go_wp2
      exact ⟨⟨j + 1, by push_cast; rfl, by have := unhide HJ; omega, (unhide HB).trans (below_dw _ _ _)⟩, by simp only [intOf]; have := unhide HJ; omega⟩
set_option maxRecDepth 100000 in
set_option maxHeartbeats 8000000 in
theorem ints_like {w : World} {va vb : Value} {xs : List Int} (ha : Rd1 w va (xs.map fun x => Value.int .i64 x)) (hb : Rd1 w vb (xs.map fun x => Value.int .i64 x)) : Calls Tryd.prog 15 #[va, vb] w fun e w' => e = .returned (.bool true) ∧ Below w.heap.size w w' := by
  obtain ⟨a1, c1, rfl, h1, h2⟩ := ha
  obtain ⟨a2, c2, rfl, h3, h4⟩ := hb
  rw [List.length_map] at h1 h3 ⊢
  obtain ⟨n, hn⟩ : ∃ n, xs.length = n := ⟨_, rfl⟩
  rw [hn] at h1 h3 ⊢
  have g4 : (n : Int) ≤ 1000000 := by omega
  have HR := hide (And.intro h2 (And.intro h4 hn))
  clear h1 h2 h3 h4 hn
  go_enter Tryd.func15, Tryd.ntmps15
  go_wp2_with fail
  go_loopw [5] (fun iv wr => ∃ j : Nat, iv = .int .i64 j ∧ j ≤ n ∧ Hid (Below w.heap.size w wr)) (fun iv _ => n - (intOf iv).toNat)
  case atStart => exact ⟨0, rfl, Nat.zero_le _, Below.refl _ _⟩
  case round =>
    obtain ⟨j, rfl, hj, HB⟩ := hrel
    have g3 : (0 : Int) ≤ (j : Int) := by omega
    by_cases hjn : j < n
    rotate_left
    · have g1 : ¬ ((j : Int) < (n : Int)) := by omega
      have g2 : decide ((j : Int) < (n : Int)) = false := by simp; omega
      clear hj hjn
      go_wp2
      go_ret
      exact ⟨rfl, unhide HB⟩
    · obtain ⟨h2, h4, hn⟩ := unhide HR
      have hne : (xs.map fun x => Value.int .i64 x) ≠ [] := fun e => by
        have := congrArg List.length e
        simp at this
        rw [this] at hn
        simp at hn
        omega
      obtain ⟨q1, o1, rfl, k1, k2⟩ := h2 hne
      obtain ⟨q2, o2, rfl, k3, k4⟩ := h4 hne
      obtain ⟨x, hx⟩ : ∃ x, xs[j]? = some x := ⟨_, List.getElem?_eq_getElem (by omega)⟩
      have hv : (xs.map fun x => Value.int .i64 x)[j]? = some (Value.int .i64 x) := by rw [List.getElem?_map, hx]; rfl
      have y1 : wr.cell? ⟨q1, o1 + j, none⟩ = some (Value.int .i64 x) := ((unhide HB).cell (p := ⟨q1, o1 + j, none⟩) k1).trans (k2 j _ hv)
      have y2 : wr.cell? ⟨q2, o2 + j, none⟩ = some (Value.int .i64 x) := ((unhide HB).cell (p := ⟨q2, o2 + j, none⟩) k3).trans (k4 j _ hv)
      have g1 : (j : Int) < (n : Int) := by omega
      have g2 : decide ((j : Int) < (n : Int)) = true := by simp; omega
      have HJ := hide hjn
      clear h2 h4 hn hne k1 k2 k3 k4 hx hv hj hjn HR
      go_wp2_with fail
      go_quiet (fail)
      go_wp2
      exact ⟨⟨j + 1, by push_cast; rfl, by have := unhide HJ; omega, (unhide HB).trans (below_dw _ _ _)⟩, by simp only [intOf]; have := unhide HJ; omega⟩
end Go.Proofs.YtljhpbjngbbjbaaDoor

/- The document's grammar as plain Lean: what its parser comes to, state by state. -/
namespace Go.Proofs.YtljhpbjngbbjbaaDoor
/-- A state of the document's parser: the place among the tokens, the first error (0: none) and its place. -/
structure PS where
  i : Nat
  e : Int
  a : Int
def zTk : (Int × ByteArray × Int) := (0, ⟨#[]⟩, 0)
def PS.fail (st : PS) (a e : Int) : PS := if st.e = 0 then ⟨st.i, e, a⟩ else st
section
variable (ts : List (Int × ByteArray × Int))
def tD (st : PS) : (Int × ByteArray × Int) := if st.e = 0 then nx ts st.i else zTk
def stepD (st : PS) : PS := if st.e = 0 ∧ st.i + 1 < ts.length then ⟨st.i + 1, st.e, st.a⟩ else st
def isD (s : ByteArray) (st : PS) : Bool := decide (st.e = 0) && (decide ((nx ts st.i).1 = 2) || decide ((nx ts st.i).1 = 4)) && decide ((nx ts st.i).2.1 = s)
def eatD (s : ByteArray) (st : PS) : PS := if isD ts s st then stepD ts st else st
def mustD (s : ByteArray) (st : PS) : PS := if isD ts s st then stepD ts st else st.fail (tD ts st).2.2 150
def nameD (st : PS) : (Int × ByteArray × Int) × PS := if (tD ts st).1 = 1 then (tD ts st, stepD ts st) else (zTk, st.fail (tD ts st).2.2 150)
variable (g : Ru → PS → Ex × PS)
def argsD (most : Nat) : Nat → List Ex → PS → List Ex × PS
  | 0, l, st => (l, st)
  | n + 1, l, st => if isD ts ⟨#[44]⟩ st then (if l.length = most then (l, st.fail (tD ts st).2.2 152) else argsD most n (l ++ [(g .rE (stepD ts st)).1]) (g .rE (stepD ts st)).2) else (l, mustD ts ⟨#[41]⟩ st)
def callD (n : (Int × ByteArray × Int)) (st : PS) : Ex × PS :=
  if isD ts ⟨#[41]⟩ st then (namedR 21 n.2.1 [] n.2.2, stepD ts st)
  else (namedR 21 n.2.1 (argsD ts g 8 8 [(g .rE st).1] (g .rE st).2).1 n.2.2, (argsD ts g 8 8 [(g .rE st).1] (g .rE st).2).2)
def primD (st : PS) : Ex × PS :=
  if st.e ≠ 0 then (zEx, st)
  else if (tD ts st).1 = 3 then (.mk 1 ⟨#[]⟩ (tD ts st).2.1 false [] (tD ts st).2.2, stepD ts st)
  else if isD ts ⟨#[116, 114, 117, 101]⟩ st then (.mk 2 ⟨#[]⟩ ⟨#[]⟩ true [] (tD ts st).2.2, stepD ts st)
  else if isD ts ⟨#[102, 97, 108, 115, 101]⟩ st then (madeR 2 [] (tD ts st).2.2, stepD ts st)
  else if isD ts ⟨#[40]⟩ st then
    (if isD ts ⟨#[41]⟩ (stepD ts st) then (madeR 3 [] (tD ts st).2.2, stepD ts (stepD ts st))
     else ((g .rE (stepD ts st)).1, mustD ts ⟨#[41]⟩ (g .rE (stepD ts st)).2))
  else if isD ts ⟨#[40]⟩ (nameD ts st).2 then callD ts g (nameD ts st).1 (stepD ts (nameD ts st).2)
  else (namedR 4 (nameD ts st).1.2.1 [] (nameD ts st).1.2.2, (nameD ts st).2)
def unaryD (st : PS) : Ex × PS :=
  if isD ts ⟨#[45]⟩ st then (madeR 7 [(g .rU (stepD ts st)).1] (tD ts st).2.2, (g .rU (stepD ts st)).2)
  else if isD ts ⟨#[110, 111, 116]⟩ st then (madeR 8 [(g .rU (stepD ts st)).1] (tD ts st).2.2, (g .rU (stepD ts st)).2)
  else if isD ts ⟨#[33]⟩ st then (namedR 5 (nameD ts (stepD ts st)).1.2.1 [] (tD ts st).2.2, (nameD ts (stepD ts st)).2)
  else if isD ts ⟨#[111, 108, 100]⟩ st then (namedR 6 (nameD ts (stepD ts st)).1.2.1 [] (tD ts st).2.2, (nameD ts (stepD ts st)).2)
  else primD ts g st
/-- The first of the signs that stands there, with its operator. -/
def signD : List (ByteArray × Int) → PS → Option Int
  | [], _ => none
  | (s, o) :: l, st => if isD ts s st then some o else signD l st
def chD (O : PS → Ex × PS) (signs : List (ByteArray × Int)) (once : Bool) : Nat → Ex → PS → Ex × PS
  | 0, a, st => (a, st)
  | n + 1, a, st => match signD ts signs st with
    | none => (a, st)
    | some o => if once then (madeR o [a, (O (stepD ts st)).1] (tD ts st).2.2, (O (stepD ts st)).2) else chD O signs once n (madeR o [a, (O (stepD ts st)).1] (tD ts st).2.2) (O (stepD ts st)).2
def levD (O : PS → Ex × PS) (signs : List (ByteArray × Int)) (once : Bool) (st : PS) : Ex × PS := chD ts O signs once ts.length (O st).1 (O st).2
def sgD : Nat → List (ByteArray × Int)
  | 0 => [(⟨#[124, 124]⟩, 19)]
  | 1 => [(⟨#[38, 38]⟩, 18)]
  | 2 => [(⟨#[61]⟩, 12), (⟨#[60, 62]⟩, 13), (⟨#[60]⟩, 14), (⟨#[60, 61]⟩, 15), (⟨#[62]⟩, 16), (⟨#[62, 61]⟩, 17)]
  | 3 => [(⟨#[43]⟩, 10), (⟨#[45]⟩, 11)]
  | _ => [(⟨#[42]⟩, 9)]
/-- So many levels below unary: 0 is unary. -/
def leftD : Nat → PS → Ex × PS
  | 0, st => unaryD ts g st
  | k + 1, st => levD ts (leftD k) (sgD (4 - k)) (decide (k = 2)) st
def impD (st : PS) : Ex × PS :=
  if isD ts ⟨#[61, 61, 62]⟩ (leftD ts g 5 st).2 then (madeR 20 [(leftD ts g 5 st).1, (g .rI (stepD ts (leftD ts g 5 st).2)).1] (tD ts (leftD ts g 5 st).2).2.2, (g .rI (stepD ts (leftD ts g 5 st).2)).2)
  else leftD ts g 5 st
def partD (st : PS) : Ex × PS :=
  if st.e = 0 ∧ (tD ts st).1 = 1 ∧ (nx ts (st.i + 1)).1 = 4 ∧ (nx ts (st.i + 1)).2.1 = ⟨#[58, 61]⟩ then
    (namedR 25 (tD ts st).2.1 [(impD ts g (stepD ts (stepD ts st))).1] (tD ts st).2.2, (impD ts g (stepD ts (stepD ts st))).2)
  else if isD ts ⟨#[114, 97, 105, 115, 101]⟩ st then (madeR 26 [(impD ts g (stepD ts st)).1] (tD ts st).2.2, (impD ts g (stepD ts st)).2)
  else if isD ts ⟨#[97, 115, 115, 101, 114, 116]⟩ st then (madeR 28 [(impD ts g (stepD ts st)).1] (tD ts st).2.2, (impD ts g (stepD ts st)).2)
  else impD ts g st
def ifD (at' : Int) (st : PS) : Ex × PS :=
  let a := g .rE st
  let b := g .rE (mustD ts ⟨#[116, 104, 101, 110]⟩ a.2)
  let c := g .rE (mustD ts ⟨#[101, 108, 115, 101]⟩ b.2)
  (madeR 22 [a.1, b.1, c.1] at', c.2)
def letD (at' : Int) (st : PS) : Ex × PS :=
  let n := nameD ts st
  let a := g .rE (mustD ts ⟨#[61]⟩ n.2)
  let b := g .rE (mustD ts ⟨#[105, 110]⟩ a.2)
  (namedR 23 n.1.2.1 [a.1, b.1] at', b.2)
def tryD (at' : Int) (st : PS) : Ex × PS :=
  let a := g .rE st
  let n := nameD ts (mustD ts ⟨#[119, 105, 116, 104]⟩ a.2)
  let b := g .rE (mustD ts ⟨#[45, 62]⟩ n.2)
  (namedR 27 n.1.2.1 [a.1, b.1] at', b.2)
def innerD (st : PS) : Ex × PS :=
  if isD ts ⟨#[105, 102]⟩ st then ifD ts g (tD ts st).2.2 (stepD ts st)
  else if isD ts ⟨#[108, 101, 116]⟩ st then letD ts g (tD ts st).2.2 (stepD ts st)
  else if isD ts ⟨#[116, 114, 121]⟩ st then tryD ts g (tD ts st).2.2 (stepD ts st)
  else
    let a := partD ts g st
    if isD ts ⟨#[59]⟩ a.2 then (madeR 24 [a.1, (g .rE (stepD ts a.2)).1] (tD ts a.2).2.2, (g .rE (stepD ts a.2)).2) else a
def ruleD (u : Nat) (st : PS) : Ex × PS := match u with
  | 0 => innerD ts g st
  | 1 => impD ts g st
  | _ => unaryD ts g st
end
/-- A rule that is one deeper, where so many more may be. -/
def gD (ts : List (Int × ByteArray × Int)) : Nat → Ru → PS → Ex × PS
  | 0, _, st => (zEx, st.fail (tD ts st).2.2 151)
  | f + 1, u, st => if st.e = 0 then ruleD ts (gD ts f) u st else (zEx, st)
section
variable (ts : List (Int × ByteArray × Int))
/-- An expression of a declaration. -/
def exD (st : PS) : Ex × PS := gD ts 200 .rE st
def typD (st : PS) : Ty × PS :=
  let i := (tD ts st).2.2
  if isD ts ⟨#[105, 110, 116]⟩ st then (.mk 1 ⟨#[]⟩ [] i, stepD ts st)
  else if isD ts ⟨#[98, 111, 111, 108]⟩ st then (.mk 2 ⟨#[]⟩ [] i, stepD ts st)
  else if isD ts ⟨#[117, 110, 105, 116]⟩ st then (.mk 3 ⟨#[]⟩ [] i, stepD ts st)
  else
    let n := nameD ts (mustD ts ⟨#[123]⟩ st)
    let x := exD ts (mustD ts ⟨#[124]⟩ (mustD ts ⟨#[105, 110, 116]⟩ (mustD ts ⟨#[58]⟩ n.2)))
    (.mk 1 n.1.2.1 [x.1] i, mustD ts ⟨#[125]⟩ x.2)
def paramD (st : PS) : Pm × PS :=
  let n := nameD ts (stepD ts st)
  let t := typD ts (mustD ts ⟨#[58]⟩ n.2)
  (.mk n.1.2.1 t.1 n.1.2.2, mustD ts ⟨#[41]⟩ t.2)
/-- Parameters, and whether they are too many. -/
def paramsD : Nat → List Pm → PS → List Pm × PS × Bool
  | 0, l, st => (l, st, false)
  | n + 1, l, st => if isD ts ⟨#[40]⟩ st then (if l.length = 8 then (l, st.fail (tD ts st).2.2 152, true) else paramsD n (l ++ [(paramD ts st).1]) (paramD ts st).2) else (l, st, false)
def effsD : List (ByteArray × Int) := [(⟨#[80, 117, 114, 101]⟩, 1), (⟨#[83, 116, 97, 116, 101]⟩, 2), (⟨#[69, 120, 110]⟩, 3), (⟨#[65, 108, 108]⟩, 4), (⟨#[68, 105, 118]⟩, 5)]
def effD' (st : PS) : Int × PS := match signD ts effsD st with
  | some o => (o, stepD ts st)
  | none => (0, st.fail (tD ts st).2.2 150)
def reqD (st : PS) : List Ex × PS := if isD ts ⟨#[114, 101, 113, 117, 105, 114, 101, 115]⟩ st then ([(exD ts (stepD ts st)).1], (exD ts (stepD ts st)).2) else ([], st)
def ensD (st : PS) : (ByteArray × List Ex) × PS :=
  if isD ts ⟨#[101, 110, 115, 117, 114, 101, 115]⟩ st then
    let n := nameD ts (stepD ts st)
    let x := exD ts (mustD ts ⟨#[46]⟩ n.2)
    ((n.1.2.1, [x.1]), x.2)
  else ((⟨#[]⟩, []), st)
def meaL : Nat → List Ex → PS → List Ex × PS
  | 0, l, st => (l, st)
  | n + 1, l, st => if isD ts ⟨#[44]⟩ st then meaL n (l ++ [(exD ts (stepD ts st)).1]) (exD ts (stepD ts st)).2 else (l, st)
def meaD (st : PS) : List Ex × PS := if isD ts ⟨#[100, 101, 99, 114, 101, 97, 115, 101, 115]⟩ st then meaL ts ts.length [(exD ts (stepD ts st)).1] (exD ts (stepD ts st)).2 else ([], st)
def cellD (st : PS) : De × PS :=
  let n := nameD ts st
  let s1 := mustD ts ⟨#[58, 61]⟩ n.2
  let s2 := eatD ts ⟨#[45]⟩ s1
  let t := tD ts s2
  let s3 := stepD ts (if t.1 = 3 then s2 else s2.fail t.2.2 150)
  (.mk true n.1.2.1 (cellN (isD ts ⟨#[45]⟩ s1) t.2.1) false [] 0 zTy [] ⟨#[]⟩ [] [] zEx n.1.2.2, mustD ts ⟨#[59, 59]⟩ s3)
def defD (st : PS) : De × PS :=
  let again := isD ts ⟨#[114, 101, 99]⟩ st
  let n := nameD ts (eatD ts ⟨#[114, 101, 99]⟩ st)
  let ps := paramsD ts ts.length [] n.2
  if ps.2.2 then (.mk false n.1.2.1 ⟨#[]⟩ again ps.1 0 zTy [] ⟨#[]⟩ [] [] zEx n.1.2.2, ps.2.1)
  else
    let e := effD' ts (mustD ts ⟨#[58]⟩ ps.2.1)
    let t := typD ts e.2
    let a := reqD ts t.2
    let b := ensD ts a.2
    let c := meaD ts b.2
    let x := exD ts (mustD ts ⟨#[105, 115]⟩ c.2)
    (.mk false n.1.2.1 ⟨#[]⟩ again ps.1 e.1 t.1 a.1 b.1.1 b.1.2 c.1 x.1 n.1.2.2, mustD ts ⟨#[59, 59]⟩ x.2)
def declD (st : PS) : De × PS := if isD ts ⟨#[114, 101, 102]⟩ st then cellD ts (stepD ts st) else defD ts (mustD ts ⟨#[108, 101, 116]⟩ st)
def progLD : Nat → List De → PS → List De × PS
  | 0, l, st => (l, st)
  | n + 1, l, st =>
    if st.e = 0 ∧ (tD ts st).1 ≠ 0 then
      (if (isD ts ⟨#[114, 101, 102]⟩ st || isD ts ⟨#[108, 101, 116]⟩ st) ∧ l.length = 100 then (l, st.fail (tD ts st).2.2 152) else progLD n (l ++ [(declD ts st).1]) (declD ts st).2)
    else (l, st)
def progD : Except (Int × Int) (List De) :=
  let x := progLD ts (ts.length + 1) [] ⟨0, 0, 0⟩
  if x.2.e = 0 then .ok x.1 else .error (x.2.a, x.2.e)
end
end Go.Proofs.YtljhpbjngbbjbaaDoor

namespace Go.Proofs.YtljhpbjngbbjbaaDoor
open Go Go.RowKit
/-- The document's parser: its tokens, its state, its depth. -/
structure PD (w : World) (r : Nat) (ts : List (Int × ByteArray × Int)) (st : PS) (d : Nat) : Prop where
  cells : ∃ g c, w.heap[r]? = some (.cells #[.slice (some ⟨g, 0, none⟩) ts.length c, .int .i64 st.i, .int .i64 st.e, .int .i64 st.a, .int .i64 d] 85) ∧ g < r ∧ ts.length ≤ c ∧ ∀ j x, ts[j]? = some x → w.rangeAt g (j * 3) [.int .i64 x.1, .string x.2.1, .int .i64 x.2.2]
  lt : st.i < ts.length
theorem PD.keep {w w' : World} {r d : Nat} {st : PS} {ts : List (Int × ByteArray × Int)} (h : PD w r ts st d) (hb : Below w.heap.size w w') : PD w' r ts st d := by
  obtain ⟨⟨g, c, h1, h2, h3, h4⟩, h5⟩ := h
  have hr := (Array.getElem?_eq_some_iff.1 h1).1
  exact ⟨⟨g, c, (hb.block r hr).trans h1, h2, h3, fun j x hx => range_same (h4 j x hx) (hb.block g (by omega))⟩, h5⟩
theorem PD.rlt {w : World} {r d : Nat} {st : PS} {ts : List (Int × ByteArray × Int)} (h : PD w r ts st d) : r < w.heap.size := by
  obtain ⟨⟨g, c, h1, -⟩, -⟩ := h
  exact (blk h1).1
theorem PD.set {w w' : World} {r d e : Nat} {st s2 : PS} {ts : List (Int × ByteArray × Int)} (h : PD w r ts st d) (hb : But r w w') (hq : s2.i < ts.length) (hc : ∀ g c, w.heap[r]? = some (.cells #[.slice (some ⟨g, 0, none⟩) ts.length c, .int .i64 st.i, .int .i64 st.e, .int .i64 st.a, .int .i64 d] 85) → w'.heap[r]? = some (.cells #[.slice (some ⟨g, 0, none⟩) ts.length c, .int .i64 s2.i, .int .i64 s2.e, .int .i64 s2.a, .int .i64 e] 85)) : PD w' r ts s2 e := by
  obtain ⟨⟨g, c, h1, h2, h3, h4⟩, h5⟩ := h
  have hr := (Array.getElem?_eq_some_iff.1 h1).1
  exact ⟨⟨g, c, hc g c h1, h2, h3, fun j x hx => range_same (h4 j x hx) (hb.block g (by omega) (by omega))⟩, hq⟩
theorem PD.facts {w w' : World} {r d : Nat} {st : PS} {ts : List (Int × ByteArray × Int)} (h : PD w r ts st d) (hb : Below w.heap.size w w') : ∃ g c, w'.cell? ⟨r, 0, none⟩ = some (.slice (some ⟨g, 0, none⟩) ts.length c) ∧ w'.cell? ⟨r, 1, none⟩ = some (.int .i64 st.i) ∧ w'.cell? ⟨r, 2, none⟩ = some (.int .i64 st.e) ∧ w'.cell? ⟨r, 3, none⟩ = some (.int .i64 st.a) ∧ w'.cell? ⟨r, 4, none⟩ = some (.int .i64 d) ∧ ts.length ≤ c ∧ r < w'.heap.size ∧ (∀ o, w'.frozen? ⟨r, o, none⟩ = false) ∧ ∀ j x, ts[j]? = some x → w'.cell? ⟨g, j * 3, none⟩ = some (.int .i64 x.1) ∧ w'.cell? ⟨g, j * 3 + 1, none⟩ = some (.string x.2.1) ∧ w'.cell? ⟨g, j * 3 + 2, none⟩ = some (.int .i64 x.2.2) := by
  obtain ⟨⟨g, c, h1, h2, h3, h4⟩, h5⟩ := h.keep hb
  exact ⟨g, c, (blk h1).2.1 0 _ rfl, (blk h1).2.1 1 _ rfl, (blk h1).2.1 2 _ rfl, (blk h1).2.1 3 _ rfl, (blk h1).2.1 4 _ rfl, h3, (blk h1).1, (blk h1).2.2, fun j x hx => ⟨h4 j x hx 0 _ rfl, h4 j x hx 1 _ rfl, h4 j x hx 2 _ rfl⟩⟩
/-- What a function of the document's parser answers. -/
def DP {α : Type} (Φ : World → Value → α → Prop) (x : α × PS) (r : Nat) (ts : List (Int × ByteArray × Int)) (d : Nat) (w : World) (e : Ending) (w' : World) : Prop := But r w w' ∧ PD w' r ts x.2 d ∧ ∃ v, e = .returned v ∧ Φ w' v x.1
set_option maxRecDepth 100000 in
set_option maxHeartbeats 4000000 in
theorem dt_any {w : World} {r d : Nat} {st : PS} {ts : List (Int × ByteArray × Int)} (hR : PD w r ts st d) (hT : TsOk ts) : Calls Tryd.prog 33 #[.pointer (some ⟨r, 0, none⟩)] w (VP (tkV (tD ts st)) w) := by
  obtain ⟨A, eA, hbA, hsA, hhA⟩ := box_new w #[.int .i64 0, .string ⟨#[]⟩, .int .i64 0] 87
  obtain ⟨g, c, x0, x1, x2, x3, x4, hc, hr, hf, ht⟩ := hR.facts hbA
  obtain ⟨t0, t1, t2⟩ := ht st.i _ (nx_of hR.lt)
  have hp := hR.lt
  have hl := hT.len
  obtain ⟨i, er, ea⟩ := st
  have g1 : (i : Int) < (ts.length : Int) := by have : i < ts.length := hp; omega
  have g2 : (ts.length : Int) ≤ 100000 := by omega
  have g3 : (0 : Int) ≤ (i : Int) := by omega
  have y0 : A.cell? ⟨w.heap.size, 0, none⟩ = some (.int .i64 0) := (blk hhA).2.1 0 _ rfl
  have y1 : A.cell? ⟨w.heap.size, 1, none⟩ = some (.string ⟨#[]⟩) := (blk hhA).2.1 1 _ rfl
  have y2 : A.cell? ⟨w.heap.size, 2, none⟩ = some (.int .i64 0) := (blk hhA).2.1 2 _ rfl
  have z0 := (blk hhA).2.2 0
  have z1 := (blk hhA).2.2 1
  have z2 := (blk hhA).2.2 2
  have HB := hide (And.intro hbA hhA)
  have HE := hide eA
  rw [← eA] at x0 x1 x2 x3 x4 t0 t1 t2 y0 y1 y2 z0 z1 z2 hr
  unfold tkV VP
  obtain ⟨Y, hY⟩ : ∃ Y, tD ts ⟨i, er, ea⟩ = Y := ⟨_, rfl⟩
  obtain ⟨X, hX⟩ : ∃ X, nx ts i = X := ⟨_, rfl⟩
  obtain ⟨L, hL⟩ : ∃ L, ts.length = L := ⟨_, rfl⟩
  unfold tD at hY
  simp only at t0 t1 t2 x1 x2 hY
  rw [hX] at t0 t1 t2 hY
  rw [hL] at x0 g1 g2
  rw [show tD ts ⟨i, er, ea⟩ = Y by unfold tD; simp only; rw [hX]; exact hY]
  have HY := hide hY
  clear hR hT eA hbA hsA hhA hX hL ht hc hp hl hf hY
  by_cases he : er = 0
  · subst he
    go_enter Tryd.func33, Tryd.ntmps33
    go_wp2_with fail
    go_region
    go_wp2
    obtain ⟨B, eB, hbB, hsB, hhB⟩ := box_new w #[.int .i64 X.1, .string X.2.1, .int .i64 X.2.2] 87
    rw [eB]
    have hY := unhide HY
    obtain rfl : X = Y := by rw [← hY]; rfl
    refine bodyPost_ret (res_row (cs := [.int .i64 X.1, .string X.2.1, .int .i64 X.2.2]) rfl rfl (range_block (by rw [heap_drew]; exact hhB)) rfl rfl rfl) rfl ?_
    exact ⟨rfl, hbB.drew⟩
  · have e1 : (er == 0) = false := by simpa using he
    have e2 : decide (er = 0) = false := by simpa using he
    go_enter Tryd.func33, Tryd.ntmps33
    go_wp2
    rw [unhide HE]
    obtain ⟨hbA, hhA⟩ := unhide HB
    have hY := unhide HY
    rw [if_neg he] at hY
    subst hY
    refine bodyPost_ret (res_row (cs := [.int .i64 0, .string ⟨#[]⟩, .int .i64 0]) rfl rfl (range_block hhA) rfl rfl rfl) rfl ?_
    exact ⟨rfl, hbA⟩
end Go.Proofs.YtljhpbjngbbjbaaDoor
