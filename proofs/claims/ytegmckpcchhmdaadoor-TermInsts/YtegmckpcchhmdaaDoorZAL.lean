/- A list of terms that is being made. -/
import Derived.Test.YtegmckpcchhmdaaDoorZAK
import Derived.Deep.RegionWith
import Derived.Lib.SliceRun
import Derived.Lib.Walk
set_option linter.unusedVariables false
set_option linter.unusedSimpArgs false

/- What a filled term weighs. -/
namespace Go.Proofs.YtegmckpcchhmdaaDoor
open Go Go.RowKit
/-- How often names are hidden within a node. -/
def within (op : Int) (vars : List (ByteArray × Int)) (hid : ByteArray → Int) : ByteArray → Int := if op = 19 then hidV 1 vars hid else hid
def Tm.isz (sub : ByteArray → Option Tm) : Tm → (ByteArray → Int) → Nat
  | ⟨op, name, _, _, l, vars, _⟩, hid => match rep sub hid op name with
    | some u => u.size
    | none => 1 + (l.map fun u => Tm.isz sub u (within op vars hid)).sum
def Tm.idp (sub : ByteArray → Option Tm) : Tm → (ByteArray → Int) → Nat
  | ⟨op, name, _, _, l, vars, _⟩, hid => match rep sub hid op name with
    | some u => u.depth
    | none => maxOf (l.map fun u => Tm.idp sub u (within op vars hid)) + 1
def iszL (sub : ByteArray → Option Tm) (l : List Tm) (hid : ByteArray → Int) : Nat := (l.map fun u => u.isz sub hid).sum
def idpL (sub : ByteArray → Option Tm) (l : List Tm) (hid : ByteArray → Int) : Nat := maxOf (l.map fun u => u.idp sub hid)
theorem isz_some {sub : ByteArray → Option Tm} {t u : Tm} {hid : ByteArray → Int} (h : rep sub hid t.op t.name = some u) : t.isz sub hid = u.size ∧ t.idp sub hid = u.depth := by
  cases t
  rw [Tm.isz, Tm.idp]
  simp only at h
  rw [h]
  exact ⟨rfl, rfl⟩
theorem isz_none {sub : ByteArray → Option Tm} {t : Tm} {hid : ByteArray → Int} (h : rep sub hid t.op t.name = none) : t.isz sub hid = 1 + iszL sub t.l (within t.op t.vars hid) ∧ t.idp sub hid = idpL sub t.l (within t.op t.vars hid) + 1 := by
  cases t
  rw [Tm.isz, Tm.idp]
  simp only at h
  rw [h]
  exact ⟨rfl, rfl⟩
theorem iszL_more {sub : ByteArray → Option Tm} {l : List Tm} {hid : ByteArray → Int} {i : Nat} (h : i < l.length) : iszL sub (l.take (i + 1)) hid = iszL sub (l.take i) hid + l[i].isz sub hid ∧ idpL sub (l.take (i + 1)) hid = max (idpL sub (l.take i) hid) (l[i].idp sub hid) := by
  refine ⟨?_, ?_⟩
  · unfold iszL
    rw [take_more h, List.map_append, List.sum_append]
    simp
  · unfold idpL maxOf
    rw [take_more h, List.map_append, List.foldl_append]
    rfl
theorem iszL_take (sub : ByteArray → Option Tm) (l : List Tm) (hid : ByteArray → Int) (i : Nat) : iszL sub (l.take i) hid ≤ iszL sub l hid := by
  unfold iszL
  rw [List.map_take]
  exact sum_take_le _ i
/-- What the weigher then holds: the figures, or a size that is too great. -/
def WR (s0 d0 L T D s1 d1 : Nat) : Prop := d1 ≤ 2000000 ∧ ((s0 + T ≤ 50000 ∧ s1 = s0 + T ∧ d1 = max d0 (L + D - 1)) ∨ (50000 < s0 + T ∧ 50000 < s1 ∧ s1 ≤ 200000))
def WV (sv : Value) (s d : Nat) : Obj := .cells #[sv, .int .i64 s, .int .i64 d] 88
def WPo (B r dl : Nat) (sv : Value) (sub : ByteArray → Option Tm) (hid : ByteArray → Int) (s0 d0 L T D : Nat) (w : World) (e : Ending) (w' : World) : Prop := e = .returned (.tuple #[]) ∧ ∃ s1 d1, w'.heap[r]? = some (WV sv s1 d1) ∧ WR s0 d0 L T D s1 d1 ∧ SLv w' B sv dl sub hid ∧ XF B r w w'
def SubOk (sub : ByteArray → Option Tm) : Prop := ∀ k u, sub k = some u → u.size ≤ 65536 ∧ u.depth ≤ 65537
def WTermC (sub : ByteArray → Option Tm) (dl : Nat) (sv : Value) (d : Nat) : Prop := ∀ (B r : Nat) (w : World) (b o : Nat) (t : Tm) (hid : ByteArray → Int) (s0 d0 L : Nat), TmAt w B d b o t → SLv w B sv dl sub hid → w.heap[r]? = some (WV sv s0 d0) → B ≤ r → s0 ≤ 50000 → d0 ≤ 2000000 → 1 ≤ L → L + d ≤ 1000000 → (∀ k, 0 ≤ hid k ∧ hid k + t.wt ≤ 400000) →
    Calls Tryd.prog 35 #[.pointer (some ⟨r, 0, none⟩), .pointer (some ⟨b, o, none⟩), .int .i64 L] w (WPo B r dl sv sub hid s0 d0 L (t.isz sub hid) (t.idp sub hid) w)
theorem rep_sub {sub : ByteArray → Option Tm} {hid : ByteArray → Int} {op : Int} {name : ByteArray} {u : Tm} (h : rep sub hid op name = some u) : sub name = some u := by
  unfold rep at h
  split at h
  · split at h
    · split at h
      · rename_i e _
        rw [e]; exact h
      · cases h
    · cases h
  · cases h
theorem XF.set {B r o : Nat} {w w4 : World} {v : Value} (h : XF B r w w4) (hB : B ≤ r) : XF B r w (w4.setCell ⟨r, o, none⟩ v) := by
  refine ⟨h.os, h.tape, h.output, by simpa using h.size, fun k hk hj => ?_⟩
  rw [Below.heap_setCell w4 ⟨r, o, none⟩ v k (by show k ≠ r; omega)]
  exact h.block k hk hj
theorem SLv.set {B r o dl : Nat} {w : World} {sv v : Value} {sub : ByteArray → Option Tm} {hid : ByteArray → Int} {cs : Array Value} {ty : TypeId} (h : SLv w B sv dl sub hid) (hB : B ≤ r) (hr : w.heap[r]? = some (.cells cs ty)) (ht : ty ≠ 94) : SLv (w.setCell ⟨r, o, none⟩ v) B sv dl sub hid := by
  have hbel : Below B w (w.setCell ⟨r, o, none⟩ v) := (Below.refl B w).setCell (p := ⟨r, o, none⟩) hB _
  refine h.imp id ?_
  rintro ⟨rs, e, hBr, es, h1, h2, h3⟩
  refine ⟨rs, e, hBr, es, h1.same (Below.heap_setCell w ⟨r, o, none⟩ v rs (fun e' => ?_)), fun k => (h2 k).imp id ?_, h3⟩
  · obtain ⟨a, c, k1, _⟩ := h1
    have e2 : rs = r := e'
    rw [e2, hr] at k1
    cases k1
  · rintro ⟨u, q, bt, ot, e1, e2, e3, e4, e5⟩
    refine ⟨u, q, bt, ot, e1, e2, e3, ?_, e5.more hbel (Nat.le_refl _) (Nat.le_refl _)⟩
    rw [Below.heap_setCell w ⟨r, o, none⟩ v q (fun e' => ?_)]
    · exact e4
    · have e2 : q = r := e'
      rw [e2, hr] at e4
      injection e4 with e4
      injection e4 with _ e4
      exact ht e4
set_option maxRecDepth 1000000 in
set_option maxHeartbeats 16000000 in
theorem wterm_some {sub : ByteArray → Option Tm} {dl d : Nat} {sv : Value} (hSub : SubOk sub) {B r : Nat} {w : World} {b o : Nat} {t u : Tm} {hid : ByteArray → Int} {s0 d0 L : Nat} (hT : TmAt w B (d + 1) b o t) (hS : SLv w B sv dl sub hid) (hW : w.heap[r]? = some (WV sv s0 d0)) (hBr : B ≤ r) (hs0 : s0 ≤ 50000) (hd0 : d0 ≤ 2000000) (hL1 : 1 ≤ L) (hL : L + d ≤ 1000000) (hr : rep sub hid t.op t.name = some u) :
    Calls Tryd.prog 35 #[.pointer (some ⟨r, 0, none⟩), .pointer (some ⟨b, o, none⟩), .int .i64 L] w (WPo B r dl sv sub hid s0 d0 L (t.isz sub hid) (t.idp sub hid) w) := by
  obtain ⟨ez, ed⟩ := isz_some hr
  rw [ez, ed]
  obtain ⟨hz, hdp⟩ := hSub _ _ (rep_sub hr)
  have hrw := (Array.getElem?_eq_some_iff.1 hW).1
  have hBw : B ≤ w.heap.size := by omega
  obtain ⟨hb, _, _, aL, aV, aP, cL, cV, cP, hrg, hRL, hV, hP, _⟩ := hT
  have hbw : b < w.heap.size := by omega
  have c0 : w.cell? ⟨b, o, none⟩ = some (.int .i64 t.op) := hrg 0 _ rfl
  have r0 : w.cell? ⟨r, 0, none⟩ = some sv := (blk hW).2.1 0 _ rfl
  have HG := hide hrg
  have HI := hide (And.intro hS hW)
  have HR := hide hr
  clear hrg hRL hV hP hS hW hr ez ed
  go_enter Tryd.func35, Tryd.ntmps35
  go_wp2_with fail
  refine (view_any b o t.op w c0 hbw).mono ?_
  rintro e w1 ⟨rfl, hb1⟩
  have r01 : w1.cell? ⟨r, 0, none⟩ = some sv := (hb1.cell (p := ⟨r, 0, none⟩) hrw).trans r0
  have HB1 := hide hb1
  clear hb1 c0 r0
  go_wp2_with fail
  refine (of_any ((unhide HI).1.below (unhide HB1) (Nat.le_refl _)) (by have := (unhide HB1).size; omega) (by have := (unhide HB1).size; omega) (((unhide HB1).cell (p := ⟨b, o + 1, none⟩) hbw).trans ((unhide HG) 1 _ rfl))).mono ?_
  rintro e w2 ⟨hb2, h2⟩
  rw [unhide HR] at h2
  rcases h2 with ⟨h, _⟩ | ⟨u', q, bt, ot, hu, rfl, hq, _⟩
  · cases h
  injection hu with hu
  subst hu
  have hb02 : Below w.heap.size w w2 := (unhide HB1).trans (hb2.mono (unhide HB1).size)
  have hW2 := (hb02.block r hrw).trans (unhide HI).2
  have x0 : w2.cell? ⟨r, 0, none⟩ = some sv := (blk hW2).2.1 0 _ rfl
  have x1 : w2.cell? ⟨r, 1, none⟩ = some (.int .i64 (s0 : Int)) := (blk hW2).2.1 1 _ rfl
  have x2 : w2.cell? ⟨r, 2, none⟩ = some (.int .i64 (d0 : Int)) := (blk hW2).2.1 2 _ rfl
  have xf1 := (blk hW2).2.2 1
  have xf2 := (blk hW2).2.2 2
  have q1 : w2.cell? ⟨q, 1, none⟩ = some (.int .i64 (u.size : Int)) := (blk hq).2.1 1 _ rfl
  have q2 : w2.cell? ⟨q, 2, none⟩ = some (.int .i64 (u.depth : Int)) := (blk hq).2.1 2 _ rfl
  have hqr : q ≠ r := fun e => by
    rw [e, hW2] at hq
    injection hq with hq
    injection hq with _ hq
    revert hq
    decide
  have HB2 := hide (And.intro hb02 hW2)
  clear hb2 hb02 hW2 r01 HB1 hq
  generalize u.size = us at *
  generalize u.depth = ud at *
  go_wp2
  go_region_with ((go_at_call 48; refine (capped_eq s0 us _ (by omega)).mono ?_; rintro e v1 ⟨rfl, rfl⟩))
  all_goals
    obtain ⟨V, eV⟩ : ∃ V, (w2.setCell ⟨r, 1, none⟩ (.int .i64 ((s0 : Int) + (us : Int)))).drew = V := ⟨_, rfl⟩
    rw [eV]
    have hXV : XF B r w V := by
      rw [← eV]
      exact ((XF.of (unhide HB2).1 (Nat.le_refl _)).set hBr).trans (XF.of (keep0 _) (Nat.le_refl _))
    have hWV : V.heap[r]? = some (WV sv (s0 + us) d0) := by
      rw [← eV]
      show (w2.setCell ⟨r, 1, none⟩ (.int .i64 ((s0 : Int) + (us : Int)))).heap[r]? = _
      rw [set_block (unhide HB2).2]
      rfl
    have hSV : SLv V B sv dl sub hid := by
      rw [← eV]
      exact (((unhide HI).1.below (unhide HB2).1 (Nat.le_refl _)).set hBr (unhide HB2).2 (by decide)).below (keep0 _) (Nat.le_refl _)
    have y2 : V.cell? ⟨r, 2, none⟩ = some (.int .i64 (d0 : Int)) := (blk hWV).2.1 2 _ rfl
    have yf2 := (blk hWV).2.2 2
    have z2 : V.cell? ⟨q, 2, none⟩ = some (.int .i64 (ud : Int)) := by
      rw [← eV]
      exact (World.cell?_of_block (w := w2) (a := ⟨q, 2, none⟩) (Below.heap_setCell w2 ⟨r, 1, none⟩ _ q hqr)).trans q2
    have HV := hide (And.intro hXV (And.intro hWV hSV))
    clear x0 x1 x2 xf1 xf2 q1 q2 eV hXV hWV hSV HB2
    go_wp2
    go_region
    all_goals
      go_wp2
      first | go_end0 | go_ret
      obtain ⟨hXV, hWV, hSV⟩ := unhide HV
      have em : max (d0 : Int) ((L : Int) - 1 + (ud : Int)) = ((max d0 (L - 1 + ud) : Nat) : Int) := by omega
      rw [em]
      refine ⟨rfl, s0 + us, max d0 (L - 1 + ud), ?_, ⟨by omega, ?_⟩, (hSV.set hBr hWV (by decide)).below (keep0 _) (Nat.le_refl _), (hXV.set hBr).trans (XF.of (keep0 _) (Nat.le_refl _))⟩
      · show (V.setCell ⟨r, 2, none⟩ _).heap[r]? = _
        rw [set_block hWV]
        rfl
      · by_cases h5 : s0 + us ≤ 50000
        · exact .inl ⟨h5, rfl, by omega⟩
        · exact .inr ⟨by omega, by omega, by omega⟩
end Go.Proofs.YtegmckpcchhmdaaDoor

/- What a filled term weighs: a node that stands. -/
namespace Go.Proofs.YtegmckpcchhmdaaDoor
open Go Go.RowKit
theorem WR.step {a d L T D s1 d1 T' D' s2 d2 : Nat} (h : WR a d L T D s1 d1) (hs : s1 ≤ 50000) (k : WR s1 d1 L T' D' s2 d2) : WR a d L (T + T') (max D D') s2 d2 := by
  obtain ⟨h0, ⟨h1, h2, h3⟩ | ⟨h1, h2, h3⟩⟩ := h
  · obtain ⟨k0, ⟨k1, k2, k3⟩ | ⟨k1, k2, k3⟩⟩ := k
    · exact ⟨k0, .inl ⟨by omega, by omega, by omega⟩⟩
    · exact ⟨k0, .inr ⟨by omega, by omega, by omega⟩⟩
  · omega
theorem WR.stop {a d L T D s1 d1 T' D' : Nat} (h : WR a d L T D s1 d1) (hs : 50000 < s1) (hT : T ≤ T') : WR a d L T' D' s1 d1 := by
  obtain ⟨h0, ⟨h1, h2, h3⟩ | ⟨h1, h2, h3⟩⟩ := h
  · omega
  · exact ⟨h0, .inr ⟨by omega, by omega, by omega⟩⟩
theorem WR.up {s0 d0 L T D s1 d1 : Nat} (h : WR (s0 + 1) (max d0 L) (L + 1) T D s1 d1) : WR s0 d0 L (1 + T) (D + 1) s1 d1 := by
  obtain ⟨h0, ⟨h1, h2, h3⟩ | ⟨h1, h2, h3⟩⟩ := h
  · exact ⟨h0, .inl ⟨by omega, by omega, by omega⟩⟩
  · exact ⟨h0, .inr ⟨by omega, by omega, by omega⟩⟩
/-- A TAll gone into, or left. -/
theorem hide_in {A w : World} {B r q dl cV sz dp : Nat} {aV : Option Addr} {sv : Value} {sub : ByteArray → Option Tm} {hid : ByteArray → Int} {x : List (ByteArray × Int)} {cs : Array Value} {s : Int} (hW : A.heap[r]? = some (WV sv sz dp)) (hS : SLv A B sv dl sub hid) (hX : XF B r w A) (hq : A.heap[q]? = some (.cells cs 82)) (hx : Row B aV x.length cV 2 (BR w x)) (hBw : B ≤ w.heap.size) (hs : s = 1 ∨ s = -1) (hh : ∀ k, -500000 ≤ hid k ∧ hid k ≤ 500000) (hl : x.length ≤ 400000) (W : World) (hb : Below A.heap.size A W) :
    Calls Tryd.prog 51 #[sv, .slice aV x.length cV, .int .i64 s] W fun e w' => e = .returned (.tuple #[]) ∧ w'.heap[r]? = some (WV sv sz dp) ∧ SLv w' B sv dl sub (hidV s x hid) ∧ XF B r w w' ∧ w'.heap[q]? = some (.cells cs 82) := by
  have hXW : XF B r w W := hX.trans (XF.of hb (Nat.le_refl _))
  have hbel := hXW.below hBw
  refine (hide_any (hS.below hb (Nat.le_refl _)) (hx.mono (Nat.le_refl _) fun b o j hb2 h u hu => ⟨rangeAt_below (h u hu).1 hb2 hbel, (h u hu).2⟩) rfl (by have := hXW.size; omega) hs hh hl).mono ?_
  rintro e w' ⟨rfl, h1, h2, _⟩
  have hqW := (hb.block q (Array.getElem?_eq_some_iff.1 hq).1).trans hq
  have hrW := (hb.block r (Array.getElem?_eq_some_iff.1 hW).1).trans hW
  exact ⟨rfl, (h2 (r + 1)).blk hrW (by omega) (by decide), h1, hXW.trans (h2 r), (h2 (q + 1)).blk hqW (by omega) (by decide)⟩
set_option maxRecDepth 1000000 in
set_option maxHeartbeats 16000000 in
theorem wterm_none {sub : ByteArray → Option Tm} {dl d : Nat} {sv : Value} (ih : WTermC sub dl sv d) {B r : Nat} {w : World} {b o : Nat} {t : Tm} {hid : ByteArray → Int} {s0 d0 L : Nat} (hT : TmAt w B (d + 1) b o t) (hS : SLv w B sv dl sub hid) (hW : w.heap[r]? = some (WV sv s0 d0)) (hBr : B ≤ r) (hs0 : s0 ≤ 50000) (hd0 : d0 ≤ 2000000) (hL1 : 1 ≤ L) (hL : L + (d + 1) ≤ 1000000) (hh : ∀ k, 0 ≤ hid k ∧ hid k + t.wt ≤ 400000) (hr : rep sub hid t.op t.name = none) :
    Calls Tryd.prog 35 #[.pointer (some ⟨r, 0, none⟩), .pointer (some ⟨b, o, none⟩), .int .i64 L] w (WPo B r dl sv sub hid s0 d0 L (t.isz sub hid) (t.idp sub hid) w) := by
  obtain ⟨ez, ed⟩ := isz_none hr
  rw [ez, ed]
  obtain ⟨hid', ehid⟩ : ∃ h, within t.op t.vars hid = h := ⟨_, rfl⟩
  rw [ehid]
  have HE := hide ehid
  have hrw := (Array.getElem?_eq_some_iff.1 hW).1
  have hBw : B ≤ w.heap.size := by omega
  obtain ⟨hb, _, _, aL, aV, aP, cL, cV, cP, hrg, hRL, hV, hP, _⟩ := hT
  have hbw : b < w.heap.size := by omega
  have c0 : w.cell? ⟨b, o, none⟩ = some (.int .i64 t.op) := hrg 0 _ rfl
  have r0 : w.cell? ⟨r, 0, none⟩ = some sv := (blk hW).2.1 0 _ rfl
  have hnm : t.l.length ≤ 281474976710656 := by have := hRL.1; have := hRL.2.1; omega
  have hvm : t.vars.length ≤ 281474976710656 := by have := hV.1; have := hV.2.1; omega
  obtain ⟨n, hn⟩ : ∃ n, t.l.length = n := ⟨_, rfl⟩
  obtain ⟨nv, hnv⟩ : ∃ n, t.vars.length = n := ⟨_, rfl⟩
  have HN := hide hn
  have HNV := hide hnv
  rw [hn] at hnm
  rw [hnv] at hvm
  have HG := hide hrg
  have HRow := hide hRL
  have HVar := hide hV
  have HI := hide (And.intro hS hW)
  have HR := hide hr
  have HIH := hide ih
  have hww : ∀ k, 0 ≤ hid k ∧ hid k + (t.vars.length + lwt t.l) ≤ 400000 := fun k => (hh k).imp id (fun h => by
    rw [t.wt_eq] at h
    unfold lwt
    omega)
  have HW := hide hww
  clear hrg hRL hV hP hS hW hr ez ed ehid hn hnv ih hh hww
  go_enter Tryd.func35, Tryd.ntmps35
  go_wp2_with fail
  refine (view_any b o t.op w c0 hbw).mono ?_
  rintro e w1 ⟨rfl, hb1⟩
  have r01 : w1.cell? ⟨r, 0, none⟩ = some sv := (hb1.cell (p := ⟨r, 0, none⟩) hrw).trans r0
  have HB1 := hide hb1
  clear hb1 c0 r0
  go_wp2_with fail
  refine (of_any ((unhide HI).1.below (unhide HB1) (Nat.le_refl _)) (by have := (unhide HB1).size; omega) (by have := (unhide HB1).size; omega) (((unhide HB1).cell (p := ⟨b, o + 1, none⟩) hbw).trans ((unhide HG) 1 _ rfl))).mono ?_
  rintro e w2 ⟨hb2, h2⟩
  rw [unhide HR] at h2
  have he : e = .returned (.pointer none) := by
    rcases h2 with ⟨_, h⟩ | ⟨_, _, _, _, h, _⟩
    · exact h
    · cases h
  subst he
  clear h2
  have hb02 : Below w.heap.size w w2 := (unhide HB1).trans (hb2.mono (unhide HB1).size)
  have hW2 := (hb02.block r hrw).trans (unhide HI).2
  have x1 : w2.cell? ⟨r, 1, none⟩ = some (.int .i64 (s0 : Int)) := (blk hW2).2.1 1 _ rfl
  have x2 : w2.cell? ⟨r, 2, none⟩ = some (.int .i64 (d0 : Int)) := (blk hW2).2.1 2 _ rfl
  have xf1 := (blk hW2).2.2 1
  have xf2 := (blk hW2).2.2 2
  have hrs : r < w2.heap.size := (blk hW2).1
  have hS2 := (unhide HI).1.below hb02 (Nat.le_refl _)
  have em : max (d0 : Int) (L : Int) = ((max d0 L : Nat) : Int) := by omega
  have HA : Hid (∀ cs : Array Value, ∃ A, (((w2.setCell ⟨r, 1, none⟩ (.int .i64 ((s0 : Int) + 1))).setCell ⟨r, 2, none⟩ (.int .i64 (max (d0 : Int) (L : Int)))).alloc (.cells cs 82)) = A ∧ A.heap[r]? = some (WV sv (s0 + 1) (max d0 L)) ∧ SLv A B sv dl sub hid ∧ XF B r w A ∧ A.heap[w2.heap.size]? = some (.cells cs 82)) := fun cs => by
    refine ⟨_, rfl, ?_⟩
    have k1 := set_block hW2 (o := 1) (.int .i64 ((s0 : Int) + 1))
    have k2 := set_block k1 (o := 2) (.int .i64 (max (d0 : Int) (L : Int)))
    have s1 := hS2.set (o := 1) (v := .int .i64 ((s0 : Int) + 1)) hBr hW2 (by decide)
    have s2 := s1.set (o := 2) (v := .int .i64 (max (d0 : Int) (L : Int))) hBr k1 (by decide)
    have hX := (((XF.of hb02 (Nat.le_refl _)).set (o := 1) (v := .int .i64 ((s0 : Int) + 1)) hBr).set (o := 2) (v := .int .i64 (max (d0 : Int) (L : Int))) hBr)
    have hal := fun W : World => (Below.refl W.heap.size W).alloc (Nat.le_refl _) (.cells cs 82)
    refine ⟨?_, s2.below (hal _) (Nat.le_refl _), hX.trans (XF.of (hal _) (Nat.le_refl _)), ?_⟩
    · rw [keep_alloc k2, em]
      rfl
    · have h := new_block ((w2.setCell ⟨r, 1, none⟩ (.int .i64 ((s0 : Int) + 1))).setCell ⟨r, 2, none⟩ (.int .i64 (max (d0 : Int) (L : Int)))) cs 82
      simpa using h
  have hqr : w2.heap.size ≠ r := by omega
  have HZ := hide em
  clear hb2 hb02 hW2 r01 HB1 hS2 em
  by_cases h19 : t.op = 19
  · have hkk : kindOf t.op = 82 := by rw [h19]; rfl
    rw [hkk]
    have ta0 := fun w => ta_yes (ty := 82) (v := .agg #[.pointer (some ⟨b, o, none⟩)]) (w := w) rfl rfl
    have ehid : hid' = hidV 1 t.vars hid := by rw [← unhide HE]; unfold within; rw [if_pos h19]
    have hcn : ∀ k, (cnt k t.vars : Int) ≤ t.vars.length := fun k => by have := cnt_le k t.vars; omega
    have HH : Hid (∀ k, 0 ≤ hid' k ∧ hid' k + lwt t.l ≤ 400000) := fun k => by
      have h1 := unhide HW k
      have h2 := hcn k
      rw [ehid]
      unfold hidV
      omega
    have hvl : t.vars.length ≤ 400000 := by have := unhide HW t.name; omega
    have HB0 : Hid (∀ k, -500000 ≤ hid k ∧ hid k ≤ 500000) := fun k => by have := unhide HW k; omega
    have HB1 : Hid (∀ k, -500000 ≤ hid' k ∧ hid' k ≤ 500000) := fun k => by have := unhide HH k; omega
    have HEB := hide (show hidV (-1) t.vars hid' = hid by rw [ehid]; exact hidV_back t.vars hid)
    have HEH := hide ehid
    clear hkk ehid hcn h19
    obtain ⟨A, eA, hA⟩ := unhide HA #[.pointer (some ⟨b, o, none⟩)]
    have HWA := hide hA
    clear hA
    go_wp2
    clear eA x1 x2 xf1 xf2 ta0
    have HC1 : Hid (∀ W', Below A.heap.size A W' → Calls Tryd.prog 51 #[sv, .slice aV nv cV, .int .i64 1] W' fun e w' => e = .returned (.tuple #[]) ∧ w'.heap[r]? = some (WV sv (s0 + 1) (max d0 L)) ∧ SLv w' B sv dl sub hid' ∧ XF B r w w' ∧ w'.heap[w2.heap.size]? = some (.cells #[.pointer (some ⟨b, o, none⟩)] 82)) := fun W' h => by
      obtain ⟨k1, k2, k3, k4⟩ := unhide HWA
      rw [unhide HEH, ← unhide HNV]
      exact hide_in k1 k2 k3 k4 (unhide HVar) hBw (.inl rfl) (unhide HB0) hvl W' h
    have HSC : Hid (∀ w', Below A.heap.size A w' → (w'.cell? ⟨r, 0, none⟩ = some sv ∧ w'.cell? ⟨w2.heap.size, 0, none⟩ = some (.pointer (some ⟨b, o, none⟩)) ∧ w'.cell? ⟨b, o + 5, none⟩ = some (.slice aV nv cV))) := fun w' h => by
      obtain ⟨k1, k2, k3, k4⟩ := unhide HWA
      have hrA := (h.block r (Array.getElem?_eq_some_iff.1 k1).1).trans k1
      have hqA := (h.block _ (Array.getElem?_eq_some_iff.1 k4).1).trans k4
      refine ⟨(blk hrA).2.1 0 _ rfl, (blk hqA).2.1 0 _ rfl, ?_⟩
      rw [← unhide HNV]
      exact (((k3.trans (XF.of h (Nat.le_refl _))).below hBw).cell (p := ⟨b, o + 5, none⟩) hb).trans ((unhide HG) 5 _ rfl)
    have HSD : Hid (∀ v1 : World, (∃ sz dp, v1.heap[r]? = some (WV sv sz dp)) → XF B r w v1 → v1.heap[w2.heap.size]? = some (.cells #[.pointer (some ⟨b, o, none⟩)] 82) → (v1.cell? ⟨r, 0, none⟩ = some sv ∧ v1.cell? ⟨w2.heap.size, 0, none⟩ = some (.pointer (some ⟨b, o, none⟩)) ∧ v1.cell? ⟨b, o + 5, none⟩ = some (.slice aV nv cV))) := fun v1 ⟨sz, dp, k1⟩ k3 k4 => by
      refine ⟨(blk k1).2.1 0 _ rfl, (blk k4).2.1 0 _ rfl, ?_⟩
      rw [← unhide HNV]
      exact ((k3.below hBw).cell (p := ⟨b, o + 5, none⟩) hb).trans ((unhide HG) 5 _ rfl)
    obtain ⟨m0, m1, m2⟩ := unhide HSC _ (Below.refl _ _)
    go_region_held3 (fun w' => w'.cell? ⟨r, 0, none⟩ = some sv ∧ w'.cell? ⟨w2.heap.size, 0, none⟩ = some (.pointer (some ⟨b, o, none⟩)) ∧ w'.cell? ⟨b, o + 5, none⟩ = some (.slice aV nv cV)) (first | assumption | exact (unhide HS9) | exact unhide HSC _ (keep0 _)) ((go_at_call 51; refine (unhide HC1 _ (keep0 _)).mono ?_; rintro e v1 ⟨rfl, h1⟩; have HS9 := hide (unhide HSD v1 ⟨_, _, h1.1⟩ h1.2.2.1 h1.2.2.2); have H1 := hide h1; clear h1))
    clear m0 m1 m2
    go_wp2
    have HW0 := H1
    obtain ⟨cs, ecs⟩ : ∃ cs : Array Value, cs = #[.pointer (some ⟨b, o, none⟩)] := ⟨_, rfl⟩
    have HCS := hide ecs
    rw [← ecs] at HW0
    clear ecs HSC HSD HS9 H1 HC1
    go_loopw [10] (fun iv wr => ∃ i si di : Nat, i ≤ n ∧ iv = .int .i64 (i : Int) ∧ wr.heap[r]? = some (WV sv si di) ∧ WR (s0 + 1) (max d0 L) (L + 1) (iszL sub (t.l.take i) hid') (idpL sub (t.l.take i) hid') si di ∧ SLv wr B sv dl sub hid' ∧ XF B r w wr ∧ wr.heap[w2.heap.size]? = some (.cells cs 82)) (fun iv _ => (n - (intOf iv).toNat))
    case atStart =>
      obtain ⟨h1, h2, h3, h4⟩ := unhide HW0
      refine ⟨0, s0 + 1, max d0 L, Nat.zero_le _, rfl, h1, ⟨by omega, ?_⟩, h2, h3, h4⟩
      by_cases h5 : s0 + 1 ≤ 50000
      · exact .inl ⟨by simp only [iszL, List.take_zero, List.map_nil, List.sum_nil]; omega, by simp only [iszL, List.take_zero, List.map_nil, List.sum_nil]; omega, by simp only [idpL, maxOf, List.take_zero, List.map_nil, List.foldl_nil]; omega⟩
      · exact .inr ⟨by omega, by omega, by omega⟩
    case round =>
      obtain ⟨i, si, di, hi, rfl, hWi, hRi, hSi, hXi, hqi⟩ := hrel
      have c4 : wr.cell? ⟨b, o + 4, none⟩ = some (.slice aL n cL) := by
        rw [← unhide HN]
        exact ((hXi.below hBw).cell (p := ⟨b, o + 4, none⟩) hb).trans ((unhide HG) 4 _ rfl)
      have s1 : wr.cell? ⟨r, 1, none⟩ = some (.int .i64 (si : Int)) := (blk hWi).2.1 1 _ rfl
      have hsi : si ≤ 200000 := by obtain ⟨_, h | h⟩ := hRi <;> omega
      have hdi : di ≤ 2000000 := hRi.1
      by_cases hlt : i < n
      · have h1 : i < t.l.length := by have := unhide HN; omega
        have hd1 : decide ((i : Int) < (n : Int)) = true := by simp; omega
        have hIi : (i : Int) < (n : Int) := by omega
        have hcap : (i : Int) < 281474976710656 := by omega
        by_cases hst : si ≤ 50000
        · have hd2 : decide ((si : Int) ≤ 50000) = true := by simp; omega
          obtain ⟨bl, ol, rfl, hblB, hj⟩ := (unhide HRow).2.2 (by have := unhide HN; omega)
          have hTi := hj i h1 _ (List.getElem?_eq_getElem h1)
          have hTr := hTi.more (hXi.below hBw) (Nat.le_refl _) (Nat.le_refl _)
          have hmore := iszL_more (sub := sub) (hid := hid') h1
          have hwi : ∀ k, 0 ≤ hid' k ∧ hid' k + t.l[i].wt ≤ 400000 := fun k => (unhide HH k).imp id (fun h => by
            have h3 : t.l[i].wt ≤ lwt t.l := by
              have := lwt_more h1
              have := lwt_take t.l (i + 1)
              omega
            omega)
          have HC := hide (unhide HIH B r wr bl (ol + i * 7) t.l[i] hid' si di (L + 1) hTr hSi hWi hBr hst hdi (by omega) (by omega) hwi)
          have HP := hide (And.intro hRi (And.intro hXi (And.intro hqi hmore)))
          clear hTi hTr hmore hwi hj hWi hRi hSi hXi hqi
          go_wp2_with fail
          rw [show ((L : Int) + 1) = ((L + 1 : Nat) : Int) by omega]
          refine (unhide HC).mono ?_
          rintro e w7 ⟨rfl, s7, d7, hW7, hR7, hS7, hX7⟩
          obtain ⟨hRi, hXi, hqi, hmore⟩ := unhide HP
          have hR8 := hRi.step hst hR7
          rw [← hmore.1, ← hmore.2] at hR8
          have H7 := hide (And.intro hW7 (And.intro hR8 (And.intro hS7 (And.intro (hXi.trans hX7) (hX7.blk hqi hqr (by decide))))))
          clear hW7 hR7 hS7 hX7 hRi hXi hqi hmore hR8 c4 s1
          go_wp2
          exact ⟨⟨i + 1, s7, d7, by omega, rfl, unhide H7⟩, by simp only [intOf]; omega⟩
        · have hd2 : decide ((si : Int) ≤ 50000) = false := by simp; omega
          have hfin : WR (s0 + 1) (max d0 L) (L + 1) (iszL sub t.l hid') (idpL sub t.l hid') si di := hRi.stop (by omega) (iszL_take _ _ _ _)
          have HF := hide (And.intro hWi (And.intro hfin (And.intro hSi (And.intro hXi hqi))))
          clear hWi hRi hSi hXi hqi hfin
          go_wp2
          obtain ⟨j1, j2, j3, j4, j5⟩ := unhide HF
          rw [unhide HCS] at j5
          have HWA := hide (And.intro j1 (And.intro j3 (And.intro j4 j5)))
          have HC2 : Hid (∀ W', Below wr.heap.size wr W' → Calls Tryd.prog 51 #[sv, .slice aV nv cV, .int .i64 (-1)] W' fun e w' => e = .returned (.tuple #[]) ∧ w'.heap[r]? = some (WV sv si di) ∧ SLv w' B sv dl sub hid ∧ XF B r w w' ∧ w'.heap[w2.heap.size]? = some (.cells #[.pointer (some ⟨b, o, none⟩)] 82)) := fun W' h => by
            obtain ⟨k1, k2, k3, k4⟩ := unhide HWA
            rw [← unhide HEB, ← unhide HNV]
            exact hide_in k1 k2 k3 k4 (unhide HVar) hBw (.inr rfl) (unhide HB1) hvl W' h
          have HJ := hide j2
          clear j1 j2 j3 j4 j5 c4 s1
          have HSC : Hid (∀ w', Below wr.heap.size wr w' → (w'.cell? ⟨r, 0, none⟩ = some sv ∧ w'.cell? ⟨w2.heap.size, 0, none⟩ = some (.pointer (some ⟨b, o, none⟩)) ∧ w'.cell? ⟨b, o + 5, none⟩ = some (.slice aV nv cV))) := fun w' h => by
            obtain ⟨k1, k2, k3, k4⟩ := unhide HWA
            have hrA := (h.block r (Array.getElem?_eq_some_iff.1 k1).1).trans k1
            have hqA := (h.block _ (Array.getElem?_eq_some_iff.1 k4).1).trans k4
            refine ⟨(blk hrA).2.1 0 _ rfl, (blk hqA).2.1 0 _ rfl, ?_⟩
            rw [← unhide HNV]
            exact (((k3.trans (XF.of h (Nat.le_refl _))).below hBw).cell (p := ⟨b, o + 5, none⟩) hb).trans ((unhide HG) 5 _ rfl)
          have HSD : Hid (∀ v1 : World, (∃ sz dp, v1.heap[r]? = some (WV sv sz dp)) → XF B r w v1 → v1.heap[w2.heap.size]? = some (.cells #[.pointer (some ⟨b, o, none⟩)] 82) → (v1.cell? ⟨r, 0, none⟩ = some sv ∧ v1.cell? ⟨w2.heap.size, 0, none⟩ = some (.pointer (some ⟨b, o, none⟩)) ∧ v1.cell? ⟨b, o + 5, none⟩ = some (.slice aV nv cV))) := fun v1 ⟨sz, dp, k1⟩ k3 k4 => by
            refine ⟨(blk k1).2.1 0 _ rfl, (blk k4).2.1 0 _ rfl, ?_⟩
            rw [← unhide HNV]
            exact ((k3.below hBw).cell (p := ⟨b, o + 5, none⟩) hb).trans ((unhide HG) 5 _ rfl)
          obtain ⟨m0, m1, m2⟩ := unhide HSC _ (Below.refl _ _)
          go_region_held3 (fun w' => w'.cell? ⟨r, 0, none⟩ = some sv ∧ w'.cell? ⟨w2.heap.size, 0, none⟩ = some (.pointer (some ⟨b, o, none⟩)) ∧ w'.cell? ⟨b, o + 5, none⟩ = some (.slice aV nv cV)) (first | assumption | exact (unhide HS9) | exact unhide HSC _ (keep0 _)) ((go_at_call 51; refine (unhide HC2 _ (keep0 _)).mono ?_; rintro e v1 ⟨rfl, h1⟩; have HS9 := hide (unhide HSD v1 ⟨_, _, h1.1⟩ h1.2.2.1 h1.2.2.2); have H1 := hide h1; clear h1))
          go_wp2
          go_end0
          obtain ⟨g1, g2, g3, g4⟩ := unhide H1
          exact ⟨rfl, si, di, g1, (unhide HJ).up, g2, g3⟩
      · have hin : i = n := by omega
        have hd1 : decide ((i : Int) < (n : Int)) = false := by simp; omega
        rw [List.take_of_length_le (by have := unhide HN; omega)] at hRi
        have HF := hide (And.intro hWi (And.intro hRi (And.intro hSi (And.intro hXi hqi))))
        clear hWi hRi hSi hXi hqi hin
        go_wp2
        obtain ⟨j1, j2, j3, j4, j5⟩ := unhide HF
        rw [unhide HCS] at j5
        have HWA := hide (And.intro j1 (And.intro j3 (And.intro j4 j5)))
        have HC2 : Hid (∀ W', Below wr.heap.size wr W' → Calls Tryd.prog 51 #[sv, .slice aV nv cV, .int .i64 (-1)] W' fun e w' => e = .returned (.tuple #[]) ∧ w'.heap[r]? = some (WV sv si di) ∧ SLv w' B sv dl sub hid ∧ XF B r w w' ∧ w'.heap[w2.heap.size]? = some (.cells #[.pointer (some ⟨b, o, none⟩)] 82)) := fun W' h => by
          obtain ⟨k1, k2, k3, k4⟩ := unhide HWA
          rw [← unhide HEB, ← unhide HNV]
          exact hide_in k1 k2 k3 k4 (unhide HVar) hBw (.inr rfl) (unhide HB1) hvl W' h
        have HJ := hide j2
        clear j1 j2 j3 j4 j5 c4 s1
        have HSC : Hid (∀ w', Below wr.heap.size wr w' → (w'.cell? ⟨r, 0, none⟩ = some sv ∧ w'.cell? ⟨w2.heap.size, 0, none⟩ = some (.pointer (some ⟨b, o, none⟩)) ∧ w'.cell? ⟨b, o + 5, none⟩ = some (.slice aV nv cV))) := fun w' h => by
          obtain ⟨k1, k2, k3, k4⟩ := unhide HWA
          have hrA := (h.block r (Array.getElem?_eq_some_iff.1 k1).1).trans k1
          have hqA := (h.block _ (Array.getElem?_eq_some_iff.1 k4).1).trans k4
          refine ⟨(blk hrA).2.1 0 _ rfl, (blk hqA).2.1 0 _ rfl, ?_⟩
          rw [← unhide HNV]
          exact (((k3.trans (XF.of h (Nat.le_refl _))).below hBw).cell (p := ⟨b, o + 5, none⟩) hb).trans ((unhide HG) 5 _ rfl)
        have HSD : Hid (∀ v1 : World, (∃ sz dp, v1.heap[r]? = some (WV sv sz dp)) → XF B r w v1 → v1.heap[w2.heap.size]? = some (.cells #[.pointer (some ⟨b, o, none⟩)] 82) → (v1.cell? ⟨r, 0, none⟩ = some sv ∧ v1.cell? ⟨w2.heap.size, 0, none⟩ = some (.pointer (some ⟨b, o, none⟩)) ∧ v1.cell? ⟨b, o + 5, none⟩ = some (.slice aV nv cV))) := fun v1 ⟨sz, dp, k1⟩ k3 k4 => by
          refine ⟨(blk k1).2.1 0 _ rfl, (blk k4).2.1 0 _ rfl, ?_⟩
          rw [← unhide HNV]
          exact ((k3.below hBw).cell (p := ⟨b, o + 5, none⟩) hb).trans ((unhide HG) 5 _ rfl)
        obtain ⟨m0, m1, m2⟩ := unhide HSC _ (Below.refl _ _)
        go_region_held3 (fun w' => w'.cell? ⟨r, 0, none⟩ = some sv ∧ w'.cell? ⟨w2.heap.size, 0, none⟩ = some (.pointer (some ⟨b, o, none⟩)) ∧ w'.cell? ⟨b, o + 5, none⟩ = some (.slice aV nv cV)) (first | assumption | exact (unhide HS9) | exact unhide HSC _ (keep0 _)) ((go_at_call 51; refine (unhide HC2 _ (keep0 _)).mono ?_; rintro e v1 ⟨rfl, h1⟩; have HS9 := hide (unhide HSD v1 ⟨_, _, h1.1⟩ h1.2.2.1 h1.2.2.2); have H1 := hide h1; clear h1))
        go_wp2
        go_end0
        obtain ⟨g1, g2, g3, g4⟩ := unhide H1
        exact ⟨rfl, si, di, g1, (unhide HJ).up, g2, g3⟩
  obtain rfl : hid' = hid := by rw [← unhide HE]; unfold within; rw [if_neg h19]
  have hk2 : kindOf t.op ≠ 82 := kindOf_all h19
  generalize kindOf t.op = kk at *
  have ta0 := fun w => ta_no (ty := 82) (v := .agg #[.pointer (some ⟨b, o, none⟩)]) (z := .agg #[.pointer none]) (w := w) hk2 rfl rfl (by go_simp)
  have HH : Hid (∀ k, 0 ≤ hid' k ∧ hid' k + lwt t.l ≤ 400000) := fun k => (unhide HW k).imp id (fun h => by omega)
  clear h19
  go_wp2
  obtain ⟨cs, ecs⟩ : ∃ cs : Array Value, cs = #[.pointer none] := ⟨_, rfl⟩
  rw [← ecs]
  clear ecs
  obtain ⟨A, eA, hA⟩ := unhide HA cs
  rw [eA]
  have HW0 := hide hA
  clear eA hA x1 x2 xf1 xf2 ta0
  go_loopw [10] (fun iv wr => ∃ i si di : Nat, i ≤ n ∧ iv = .int .i64 (i : Int) ∧ wr.heap[r]? = some (WV sv si di) ∧ WR (s0 + 1) (max d0 L) (L + 1) (iszL sub (t.l.take i) hid') (idpL sub (t.l.take i) hid') si di ∧ SLv wr B sv dl sub hid' ∧ XF B r w wr ∧ wr.heap[w2.heap.size]? = some (.cells cs 82)) (fun iv _ => (n - (intOf iv).toNat))
  case atStart =>
    obtain ⟨h1, h2, h3, h4⟩ := unhide HW0
    refine ⟨0, s0 + 1, max d0 L, Nat.zero_le _, rfl, h1, ⟨by omega, ?_⟩, h2, h3, h4⟩
    by_cases h5 : s0 + 1 ≤ 50000
    · exact .inl ⟨by simp only [iszL, List.take_zero, List.map_nil, List.sum_nil]; omega, by simp only [iszL, List.take_zero, List.map_nil, List.sum_nil]; omega, by simp only [idpL, maxOf, List.take_zero, List.map_nil, List.foldl_nil]; omega⟩
    · exact .inr ⟨by omega, by omega, by omega⟩
  case round =>
    obtain ⟨i, si, di, hi, rfl, hWi, hRi, hSi, hXi, hqi⟩ := hrel
    have c4 : wr.cell? ⟨b, o + 4, none⟩ = some (.slice aL n cL) := by
      rw [← unhide HN]
      exact ((hXi.below hBw).cell (p := ⟨b, o + 4, none⟩) hb).trans ((unhide HG) 4 _ rfl)
    have s1 : wr.cell? ⟨r, 1, none⟩ = some (.int .i64 (si : Int)) := (blk hWi).2.1 1 _ rfl
    have hsi : si ≤ 200000 := by obtain ⟨_, h | h⟩ := hRi <;> omega
    have hdi : di ≤ 2000000 := hRi.1
    by_cases hlt : i < n
    · have h1 : i < t.l.length := by have := unhide HN; omega
      have hd1 : decide ((i : Int) < (n : Int)) = true := by simp; omega
      have hIi : (i : Int) < (n : Int) := by omega
      have hcap : (i : Int) < 281474976710656 := by omega
      by_cases hst : si ≤ 50000
      · have hd2 : decide ((si : Int) ≤ 50000) = true := by simp; omega
        obtain ⟨bl, ol, rfl, hblB, hj⟩ := (unhide HRow).2.2 (by have := unhide HN; omega)
        have hTi := hj i h1 _ (List.getElem?_eq_getElem h1)
        have hTr := hTi.more (hXi.below hBw) (Nat.le_refl _) (Nat.le_refl _)
        have hmore := iszL_more (sub := sub) (hid := hid') h1
        have hwi : ∀ k, 0 ≤ hid' k ∧ hid' k + t.l[i].wt ≤ 400000 := fun k => (unhide HH k).imp id (fun h => by
          have h3 : t.l[i].wt ≤ lwt t.l := by
            have := lwt_more h1
            have := lwt_take t.l (i + 1)
            omega
          omega)
        have HC := hide (unhide HIH B r wr bl (ol + i * 7) t.l[i] hid' si di (L + 1) hTr hSi hWi hBr hst hdi (by omega) (by omega) hwi)
        have HP := hide (And.intro hRi (And.intro hXi (And.intro hqi hmore)))
        clear hTi hTr hmore hwi hj hWi hRi hSi hXi hqi
        go_wp2_with fail
        rw [show ((L : Int) + 1) = ((L + 1 : Nat) : Int) by omega]
        refine (unhide HC).mono ?_
        rintro e w7 ⟨rfl, s7, d7, hW7, hR7, hS7, hX7⟩
        obtain ⟨hRi, hXi, hqi, hmore⟩ := unhide HP
        have hR8 := hRi.step hst hR7
        rw [← hmore.1, ← hmore.2] at hR8
        have H7 := hide (And.intro hW7 (And.intro hR8 (And.intro hS7 (And.intro (hXi.trans hX7) (hX7.blk hqi hqr (by decide))))))
        clear hW7 hR7 hS7 hX7 hRi hXi hqi hmore hR8 c4 s1
        go_wp2
        exact ⟨⟨i + 1, s7, d7, by omega, rfl, unhide H7⟩, by simp only [intOf]; omega⟩
      · have hd2 : decide ((si : Int) ≤ 50000) = false := by simp; omega
        have hfin : WR (s0 + 1) (max d0 L) (L + 1) (iszL sub t.l hid') (idpL sub t.l hid') si di := hRi.stop (by omega) (iszL_take _ _ _ _)
        have HF := hide (And.intro hWi (And.intro hfin (And.intro hSi (And.intro hXi hqi))))
        clear hWi hRi hSi hXi hqi hfin
        go_wp2
        go_end0
        obtain ⟨hWi, hfin, hSi, hXi, hqi⟩ := unhide HF
        exact ⟨rfl, si, di, hWi, hfin.up, hSi, hXi⟩
    · have hin : i = n := by omega
      have hd1 : decide ((i : Int) < (n : Int)) = false := by simp; omega
      rw [List.take_of_length_le (by have := unhide HN; omega)] at hRi
      have HF := hide (And.intro hWi (And.intro hRi (And.intro hSi (And.intro hXi hqi))))
      clear hWi hRi hSi hXi hqi hin
      go_wp2
      go_end0
      obtain ⟨hWi, hfin, hSi, hXi, hqi⟩ := unhide HF
      exact ⟨rfl, si, di, hWi, hfin.up, hSi, hXi⟩
theorem weigh_any {sub : ByteArray → Option Tm} (dl : Nat) (sv : Value) (hSub : SubOk sub) : ∀ d, WTermC sub dl sv d
  | 0 => fun _ _ _ _ _ _ _ _ _ _ h => h.elim
  | d + 1 => fun B r w b o t hid s0 d0 L hT hS hW hBr hs0 hd0 hL1 hL hh => by
    cases hr : rep sub hid t.op t.name with
    | some u => exact wterm_some hSub hT hS hW hBr hs0 hd0 hL1 (by omega) hr
    | none => exact wterm_none (weigh_any dl sv hSub d) hT hS hW hBr hs0 hd0 hL1 hL hh hr
end Go.Proofs.YtegmckpcchhmdaaDoor

/- Copies: a label's term. -/
namespace Go.Proofs.YtegmckpcchhmdaaDoor
open Go Go.RowKit
set_option maxRecDepth 100000 in
set_option maxHeartbeats 16000000 in
theorem bare_any (op so : Int) (nm nu : ByteArray) (w : World) : Calls Tryd.prog 54 #[.agg #[.int .i64 op, .string nm, .string nu, .int .i64 so]] w (VPost (.agg #[.int .i64 op, .string nm, .int .i64 so, .string nu, .slice none 0 0, .slice none 0 0, .slice none 0 0]) w) := by
  obtain ⟨V, eV, hbV, hsV, hcV, hhV⟩ := box_new w #[.int .i64 op, .string nm, .string nu, .int .i64 so] 141
  have v0 : V.cell? ⟨w.heap.size, 0, none⟩ = some (.int .i64 op) := hcV 0 _ rfl
  have v1 : V.cell? ⟨w.heap.size, 1, none⟩ = some (.string nm) := hcV 1 _ rfl
  have v2 : V.cell? ⟨w.heap.size, 2, none⟩ = some (.string nu) := hcV 2 _ rfl
  have v3 : V.cell? ⟨w.heap.size, 3, none⟩ = some (.int .i64 so) := hcV 3 _ rfl
  have hlt : w.heap.size < V.heap.size := by omega
  have HW := hide hbV
  clear hbV hsV hcV hhV
  go_enter Tryd.func54, Tryd.ntmps54
  go_wp2
  refine ⟨rfl, _, res_row (cs := [.int .i64 op, .string nm, .int .i64 so, .string nu, .slice none 0 0, .slice none 0 0, .slice none 0 0]) rfl rfl (range_new V _ _) rfl rfl rfl, rfl, ?_⟩
  exact (unhide HW).alloc (unhide HW).size _
end Go.Proofs.YtegmckpcchhmdaaDoor

/- Copies: a list of bound variables. -/
namespace Go.Proofs.YtegmckpcchhmdaaDoor
open Go Go.RowKit Go.Lib
theorem infBound : (Tryd.prog.info? 36).map (fun i => (i.zero, i.size, i.bytes)) = some (some (.agg #[.string ⟨#[]⟩, .int .i64 0]), 2, 24) := by kernel_rfl
theorem tBounds : Tryd.prog.underlying 23 = some (.slice 36) := by kernel_rfl
def bcells (x : List (ByteArray × Int)) : List Value := x.flatMap fun u => [.string u.1, .int .i64 u.2]
theorem bcells_len (x : List (ByteArray × Int)) : (bcells x).length = x.length * 2 := by
  induction x with
  | nil => rfl
  | cons u x ih =>
    show ([Value.string u.1, Value.int .i64 u.2] ++ bcells x).length = _
    rw [List.length_append, ih]
    simp
    omega
theorem bcells_get : ∀ (x : List (ByteArray × Int)) (j : Nat) (v : Value), (bcells x)[j]? = some v ↔ ∃ u, x[j / 2]? = some u ∧ (if j % 2 = 0 then Value.string u.1 else Value.int .i64 u.2) = v
  | [], j, v => by simp [bcells]
  | u :: x, 0, v => by simp [bcells]
  | u :: x, 1, v => by simp [bcells]
  | u :: x, j + 2, v => by
    have h1 : (bcells (u :: x))[j + 2]? = (bcells x)[j]? := rfl
    have h2 : (j + 2) / 2 = j / 2 + 1 := by omega
    have h3 : (j + 2) % 2 = j % 2 := by omega
    rw [h1, h2, h3, List.getElem?_cons_succ]
    exact bcells_get x j v
/-- A copy, in memory of its own. -/
def ClP (x : List (ByteArray × Int)) (n : Nat) (w : World) (e : Ending) (w' : World) : Prop := ∃ a' c', e = .returned (.slice a' n c') ∧ n ≤ c' ∧ (n ≠ 0 → ∃ g, a' = some ⟨g, 0, none⟩ ∧ w.heap.size ≤ g ∧ g < w'.heap.size ∧ (∃ cur, w'.heap[g]? = some (.cells cur 36)) ∧ ∀ (j : Nat) u, x[j]? = some u → w'.rangeAt g (j * 2) [.string u.1, .int .i64 u.2]) ∧ Below w.heap.size w w'
set_option maxRecDepth 100000 in
set_option maxHeartbeats 16000000 in
theorem clone_any {w : World} {B n c : Nat} {a : Option Addr} {x : List (ByteArray × Int)} (hx : Row B a n c 2 (BR w x)) (hn : n = x.length) (hB : B ≤ w.heap.size) (hl : n ≤ 400000) :
    Calls Tryd.prog 55 #[.slice a n c] w (ClP x n w) := by
  obtain ⟨i0, hi0, hz0, hz1, hz2⟩ := inf_of infBound
  have q22 : ∀ (w : World) (a : Option Addr) (n c n' c' : Nat), (binOp .eql 23 (.slice a n c) (.slice none n' c')).run Tryd.prog w = .ok (.bool a.isNone) w := fun w a n c n' c' => Lib.run_eql_slice_nil w _ _ a n c n' c' tBounds
  cases a with
  | none =>
    have h0 : n = 0 := by
      rcases Nat.eq_zero_or_pos n with h | h
      · exact h
      · obtain ⟨b, off, e, _⟩ := hx.2.2 (by omega)
        cases e
    subst h0
    clear hx hi0 hz0 hz1 hz2 hn
    go_enter Tryd.func55, Tryd.ntmps55
    go_wp2
    go_ret
    exact ⟨none, 0, rfl, Nat.le_refl _, fun h => absurd rfl h, Below.refl _ _⟩
  | some ad =>
    have hnews : ∀ (W : World), Below w.heap.size w W → ∀ j u, (bcells x)[j]? = some u → W.cell? (ad.add j) = some u := fun W hW j u hj => by
      obtain ⟨p, hp, rfl⟩ := (bcells_get x j u).1 hj
      have hj2 := (List.getElem?_eq_some_iff.1 hp).1
      obtain ⟨b, off, e, hb, hjj⟩ := hx.2.2 (by omega)
      injection e with e
      subst e
      obtain ⟨rg, _⟩ := hjj (j / 2) (by omega) p hp
      have hm : j = j / 2 * 2 + j % 2 := by omega
      rw [Addr.add_lit, hW.cell (p := ⟨b, off + j, none⟩) (by show b < _; omega)]
      by_cases h2 : j % 2 = 0
      · rw [if_pos h2]
        have := rg 0 _ rfl
        rw [show off + j = off + j / 2 * 2 + 0 by omega]
        exact this
      · rw [if_neg h2]
        have := rg 1 _ rfl
        rw [show off + j = off + j / 2 * 2 + 1 by omega]
        exact this
    have HNews := hide hnews
    have HX := hide hn
    clear hx hnews hn
    go_enter Tryd.func55, Tryd.ntmps55
    go_wp2_with (at_builtin; refine wpList_append_own _ rfl _ _ 23 rfl w.heap.size 36 i0 (.agg #[.string ⟨#[]⟩, .int .i64 0]) 2 24 tBounds hi0 hz0 hz1 hz2 rfl (by decide) _ _ _ rfl (World.ownsRow_made w #[] 0 (Nat.le_refl _) (Nat.zero_le _) rfl) ad n c (bcells x) rfl ?qc1 ?qc2 ?qc3 ?qc4 ?qc5 ?qc6 ?_)
    case qc1 => rw [bcells_len, unhide HX]
    case qc2 => exact unhide HNews _ ((Below.refl _ w).alloc (Nat.le_refl _) _)
    case qc3 =>
      intro u hu
      obtain ⟨j, hj, e⟩ := List.getElem_of_mem hu
      obtain ⟨p, _, rfl⟩ := (bcells_get x j u).1 (by rw [List.getElem?_eq_getElem hj, e])
      split <;> rfl
    case qc4 => unfold maxLen; omega
    case qc5 => omega
    case qc6 => simp
    intro v' w1 hown hgrow hnil
    have hbel : Below w.heap.size w w1 := ((Below.refl _ w).alloc (Nat.le_refl _) _).grown hgrow (by simp) (by intro k hk; simp [Value.ownBlock] at hk; omega)
    obtain ⟨hlen, ⟨rfl, h0⟩ | ⟨g, cap, cur, rfl, hg, hgb, hc1, hc2, hc3, hc4⟩⟩ := hown
    · have HB := hide hbel
      clear hgrow hnil hbel hlen
      go_wp2
      go_ret
      subst h0
      exact ⟨none, 0, rfl, Nat.le_refl _, fun h => absurd rfl h, unhide HB⟩
    · have hlt := (Array.getElem?_eq_some_iff.1 hgb).1
      have hrng : ∀ (j : Nat) u, x[j]? = some u → w1.rangeAt g (j * 2) [.string u.1, .int .i64 u.2] := fun j u hu => by
        have hcell : ∀ k v, (bcells x)[k]? = some v → w1.cell? ⟨g, k, none⟩ = some v := fun k v hk => by
          rw [← hc4, List.getElem?_take] at hk
          split at hk
          · exact (blk hgb).2.1 k v (by rw [← Array.getElem?_toList]; exact hk)
          · cases hk
        intro k v hv
        have hk2 : k < 2 := by
          have := (List.getElem?_eq_some_iff.1 hv).1
          simpa using this
        refine hcell (j * 2 + k) v ((bcells_get x _ v).2 ⟨u, ?_, ?_⟩)
        · rw [show (j * 2 + k) / 2 = j by omega]; exact hu
        · rcases (by omega : k = 0 ∨ k = 1) with rfl | rfl
          · rw [if_pos (by omega)]
            simpa using hv
          · rw [if_neg (by omega)]
            simpa using hv
      have HF := hide (And.intro hbel (And.intro hg (And.intro hlt (And.intro hgb (And.intro hc1 hrng)))))
      clear hgrow hnil hbel hlen hg hgb hc1 hc2 hc3 hc4 hlt hrng
      go_wp2
      go_ret
      obtain ⟨hbel, hg, hlt, hgb, hc1, hrng⟩ := unhide HF
      exact ⟨_, cap, rfl, hc1, fun _ => ⟨g, rfl, hg, hlt, ⟨cur, hgb⟩, hrng⟩, hbel⟩
end Go.Proofs.YtegmckpcchhmdaaDoor

/- Terms that lie in some blocks; what a copy of a term is. -/
namespace Go.Proofs.YtegmckpcchhmdaaDoor
open Go Go.RowKit
def RowP (P : Nat → Prop) (a : Option Addr) (n cap k : Nat) (p : Nat → Nat → Nat → Prop) : Prop := n ≤ cap ∧ n ≤ 281474976710656 ∧ (n ≠ 0 → ∃ b off, a = some ⟨b, off, none⟩ ∧ P b ∧ ∀ j, j < n → p b (off + j * k) j)
theorem RowP.imp {P Q : Nat → Prop} {a : Option Addr} {n cap k : Nat} {p q : Nat → Nat → Nat → Prop} (h : RowP P a n cap k p) (hP : ∀ b, P b → Q b) (hp : ∀ b o j, P b → p b o j → q b o j) : RowP Q a n cap k q := by
  refine ⟨h.1, h.2.1, fun hn => ?_⟩
  obtain ⟨b, off, e, hb, hj⟩ := h.2.2 hn
  exact ⟨b, off, e, hP b hb, fun j h => hp _ _ _ hb (hj j h)⟩
theorem RowP.row {P : Nat → Prop} {B : Nat} {a : Option Addr} {n cap k : Nat} {p q : Nat → Nat → Nat → Prop} (h : RowP P a n cap k p) (hP : ∀ b, P b → b < B) (hp : ∀ b o j, P b → p b o j → q b o j) : Row B a n cap k q := by
  refine ⟨h.1, h.2.1, fun hn => ?_⟩
  obtain ⟨b, off, e, hb, hj⟩ := h.2.2 hn
  exact ⟨b, off, e, hP b hb, fun j h => hp _ _ _ hb (hj j h)⟩
/-- A term lies in blocks of which P holds. -/
def TmP (w : World) (P : Nat → Prop) : Nat → Nat → Nat → Tm → Prop
  | 0, _, _, _ => False
  | d + 1, b, o, t => P b ∧ fits t.op ∧ fits t.sort ∧ ∃ aL aV aP cL cV cP, w.rangeAt b o (tcells t aL aV aP cL cV cP)
      ∧ RowP P aL t.l.length cL 7 (fun b o j => ∀ u, t.l[j]? = some u → TmP w P d b o u)
      ∧ RowP P aV t.vars.length cV 2 (fun b o j => ∀ u, t.vars[j]? = some u → w.rangeAt b o [.string u.1, .int .i64 u.2] ∧ fits u.2)
      ∧ RowP P aP t.pat.length cP 7 (fun b o j => ∀ u, t.pat[j]? = some u → TmP w P d b o u)
      ∧ Clear w b
/-- A term as a value, whose lists lie in such blocks. -/
def IsP (w : World) (P : Nat → Prop) (d : Nat) (v : Value) (t : Tm) : Prop := fits t.op ∧ fits t.sort ∧ ∃ aL aV aP cL cV cP, v = .agg (tcells t aL aV aP cL cV cP).toArray
      ∧ RowP P aL t.l.length cL 7 (fun b o j => ∀ u, t.l[j]? = some u → TmP w P d b o u)
      ∧ RowP P aV t.vars.length cV 2 (fun b o j => ∀ u, t.vars[j]? = some u → w.rangeAt b o [.string u.1, .int .i64 u.2] ∧ fits u.2)
      ∧ RowP P aP t.pat.length cP 7 (fun b o j => ∀ u, t.pat[j]? = some u → TmP w P d b o u)
theorem range_same {w w' : World} {b o : Nat} {cs : List Value} (h : w.rangeAt b o cs) (hb : w'.heap[b]? = w.heap[b]?) : w'.rangeAt b o cs := fun j v hv => by
  rw [World.cell?_of_block (w := w) (a := ⟨b, o + j, none⟩) hb]
  exact h j v hv
theorem Clear.same {w w' : World} {b : Nat} (h : Clear w b) (hb : w'.heap[b]? = w.heap[b]?) : Clear w' b := by
  obtain ⟨cs, ty, h⟩ := h
  exact ⟨cs, ty, hb.trans h⟩
theorem TmP.keep {P Q : Nat → Prop} {w w' : World} (hk : ∀ k, P k → Q k ∧ w'.heap[k]? = w.heap[k]?) : ∀ {d d' b o : Nat} {t : Tm}, d ≤ d' → TmP w P d b o t → TmP w' Q d' b o t
  | 0, _, _, _, _, _, h => h.elim
  | d + 1, 0, _, _, _, hd, _ => absurd hd (by omega)
  | d + 1, d' + 1, b, o, t, hd, ⟨hb, h1, h2, aL, aV, aP, cL, cV, cP, hr, hL, hV, hP, hPl⟩ =>
    ⟨(hk b hb).1, h1, h2, aL, aV, aP, cL, cV, cP, range_same hr (hk b hb).2,
      hL.imp (fun b h => (hk b h).1) fun b o j hb h u hu => TmP.keep hk (by omega) (h u hu),
      hV.imp (fun b h => (hk b h).1) fun b o j hb h u hu => ⟨range_same (h u hu).1 (hk b hb).2, (h u hu).2⟩,
      hP.imp (fun b h => (hk b h).1) fun b o j hb h u hu => TmP.keep hk (by omega) (h u hu), hPl.same (hk b hb).2⟩
theorem IsP.keep {P Q : Nat → Prop} {w w' : World} (hk : ∀ k, P k → Q k ∧ w'.heap[k]? = w.heap[k]?) {d d' : Nat} {v : Value} {t : Tm} (hd : d ≤ d') (h : IsP w P d v t) : IsP w' Q d' v t := by
  obtain ⟨h1, h2, aL, aV, aP, cL, cV, cP, hr, hL, hV, hP⟩ := h
  exact ⟨h1, h2, aL, aV, aP, cL, cV, cP, hr, hL.imp (fun b h => (hk b h).1) fun b o j hb h u hu => (h u hu).keep hk hd,
    hV.imp (fun b h => (hk b h).1) fun b o j hb h u hu => ⟨range_same (h u hu).1 (hk b hb).2, (h u hu).2⟩,
    hP.imp (fun b h => (hk b h).1) fun b o j hb h u hu => (h u hu).keep hk hd⟩
theorem TmP.at {P : Nat → Prop} {w : World} {B : Nat} (hP : ∀ k, P k → k < B) : ∀ {d b o : Nat} {t : Tm}, TmP w P d b o t → TmAt w B d b o t
  | 0, _, _, _, h => h.elim
  | d + 1, b, o, t, ⟨hb, h1, h2, aL, aV, aP, cL, cV, cP, hr, hL, hV, hPt, hPl⟩ =>
    ⟨hP b hb, h1, h2, aL, aV, aP, cL, cV, cP, hr, hL.row hP fun b o j hb h u hu => TmP.at hP (h u hu), hV.row hP fun b o j hb h => h, hPt.row hP fun b o j hb h u hu => TmP.at hP (h u hu), trivial⟩
theorem IsP.isT {P : Nat → Prop} {w : World} {B d : Nat} {v : Value} {t : Tm} (hP : ∀ k, P k → k < B) (h : IsP w P d v t) : IsT w B d v t := by
  obtain ⟨h1, h2, aL, aV, aP, cL, cV, cP, hr, hL, hV, hPt⟩ := h
  exact ⟨h1, h2, aL, aV, aP, cL, cV, cP, hr, hL.row hP fun b o j hb h u hu => (h u hu).at hP, hV.row hP fun b o j hb h => h, hPt.row hP fun b o j hb h u hu => (h u hu).at hP⟩
/-- Laid into memory. -/
theorem IsP.laid {P : Nat → Prop} {w : World} {d b o : Nat} {v : Value} {t : Tm} (h : IsP w P d v t) (hb : P b) (hPl : Clear w b) (hr : ∀ cs, v = .agg cs.toArray → w.rangeAt b o cs) : TmP w P (d + 1) b o t := by
  obtain ⟨h1, h2, aL, aV, aP, cL, cV, cP, e, hL, hV, hPt⟩ := h
  exact ⟨hb, h1, h2, aL, aV, aP, cL, cV, cP, hr _ e, hL, hV, hPt, hPl⟩
/-- A term that lies below B, in blocks that bear no mark. -/
def LT (B k : Nat) : Prop := k < B
def TmS (w : World) (B d b o : Nat) (t : Tm) : Prop := TmP w (LT B) d b o t
theorem TmS.more {w w' : World} {B B' d d' b o : Nat} {t : Tm} (h : TmS w B d b o t) (hw : Below B w w') (hB : B ≤ B') (hd : d ≤ d') : TmS w' B' d' b o t := TmP.keep (fun k hk => ⟨Nat.lt_of_lt_of_le hk hB, hw.block k hk⟩) hd h
theorem TmS.tm {w : World} {B d b o : Nat} {t : Tm} (h : TmS w B d b o t) : TmAt w B d b o t := TmP.at (fun _ h => h) h
/-- A copy of a term: nothing in fields that say nothing. -/
def Tm.inst0 : Tm → Tm
  | ⟨op, name, sort, num, l, vars, pat⟩ => ⟨op, if op = 17 ∨ op = 18 then name else .empty, if op = 18 then sort else 0, if op = 1 then num else .empty, l.map fun u => Tm.inst0 u, if op = 19 then vars else [], if op = 19 then pat.map fun p => Tm.inst0 p else []⟩
/-- A copy of a term, in which names are replaced. -/
def Tm.inst (sub : ByteArray → Option Tm) : Tm → (ByteArray → Int) → Tm
  | ⟨op, name, sort, num, l, vars, pat⟩, hid => match rep sub hid op name with
    | some u => u.inst0
    | none => ⟨op, if op = 17 ∨ op = 18 then name else .empty, if op = 18 then sort else 0, if op = 1 then num else .empty, l.map fun u => Tm.inst sub u (within op vars hid), if op = 19 then vars else [], if op = 19 then pat.map fun p => Tm.inst sub p (within op vars hid) else []⟩
theorem rep_no (hid : ByteArray → Int) (op : Int) (name : ByteArray) : rep (fun _ => none) hid op name = none := by
  unfold rep
  split <;> rfl
theorem inst_no {w : World} {B : Nat} : ∀ {d b o : Nat} {t : Tm}, TmAt w B d b o t → ∀ hid, t.inst (fun _ => none) hid = t.inst0
  | 0, _, _, _, h, _ => h.elim
  | d + 1, b, o, ⟨op, name, sort, num, l, vars, pat⟩, ⟨hb, h1, h2, aL, aV, aP, cL, cV, cP, hr, hL, hV, hP, hPl⟩, hid => by
    have hl : ∀ (q : List Tm) (a : Option Addr) (c : Nat), Row B a q.length c 7 (fun b o j => ∀ u, q[j]? = some u → TmAt w B d b o u) → ∀ hid, (q.map fun u => Tm.inst (fun _ => none) u hid) = q.map fun u => Tm.inst0 u := fun q a c hq hid => by
      refine List.map_congr_left fun u hu => ?_
      obtain ⟨j, hj, e⟩ := List.getElem_of_mem hu
      obtain ⟨b', off, _, _, hjj⟩ := hq.2.2 (by omega)
      exact inst_no (hjj j hj u (by rw [List.getElem?_eq_getElem hj, e])) hid
    rw [Tm.inst, Tm.inst0, rep_no]
    simp only
    rw [hl l aL cL hL, hl pat aP cP hP]
end Go.Proofs.YtegmckpcchhmdaaDoor

namespace Go.Proofs.YtegmckpcchhmdaaDoor
open Go Go.RowKit
theorem infTerm : (Tryd.prog.info? 25).map (fun i => (i.zero, i.size, i.bytes)) = some (some (.agg #[.int .i64 0, .string ⟨#[]⟩, .int .i64 0, .string ⟨#[]⟩, .slice none 0 0, .slice none 0 0, .slice none 0 0]), 7, 120) := by kernel_rfl
theorem tTerms : Tryd.prog.underlying 22 = some (.slice 25) := by kernel_rfl
/-- A block of n terms' cells. -/
def TB (w : World) (g n : Nat) (cur : Array Value) : Prop := w.heap[g]? = some (.cells cur 25) ∧ cur.size = n * 7
/-- One term laid into memory. -/
def put7 (w : World) (g m : Nat) (a b c d e f h : Value) : World := ((((((w.setCell ⟨g, m, none⟩ a).setCell ⟨g, m + 1, none⟩ b).setCell ⟨g, m + 2, none⟩ c).setCell ⟨g, m + 3, none⟩ d).setCell ⟨g, m + 4, none⟩ e).setCell ⟨g, m + 5, none⟩ f).setCell ⟨g, m + 6, none⟩ h
theorem put7_far {w : World} {g m q : Nat} {a b c d e f h : Value} (hq : q ≠ g) : (put7 w g m a b c d e f h).heap[q]? = w.heap[q]? := by
  unfold put7
  rw [Below.heap_setCell _ ⟨g, m + 6, none⟩ h q hq, Below.heap_setCell _ ⟨g, m + 5, none⟩ f q hq, Below.heap_setCell _ ⟨g, m + 4, none⟩ e q hq, Below.heap_setCell _ ⟨g, m + 3, none⟩ d q hq, Below.heap_setCell _ ⟨g, m + 2, none⟩ c q hq, Below.heap_setCell _ ⟨g, m + 1, none⟩ b q hq, Below.heap_setCell _ ⟨g, m, none⟩ a q hq]
theorem put7_at {w : World} {g n i : Nat} {cur : Array Value} {a b c d e f h : Value} (hT : TB w g n cur) (hi : i < n) : ∃ cur', TB (put7 w g (i * 7) a b c d e f h) g n cur' ∧ (put7 w g (i * 7) a b c d e f h).rangeAt g (i * 7) [a, b, c, d, e, f, h] ∧ ∀ k, (k < i * 7 ∨ i * 7 + 7 ≤ k) → cur'[k]? = cur[k]? := by
  have hh : (put7 w g (i * 7) a b c d e f h).heap[g]? = _ := set_block (set_block (set_block (set_block (set_block (set_block (set_block hT.1 a) b) c) d) e) f) h
  have hs := hT.2
  refine ⟨_, ⟨hh, by simp only [Array.size_setIfInBounds]; exact hs⟩, fun j v hv => ?_, fun k hk => ?_⟩
  · refine (blk hh).2.1 (i * 7 + j) v ?_
    have hj : j < 7 := by
      have := (List.getElem?_eq_some_iff.1 hv).1
      simpa using this
    have hb : i * 7 + 6 < cur.size := by omega
    rcases (by omega : j = 0 ∨ j = 1 ∨ j = 2 ∨ j = 3 ∨ j = 4 ∨ j = 5 ∨ j = 6) with rfl | rfl | rfl | rfl | rfl | rfl | rfl <;> (simp at hv; subst hv; simp [Array.getElem?_setIfInBounds]; try omega)
  · have h0 : i * 7 ≠ k := by omega
    have h1 : i * 7 + 1 ≠ k := by omega
    have h2 : i * 7 + 2 ≠ k := by omega
    have h3 : i * 7 + 3 ≠ k := by omega
    have h4 : i * 7 + 4 ≠ k := by omega
    have h5 : i * 7 + 5 ≠ k := by omega
    have h6 : i * 7 + 6 ≠ k := by omega
    simp [Array.getElem?_setIfInBounds, h0, h1, h2, h3, h4, h5, h6]
theorem TB.cell {w : World} {g n : Nat} {cur : Array Value} (h : TB w g n cur) {k : Nat} (hk : k < n * 7) : ∃ x, w.cell? ⟨g, k, none⟩ = some x ∧ w.frozen? ⟨g, k, none⟩ = false :=
  ⟨_, (blk h.1).2.1 k _ (Array.getElem?_eq_getElem (by have := h.2; omega)), (blk h.1).2.2 k⟩
theorem mkTerms (n : Nat) (w : World) (hn : n ≤ 21474836) : ∃ cur, (Instr.makeSlice 22 (.int .i64 (n : Int)) (.int .i64 (n : Int))).run Tryd.prog w = .ok (.slice (some ⟨w.heap.size, 0, none⟩) n n) (w.alloc (.cells cur 25)) ∧ cur.size = n * 7 := by
  obtain ⟨i0, hi, hz0, hz1, hz2⟩ := inf_of infTerm
  have hr := run_make (P := Tryd.prog) w 22 25 i0 (.agg #[.int .i64 0, .string ⟨#[]⟩, .int .i64 0, .string ⟨#[]⟩, .slice none 0 0, .slice none 0 0, .slice none 0 0]) tTerms hi hz0 .i64 .i64 n n (by omega) (Int.le_refl _) (by rw [hz2]; omega) (by omega)
  rw [hz1] at hr
  simp only [Int.toNat_natCast] at hr
  exact ⟨_, hr, by simp [madeCells]⟩
/-- How much is copied. -/
def Tm.icp0 : Tm → Nat
  | ⟨op, _, _, _, l, vars, pat⟩ => l.length + (l.map fun u => Tm.icp0 u).sum + if op = 19 then vars.length + pat.length + (pat.map fun p => Tm.icp0 p).sum else 0
def Tm.icp (sub : ByteArray → Option Tm) : Tm → (ByteArray → Int) → Nat
  | ⟨op, name, _, _, l, vars, pat⟩, hid => match rep sub hid op name with
    | some u => u.icp0
    | none => l.length + (l.map fun u => Tm.icp sub u (within op vars hid)).sum + if op = 19 then vars.length + pat.length + (pat.map fun p => Tm.icp sub p (within op vars hid)).sum else 0
/-- New blocks, no slots. -/
def FB (m : Nat) (w : World) (k : Nat) : Prop := m ≤ k ∧ k < w.heap.size ∧ NS w k
def CV (sv : Value) (cp : Nat) : Obj := .cells #[sv, .int .i64 cp, .bool false] 90
def icpL (sub : ByteArray → Option Tm) (l : List Tm) (hid : ByteArray → Int) : Nat := l.length + (l.map fun u => u.icp sub hid).sum
def YTermC (sub : ByteArray → Option Tm) (dl : Nat) (sv : Value) (d : Nat) : Prop := ∀ (B r : Nat) (w : World) (b o : Nat) (t : Tm) (hid : ByteArray → Int) (cp u : Nat), TmAt w B d b o t → SLv w B sv dl sub hid → w.heap[r]? = some (CV sv cp) → B ≤ r → cp + t.icp sub hid ≤ 21474836 → u + d + dl ≤ 65536 → (∀ k, 0 ≤ hid k ∧ hid k + t.wt ≤ 400000) →
    Calls Tryd.prog 36 #[.pointer (some ⟨r, 0, none⟩), .pointer (some ⟨b, o, none⟩), .int .i64 u] w fun e w' => ∃ v, e = .returned v ∧ IsP w' (FB w.heap.size w') (d + dl) v (t.inst sub hid) ∧ w'.heap[r]? = some (CV sv (cp + t.icp sub hid)) ∧ SLv w' B sv dl sub hid ∧ XF B r w w' ∧ (sv = .map none → But r w w')
def YListC (sub : ByteArray → Option Tm) (dl : Nat) (sv : Value) (d : Nat) : Prop := ∀ (B r : Nat) (w : World) (a : Option Addr) (n c : Nat) (l : List Tm) (hid : ByteArray → Int) (cp u : Nat), Row B a n c 7 (fun b o j => ∀ t, l[j]? = some t → TmAt w B d b o t) → n = l.length → SLv w B sv dl sub hid → w.heap[r]? = some (CV sv cp) → B ≤ r → cp + icpL sub l hid ≤ 21474836 → u + d + dl ≤ 65536 → (∀ k, 0 ≤ hid k ∧ hid k + lwt l ≤ 400000) →
    Calls Tryd.prog 56 #[.pointer (some ⟨r, 0, none⟩), .slice a n c, .int .i64 u] w fun e w' => ∃ a' c', e = .returned (.slice a' n c') ∧ RowP (FB w.heap.size w') a' n c' 7 (fun b o j => ∀ t, (l.map fun t => t.inst sub hid)[j]? = some t → TmP w' (FB w.heap.size w') (d + dl + 1) b o t) ∧ w'.heap[r]? = some (CV sv (cp + icpL sub l hid)) ∧ SLv w' B sv dl sub hid ∧ XF B r w w' ∧ (sv = .map none → But r w w')
end Go.Proofs.YtegmckpcchhmdaaDoor
