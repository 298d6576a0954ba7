/- The package-level variables that the rows list, as the walks want them: the signs, errors.errorType, the two tables of unicode/utf8. -/
import Derived.Test.YtfkfnbehdcmgeaaGreatDoorZAZ
import Derived.Test.YtfkfnbehdcmgeaaGreatDoorZAW
import Derived.Test.YtfkfnbehdcmgeaaGreatDoorZAU
import Derived.Test.YtfkfnbehdcmgeaaGreatDoorRows
import Derived.Test.YtfkfnbehdcmgeaaGreatDoorZAB
import Derived.Lib.LaidU8T
import Derived.LaidHandle
import Derived.LaidLaws
import Derived.OpenShut
import Derived.ChangeArms
set_option linter.unusedVariables false
set_option linter.unusedSimpArgs false

/- Package parse: programs. -/
namespace Go.Proofs.YtfkfnbehdcmgeaaGreatDoor
open Go Go.RowKit
theorem app_de {w : World} {B n : Nat} {v : Value} {xs l : List Value} (hl : l.length = 22) (h1 : ∀ u ∈ l, u.oneCell' = true) (hown : w.ownsRow B 56 22 v n xs) (hn : n ≤ 100000) (hB : B ≤ w.heap.size) :
    ∃ g cap w', (Builtin.append_ #[23, 23] 23 #[v, .slice (some ⟨w.heap.size, 0, none⟩) 1 1]).run Tryz.prog (w.alloc (.cells l.toArray 56)) = .ok (.slice (some ⟨g, 0, none⟩) (n + 1) cap) w' ∧ w'.ownsRow B 56 22 (.slice (some ⟨g, 0, none⟩) (n + 1) cap) (n + 1) (xs ++ l) ∧ (w.alloc (.cells l.toArray 56)).grownBy w' v.ownBlock ∧ (v.ownBlock = some g ∨ g = w.heap.size + 1) := by
  have hb := (MapKept.heap_alloc w (.cells l.toArray 56)).1
  obtain ⟨g, cap, w', hr, ho, hg, hw, -⟩ := run_append_lies (P := Tryz.prog) (w.alloc (.cells l.toArray 56)) 23 23 B 56 Tryz.t56 (.agg #[.bool false, .string ⟨#[]⟩, .string ⟨#[]⟩, .bool false, .slice none 0 0, .int .i64 0, .int .i64 0, .string ⟨#[]⟩, .slice none 0 0, .int .i64 0, .slice none 0 0, .string ⟨#[]⟩, .slice none 0 0, .slice none 0 0, .int .i64 0, .string ⟨#[]⟩, .string ⟨#[]⟩, .bool false, .slice none 0 0, .int .i64 0, .int .i64 0, .int .i64 0]) 22 320 Tryz.underlying23 (by kernel_rfl) (by kernel_rfl) (by kernel_rfl) (by kernel_rfl) rfl (by decide) v n xs (hown.alloc _) ⟨w.heap.size, 0, none⟩ 1 1 l (by omega) (fun j u hj => by
      have h := (blk hb).2.1 j u (by simpa using hj)
      rw [addr0]
      exact h) h1 (by omega) (by unfold maxLen; omega) (by omega) (by simp; omega) _ rfl
  exact ⟨g, cap, w', hr, ho, hg, by simpa using hw⟩
theorem de_keep (w w' : World) (P P' : Nat → Prop) (cs : List Value) (t : De) (h : DeP w P cs t) (hb : StaysP P w w') (hl : ∀ b, P b → P' b) : DeP w' P' cs t := h.keep hb hl
theorem de_bnd (w : World) (P : Nat → Prop) (cs : List Value) (t : De) (h : DeP w P cs t) : DeP w (fun b => P b ∧ b < w.heap.size) cs t := h.bnd
theorem progL_no {ts : List (Int × ByteArray × Int)} {n q : Nat} {l : List De} (h : ([⟨#[114, 101, 102]⟩, ⟨#[108, 101, 116]⟩] : List ByteArray).any (sees ts q) = false) : progL ts n l q = .ok (l, q) := by
  cases n with
  | zero => rfl
  | succ n => rw [progL, h]; rfl
theorem progL_many {ts : List (Int × ByteArray × Int)} {n q : Nat} {l : List De} (h : ([⟨#[114, 101, 102]⟩, ⟨#[108, 101, 116]⟩] : List ByteArray).any (sees ts q) = true) (hl : l.length = 100) : progL ts (n + 1) l q = bad ts q 152 := by
  rw [progL, h, if_pos rfl, if_pos hl]
theorem progL_yes {ts : List (Int × ByteArray × Int)} {n q : Nat} {l : List De} (h : ([⟨#[114, 101, 102]⟩, ⟨#[108, 101, 116]⟩] : List ByteArray).any (sees ts q) = true) (hl : l.length ≠ 100) : progL ts (n + 1) l q = thenR (declR ts q) fun x q => progL ts n (l ++ [x]) q := by
  rw [progL, h, if_pos rfl, if_neg hl]
theorem declR_lt {r d lo p z : Nat} {ts : List (Int × ByteArray × Int)} {t : De} {w : World} (hT : TsOk ts) (hE : RuC 59 r ts d lo (exR ts)) (hSz : ∀ j, (txt ts j).size ≤ 65536) (hlo : lo ≤ p) (hR : RD w r ts p d) (hp : p + 1 < ts.length) (hX : declR ts p = .ok (t, z)) : p + 1 ≤ z := by
  obtain ⟨W, hW⟩ := rd_at (q := p + 1) hR hp
  unfold declR at hX
  split at hX
  · obtain ⟨e, w', hb, h⟩ := calls_some (cell_of hT hSz (Nat.le_succ_of_le hlo) hW)
    rw [hX] at h
    exact h.1
  · obtain ⟨_, q1, h1, hX⟩ := thenR_ok hX
    obtain rfl := mustR_lt h1
    obtain ⟨e, w', hb, h⟩ := calls_some (definition_of hT hE (Nat.le_succ_of_le hlo) hW)
    rw [hX] at h
    exact h.1
theorem any_two {ts : List (Int × ByteArray × Int)} {q : Nat} (h : ([⟨#[114, 101, 102]⟩, ⟨#[108, 101, 116]⟩] : List ByteArray).any (sees ts q) = true) : txt ts q ≠ ⟨#[]⟩ := by
  simp only [List.any_cons, List.any_nil, Bool.or_false, Bool.or_eq_true] at h
  rcases h with h | h
  · rw [sees_txt h]; decide
  · rw [sees_txt h]; decide
set_option maxRecDepth 100000 in
set_option maxHeartbeats 8000000 in
theorem program_of {r d lo : Nat} {ts : List (Int × ByteArray × Int)} (hT : TsOk ts) (hE : RuC 59 r ts d lo (exR ts)) (hSz : ∀ j, (txt ts j).size ≤ 65536) {w : World} {p : Nat} (hlo : lo ≤ p) (hR : RD w r ts p d) : Calls Tryz.prog 26 #[.pointer (some ⟨r, 0, none⟩)] w (RP (fun w' v l => IsDs w' w.heap.size v l) (progR ts p) r ts p d w) := by
  obtain ⟨Y, hY⟩ : ∃ Y, progR ts p = Y := ⟨_, rfl⟩
  rw [hY]
  unfold progR at hY
  obtain ⟨Z, hZ⟩ : ∃ Z, progL ts ts.length [] p = Z := ⟨_, rfl⟩
  rw [hZ] at hY
  have hr := hR.rlt
  have HI : Hid (RI DeP 56 22 w r ts p d lo (progL ts) Z (.slice none 0 0) [] [] p ts.length w) := ⟨But.refl _ _, hR, own_nil _ _ _ _, rfl, (by simp), (fun j x t hx => by simp at hx), ⟨Nat.le_refl _, hlo⟩, by omega, hZ, Nat.zero_le _⟩
  have HT := hide hT
  have HY := hide hY
  replace hE := hide hE
  replace hSz := hide hSz
  clear hY hT hlo hR hZ
  go_enter Tryz.func26, Tryz.ntmps26
  go_wp2_with fail
  go_loopw [3] (fun v wr => ∃ l vs q n a m c, v = .slice a m c ∧ m = l.length ∧ Hid (RI DeP 56 22 w r ts p d lo (progL ts) Z v l vs q n wr)) (fun _ wr => ts.length - (intOf ((wr.cell? ⟨r, 1, none⟩).getD undef)).toNat)
  case atStart => exact ⟨_, _, _, _, _, _, _, rfl, rfl, HI⟩
  case round =>
    obtain ⟨l, vs, q, n, a, m, c, rfl, hml, hEI⟩ := hrel
    obtain ⟨S, eS, hbS, hsS, hhS⟩ := box_new wr #[.string ⟨#[114, 101, 102]⟩, .string ⟨#[108, 101, 116]⟩] 9
    have h0 := (unhide hEI).grow de_keep hbS
    obtain ⟨bo, hbo⟩ : ∃ b, ([⟨#[114, 101, 102]⟩, ⟨#[108, 101, 116]⟩] : List ByteArray).any (sees ts q) = b := ⟨_, rfl⟩
    have HC : Hid (Calls Tryz.prog 43 #[.pointer (some ⟨r, 0, none⟩), .slice (some ⟨wr.heap.size, 0, none⟩) 2 2] S (VP (.bool (([⟨#[114, 101, 102]⟩, ⟨#[108, 101, 116]⟩] : List ByteArray).any (sees ts q))) S)) := one_any (c := 2) (l := [⟨#[114, 101, 102]⟩, ⟨#[108, 101, 116]⟩]) h0.rd (unhide HT) (by omega) (by decide) (fun j s hs => by
      rcases j with _ | _ | j
      · obtain rfl := Option.some.inj hs
        exact (blk hhS).2.1 0 _ rfl
      · obtain rfl := Option.some.inj hs
        exact (blk hhS).2.1 1 _ rfl
      · simp at hs)
    rw [hbo] at HC
    have HO := hide hbo
    have hqo : (wr.cell? ⟨r, 1, none⟩) = some (.int .i64 (q : Int)) := by
      obtain ⟨g', c', p0, p1, -⟩ := (unhide hEI).rd.facts (Below.refl _ _)
      exact p1
    replace hqo := hide hqo
    replace hml := hide hml
    have H0 := hide h0
    have HES := hide eS
    clear hbo h0 hbS hsS hhS eS hEI
    go_wp2_with fail
    rw [unhide HES]
    refine (unhide HC).mono ?_
    rintro e w9 ⟨rfl, hb9⟩
    have h9 := (unhide H0).grow de_keep hb9
    have H9 := hide h9
    clear hb9 h9 HC H0
    rcases bo with _ | _
    · have h := unhide H9
      have hZe : Z = .ok (l, q) := h.ch.symm.trans (progL_no (unhide HO))
      have hYe := unhide HY
      rw [hZe] at hYe
      simp only [thenR] at hYe
      have HM := hide (mustEnd_any h.rd (unhide HT))
      replace HY := hide hYe
      have HLr : Hid (RowP w9 22 (fun b => w.heap.size ≤ b) (.slice a m c) l.length fun j cs => ∀ t, l[j]? = some t → DeP w9 (fun b => w.heap.size ≤ b) cs t) := h.row de_keep (by
        have := h.sm
        have := h.rd.lt
        have := (unhide HT).len
        omega)
      clear h hZe hYe
      go_wp2_with fail
      refine (unhide HM).mono ?_
      intro e w8 h8
      rcases hX : endR ts q with ⟨ei, en⟩ | ⟨u, z⟩
      · rw [hX] at h8
        have hYe : Y = .error (ei, en) := by have h := unhide HY; rw [hX] at h; exact h.symm
        subst hYe
        obtain ⟨hb8, h8⟩ := h8
        obtain rfl : e = _ := h8
        have HP := hide ((unhide H9).but.trans hb8)
        clear hb8 HM hX
        go_wp2
        exact ⟨rfl, unhide HP, rfl⟩
      · rw [hX] at h8
        obtain ⟨hb8, hle8, hR8, v8, rfl, hv8⟩ := h8
        obtain rfl : v8 = _ := hv8
        have hYe : Y = .ok (l, z) := by have h := unhide HY; rw [hX] at h; exact h.symm
        subst hYe
        have HP := hide (And.intro hb8 (And.intro hle8 hR8))
        clear hb8 hle8 hR8 HM hX
        go_wp2
        have h := unhide H9
        obtain ⟨hb8, hle8, hR8⟩ := unhide HP
        refine bodyPost_ret (results_tmp rfl _ _ _) rfl ?_
        refine ⟨h.but.trans hb8, Nat.le_trans h.le.1 hle8, hR8, _, rfl, ?_⟩
        refine RowP.keep (P' := fun b => w.heap.size ≤ b) (unhide HLr) ⟨hb8.size, fun k hk hs => hb8.block k hs (by omega)⟩ (fun _ h => h) fun j cs hx t ht => ?_
        obtain ⟨x, e1, e2⟩ := (hx t ht).keep (P' := fun b => w.heap.size ≤ b) ⟨hb8.size, fun k hk hs => hb8.block k hs (by omega)⟩ (fun _ h => h)
        exact ⟨x, e1, e2.toN⟩
    · have h := unhide H9
      have hp1 : q + 1 < ts.length := nx_txt (unhide HT) h.rd.lt (any_two (unhide HO))
      obtain ⟨n, rfl⟩ : ∃ m, n = m + 1 := ⟨n - 1, by have := h.fu; omega⟩
      have hlb : l.length ≤ 1000000 := by
        have := h.sm
        have := h.rd.lt
        have := (unhide HT).len
        omega
      have hm' := unhide hml
      by_cases hlm : m = 100
      · have hch := h.ch
        rw [progL_many (unhide HO) (by omega)] at hch
        have hYe := unhide HY
        rw [← hch] at hYe
        replace hch : .error _ = Y := hYe
        clear hYe
        have HRf := hide (refused_any h.rd (unhide HT) 152)
        have HCh := hide hch
        subst hlm
        clear h hch hp1 hlb hm'
        go_wp2_with fail
        refine (unhide HRf).mono ?_
        rintro e w8 ⟨rfl, hb8⟩
        have HB8 := hide hb8
        clear hb8 HRf
        go_wp2
        obtain rfl := unhide HCh
        exact ⟨rfl, (unhide H9).but.trans (But.of (unhide HB8)), rfl⟩
      · have hch := h.ch
        rw [progL_yes (unhide HO) (by omega)] at hch
        have HCh := hide hch
        have g1 : ¬ (m : Int) = (100 : Int) := by omega
        have g2 : ((m : Int) == (100 : Int)) = false := by simpa using g1
        have g3 : decide ((m : Int) = (100 : Int)) = false := by simpa using g1
        have HC2 := hide (decl_of (unhide HT) (unhide hE) (unhide hSz) h.le.2 h.rd)
        replace hlb := hide hlb
        replace hp1 := hide hp1
        clear h hch hm' hlm
        go_wp2_with fail
        refine (unhide HC2).mono ?_
        intro e w7 h7
        rcases hX : declR ts q with er | ⟨t7, q7⟩
        · rw [hX] at h7
          obtain ⟨ei, en⟩ := er
          have hYe : Y = .error (ei, en) := by have h := unhide HCh; rw [hX] at h; have h2 := unhide HY; rw [← h] at h2; exact h2.symm
          subst hYe
          obtain ⟨hb7, h7⟩ := h7
          obtain rfl : e = _ := h7
          have HP := hide ((unhide H9).but.trans hb7)
          clear hb7 HC2 hX
          go_wp2
          exact ⟨rfl, unhide HP, rfl⟩
        · rw [hX] at h7
          obtain ⟨hb7, hle7, hR7, v7, rfl, x7, rfl, hv7⟩ := h7
          have hLL : deCells t7 x7 = [.bool t7.cell, .string t7.name, .string t7.num, .bool t7.again, .slice x7.pa x7.pn x7.pc, .int .i64 t7.eff, .int .i64 t7.t.kind, .string t7.t.name, .slice x7.ta x7.tn x7.tc, .int .i64 t7.t.at', .slice x7.ra x7.rn x7.rc, .string t7.res, .slice x7.ea x7.en x7.ec, .slice x7.ma x7.mn x7.mc, .int .i64 t7.body.op, .string t7.body.name, .string t7.body.num, .bool t7.body.b, .slice x7.ba x7.bn x7.bc, .int .i64 0, .int .i64 t7.body.at', .int .i64 t7.at'] := rfl
          rw [hLL]
          have hch := unhide HCh
          rw [hX] at hch
          simp only [thenR] at hch
          have h := unhide H9
          have hlt : q + 1 ≤ q7 := declR_lt (unhide HT) (unhide hE) (unhide hSz) h.le.2 h.rd (unhide hp1) hX
          have hown7 : w7.ownsRow w.heap.size 56 22 (.slice a m c) l.length vs.flatten := by
            obtain ⟨k1, k2 | ⟨g, cap, cur, k3, k4, k5, k6⟩⟩ := h.own
            · exact ⟨k1, .inl k2⟩
            · exact ⟨k1, .inr ⟨g, cap, cur, k3, k4, (hb7.block g (blk k5).1 (by omega)).trans k5, k6⟩⟩
          have hs97 := hb7.size
          have hsw := h.but.size
          obtain ⟨g, cap, wa, hrun, hoa, hga, hwa⟩ := app_de (l := [.bool t7.cell, .string t7.name, .string t7.num, .bool t7.again, .slice x7.pa x7.pn x7.pc, .int .i64 t7.eff, .int .i64 t7.t.kind, .string t7.t.name, .slice x7.ta x7.tn x7.tc, .int .i64 t7.t.at', .slice x7.ra x7.rn x7.rc, .string t7.res, .slice x7.ea x7.en x7.ec, .slice x7.ma x7.mn x7.mc, .int .i64 t7.body.op, .string t7.body.name, .string t7.body.num, .bool t7.body.b, .slice x7.ba x7.bn x7.bc, .int .i64 0, .int .i64 t7.body.at', .int .i64 t7.at']) rfl (List.all_eq_true.1 rfl) hown7 (by have := h.sm; have := h.rd.lt; have := (unhide HT).len; omega) (by omega)
          have R1 := hide hrun
          have HQ := hide (And.intro hb7 (And.intro hlt (And.intro hR7 (And.intro hv7 (And.intro hch (And.intro hoa (And.intro hga (And.intro hwa hLL))))))))
          clear hb7 hle7 hR7 hv7 hch h hown7 hs97 hsw hrun hoa hga hwa HC2 hX hlt hLL
          go_wp2_with (at_builtin; refine app_run _ _ _ rfl rfl rfl rfl (unhide R1) ?_; clear R1)
          obtain ⟨hb7, hlt, hR7, hv7, hch, hoa, hga, hwa, hLL⟩ := unhide HQ
          have h := unhide H9
          have hnew := h.more de_keep de_bnd hr hb7 hlt hR7 rfl ⟨x7, hLL.symm, hv7.toP⟩ hch hoa hga hwa
          refine ⟨⟨l ++ [t7], _, q7, n, _, _, _, rfl, by simp, hnew⟩, ?_⟩
          have hqn : wa.cell? ⟨r, 1, none⟩ = some (.int .i64 (q7 : Int)) := by
            obtain ⟨g', c', p0, p1, -⟩ := hnew.rd.facts (Below.refl _ _)
            exact p1
          have e1 : intOf ((wa.cell? ⟨r, 1, none⟩).getD undef) = (q7 : Int) := by rw [hqn]; rfl
          have e2 : intOf ((wr.cell? ⟨r, 1, none⟩).getD undef) = (q : Int) := by rw [unhide hqo]; rfl
          have hlt9 := h.rd.lt
          rw [e1, e2]
          omega
end Go.Proofs.YtfkfnbehdcmgeaaGreatDoor

/- Package parse: Program. -/
namespace Go.Proofs.YtfkfnbehdcmgeaaGreatDoor
open Go Go.RowKit
theorem tkl_sz (s : ByteArray) (j : Nat) : (txt (tkL s) j).size ≤ 65536 := by
  have hall : ∀ x ∈ tkL s, x.2.1.size ≤ 65536 := by
    intro x hx
    unfold tkL at hx
    rcases List.mem_append.1 hx with hx | hx
    · obtain ⟨y, hy, rfl⟩ := List.mem_map.1 hx
      show (s.extract y.2.1 y.2.2).size ≤ 65536
      have hs : s.size ≤ 65536 := by
        rcases Nat.lt_or_ge 65536 s.size with h | h
        · unfold tk at hy
          rw [if_pos h] at hy
          cases hy
        · exact h
      have : (s.extract y.2.1 y.2.2).size ≤ s.size := by simp [ByteArray.size_extract]; omega
      omega
    · obtain rfl := List.mem_singleton.1 hx
      show (⟨#[]⟩ : ByteArray).size ≤ 65536
      decide
  unfold txt nx
  rw [List.getD_eq_getElem?_getD]
  cases h : (tkL s)[j]? with
  | none => show (⟨#[]⟩ : ByteArray).size ≤ 65536; decide
  | some x => exact hall x (List.mem_of_getElem? h)
def progF (ts : List (Int × ByteArray × Int)) : (Except (Int × Int) ((List De) × Nat)) := progR ts 0
theorem progF_eq (ts : List (Int × ByteArray × Int)) : progF ts = progR ts 0 := rfl
/-- What a text is as a program, or its error. -/
def progS (s : ByteArray) : Except (Int × Int) (List De) :=
  match (tk s).2 with
  | some (a, n) => .error (a, n)
  | none => match progF (tkL s) with
    | .ok (t, _) => .ok t
    | .error e => .error e
/-- What Program answers. -/
def ProgP (s : ByteArray) (w : World) (e : Ending) (w' : World) : Prop := Below w.heap.size w w' ∧
  match progS s with
  | .ok t => ∃ v, e = .returned (.tuple #[v, .nilIface]) ∧ IsDs w' w.heap.size v t
  | .error (i, n) => ∃ v, e = .returned (.tuple #[.slice none 0 0, v]) ∧ PErr w' v i n
theorem IsDs.form {w : World} {lo : Nat} {v : Value} {l : List De} (h : IsDs w lo v l) : ∃ (a : Option Addr) (n c : Nat), v = .slice a n c := by
  obtain ⟨a, c, e, -⟩ := h
  exact ⟨_, _, _, e⟩
/-- The box that Program's closure fills. -/
def OutD (ob : Nat) (w : World) (t : List De) : Prop := ∃ v, w.heap[ob]? = some (.cells #[v] 23) ∧ IsDs w (ob + 2) v t
set_option maxRecDepth 100000 in
set_option maxHeartbeats 8000000 in
theorem progClo_any {s : ByteArray} {W : World} {r ob : Nat} (hR : RD W r (tkL s) 0 0) (hz : W.heap[ob]? = some (.cells #[.slice none 0 0] 23)) (hob : ob + 1 < r) :
    Calls Tryz.prog 25 #[.pointer (some ⟨r, 0, none⟩), .pointer (some ⟨ob, 0, none⟩)] W (KP progF (OutD ob) s ob r W) := by
  have hT := tsok_of s
  have hlen := hT.len
  have hE : RuC 59 r (tkL s) 0 0 (exR (tkL s)) := (rules_all hT (tkL s).length 0 0 (by omega) (by omega)).1
  have HC := hide (program_of hT hE (tkl_sz s) (Nat.zero_le 0) hR)
  have hrl := hR.rlt
  have HA := hide (And.intro hz (And.intro hob hrl))
  clear hR hz hob hT hlen hE hrl
  go_enter Tryz.func25, Tryz.ntmps25
  go_wp2_with fail
  refine (unhide HC).mono ?_
  intro e w3 h3
  obtain ⟨hz, hob, hrl⟩ := unhide HA
  rcases hX : progR (tkL s) 0 with ⟨i, n⟩ | ⟨t, q⟩
  · rw [hX] at h3
    obtain ⟨hb3, h3⟩ := h3
    obtain rfl : e = _ := h3
    have HQ := hide (And.intro hb3 hX)
    clear HC hz hob hrl hX hb3
    go_wp2
    obtain ⟨hb3, hX⟩ := unhide HQ
    refine ⟨rfl, ?_⟩
    unfold KP
    rw [progF_eq, hX]
    exact ⟨hb3, rfl⟩
  · rw [hX] at h3
    obtain ⟨hb3, hle, hR3, v, rfl, hv⟩ := h3
    obtain ⟨a4, n4, c4, rfl⟩ := IsDs.form hv
    have hz3 := zkeep hz hb3 (by omega)
    have y0 := (blk hz3).2.1 0 _ rfl
    have z0 := (blk hz3).2.2 0
    have HQ := hide (And.intro hb3 (And.intro hX (And.intro hv (And.intro hz3 (And.intro hob hrl)))))
    clear HC hz hob hrl hX hb3 hle hR3 hv hz3
    go_wp2
    obtain ⟨hb3, hX, hv, hz3, hob, hrl⟩ := unhide HQ
    refine bodyPost_end (results_none rfl _ _ _) rfl ?_
    unfold KP
    rw [progF_eq, hX]
    have k4 := (Bu.of_but (q := ob) hb3).set 0 (.slice a4 n4 c4)
    exact ⟨rfl, k4, _, set_block hz3 _, IsDs.keep hv ((Stays.of (Below.refl _ _)).set (by omega) 0 _) (by omega)⟩
theorem load_ds {W : World} {b : Nat} {v : Value} (h : W.heap[b]? = some (.cells #[v] 23)) : (loadVar 23 ⟨b, 0, none⟩).run Tryz.prog W = .ok v W := by
  have hc : W.cell? ⟨b, 0, none⟩ = some v := (blk h).2.1 0 _ rfl
  go_simp
set_option maxRecDepth 100000 in
set_option maxHeartbeats 8000000 in
theorem pprog_any (s : ByteArray) (w : World) (hG : SG w) : Calls Tryz.prog 13 #[.string s] w (ProgP s w) := by
  obtain ⟨A, eA, hbA, hsA, hzA⟩ := box_new w #[.slice none 0 0] 23
  have h1w := hG.lt
  have HC := hide (pread_any (k := 25) (ob := w.heap.size) (X := progF) (Φ := OutD w.heap.size) s A (hG.below hbA h1w) ⟨fun xs w => by go_simp⟩ (by omega)
    (fun w1 w2 t hb hs h => by
      obtain ⟨v, h1, h2⟩ := h
      exact ⟨v, (hb.block _ (blk h1).1 (by omega)).trans h1, h2.keep (Stays.but hb (by omega)) (Nat.le_refl _)⟩)
    (fun W r hb hr hR => progClo_any hR ((hb.block _ (by omega)).trans hzA) (by omega)))
  have hmf : ∀ (fn : Fn) (first cap : Array Value) (w : World), (Instr.makeFunc fn first cap).run Tryz.prog w = .ok (.func fn first cap) w := fun _ _ _ _ => rfl
  have HA := hide (And.intro hbA (And.intro hzA hsA))
  have HE := hide eA
  clear hbA hzA hsA eA hG h1w
  go_enter Tryz.func13, Tryz.ntmps13
  go_wp2_with fail
  rw [unhide HE]
  refine (unhide HC).mono ?_
  intro e w3 h3
  obtain ⟨hbA, hzA, hsA⟩ := unhide HA
  unfold ReadP at h3
  rcases hS : progS s with ⟨i, n⟩ | t
  · have h4 : Below A.heap.size A w3 ∧ ∃ v, e = .returned v ∧ PErr w3 v i n := by
      unfold progS at hS
      rcases hn : (tk s).2 with _ | ⟨a, m⟩
      · rw [hn] at hS h3
        rcases hX : progF (tkL s) with ⟨a, m⟩ | ⟨t, q⟩
        · rw [hX] at hS h3
          obtain ⟨rfl, rfl⟩ : a = i ∧ m = n := by simpa using hS
          exact h3
        · rw [hX] at hS
          cases hS
      · rw [hn] at hS h3
        obtain ⟨rfl, rfl⟩ : (a : Int) = i ∧ (m : Int) = n := by simpa using hS
        exact h3
    obtain ⟨hb, v, rfl, b, rfl, hd⟩ := h4
    have hz3 := (hb.block _ (by omega)).trans hzA
    have hne : b ≠ w.heap.size := fun e => by
      subst e
      rw [hz3] at hd
      cases hd
    have y0 := (blk hz3).2.1 0 _ rfl
    have z0 := (blk hz3).2.2 0
    have HQ := hide (And.intro hb (And.intro hd (And.intro hz3 (And.intro hne (And.intro hS (And.intro hbA hsA))))))
    clear HC h3 hS hb hd hne hz3 hbA hzA hsA
    go_wp2
    obtain ⟨hb, hd, hz3, hne, hS, hbA, hsA⟩ := unhide HQ
    refine bodyPost_ret (results_two rfl rfl (load_ds (set_block hz3 _)) rfl) rfl ?_
    unfold ProgP
    rw [hS]
    exact ⟨below_set (hbA.trans (hb.mono (by omega))) (Nat.le_refl _) _ _, _, rfl, b, rfl, (heap_set _ _ hne).trans hd⟩
  · have h4 : e = .returned .nilIface ∧ But w.heap.size A w3 ∧ OutD w.heap.size w3 t := by
      unfold progS at hS
      rcases hn : (tk s).2 with _ | ⟨a, m⟩
      · rw [hn] at hS h3
        rcases hX : progF (tkL s) with ⟨a, m⟩ | ⟨t2, q⟩
        · rw [hX] at hS
          cases hS
        · rw [hX] at hS h3
          obtain rfl : t2 = t := by simpa using hS
          exact h3
      · rw [hn] at hS
        cases hS
    obtain ⟨rfl, hb, v, hz3, hv⟩ := h4
    obtain ⟨a4, n4, c4, rfl⟩ := IsDs.form hv
    have y0 := (blk hz3).2.1 0 _ rfl
    have z0 := (blk hz3).2.2 0
    have HQ := hide (And.intro hb (And.intro hv (And.intro hz3 (And.intro hS (And.intro hbA hsA)))))
    clear HC h3 hS hb hv hz3 hbA hzA hsA
    go_wp2
    obtain ⟨hb, hv, hz3, hS, hbA, hsA⟩ := unhide HQ
    refine bodyPost_ret (results_two rfl rfl (load_ds (set_block hz3 _)) rfl) rfl ?_
    unfold ProgP
    rw [hS]
    have hb9 : Below w.heap.size w w3 := ⟨hb.os.trans hbA.os, hb.tape.trans hbA.tape, hb.output.trans hbA.output, Nat.le_trans hbA.size hb.size, fun j hj => (hb.block j (by omega) (by omega)).trans (hbA.block j hj)⟩
    exact ⟨below_set hb9 (Nat.le_refl _) _ _, _, rfl, IsDs.keep hv ((Stays.of (Below.refl _ _)).set (by omega) 0 _) (by omega)⟩
end Go.Proofs.YtfkfnbehdcmgeaaGreatDoor

/- The statements of package parse: the chapter's example. -/
namespace Go.Proofs.YtfkfnbehdcmgeaaGreatDoor
open Go Go.RowKit
def tx1 : ByteArray := ⟨#[49, 32, 43, 32, 50, 32, 42, 32, 120]⟩
def tx2 : ByteArray := ⟨([114, 101, 102, 32, 99, 32, 58, 61, 32, 45, 51, 59, 59, 32, 108, 101, 116, 32, 102, 32, 40, 120, 32, 58, 32, 105, 110, 116, 41, 32, 58, 32].append [80, 117, 114, 101, 32, 123, 114, 32, 58, 32, 105, 110, 116, 32, 124, 32, 114, 32, 62, 32, 120, 125, 32, 105, 115, 32, 120, 32, 43, 32, 49, 59, 59]).toArray⟩
def tx3 : ByteArray := ⟨#[108, 101, 116, 32, 102, 32, 58, 32, 80, 117, 114, 101, 32, 105, 110, 116, 32, 105, 115, 32, 49]⟩
def ck1 (x : Except (Int × Int) Ex) : Bool := match x with
  | .ok (.mk op _ _ _ [_, .mk o2 _ _ _ _ _] _) => decide (op = 10) && decide (o2 = 9)
  | _ => false
def ck2 (x : Except (Int × Int) (List De)) : Bool := match x with
  | .ok [a, b] => decide (a.num = ⟨#[45, 51]⟩) && decide (b.ps.length = 1) && decide (b.t.r.length = 1)
  | _ => false
def ck3 (x : Except (Int × Int) (List De)) : Bool := match x with
  | .error (i, n) => decide (i = 21) && decide (n = 150)
  | _ => false
theorem ev1 : ck1 (exprS tx1) = true := by kernel_rfl
theorem ev2 : ck2 (progS tx2) = true := by kernel_rfl
theorem ev3 : ck3 (progS tx3) = true := by kernel_rfl
end Go.Proofs.YtfkfnbehdcmgeaaGreatDoor

/- The statements of package parse: known. -/
namespace Go.Proofs.YtfkfnbehdcmgeaaGreatDoor
open Go Go.RowKit
theorem ck1_of {x : Except (Int × Int) Ex} (h : ck1 x = true) : ∃ nm nu bl u n2 m2 b2 l2 i2 i, x = .ok (.mk 10 nm nu bl [u, .mk 9 n2 m2 b2 l2 i2] i) := by
  unfold ck1 at h
  split at h
  · simp only [Bool.and_eq_true, decide_eq_true_eq] at h
    obtain ⟨rfl, rfl⟩ := h
    exact ⟨_, _, _, _, _, _, _, _, _, _, rfl⟩
  · cases h
theorem ck2_of {x : Except (Int × Int) (List De)} (h : ck2 x = true) : ∃ a b, x = .ok [a, b] ∧ a.num = ⟨#[45, 51]⟩ ∧ b.ps.length = 1 ∧ b.t.r.length = 1 := by
  unfold ck2 at h
  split at h
  · simp only [Bool.and_eq_true, decide_eq_true_eq] at h
    exact ⟨_, _, rfl, h.1.1, h.1.2, h.2⟩
  · cases h
theorem ck3_of {x : Except (Int × Int) (List De)} (h : ck3 x = true) : x = .error (21, 150) := by
  unfold ck3 at h
  split at h
  · simp only [Bool.and_eq_true, decide_eq_true_eq] at h
    rw [h.1, h.2]
  · cases h
/-- Two expressions as they lie: the second one's operator. -/
theorem two_op {w : World} {lo : Nat} {v : Value} {op i o2 i2 : Int} {nm nu n2 m2 : ByteArray} {bl b2 : Bool} {u : Ex} {l2 : List Ex} (h : IsE w lo v (.mk op nm nu bl [u, .mk o2 n2 m2 b2 l2 i2] i)) :
    ∃ b off c, v = .agg #[.int .i64 op, .string nm, .string nu, .bool bl, .slice (some ⟨b, off, none⟩) 2 c, .int .i64 0, .int .i64 i] ∧ b < w.heap.size ∧ w.cell? ⟨b, off + 7, none⟩ = some (.int .i64 o2) ∧ 2 ≤ c := by
  obtain ⟨k, a, c, rfl, h1, h2, h3⟩ := h
  obtain ⟨b, off, rfl, -, hb, hj⟩ := h3 (by simp)
  have h4 := hj 1 (by simp) _ rfl
  obtain ⟨k, hk⟩ : ∃ m, k = m + 1 := by
    cases k with
    | zero => exact h4.elim
    | succ k => exact ⟨k, rfl⟩
  subst hk
  obtain ⟨a2, c2, h5, -⟩ := h4
  exact ⟨b, off, c, rfl, hb, h5 0 _ rfl, by simpa using h1⟩
theorem two_de {w : World} {lo : Nat} {v : Value} {x y : De} (h : IsDs w lo v [x, y]) :
    ∃ b off c pa pc ta tc, v = .slice (some ⟨b, off, none⟩) 2 c ∧ 2 ≤ c ∧ b < w.heap.size ∧ w.cell? ⟨b, off + 2, none⟩ = some (.string x.num) ∧ w.cell? ⟨b, off + 26, none⟩ = some (.slice pa y.ps.length pc) ∧ w.cell? ⟨b, off + 30, none⟩ = some (.slice ta y.t.r.length tc) := by
  obtain ⟨a, c, rfl, h1, h2, h3⟩ := h
  obtain ⟨b, off, rfl, -, hb, hj⟩ := h3 (by simp)
  obtain ⟨cs0, r0, p0⟩ := hj 0 (by simp)
  obtain ⟨cs1, r1, p1⟩ := hj 1 (by simp)
  obtain ⟨x0, rfl, d0⟩ := p0 x rfl
  obtain ⟨x1, rfl, d1⟩ := p1 y rfl
  obtain ⟨pa, pc, e1, -⟩ := d1.ps
  obtain ⟨-, ta, tc, e2, -⟩ := d1.ty
  have k1 : x1.pn = y.ps.length := by simpa using (congrArg (fun v => match v with | Value.slice _ n _ => n | _ => 0) e1)
  have k2 : x1.tn = y.t.r.length := by simpa using (congrArg (fun v => match v with | Value.slice _ n _ => n | _ => 0) e2)
  refine ⟨b, off, c, x1.pa, x1.pc, x1.ta, x1.tc, rfl, by simpa using h1, hb, ?_, ?_, ?_⟩
  · have := r0 2 _ rfl
    simpa using this
  · have := r1 4 _ rfl
    rw [← k1]
    simpa using this
  · have := r1 8 _ rfl
    rw [← k2]
    simpa using this
set_option maxRecDepth 100000 in
set_option maxHeartbeats 8000000 in
theorem known15_any (w : World) (hG : SG w) (hE : EH w) : Calls Tryz.prog 12 #[] w fun e w' => e = .returned (.bool true) ∧ Below w.heap.size w w' := by
  have h1w := hG.lt
  have C1 := hide (pexpr_any tx1 w hG)
  have HGE := hide (And.intro hG (And.intro hE h1w))
  clear hG hE h1w
  go_enter Tryz.func12, Tryz.ntmps12
  go_wp2_with fail
  refine (unhide C1).mono ?_
  rintro e w1 ⟨hb1, h1⟩
  obtain ⟨nm, nu, bl, u, n2, m2, b2, l2, i2, i, hx⟩ := ck1_of ev1
  rw [hx] at h1
  obtain ⟨v, rfl, hv⟩ := h1
  obtain ⟨gb, off, c, rfl, hgb, hop, hc2⟩ := two_op hv
  obtain ⟨B, eB, hbB, hsB, hhB⟩ := box_new w1 #[.int .i64 10, .string nm, .string nu, .bool bl, .slice (some ⟨gb, off, none⟩) 2 c, .int .i64 0, .int .i64 i] 36
  obtain ⟨hG, hE, h1w⟩ := unhide HGE
  have hwB : Below w.heap.size w B := hb1.trans (hbB.mono hb1.size)
  have C2 := hide (pprog_any tx2 B (hG.below hwB h1w))
  have HB := hide (And.intro hwB (And.intro hbB (And.intro hhB (And.intro hgb hop))))
  have HEB := hide eB
  clear C1 hb1 hv hgb hop hx eB hbB hsB hhB hG hE h1w hwB
  go_wp2_with fail
  rw [unhide HEB]
  refine (unhide C2).mono ?_
  rintro e w2 ⟨hb2, h2⟩
  obtain ⟨xa, xb, hx, hxn, hxp, hxr⟩ := ck2_of ev2
  rw [hx] at h2
  obtain ⟨v, rfl, hv⟩ := h2
  obtain ⟨db, doff, dc, pa, pc, ta, tc, rfl, hdc, hdb, d0, d1, d2⟩ := two_de hv
  rw [hxn] at d0
  rw [hxp] at d1
  rw [hxr] at d2
  obtain ⟨hG, hE, h1w⟩ := unhide HGE
  have hw2 : Below w.heap.size w w2 := (unhide HB).1.trans (hb2.mono (unhide HB).1.size)
  have C3 := hide (pprog_any tx3 w2 (hG.below hw2 h1w))
  have HD := hide (And.intro hw2 (And.intro hb2 (And.intro hdb (And.intro d0 (And.intro d1 d2)))))
  clear C2 hb2 hv hdb d0 d1 d2 hx hxn hxp hxr hG hE h1w hw2
  go_wp2_with fail
  refine (unhide C3).mono ?_
  rintro e w3 ⟨hb3, h3⟩
  rw [ck3_of ev3] at h3
  obtain ⟨v, rfl, pb, rfl, hp⟩ := h3
  obtain ⟨hG, hE, h1w⟩ := unhide HGE
  have hw3 : Below w.heap.size w w3 := (unhide HD).1.trans (hb3.mono (unhide HD).1.size)
  have C4 := hide (told_err 21 150 pb w3 (hE.below hw3 (by omega)) hp)
  have H3 := hide (And.intro hw3 hb3)
  clear C3 hb3 hp hG hE h1w hw3
  go_wp2_with fail
  refine (unhide C4).mono ?_
  rintro e w4 ⟨rfl, hb4⟩
  obtain ⟨hwB, hbB, hhB, hgb, hop⟩ := unhide HB
  obtain ⟨hw2, hb2, hdb, d0, d1, d2⟩ := unhide HD
  obtain ⟨hw3, hb3⟩ := unhide H3
  have hB4 : Below B.heap.size B w4 := (hb2.trans (hb3.mono hb2.size)).trans (hb4.mono (Nat.le_trans hb2.size hb3.size))
  have h24 : Below w2.heap.size w2 w4 := hb3.trans (hb4.mono hb3.size)
  have hh4 := (hB4.block _ (blk hhB).1).trans hhB
  have y0 := (blk hh4).2.1 0 _ rfl
  have y4 := (blk hh4).2.1 4 _ rfl
  have y7 : w4.cell? ⟨gb, off + 7, none⟩ = some (.int .i64 9) := ((hB4.cell (p := ⟨gb, off + 7, none⟩) (Nat.lt_of_lt_of_le hgb hbB.size)).trans (hbB.cell (p := ⟨gb, off + 7, none⟩) hgb)).trans hop
  have e0 := (h24.cell (p := ⟨db, doff + 2, none⟩) hdb).trans d0
  have e1 := (h24.cell (p := ⟨db, doff + 26, none⟩) hdb).trans d1
  have e2 := (h24.cell (p := ⟨db, doff + 30, none⟩) hdb).trans d2
  have HW := hide (hw3.trans (hb4.mono hw3.size))
  obtain ⟨NN, hNN⟩ : ∃ x : ByteArray, ⟨#[45, 51]⟩ = x := ⟨_, rfl⟩
  have en : (NN.toList == [45, 51]) = true := by rw [← hNN, Lib.toList_data]; rfl
  rw [hNN] at e0
  clear hwB hbB hhB hgb hop hw2 hb2 hdb d0 d1 d2 hw3 hb3 hB4 h24 hh4 hb4 C4 hNN
  go_wp2
  go_ret
  exact ⟨rfl, unhide HW⟩
end Go.Proofs.YtfkfnbehdcmgeaaGreatDoor

/- The statements of package parse: ParseDeep. -/
namespace Go.Proofs.YtfkfnbehdcmgeaaGreatDoor
open Go Go.RowKit
set_option maxRecDepth 100000 in
set_option maxHeartbeats 16000000 in
theorem told_errI (a n : Int) (b : Nat) (w : World) (hE : EH w) (hb : w.heap[b]? = some (.cells #[.int .i64 a, .int .i64 n] 66)) : Calls Tryz.prog 14 #[.iface 61 (.pointer (some ⟨b, 0, none⟩))] w fun e w' => e = .returned (.tuple #[.int .i64 a, .int .i64 n]) ∧ Below w.heap.size w w' := by
  have hlt : b < w.heap.size := (Array.getElem?_eq_some_iff.1 hb).1
  have hb0 : w.cell? ⟨b, 0, none⟩ = some (.int .i64 a) := by simp only [World.cell?, hb]; rfl
  have hb1 : w.cell? ⟨b, 1, none⟩ = some (.int .i64 n) := by simp only [World.cell?, hb]; rfl
  have c := as_short ⟨b, 0, none⟩ ⟨w.heap.size, 0, none⟩ (.pointer none) (w.alloc (.cells #[.pointer none] 61)) (hE.below ((Below.refl w.heap.size w).alloc (Nat.le_refl _) _) hE.lt) (by simp) (by simp)
  replace hb := hide hb
  replace hE := hide hE
  go_enter Tryz.func14, Tryz.ntmps14
  go_wp2_with (refine c.mono ?_; rintro e W ⟨rfl, c1, c2, c3⟩; have q0 := c2 ⟨b, 0, none⟩ (by simp; omega) (by simp; omega); have q1 := c2 ⟨b, 1, none⟩ (by simp; omega) (by simp; omega); have hB := c3 w.heap.size (by simp); rw [World.cell?_alloc_lt _ _ ⟨b, 0, none⟩ hlt, hb0] at q0; rw [World.cell?_alloc_lt _ _ ⟨b, 1, none⟩ hlt, hb1] at q1; replace c2 := hide c2; replace c3 := hide c3)
  go_quiet (fail)
  go_wp2
  go_ret2
  have h := ((Below.refl w.heap.size w).alloc (Nat.le_refl _) _).trans hB
  exact ⟨rfl, ⟨h.os, h.tape, h.output, h.size, h.block⟩⟩

theorem dck_of {h j : Nat} (hh : h < 7) (hj : j < 6) : dck h (197 + j) = true := by
  rcases h with _ | _ | _ | _ | _ | _ | _ | h
  · rcases j with _ | _ | _ | _ | _ | _ | j
    · exact dck_0_197
    · exact dck_0_198
    · exact dck_0_199
    · exact dck_0_200
    · exact dck_0_201
    · exact dck_0_202
    · omega
  · rcases j with _ | _ | _ | _ | _ | _ | j
    · exact dck_1_197
    · exact dck_1_198
    · exact dck_1_199
    · exact dck_1_200
    · exact dck_1_201
    · exact dck_1_202
    · omega
  · rcases j with _ | _ | _ | _ | _ | _ | j
    · exact dck_2_197
    · exact dck_2_198
    · exact dck_2_199
    · exact dck_2_200
    · exact dck_2_201
    · exact dck_2_202
    · omega
  · rcases j with _ | _ | _ | _ | _ | _ | j
    · exact dck_3_197
    · exact dck_3_198
    · exact dck_3_199
    · exact dck_3_200
    · exact dck_3_201
    · exact dck_3_202
    · omega
  · rcases j with _ | _ | _ | _ | _ | _ | j
    · exact dck_4_197
    · exact dck_4_198
    · exact dck_4_199
    · exact dck_4_200
    · exact dck_4_201
    · exact dck_4_202
    · omega
  · rcases j with _ | _ | _ | _ | _ | _ | j
    · exact dck_5_197
    · exact dck_5_198
    · exact dck_5_199
    · exact dck_5_200
    · exact dck_5_201
    · exact dck_5_202
    · omega
  · rcases j with _ | _ | _ | _ | _ | _ | j
    · exact dck_6_197
    · exact dck_6_198
    · exact dck_6_199
    · exact dck_6_200
    · exact dck_6_201
    · exact dck_6_202
    · omega
  · omega
theorem oL_len (h : Nat) : (oL h).length ≤ 17 := by
  unfold oL
  split <;> decide
theorem eL_len (h : Nat) : (eL h).length ≤ 1 := by
  unfold eL
  split <;> decide
set_option maxRecDepth 100000 in
set_option maxHeartbeats 16000000 in
theorem deep_walk (a b : Int) (w : World) (hG : SG w) (hE : EH w) (hU : Lib.Utf8Tabs 2 3 w) : Calls Tryz.prog 6 #[.int .i64 a, .int .i64 b] w fun e w' => e = .returned (.bool true) ∧ Below w.heap.size w w' := by
  obtain ⟨j, hj, hj6⟩ : ∃ k : Nat, plc a 6 = (k : Int) ∧ k < 6 := ⟨(plc a 6).toNat, by have := plc_in a (n := 6) (by omega); omega, by have := plc_in a (n := 6) (by omega); omega⟩
  obtain ⟨k, hk, hk7⟩ : ∃ k : Nat, plc b 7 = (k : Int) ∧ k < 7 := ⟨(plc b 7).toNat, by have := plc_in b (n := 7) (by omega); omega, by have := plc_in b (n := 7) (by omega); omega⟩
  have hP1 := fun W => place_any a 6 W (by omega) (by omega)
  have hP2 := fun W => place_any b 7 W (by omega) (by omega)
  rw [hj] at hP1
  rw [hk] at hP2
  replace hP1 := hide hP1
  replace hP2 := hide hP2
  have h1w := hG.lt
  have h3w := u8_lt hU
  have C0 := hide (known15_any w hG hE)
  have HGE := hide (And.intro hG (And.intro hE (And.intro hU (And.intro h1w h3w))))
  have gj : (j : Int) < 6 := by omega
  have gj0 : (0 : Int) ≤ (j : Int) := by omega
  have HK := hide (And.intro hj6 hk7)
  clear hj hk hG hE hU h1w h3w hj6 hk7
  go_enter Tryz.func6, Tryz.ntmps6
  generalize hQQ : bodyPost Tryz.prog Tryz.f6 (fun e w' => e = .returned (.bool true) ∧ Below w.heap.size w w') = QQ
  have HQQ := hide hQQ
  clear hQQ
  go_wp2_with fail
  refine (unhide C0).mono ?_
  rintro e w1 ⟨rfl, hb1⟩
  have HB1 := hide hb1
  clear C0 hb1
  go_wp2_with fail
  refine (unhide hP1 _).mono ?_
  rintro e w2 ⟨rfl, rfl⟩
  go_wp2_with fail
  refine deep_r4 (k := k) (how := b) rfl rfl (unhide HK).2 (unhide hP2) ?_
  intro a2 W2 hd hkk hsz h5 h6 hb2
  obtain ⟨x, hae, hxx⟩ := act_set (N := 86) (kept := ((List.range 86).filter fun i => !([5, 6, 22, 23, 24, 25, 26, 27, 28, 29, 30, 31].contains i))) [5, 6, 22, 23, 24, 25, 26, 27, 28, 29, 30, 31] (by decide) hd hsz rfl hkk
  have hx5 : x 5 = .string ⟨(oL k).toArray⟩ := by rw [hxx, Array.getD_eq_getD_getElem?, h5]; rfl
  have hx6 : x 6 = .string ⟨(eL k).toArray⟩ := by rw [hxx, Array.getD_eq_getD_getElem?, h6]; rfl
  subst hae
  replace HB1 := hide ((unhide HB1).trans (hb2.mono (unhide HB1).size))
  clear hd hkk hsz h5 h6 hb2 hxx
  simp only [setAll]
  rw [hx5, hx6]
  clear hx5 hx6
  have lo := oL_len k
  have le := eL_len k
  obtain ⟨n, hn⟩ : ∃ n, n = 197 + j := ⟨_, rfl⟩
  have gn : (n : Int) ≤ 202 := by omega
  have gn0 : (0 : Int) ≤ (n : Int) := by omega
  have en : (197 : Int) + (j : Int) = (n : Int) := by omega
  simp only [en]
  have hfin : Hid (szD k n ≤ 65536 ∧ dck k n = true) := ⟨by
    unfold szD
    have h1 : (oL k).length * n ≤ 17 * 202 := Nat.mul_le_mul lo (by omega)
    have h2 : (eL k).length * n ≤ 1 * 202 := Nat.mul_le_mul le (by omega)
    omega, by rw [hn]; exact dck_of (unhide HK).2 (unhide HK).1⟩
  have hlO : Hid (∀ i, i ≤ n → (rpB i (oL k)).size ≤ 3434) := fun i hi => by
    rw [rpB_size]
    have h1 : (oL k).length * i ≤ 17 * 202 := Nat.mul_le_mul lo (by omega)
    omega
  have hlE : Hid (∀ i, i ≤ n → (rpB i (eL k)).size ≤ 202) := fun i hi => by
    rw [rpB_size]
    have h1 : (eL k).length * i ≤ 1 * 202 := Nat.mul_le_mul le (by omega)
    omega
  obtain ⟨O, hO⟩ : ∃ O : ByteArray, (⟨(oL k).toArray⟩ : ByteArray) = O := ⟨_, rfl⟩
  obtain ⟨E, hE0⟩ : ∃ E : ByteArray, (⟨(eL k).toArray⟩ : ByteArray) = E := ⟨_, rfl⟩
  rw [hO, hE0]
  have hOs : O.size ≤ 17 := by rw [← hO]; exact lo
  have hEs : E.size ≤ 1 := by rw [← hE0]; exact le
  have HO := hide hO
  have HE0 := hide hE0
  clear hO hE0 hn en lo le gj gj0
  go_wp2_with fail
  go_loopw [7, 8] (fun tv iv wr => ∃ (i : Nat) (T : ByteArray), i ≤ n ∧ iv = .int .i64 i ∧ tv = .string T ∧ Hid (T = rpB i (oL k)) ∧ wr = W2) (fun _ iv _ => n - (intOf iv).toNat)
  case atStart => exact ⟨0, _, Nat.zero_le _, rfl, rfl, rfl, rfl⟩
  case round =>
    obtain ⟨i, T, hi0, rfl, rfl, hT, rfl⟩ := hrel
    have hTs : Hid (T.size ≤ 3434) := by
      show _ ≤ _
      rw [unhide hT]
      exact unhide hlO i hi0
    have gi0 : (0 : Int) ≤ (i : Int) := by omega
    by_cases hi : i < n
    · have gi : (i : Int) < (n : Int) := by omega
      have hov : (9223372036854775807 < T.size + O.size) = False := by simp; have := unhide hTs; omega
      replace hi0 := hide hi0
      have hiN := hi
      clear hi
      go_wp2
      refine ⟨⟨i + 1, _, by omega, by simp, rfl, ?_, (by first | rfl | trivial)⟩, ?_⟩
      · show _ = _
        rw [unhide hT, ← unhide HO]
        exact rpB_succ i (oL k)
      · simp [intOf]; omega
    · obtain rfl : i = n := by omega
      have hov : (9223372036854775807 < T.size + 1) = False := by simp; have := unhide hTs; omega
      clear hi
      go_wp2_with fail
      go_loopw [7, 9] (fun tv iv wr2 => ∃ (u : Nat) (U : ByteArray), u ≤ i ∧ iv = .int .i64 u ∧ tv = .string U ∧ Hid (U = rpB i (oL k) ++ ⟨#[49]⟩ ++ rpB u (eL k)) ∧ wr2 = wr) (fun _ iv _ => i - (intOf iv).toNat)
      case atStart =>
        refine ⟨0, _, Nat.zero_le _, rfl, rfl, ?_, rfl⟩
        show _ = _
        rw [unhide hT]
        have e0 : rpB 0 (eL k) = ⟨#[]⟩ := rfl
        rw [e0]
        exact (ByteArray.append_empty).symm
      case round =>
        obtain ⟨u, U, hu0, rfl, rfl, hU, rfl⟩ := hrel
        have hUs : Hid (U.size ≤ 4000) := by
          show _ ≤ _
          rw [unhide hU, ByteArray.size_append, ByteArray.size_append]
          have h1 := unhide hlO i hi0
          have h2 := unhide hlE u hu0
          have h3 : (⟨#[49]⟩ : ByteArray).size = 1 := rfl
          omega
        have gu0 : (0 : Int) ≤ (u : Int) := by omega
        by_cases hu : u < i
        · have gu : (u : Int) < (i : Int) := by omega
          have hovu : (9223372036854775807 < U.size + E.size) = False := by simp; have := unhide hUs; omega
          replace hu0 := hide hu0
          have huN := hu
          clear hu
          go_wp2
          refine ⟨⟨u + 1, _, by omega, by simp, rfl, ?_, (by first | rfl | trivial)⟩, ?_⟩
          · show _ = _
            rw [unhide hU, ← unhide HE0, ByteArray.append_assoc, rpB_succ]
          · simp [intOf]; omega
        · obtain rfl : u = i := by omega
          have hX : U = txD k u := unhide hU
          obtain ⟨hG, hE, hUt, h1w, h3w⟩ := unhide HGE
          have hB1 := unhide HB1
          have hsz1 := hB1.size
          have hG1 := hG.below hB1 h1w
          rcases dck_ok (unhide hfin).1 (unhide hfin).2 with ⟨hlt, t, e1, e2⟩ | ⟨hge, pa, e1, e2⟩
          · rw [← hX] at e1 e2
            have C1 := hide (pexpr_any U wr hG1)
            unfold ExprP at C1
            rw [e1] at C1
            have HE2 := hide e2
            have gge : decide ((200 : Int) ≤ (u : Int)) = false := by simp; omega
            have gge2 : ¬ (200 : Int) ≤ (u : Int) := by omega
            clear e1 e2 hX hlt hG hE hUt h1w h3w hB1 hsz1 hG1 hu hov hUs hTs hu0 hi0 hfin hlO hlE hU hT
            go_wp2_with fail
            refine (unhide C1).mono ?_
            rintro e w4 ⟨hb4, v4, rfl, hv4⟩
            obtain ⟨i4, j4, s4, m4, b4, a4, n4, c4, rfl⟩ := hv4.form
            obtain ⟨B4, eB4, hbB4, hsB4, hhB4⟩ := box_new w4 #[.int .i64 i4, .string s4, .string m4, .bool b4, .slice a4 n4 c4, .int .i64 0, .int .i64 j4] 36
            have HV4 := hide (hv4.keep (lo' := wr.heap.size) (Stays.of hbB4) (Nat.le_refl _))
            have HB4 := hide ((unhide HB1).trans ((hb4.trans (hbB4.mono hb4.size)).mono (unhide HB1).size))
            have HH4 := hide hhB4
            have HE4 := hide eB4
            have C2 := hide (told_nil B4)
            clear C1 hb4 hv4 eB4 hbB4 hsB4 hhB4
            go_wp2_with fail
            rw [unhide HE4]
            refine (unhide C2).mono ?_
            rintro e w5 ⟨rfl, rfl⟩
            obtain ⟨hG, hE, hUt, h1w, h3w⟩ := unhide HGE
            have C3 := hide (rexpr_any U w5 (u8_below hUt (unhide HB4) h3w))
            unfold RExprP at C3
            rw [unhide HE2] at C3
            clear C2 HE2 hG hE hUt h1w h3w
            go_wp2_with fail
            refine (unhide C3).mono ?_
            rintro e w6 ⟨hb6, v6, rfl, hv6⟩
            obtain ⟨i6, j6, s6, m6, b6, a6, n6, c6, rfl⟩ := hv6.form
            obtain ⟨B6, eB6, hbB6, hsB6, hhB6⟩ := box_new w6 #[.int .i64 i6, .string s6, .string m6, .bool b6, .slice a6 n6 c6, .int .i64 0, .int .i64 j6] 36
            have hb56 := hb6.trans (hbB6.mono hb6.size)
            have HV6 := hide (hv6.keep (lo' := w5.heap.size) (Stays.of hbB6) (Nat.le_refl _))
            replace HV4 := hide ((unhide HV4).keep (lo' := wr.heap.size) (Stays.of hb56) (Nat.le_refl _))
            replace HH4 := hide ((hb56.block _ (blk (unhide HH4)).1).trans (unhide HH4))
            have HB6 := hide ((unhide HB4).trans (hb56.mono (unhide HB4).size))
            have HH6 := hide hhB6
            have HE6 := hide eB6
            have C4 := hide (help_same (unhide HV4) (unhide HV6))
            obtain ⟨y0, y1, y2, y3, y4, y5, y6⟩ := blk7 (unhide HH4)
            obtain ⟨z0, z1, z2, z3, z4, z5, z6⟩ := blk7 (unhide HH6)
            rw [← unhide HE6] at y0 y1 y2 y3 y4 y5 y6 z0 z1 z2 z3 z4 z5 z6
            clear C3 hb6 hv6 eB6 hbB6 hsB6 hhB6 hb56
            go_wp2_with fail
            rw [unhide HE6]
            refine (unhide C4).mono ?_
            rintro e w7 ⟨rfl, hb7⟩
            have HF := hide ((unhide HB6).trans (hb7.mono (unhide HB6).size))
            clear C4 hb7 y0 y1 y2 y3 y4 y5 y6 z0 z1 z2 z3 z4 z5 z6
            go_wp2
            rw [← unhide HQQ]
            exact bodyPost_ret (res_t rfl rfl) rfl ⟨rfl, unhide HF⟩
          · rw [← hX] at e1 e2
            have C1 := hide (pexpr_any U wr hG1)
            unfold ExprP at C1
            rw [e1] at C1
            unfold zE at C1
            have HE2 := hide e2
            have gge : decide ((200 : Int) ≤ (u : Int)) = true := by simp; omega
            have gge2 : (200 : Int) ≤ (u : Int) := by omega
            clear e1 e2 hX hge hG hE hUt h1w h3w hB1 hsz1 hG1 hu hov hUs hTs hu0 hi0 hfin hlO hlE hU hT
            go_wp2_with fail
            refine (unhide C1).mono ?_
            rintro e w4 ⟨hb4, v4, rfl, pb, rfl, hp⟩
            obtain ⟨B4, eB4, hbB4, hsB4, hhB4⟩ := box_new w4 #[.int .i64 0, .string ⟨#[]⟩, .string ⟨#[]⟩, .bool false, .slice none 0 0, .int .i64 0, .int .i64 0] 36
            have HB4 := hide ((unhide HB1).trans ((hb4.trans (hbB4.mono hb4.size)).mono (unhide HB1).size))
            have HH4 := hide hhB4
            have HE4 := hide eB4
            have hEB : EH B4 := (unhide HGE).2.1.below (unhide HB4) (unhide HGE).2.1.lt
            have C2 := hide (told_errI pa 151 pb B4 hEB ((hbB4.block _ (blk hp).1).trans hp))
            clear C1 hb4 hp eB4 hbB4 hsB4 hhB4 hEB
            go_wp2_with fail
            rw [unhide HE4]
            refine (unhide C2).mono ?_
            rintro e w5 ⟨rfl, hb5⟩
            replace HH4 := hide ((hb5.block _ (blk (unhide HH4)).1).trans (unhide HH4))
            have HB5 := hide ((unhide HB4).trans (hb5.mono (unhide HB4).size))
            obtain ⟨hG, hE, hUt, h1w, h3w⟩ := unhide HGE
            have C3 := hide (rexpr_any U w5 (u8_below hUt (unhide HB5) h3w))
            unfold RExprP at C3
            rw [unhide HE2] at C3
            unfold zE at C3
            clear C2 HE2 hG hE hUt h1w h3w hb5
            go_wp2_with fail
            refine (unhide C3).mono ?_
            rintro e w6 ⟨hb6, rfl⟩
            obtain ⟨B6, eB6, hbB6, hsB6, hhB6⟩ := box_new w6 #[.int .i64 0, .string ⟨#[]⟩, .string ⟨#[]⟩, .bool false, .slice none 0 0, .int .i64 0, .int .i64 0] 36
            have hb56 := hb6.trans (hbB6.mono hb6.size)
            replace HH4 := hide ((hb56.block _ (blk (unhide HH4)).1).trans (unhide HH4))
            have HB6 := hide ((unhide HB5).trans (hb56.mono (unhide HB5).size))
            have HH6 := hide hhB6
            have HE6 := hide eB6
            have C4 := hide (help_same (w := B6) (leaf (W := B6) (lo := 0) 0 0 ⟨#[]⟩ ⟨#[]⟩ false) (leaf (W := B6) (lo := 0) 0 0 ⟨#[]⟩ ⟨#[]⟩ false))
            obtain ⟨y0, y1, y2, y3, y4, y5, y6⟩ := blk7 (unhide HH4)
            obtain ⟨z0, z1, z2, z3, z4, z5, z6⟩ := blk7 (unhide HH6)
            rw [← unhide HE6] at y0 y1 y2 y3 y4 y5 y6 z0 z1 z2 z3 z4 z5 z6
            clear C3 hb6 eB6 hbB6 hsB6 hhB6 hb56
            go_wp2_with fail
            rw [unhide HE6]
            refine (unhide C4).mono ?_
            rintro e w7 ⟨rfl, hb7⟩
            have HF := hide ((unhide HB6).trans (hb7.mono (unhide HB6).size))
            clear C4 hb7 y0 y1 y2 y3 y4 y5 y6 z0 z1 z2 z3 z4 z5 z6
            go_wp2
            rw [← unhide HQQ]
            exact bodyPost_ret (res_t rfl rfl) rfl ⟨rfl, unhide HF⟩
end Go.Proofs.YtfkfnbehdcmgeaaGreatDoor

namespace Go.Proofs.YtfkfnbehdcmgeaaGreatDoor
open Go Go.RowKit

theorem la_et : Tryz.prog.globalNamed "errors.errorType" = some 0 := by kernel_rfl
theorem la_rt : (Tryz.prog.cutTypes.find? (·.1 == "internal/reflectlite.rtype")).map (·.2) = some 114 := by kernel_rfl
theorem la_one : ((List.range Tryz.prog.types.size).filter fun t => Tryz.prog.rowNamed t [101, 114, 114, 111, 114]) = [25] := by kernel_rfl
theorem eh_of {W : World} (h : handlesMet Tryz.prog [("errors.errorType", Rows.laid_errors_errorType)] W) : EH W := by
  obtain ⟨name, u, ty, e1, e2, e3, e4, e5⟩ := h _ (List.mem_singleton.2 rfl)
  have en : name = [101, 114, 114, 111, 114] := (Option.some.inj e1).symm
  subst en
  obtain rfl := Option.some.inj (la_rt.symm.trans e2)
  have hm : ty ∈ (List.range Tryz.prog.types.size).filter fun t => Tryz.prog.rowNamed t [101, 114, 114, 111, 114] := List.mem_filter.2 ⟨List.mem_range.2 e3, e4⟩
  rw [la_one] at hm
  obtain rfl := List.mem_singleton.1 hm
  have hh : typeHandle Tryz.prog 25 = .pointer (some ⟨4, 25, none⟩) := by kernel_rfl
  rw [hh] at e5
  have := World.var?_cell la_et e5 0
  simpa [EH] using this
theorem la_sg : Tryz.prog.globalNamed "avow/lex.signs" = some 1 := by kernel_rfl
theorem la_st : (Tryz.prog.globals[1]?).map (·.type) = some 139 := by kernel_rfl
theorem la_arr : Tryz.prog.underlying 139 = some (.array 25 9) := by kernel_rfl
theorem la_ca : Tryz.prog.cellsOf 139 = 25 := by kernel_rfl
theorem la_ce : Tryz.prog.cellsOf 9 = 1 := by kernel_rfl
theorem la_data : (Rows.laid_avow_lex_signs : DataW Unit) = .agg ((List.range 25).map fun k => .lit (.string (sgB k).data.toList)) := by kernel_rfl
theorem sg_of {W : World} (h : Lib.VarReads Tryz.prog W "avow/lex.signs" Rows.laid_avow_lex_signs) : SG W := by
  obtain ⟨g, t, cs, fuel, p, hg, hty, hvar, hd⟩ := h
  obtain rfl := Option.some.inj (la_sg.symm.trans hg)
  obtain rfl := Option.some.inj (la_st.symm.trans hty)
  obtain ⟨xs, m, _, hx, hl, hxl, hall⟩ := DataW.trod_array la_arr hd
  rw [la_ca] at hl
  have hxs : xs.map (·.1) = (List.range 25).map fun k => (.lit (.string (sgB k).data.toList) : DataW Unit) := by
    have := congrArg Prod.fst hx
    simp only [la_data] at this
    injection this with this
    exact this.symm
  have hcs : cs.toList = signV := by
    apply List.ext_getElem?
    intro i
    by_cases hi : i < 25
    · have h1 := hall i hi
      obtain ⟨b, hb⟩ : ∃ b, xs[i]? = some b := ⟨xs[i]'(by omega), List.getElem?_eq_getElem (by omega)⟩
      rw [hb, la_ce] at h1
      obtain ⟨z, hcz, rfl, _⟩ := DataW.trod_string (P := Tryz.prog) (t := 9) (by kernel_rfl) h1
      have h2 : cs.toList[i]? = some (.string z) := by
        have := congrArg (·[0]?) hcz
        simpa [List.getElem?_take, List.getElem?_drop] using this
      have h3 : (xs.map (·.1))[i]? = some (.lit (.string z.data.toList) : DataW Unit) := by simp [hb]
      rw [hxs, List.getElem?_map, List.getElem?_range hi] at h3
      simp only [Option.map_some, Option.some.injEq, DataW.lit.injEq, Lit.string.injEq] at h3
      have hz : z = sgB i := by
        cases z with
        | mk z =>
          obtain ⟨y, hy⟩ : ∃ y, sgB i = y := ⟨_, rfl⟩
          rw [hy] at h3 ⊢
          cases y with
          | mk y => simp only at h3; rw [Array.toList_inj.1 h3.symm]
      rw [h2, hz]
      unfold signV
      rw [List.getElem?_map, List.getElem?_range hi]
      rfl
    · rw [List.getElem?_eq_none (by omega), List.getElem?_eq_none (by simp [signV]; omega)]
  unfold World.var? at hvar
  rw [la_sg] at hvar
  simp only [Option.bind_some] at hvar
  split at hvar
  · rename_i c t fr hh
    obtain rfl := Option.some.inj hvar
    refine ⟨t, fr, ?_⟩
    rw [← hcs]
    simpa using hh
  · cases hvar
theorem u8x : U8Extra Tryz.prog Tryz.lays197_ren := { n3 := by kernel_rfl, n4 := by kernel_rfl, y3 := by kernel_rfl, y4 := by kernel_rfl, c5 := by kernel_rfl, c119 := by kernel_rfl, c138 := by kernel_rfl }
theorem u8t : U8Types Tryz.prog Tryz.lays197_ren := { Tryz.lays197 with }
theorem first_data : (Rows.laid_unicode_utf8_first : DataW Unit) = Lib.firstData := by kernel_rfl
theorem acc_data : (Rows.laid_unicode_utf8_acceptRanges : DataW Unit) = Lib.acceptData := by kernel_rfl
theorem u8_of {W : World} (h1 : Lib.VarReads Tryz.prog W "unicode/utf8.first" Rows.laid_unicode_utf8_first) (h2 : Lib.VarReads Tryz.prog W "unicode/utf8.acceptRanges" Rows.laid_unicode_utf8_acceptRanges) : Lib.Utf8Tabs 2 3 W := by
  rw [first_data] at h1
  rw [acc_data] at h2
  exact utf8Tabs_of_readsT u8t u8x h1 h2
/-- A row that lists the tables of unicode/utf8 besides. -/
theorem four_of {W : World} (h : laidMetH Tryz.prog [("unicode/utf8.acceptRanges", Rows.laid_unicode_utf8_acceptRanges), ("errors.errorType", Rows.laid_errors_errorType), ("avow/lex.signs", Rows.laid_avow_lex_signs), ("unicode/utf8.first", Rows.laid_unicode_utf8_first)] W) : SG W ∧ EH W ∧ Lib.Utf8Tabs 2 3 W := by
  have h' : laidMet Tryz.prog [("unicode/utf8.acceptRanges", Rows.laid_unicode_utf8_acceptRanges), ("avow/lex.signs", Rows.laid_avow_lex_signs), ("unicode/utf8.first", Rows.laid_unicode_utf8_first)] W ∧ handlesMet Tryz.prog [("errors.errorType", Rows.laid_errors_errorType)] W := h
  exact ⟨sg_of (Lib.laidMet.reads h'.1 (by simp)), eh_of h'.2, u8_of (Lib.laidMet.reads h'.1 (by simp)) (Lib.laidMet.reads h'.1 (by simp))⟩
end Go.Proofs.YtfkfnbehdcmgeaaGreatDoor
