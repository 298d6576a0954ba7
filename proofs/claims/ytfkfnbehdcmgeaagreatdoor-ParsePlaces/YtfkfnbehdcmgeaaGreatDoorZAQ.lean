/- The package-level variables that the rows list, as the walks want them: the signs, errors.errorType, the two tables of unicode/utf8. -/
import Derived.Test.YtfkfnbehdcmgeaaGreatDoorZAP
import Derived.Test.YtfkfnbehdcmgeaaGreatDoorRows
import Derived.Test.YtfkfnbehdcmgeaaGreatDoorZAB
import Derived.Lib.LaidU8T
import Derived.LaidHandle
import Derived.LaidLaws
import Derived.OpenShut
import Derived.ChangeArms
set_option linter.unusedVariables false
set_option linter.unusedSimpArgs false

/- Package parse: programs. -/
namespace Go.Proofs.YtfkfnbehdcmgeaaGreatDoor
open Go Go.RowKit
theorem app_de {w : World} {B n : Nat} {v : Value} {xs l : List Value} (hl : l.length = 22) (h1 : ∀ u ∈ l, u.oneCell' = true) (hown : w.ownsRow B 56 22 v n xs) (hn : n ≤ 100000) (hB : B ≤ w.heap.size) :
    ∃ g cap w', (Builtin.append_ #[23, 23] 23 #[v, .slice (some ⟨w.heap.size, 0, none⟩) 1 1]).run Tryz.prog (w.alloc (.cells l.toArray 56)) = .ok (.slice (some ⟨g, 0, none⟩) (n + 1) cap) w' ∧ w'.ownsRow B 56 22 (.slice (some ⟨g, 0, none⟩) (n + 1) cap) (n + 1) (xs ++ l) ∧ (w.alloc (.cells l.toArray 56)).grownBy w' v.ownBlock ∧ (v.ownBlock = some g ∨ g = w.heap.size + 1) := by
  have hb := (MapKept.heap_alloc w (.cells l.toArray 56)).1
  obtain ⟨g, cap, w', hr, ho, hg, hw, -⟩ := run_append_lies (P := Tryz.prog) (w.alloc (.cells l.toArray 56)) 23 23 B 56 Tryz.t56 (.agg #[.bool false, .string ⟨#[]⟩, .string ⟨#[]⟩, .bool false, .slice none 0 0, .int .i64 0, .int .i64 0, .string ⟨#[]⟩, .slice none 0 0, .int .i64 0, .slice none 0 0, .string ⟨#[]⟩, .slice none 0 0, .slice none 0 0, .int .i64 0, .string ⟨#[]⟩, .string ⟨#[]⟩, .bool false, .slice none 0 0, .int .i64 0, .int .i64 0, .int .i64 0]) 22 320 Tryz.underlying23 (by kernel_rfl) (by kernel_rfl) (by kernel_rfl) (by kernel_rfl) rfl (by decide) v n xs (hown.alloc _) ⟨w.heap.size, 0, none⟩ 1 1 l (by omega) (fun j u hj => by
      have h := (blk hb).2.1 j u (by simpa using hj)
      rw [addr0]
      exact h) h1 (by omega) (by unfold maxLen; omega) (by omega) (by simp; omega) _ rfl
  exact ⟨g, cap, w', hr, ho, hg, by simpa using hw⟩
theorem de_keep (w w' : World) (P P' : Nat → Prop) (cs : List Value) (t : De) (h : DeP w P cs t) (hb : StaysP P w w') (hl : ∀ b, P b → P' b) : DeP w' P' cs t := h.keep hb hl
theorem de_bnd (w : World) (P : Nat → Prop) (cs : List Value) (t : De) (h : DeP w P cs t) : DeP w (fun b => P b ∧ b < w.heap.size) cs t := h.bnd
theorem progL_no {ts : List (Int × ByteArray × Int)} {n q : Nat} {l : List De} (h : ([⟨#[114, 101, 102]⟩, ⟨#[108, 101, 116]⟩] : List ByteArray).any (sees ts q) = false) : progL ts n l q = .ok (l, q) := by
  cases n with
  | zero => rfl
  | succ n => rw [progL, h]; rfl
theorem progL_many {ts : List (Int × ByteArray × Int)} {n q : Nat} {l : List De} (h : ([⟨#[114, 101, 102]⟩, ⟨#[108, 101, 116]⟩] : List ByteArray).any (sees ts q) = true) (hl : l.length = 100) : progL ts (n + 1) l q = bad ts q 152 := by
  rw [progL, h, if_pos rfl, if_pos hl]
theorem progL_yes {ts : List (Int × ByteArray × Int)} {n q : Nat} {l : List De} (h : ([⟨#[114, 101, 102]⟩, ⟨#[108, 101, 116]⟩] : List ByteArray).any (sees ts q) = true) (hl : l.length ≠ 100) : progL ts (n + 1) l q = thenR (declR ts q) fun x q => progL ts n (l ++ [x]) q := by
  rw [progL, h, if_pos rfl, if_neg hl]
theorem declR_lt {r d lo p z : Nat} {ts : List (Int × ByteArray × Int)} {t : De} {w : World} (hT : TsOk ts) (hE : RuC 59 r ts d lo (exR ts)) (hSz : ∀ j, (txt ts j).size ≤ 65536) (hlo : lo ≤ p) (hR : RD w r ts p d) (hp : p + 1 < ts.length) (hX : declR ts p = .ok (t, z)) : p + 1 ≤ z := by
  obtain ⟨W, hW⟩ := rd_at (q := p + 1) hR hp
  unfold declR at hX
  split at hX
  · obtain ⟨e, w', hb, h⟩ := calls_some (cell_of hT hSz (Nat.le_succ_of_le hlo) hW)
    rw [hX] at h
    exact h.1
  · obtain ⟨_, q1, h1, hX⟩ := thenR_ok hX
    obtain rfl := mustR_lt h1
    obtain ⟨e, w', hb, h⟩ := calls_some (definition_of hT hE (Nat.le_succ_of_le hlo) hW)
    rw [hX] at h
    exact h.1
theorem any_two {ts : List (Int × ByteArray × Int)} {q : Nat} (h : ([⟨#[114, 101, 102]⟩, ⟨#[108, 101, 116]⟩] : List ByteArray).any (sees ts q) = true) : txt ts q ≠ ⟨#[]⟩ := by
  simp only [List.any_cons, List.any_nil, Bool.or_false, Bool.or_eq_true] at h
  rcases h with h | h
  · rw [sees_txt h]; decide
  · rw [sees_txt h]; decide
set_option maxRecDepth 100000 in
set_option maxHeartbeats 8000000 in
theorem program_of {r d lo : Nat} {ts : List (Int × ByteArray × Int)} (hT : TsOk ts) (hE : RuC 59 r ts d lo (exR ts)) (hSz : ∀ j, (txt ts j).size ≤ 65536) {w : World} {p : Nat} (hlo : lo ≤ p) (hR : RD w r ts p d) : Calls Tryz.prog 26 #[.pointer (some ⟨r, 0, none⟩)] w (RP (fun w' v l => IsDs w' w.heap.size v l) (progR ts p) r ts p d w) := by
  obtain ⟨Y, hY⟩ : ∃ Y, progR ts p = Y := ⟨_, rfl⟩
  rw [hY]
  unfold progR at hY
  obtain ⟨Z, hZ⟩ : ∃ Z, progL ts ts.length [] p = Z := ⟨_, rfl⟩
  rw [hZ] at hY
  have hr := hR.rlt
  have HI : Hid (RI DeP 56 22 w r ts p d lo (progL ts) Z (.slice none 0 0) [] [] p ts.length w) := ⟨But.refl _ _, hR, own_nil _ _ _ _, rfl, (by simp), (fun j x t hx => by simp at hx), ⟨Nat.le_refl _, hlo⟩, by omega, hZ, Nat.zero_le _⟩
  have HT := hide hT
  have HY := hide hY
  replace hE := hide hE
  replace hSz := hide hSz
  clear hY hT hlo hR hZ
  go_enter Tryz.func26, Tryz.ntmps26
  go_wp2_with fail
  go_loopw [3] (fun v wr => ∃ l vs q n a m c, v = .slice a m c ∧ m = l.length ∧ Hid (RI DeP 56 22 w r ts p d lo (progL ts) Z v l vs q n wr)) (fun _ wr => ts.length - (intOf ((wr.cell? ⟨r, 1, none⟩).getD undef)).toNat)
  case atStart => exact ⟨_, _, _, _, _, _, _, rfl, rfl, HI⟩
  case round =>
    obtain ⟨l, vs, q, n, a, m, c, rfl, hml, hEI⟩ := hrel
    obtain ⟨S, eS, hbS, hsS, hhS⟩ := box_new wr #[.string ⟨#[114, 101, 102]⟩, .string ⟨#[108, 101, 116]⟩] 9
    have h0 := (unhide hEI).grow de_keep hbS
    obtain ⟨bo, hbo⟩ : ∃ b, ([⟨#[114, 101, 102]⟩, ⟨#[108, 101, 116]⟩] : List ByteArray).any (sees ts q) = b := ⟨_, rfl⟩
    have HC : Hid (Calls Tryz.prog 43 #[.pointer (some ⟨r, 0, none⟩), .slice (some ⟨wr.heap.size, 0, none⟩) 2 2] S (VP (.bool (([⟨#[114, 101, 102]⟩, ⟨#[108, 101, 116]⟩] : List ByteArray).any (sees ts q))) S)) := one_any (c := 2) (l := [⟨#[114, 101, 102]⟩, ⟨#[108, 101, 116]⟩]) h0.rd (unhide HT) (by omega) (by decide) (fun j s hs => by
      rcases j with _ | _ | j
      · obtain rfl := Option.some.inj hs
        exact (blk hhS).2.1 0 _ rfl
      · obtain rfl := Option.some.inj hs
        exact (blk hhS).2.1 1 _ rfl
      · simp at hs)
    rw [hbo] at HC
    have HO := hide hbo
    have hqo : (wr.cell? ⟨r, 1, none⟩) = some (.int .i64 (q : Int)) := by
      obtain ⟨g', c', p0, p1, -⟩ := (unhide hEI).rd.facts (Below.refl _ _)
      exact p1
    replace hqo := hide hqo
    replace hml := hide hml
    have H0 := hide h0
    have HES := hide eS
    clear hbo h0 hbS hsS hhS eS hEI
    go_wp2_with fail
    rw [unhide HES]
    refine (unhide HC).mono ?_
    rintro e w9 ⟨rfl, hb9⟩
    have h9 := (unhide H0).grow de_keep hb9
    have H9 := hide h9
    clear hb9 h9 HC H0
    rcases bo with _ | _
    · have h := unhide H9
      have hZe : Z = .ok (l, q) := h.ch.symm.trans (progL_no (unhide HO))
      have hYe := unhide HY
      rw [hZe] at hYe
      simp only [thenR] at hYe
      have HM := hide (mustEnd_any h.rd (unhide HT))
      replace HY := hide hYe
      have HLr : Hid (RowP w9 22 (fun b => w.heap.size ≤ b) (.slice a m c) l.length fun j cs => ∀ t, l[j]? = some t → DeP w9 (fun b => w.heap.size ≤ b) cs t) := h.row de_keep (by
        have := h.sm
        have := h.rd.lt
        have := (unhide HT).len
        omega)
      clear h hZe hYe
      go_wp2_with fail
      refine (unhide HM).mono ?_
      intro e w8 h8
      rcases hX : endR ts q with ⟨ei, en⟩ | ⟨u, z⟩
      · rw [hX] at h8
        have hYe : Y = .error (ei, en) := by have h := unhide HY; rw [hX] at h; exact h.symm
        subst hYe
        obtain ⟨hb8, h8⟩ := h8
        obtain rfl : e = _ := h8
        have HP := hide ((unhide H9).but.trans hb8)
        clear hb8 HM hX
        go_wp2
        exact ⟨rfl, unhide HP, rfl⟩
      · rw [hX] at h8
        obtain ⟨hb8, hle8, hR8, v8, rfl, hv8⟩ := h8
        obtain rfl : v8 = _ := hv8
        have hYe : Y = .ok (l, z) := by have h := unhide HY; rw [hX] at h; exact h.symm
        subst hYe
        have HP := hide (And.intro hb8 (And.intro hle8 hR8))
        clear hb8 hle8 hR8 HM hX
        go_wp2
        have h := unhide H9
        obtain ⟨hb8, hle8, hR8⟩ := unhide HP
        refine bodyPost_ret (results_tmp rfl _ _ _) rfl ?_
        refine ⟨h.but.trans hb8, Nat.le_trans h.le.1 hle8, hR8, _, rfl, ?_⟩
        refine RowP.keep (P' := fun b => w.heap.size ≤ b) (unhide HLr) ⟨hb8.size, fun k hk hs => hb8.block k hs (by omega)⟩ (fun _ h => h) fun j cs hx t ht => ?_
        obtain ⟨x, e1, e2⟩ := (hx t ht).keep (P' := fun b => w.heap.size ≤ b) ⟨hb8.size, fun k hk hs => hb8.block k hs (by omega)⟩ (fun _ h => h)
        exact ⟨x, e1, e2.toN⟩
    · have h := unhide H9
      have hp1 : q + 1 < ts.length := nx_txt (unhide HT) h.rd.lt (any_two (unhide HO))
      obtain ⟨n, rfl⟩ : ∃ m, n = m + 1 := ⟨n - 1, by have := h.fu; omega⟩
      have hlb : l.length ≤ 1000000 := by
        have := h.sm
        have := h.rd.lt
        have := (unhide HT).len
        omega
      have hm' := unhide hml
      by_cases hlm : m = 100
      · have hch := h.ch
        rw [progL_many (unhide HO) (by omega)] at hch
        have hYe := unhide HY
        rw [← hch] at hYe
        replace hch : .error _ = Y := hYe
        clear hYe
        have HRf := hide (refused_any h.rd (unhide HT) 152)
        have HCh := hide hch
        subst hlm
        clear h hch hp1 hlb hm'
        go_wp2_with fail
        refine (unhide HRf).mono ?_
        rintro e w8 ⟨rfl, hb8⟩
        have HB8 := hide hb8
        clear hb8 HRf
        go_wp2
        obtain rfl := unhide HCh
        exact ⟨rfl, (unhide H9).but.trans (But.of (unhide HB8)), rfl⟩
      · have hch := h.ch
        rw [progL_yes (unhide HO) (by omega)] at hch
        have HCh := hide hch
        have g1 : ¬ (m : Int) = (100 : Int) := by omega
        have g2 : ((m : Int) == (100 : Int)) = false := by simpa using g1
        have g3 : decide ((m : Int) = (100 : Int)) = false := by simpa using g1
        have HC2 := hide (decl_of (unhide HT) (unhide hE) (unhide hSz) h.le.2 h.rd)
        replace hlb := hide hlb
        replace hp1 := hide hp1
        clear h hch hm' hlm
        go_wp2_with fail
        refine (unhide HC2).mono ?_
        intro e w7 h7
        rcases hX : declR ts q with er | ⟨t7, q7⟩
        · rw [hX] at h7
          obtain ⟨ei, en⟩ := er
          have hYe : Y = .error (ei, en) := by have h := unhide HCh; rw [hX] at h; have h2 := unhide HY; rw [← h] at h2; exact h2.symm
          subst hYe
          obtain ⟨hb7, h7⟩ := h7
          obtain rfl : e = _ := h7
          have HP := hide ((unhide H9).but.trans hb7)
          clear hb7 HC2 hX
          go_wp2
          exact ⟨rfl, unhide HP, rfl⟩
        · rw [hX] at h7
          obtain ⟨hb7, hle7, hR7, v7, rfl, x7, rfl, hv7⟩ := h7
          have hLL : deCells t7 x7 = [.bool t7.cell, .string t7.name, .string t7.num, .bool t7.again, .slice x7.pa x7.pn x7.pc, .int .i64 t7.eff, .int .i64 t7.t.kind, .string t7.t.name, .slice x7.ta x7.tn x7.tc, .int .i64 t7.t.at', .slice x7.ra x7.rn x7.rc, .string t7.res, .slice x7.ea x7.en x7.ec, .slice x7.ma x7.mn x7.mc, .int .i64 t7.body.op, .string t7.body.name, .string t7.body.num, .bool t7.body.b, .slice x7.ba x7.bn x7.bc, .int .i64 0, .int .i64 t7.body.at', .int .i64 t7.at'] := rfl
          rw [hLL]
          have hch := unhide HCh
          rw [hX] at hch
          simp only [thenR] at hch
          have h := unhide H9
          have hlt : q + 1 ≤ q7 := declR_lt (unhide HT) (unhide hE) (unhide hSz) h.le.2 h.rd (unhide hp1) hX
          have hown7 : w7.ownsRow w.heap.size 56 22 (.slice a m c) l.length vs.flatten := by
            obtain ⟨k1, k2 | ⟨g, cap, cur, k3, k4, k5, k6⟩⟩ := h.own
            · exact ⟨k1, .inl k2⟩
            · exact ⟨k1, .inr ⟨g, cap, cur, k3, k4, (hb7.block g (blk k5).1 (by omega)).trans k5, k6⟩⟩
          have hs97 := hb7.size
          have hsw := h.but.size
          obtain ⟨g, cap, wa, hrun, hoa, hga, hwa⟩ := app_de (l := [.bool t7.cell, .string t7.name, .string t7.num, .bool t7.again, .slice x7.pa x7.pn x7.pc, .int .i64 t7.eff, .int .i64 t7.t.kind, .string t7.t.name, .slice x7.ta x7.tn x7.tc, .int .i64 t7.t.at', .slice x7.ra x7.rn x7.rc, .string t7.res, .slice x7.ea x7.en x7.ec, .slice x7.ma x7.mn x7.mc, .int .i64 t7.body.op, .string t7.body.name, .string t7.body.num, .bool t7.body.b, .slice x7.ba x7.bn x7.bc, .int .i64 0, .int .i64 t7.body.at', .int .i64 t7.at']) rfl (List.all_eq_true.1 rfl) hown7 (by have := h.sm; have := h.rd.lt; have := (unhide HT).len; omega) (by omega)
          have R1 := hide hrun
          have HQ := hide (And.intro hb7 (And.intro hlt (And.intro hR7 (And.intro hv7 (And.intro hch (And.intro hoa (And.intro hga (And.intro hwa hLL))))))))
          clear hb7 hle7 hR7 hv7 hch h hown7 hs97 hsw hrun hoa hga hwa HC2 hX hlt hLL
          go_wp2_with (at_builtin; refine app_run _ _ _ rfl rfl rfl rfl (unhide R1) ?_; clear R1)
          obtain ⟨hb7, hlt, hR7, hv7, hch, hoa, hga, hwa, hLL⟩ := unhide HQ
          have h := unhide H9
          have hnew := h.more de_keep de_bnd hr hb7 hlt hR7 rfl ⟨x7, hLL.symm, hv7.toP⟩ hch hoa hga hwa
          refine ⟨⟨l ++ [t7], _, q7, n, _, _, _, rfl, by simp, hnew⟩, ?_⟩
          have hqn : wa.cell? ⟨r, 1, none⟩ = some (.int .i64 (q7 : Int)) := by
            obtain ⟨g', c', p0, p1, -⟩ := hnew.rd.facts (Below.refl _ _)
            exact p1
          have e1 : intOf ((wa.cell? ⟨r, 1, none⟩).getD undef) = (q7 : Int) := by rw [hqn]; rfl
          have e2 : intOf ((wr.cell? ⟨r, 1, none⟩).getD undef) = (q : Int) := by rw [unhide hqo]; rfl
          have hlt9 := h.rd.lt
          rw [e1, e2]
          omega
end Go.Proofs.YtfkfnbehdcmgeaaGreatDoor

/- Package parse: Program. -/
namespace Go.Proofs.YtfkfnbehdcmgeaaGreatDoor
open Go Go.RowKit
theorem tkl_sz (s : ByteArray) (j : Nat) : (txt (tkL s) j).size ≤ 65536 := by
  have hall : ∀ x ∈ tkL s, x.2.1.size ≤ 65536 := by
    intro x hx
    unfold tkL at hx
    rcases List.mem_append.1 hx with hx | hx
    · obtain ⟨y, hy, rfl⟩ := List.mem_map.1 hx
      show (s.extract y.2.1 y.2.2).size ≤ 65536
      have hs : s.size ≤ 65536 := by
        rcases Nat.lt_or_ge 65536 s.size with h | h
        · unfold tk at hy
          rw [if_pos h] at hy
          cases hy
        · exact h
      have : (s.extract y.2.1 y.2.2).size ≤ s.size := by simp [ByteArray.size_extract]; omega
      omega
    · obtain rfl := List.mem_singleton.1 hx
      show (⟨#[]⟩ : ByteArray).size ≤ 65536
      decide
  unfold txt nx
  rw [List.getD_eq_getElem?_getD]
  cases h : (tkL s)[j]? with
  | none => show (⟨#[]⟩ : ByteArray).size ≤ 65536; decide
  | some x => exact hall x (List.mem_of_getElem? h)
def progF (ts : List (Int × ByteArray × Int)) : (Except (Int × Int) ((List De) × Nat)) := progR ts 0
theorem progF_eq (ts : List (Int × ByteArray × Int)) : progF ts = progR ts 0 := rfl
/-- What a text is as a program, or its error. -/
def progS (s : ByteArray) : Except (Int × Int) (List De) :=
  match (tk s).2 with
  | some (a, n) => .error (a, n)
  | none => match progF (tkL s) with
    | .ok (t, _) => .ok t
    | .error e => .error e
/-- What Program answers. -/
def ProgP (s : ByteArray) (w : World) (e : Ending) (w' : World) : Prop := Below w.heap.size w w' ∧
  match progS s with
  | .ok t => ∃ v, e = .returned (.tuple #[v, .nilIface]) ∧ IsDs w' w.heap.size v t
  | .error (i, n) => ∃ v, e = .returned (.tuple #[.slice none 0 0, v]) ∧ PErr w' v i n
theorem IsDs.form {w : World} {lo : Nat} {v : Value} {l : List De} (h : IsDs w lo v l) : ∃ (a : Option Addr) (n c : Nat), v = .slice a n c := by
  obtain ⟨a, c, e, -⟩ := h
  exact ⟨_, _, _, e⟩
/-- The box that Program's closure fills. -/
def OutD (ob : Nat) (w : World) (t : List De) : Prop := ∃ v, w.heap[ob]? = some (.cells #[v] 23) ∧ IsDs w (ob + 2) v t
set_option maxRecDepth 100000 in
set_option maxHeartbeats 8000000 in
theorem progClo_any {s : ByteArray} {W : World} {r ob : Nat} (hR : RD W r (tkL s) 0 0) (hz : W.heap[ob]? = some (.cells #[.slice none 0 0] 23)) (hob : ob + 1 < r) :
    Calls Tryz.prog 25 #[.pointer (some ⟨r, 0, none⟩), .pointer (some ⟨ob, 0, none⟩)] W (KP progF (OutD ob) s ob r W) := by
  have hT := tsok_of s
  have hlen := hT.len
  have hE : RuC 59 r (tkL s) 0 0 (exR (tkL s)) := (rules_all hT (tkL s).length 0 0 (by omega) (by omega)).1
  have HC := hide (program_of hT hE (tkl_sz s) (Nat.zero_le 0) hR)
  have hrl := hR.rlt
  have HA := hide (And.intro hz (And.intro hob hrl))
  clear hR hz hob hT hlen hE hrl
  go_enter Tryz.func25, Tryz.ntmps25
  go_wp2_with fail
  refine (unhide HC).mono ?_
  intro e w3 h3
  obtain ⟨hz, hob, hrl⟩ := unhide HA
  rcases hX : progR (tkL s) 0 with ⟨i, n⟩ | ⟨t, q⟩
  · rw [hX] at h3
    obtain ⟨hb3, h3⟩ := h3
    obtain rfl : e = _ := h3
    have HQ := hide (And.intro hb3 hX)
    clear HC hz hob hrl hX hb3
    go_wp2
    obtain ⟨hb3, hX⟩ := unhide HQ
    refine ⟨rfl, ?_⟩
    unfold KP
    rw [progF_eq, hX]
    exact ⟨hb3, rfl⟩
  · rw [hX] at h3
    obtain ⟨hb3, hle, hR3, v, rfl, hv⟩ := h3
    obtain ⟨a4, n4, c4, rfl⟩ := IsDs.form hv
    have hz3 := zkeep hz hb3 (by omega)
    have y0 := (blk hz3).2.1 0 _ rfl
    have z0 := (blk hz3).2.2 0
    have HQ := hide (And.intro hb3 (And.intro hX (And.intro hv (And.intro hz3 (And.intro hob hrl)))))
    clear HC hz hob hrl hX hb3 hle hR3 hv hz3
    go_wp2
    obtain ⟨hb3, hX, hv, hz3, hob, hrl⟩ := unhide HQ
    refine bodyPost_end (results_none rfl _ _ _) rfl ?_
    unfold KP
    rw [progF_eq, hX]
    have k4 := (Bu.of_but (q := ob) hb3).set 0 (.slice a4 n4 c4)
    exact ⟨rfl, k4, _, set_block hz3 _, IsDs.keep hv ((Stays.of (Below.refl _ _)).set (by omega) 0 _) (by omega)⟩
theorem load_ds {W : World} {b : Nat} {v : Value} (h : W.heap[b]? = some (.cells #[v] 23)) : (loadVar 23 ⟨b, 0, none⟩).run Tryz.prog W = .ok v W := by
  have hc : W.cell? ⟨b, 0, none⟩ = some v := (blk h).2.1 0 _ rfl
  go_simp
set_option maxRecDepth 100000 in
set_option maxHeartbeats 8000000 in
theorem pprog_any (s : ByteArray) (w : World) (hG : SG w) : Calls Tryz.prog 13 #[.string s] w (ProgP s w) := by
  obtain ⟨A, eA, hbA, hsA, hzA⟩ := box_new w #[.slice none 0 0] 23
  have h1w := hG.lt
  have HC := hide (pread_any (k := 25) (ob := w.heap.size) (X := progF) (Φ := OutD w.heap.size) s A (hG.below hbA h1w) ⟨fun xs w => by go_simp⟩ (by omega)
    (fun w1 w2 t hb hs h => by
      obtain ⟨v, h1, h2⟩ := h
      exact ⟨v, (hb.block _ (blk h1).1 (by omega)).trans h1, h2.keep (Stays.but hb (by omega)) (Nat.le_refl _)⟩)
    (fun W r hb hr hR => progClo_any hR ((hb.block _ (by omega)).trans hzA) (by omega)))
  have hmf : ∀ (fn : Fn) (first cap : Array Value) (w : World), (Instr.makeFunc fn first cap).run Tryz.prog w = .ok (.func fn first cap) w := fun _ _ _ _ => rfl
  have HA := hide (And.intro hbA (And.intro hzA hsA))
  have HE := hide eA
  clear hbA hzA hsA eA hG h1w
  go_enter Tryz.func13, Tryz.ntmps13
  go_wp2_with fail
  rw [unhide HE]
  refine (unhide HC).mono ?_
  intro e w3 h3
  obtain ⟨hbA, hzA, hsA⟩ := unhide HA
  unfold ReadP at h3
  rcases hS : progS s with ⟨i, n⟩ | t
  · have h4 : Below A.heap.size A w3 ∧ ∃ v, e = .returned v ∧ PErr w3 v i n := by
      unfold progS at hS
      rcases hn : (tk s).2 with _ | ⟨a, m⟩
      · rw [hn] at hS h3
        rcases hX : progF (tkL s) with ⟨a, m⟩ | ⟨t, q⟩
        · rw [hX] at hS h3
          obtain ⟨rfl, rfl⟩ : a = i ∧ m = n := by simpa using hS
          exact h3
        · rw [hX] at hS
          cases hS
      · rw [hn] at hS h3
        obtain ⟨rfl, rfl⟩ : (a : Int) = i ∧ (m : Int) = n := by simpa using hS
        exact h3
    obtain ⟨hb, v, rfl, b, rfl, hd⟩ := h4
    have hz3 := (hb.block _ (by omega)).trans hzA
    have hne : b ≠ w.heap.size := fun e => by
      subst e
      rw [hz3] at hd
      cases hd
    have y0 := (blk hz3).2.1 0 _ rfl
    have z0 := (blk hz3).2.2 0
    have HQ := hide (And.intro hb (And.intro hd (And.intro hz3 (And.intro hne (And.intro hS (And.intro hbA hsA))))))
    clear HC h3 hS hb hd hne hz3 hbA hzA hsA
    go_wp2
    obtain ⟨hb, hd, hz3, hne, hS, hbA, hsA⟩ := unhide HQ
    refine bodyPost_ret (results_two rfl rfl (load_ds (set_block hz3 _)) rfl) rfl ?_
    unfold ProgP
    rw [hS]
    exact ⟨below_set (hbA.trans (hb.mono (by omega))) (Nat.le_refl _) _ _, _, rfl, b, rfl, (heap_set _ _ hne).trans hd⟩
  · have h4 : e = .returned .nilIface ∧ But w.heap.size A w3 ∧ OutD w.heap.size w3 t := by
      unfold progS at hS
      rcases hn : (tk s).2 with _ | ⟨a, m⟩
      · rw [hn] at hS h3
        rcases hX : progF (tkL s) with ⟨a, m⟩ | ⟨t2, q⟩
        · rw [hX] at hS
          cases hS
        · rw [hX] at hS h3
          obtain rfl : t2 = t := by simpa using hS
          exact h3
      · rw [hn] at hS
        cases hS
    obtain ⟨rfl, hb, v, hz3, hv⟩ := h4
    obtain ⟨a4, n4, c4, rfl⟩ := IsDs.form hv
    have y0 := (blk hz3).2.1 0 _ rfl
    have z0 := (blk hz3).2.2 0
    have HQ := hide (And.intro hb (And.intro hv (And.intro hz3 (And.intro hS (And.intro hbA hsA)))))
    clear HC h3 hS hb hv hz3 hbA hzA hsA
    go_wp2
    obtain ⟨hb, hv, hz3, hS, hbA, hsA⟩ := unhide HQ
    refine bodyPost_ret (results_two rfl rfl (load_ds (set_block hz3 _)) rfl) rfl ?_
    unfold ProgP
    rw [hS]
    have hb9 : Below w.heap.size w w3 := ⟨hb.os.trans hbA.os, hb.tape.trans hbA.tape, hb.output.trans hbA.output, Nat.le_trans hbA.size hb.size, fun j hj => (hb.block j (by omega) (by omega)).trans (hbA.block j hj)⟩
    exact ⟨below_set hb9 (Nat.le_refl _) _ _, _, rfl, IsDs.keep hv ((Stays.of (Below.refl _ _)).set (by omega) 0 _) (by omega)⟩
end Go.Proofs.YtfkfnbehdcmgeaaGreatDoor

/- The statements of package parse: the chapter's example. -/
namespace Go.Proofs.YtfkfnbehdcmgeaaGreatDoor
open Go Go.RowKit
def tx1 : ByteArray := ⟨#[49, 32, 43, 32, 50, 32, 42, 32, 120]⟩
def tx2 : ByteArray := ⟨([114, 101, 102, 32, 99, 32, 58, 61, 32, 45, 51, 59, 59, 32, 108, 101, 116, 32, 102, 32, 40, 120, 32, 58, 32, 105, 110, 116, 41, 32, 58, 32].append [80, 117, 114, 101, 32, 123, 114, 32, 58, 32, 105, 110, 116, 32, 124, 32, 114, 32, 62, 32, 120, 125, 32, 105, 115, 32, 120, 32, 43, 32, 49, 59, 59]).toArray⟩
def tx3 : ByteArray := ⟨#[108, 101, 116, 32, 102, 32, 58, 32, 80, 117, 114, 101, 32, 105, 110, 116, 32, 105, 115, 32, 49]⟩
def ck1 (x : Except (Int × Int) Ex) : Bool := match x with
  | .ok (.mk op _ _ _ [_, .mk o2 _ _ _ _ _] _) => decide (op = 10) && decide (o2 = 9)
  | _ => false
def ck2 (x : Except (Int × Int) (List De)) : Bool := match x with
  | .ok [a, b] => decide (a.num = ⟨#[45, 51]⟩) && decide (b.ps.length = 1) && decide (b.t.r.length = 1)
  | _ => false
def ck3 (x : Except (Int × Int) (List De)) : Bool := match x with
  | .error (i, n) => decide (i = 21) && decide (n = 150)
  | _ => false
theorem ev1 : ck1 (exprS tx1) = true := by kernel_rfl
theorem ev2 : ck2 (progS tx2) = true := by kernel_rfl
theorem ev3 : ck3 (progS tx3) = true := by kernel_rfl
end Go.Proofs.YtfkfnbehdcmgeaaGreatDoor

/- The statements of package parse: known. -/
namespace Go.Proofs.YtfkfnbehdcmgeaaGreatDoor
open Go Go.RowKit
theorem ck1_of {x : Except (Int × Int) Ex} (h : ck1 x = true) : ∃ nm nu bl u n2 m2 b2 l2 i2 i, x = .ok (.mk 10 nm nu bl [u, .mk 9 n2 m2 b2 l2 i2] i) := by
  unfold ck1 at h
  split at h
  · simp only [Bool.and_eq_true, decide_eq_true_eq] at h
    obtain ⟨rfl, rfl⟩ := h
    exact ⟨_, _, _, _, _, _, _, _, _, _, rfl⟩
  · cases h
theorem ck2_of {x : Except (Int × Int) (List De)} (h : ck2 x = true) : ∃ a b, x = .ok [a, b] ∧ a.num = ⟨#[45, 51]⟩ ∧ b.ps.length = 1 ∧ b.t.r.length = 1 := by
  unfold ck2 at h
  split at h
  · simp only [Bool.and_eq_true, decide_eq_true_eq] at h
    exact ⟨_, _, rfl, h.1.1, h.1.2, h.2⟩
  · cases h
theorem ck3_of {x : Except (Int × Int) (List De)} (h : ck3 x = true) : x = .error (21, 150) := by
  unfold ck3 at h
  split at h
  · simp only [Bool.and_eq_true, decide_eq_true_eq] at h
    rw [h.1, h.2]
  · cases h
/-- Two expressions as they lie: the second one's operator. -/
theorem two_op {w : World} {lo : Nat} {v : Value} {op i o2 i2 : Int} {nm nu n2 m2 : ByteArray} {bl b2 : Bool} {u : Ex} {l2 : List Ex} (h : IsE w lo v (.mk op nm nu bl [u, .mk o2 n2 m2 b2 l2 i2] i)) :
    ∃ b off c, v = .agg #[.int .i64 op, .string nm, .string nu, .bool bl, .slice (some ⟨b, off, none⟩) 2 c, .int .i64 0, .int .i64 i] ∧ b < w.heap.size ∧ w.cell? ⟨b, off + 7, none⟩ = some (.int .i64 o2) ∧ 2 ≤ c := by
  obtain ⟨k, a, c, rfl, h1, h2, h3⟩ := h
  obtain ⟨b, off, rfl, -, hb, hj⟩ := h3 (by simp)
  have h4 := hj 1 (by simp) _ rfl
  obtain ⟨k, hk⟩ : ∃ m, k = m + 1 := by
    cases k with
    | zero => exact h4.elim
    | succ k => exact ⟨k, rfl⟩
  subst hk
  obtain ⟨a2, c2, h5, -⟩ := h4
  exact ⟨b, off, c, rfl, hb, h5 0 _ rfl, by simpa using h1⟩
theorem two_de {w : World} {lo : Nat} {v : Value} {x y : De} (h : IsDs w lo v [x, y]) :
    ∃ b off c pa pc ta tc, v = .slice (some ⟨b, off, none⟩) 2 c ∧ 2 ≤ c ∧ b < w.heap.size ∧ w.cell? ⟨b, off + 2, none⟩ = some (.string x.num) ∧ w.cell? ⟨b, off + 26, none⟩ = some (.slice pa y.ps.length pc) ∧ w.cell? ⟨b, off + 30, none⟩ = some (.slice ta y.t.r.length tc) := by
  obtain ⟨a, c, rfl, h1, h2, h3⟩ := h
  obtain ⟨b, off, rfl, -, hb, hj⟩ := h3 (by simp)
  obtain ⟨cs0, r0, p0⟩ := hj 0 (by simp)
  obtain ⟨cs1, r1, p1⟩ := hj 1 (by simp)
  obtain ⟨x0, rfl, d0⟩ := p0 x rfl
  obtain ⟨x1, rfl, d1⟩ := p1 y rfl
  obtain ⟨pa, pc, e1, -⟩ := d1.ps
  obtain ⟨-, ta, tc, e2, -⟩ := d1.ty
  have k1 : x1.pn = y.ps.length := by simpa using (congrArg (fun v => match v with | Value.slice _ n _ => n | _ => 0) e1)
  have k2 : x1.tn = y.t.r.length := by simpa using (congrArg (fun v => match v with | Value.slice _ n _ => n | _ => 0) e2)
  refine ⟨b, off, c, x1.pa, x1.pc, x1.ta, x1.tc, rfl, by simpa using h1, hb, ?_, ?_, ?_⟩
  · have := r0 2 _ rfl
    simpa using this
  · have := r1 4 _ rfl
    rw [← k1]
    simpa using this
  · have := r1 8 _ rfl
    rw [← k2]
    simpa using this
set_option maxRecDepth 100000 in
set_option maxHeartbeats 8000000 in
theorem known15_any (w : World) (hG : SG w) (hE : EH w) : Calls Tryz.prog 12 #[] w fun e w' => e = .returned (.bool true) ∧ Below w.heap.size w w' := by
  have h1w := hG.lt
  have C1 := hide (pexpr_any tx1 w hG)
  have HGE := hide (And.intro hG (And.intro hE h1w))
  clear hG hE h1w
  go_enter Tryz.func12, Tryz.ntmps12
  go_wp2_with fail
  refine (unhide C1).mono ?_
  rintro e w1 ⟨hb1, h1⟩
  obtain ⟨nm, nu, bl, u, n2, m2, b2, l2, i2, i, hx⟩ := ck1_of ev1
  rw [hx] at h1
  obtain ⟨v, rfl, hv⟩ := h1
  obtain ⟨gb, off, c, rfl, hgb, hop, hc2⟩ := two_op hv
  obtain ⟨B, eB, hbB, hsB, hhB⟩ := box_new w1 #[.int .i64 10, .string nm, .string nu, .bool bl, .slice (some ⟨gb, off, none⟩) 2 c, .int .i64 0, .int .i64 i] 36
  obtain ⟨hG, hE, h1w⟩ := unhide HGE
  have hwB : Below w.heap.size w B := hb1.trans (hbB.mono hb1.size)
  have C2 := hide (pprog_any tx2 B (hG.below hwB h1w))
  have HB := hide (And.intro hwB (And.intro hbB (And.intro hhB (And.intro hgb hop))))
  have HEB := hide eB
  clear C1 hb1 hv hgb hop hx eB hbB hsB hhB hG hE h1w hwB
  go_wp2_with fail
  rw [unhide HEB]
  refine (unhide C2).mono ?_
  rintro e w2 ⟨hb2, h2⟩
  obtain ⟨xa, xb, hx, hxn, hxp, hxr⟩ := ck2_of ev2
  rw [hx] at h2
  obtain ⟨v, rfl, hv⟩ := h2
  obtain ⟨db, doff, dc, pa, pc, ta, tc, rfl, hdc, hdb, d0, d1, d2⟩ := two_de hv
  rw [hxn] at d0
  rw [hxp] at d1
  rw [hxr] at d2
  obtain ⟨hG, hE, h1w⟩ := unhide HGE
  have hw2 : Below w.heap.size w w2 := (unhide HB).1.trans (hb2.mono (unhide HB).1.size)
  have C3 := hide (pprog_any tx3 w2 (hG.below hw2 h1w))
  have HD := hide (And.intro hw2 (And.intro hb2 (And.intro hdb (And.intro d0 (And.intro d1 d2)))))
  clear C2 hb2 hv hdb d0 d1 d2 hx hxn hxp hxr hG hE h1w hw2
  go_wp2_with fail
  refine (unhide C3).mono ?_
  rintro e w3 ⟨hb3, h3⟩
  rw [ck3_of ev3] at h3
  obtain ⟨v, rfl, pb, rfl, hp⟩ := h3
  obtain ⟨hG, hE, h1w⟩ := unhide HGE
  have hw3 : Below w.heap.size w w3 := (unhide HD).1.trans (hb3.mono (unhide HD).1.size)
  have C4 := hide (told_err 21 150 pb w3 (hE.below hw3 (by omega)) hp)
  have H3 := hide (And.intro hw3 hb3)
  clear C3 hb3 hp hG hE h1w hw3
  go_wp2_with fail
  refine (unhide C4).mono ?_
  rintro e w4 ⟨rfl, hb4⟩
  obtain ⟨hwB, hbB, hhB, hgb, hop⟩ := unhide HB
  obtain ⟨hw2, hb2, hdb, d0, d1, d2⟩ := unhide HD
  obtain ⟨hw3, hb3⟩ := unhide H3
  have hB4 : Below B.heap.size B w4 := (hb2.trans (hb3.mono hb2.size)).trans (hb4.mono (Nat.le_trans hb2.size hb3.size))
  have h24 : Below w2.heap.size w2 w4 := hb3.trans (hb4.mono hb3.size)
  have hh4 := (hB4.block _ (blk hhB).1).trans hhB
  have y0 := (blk hh4).2.1 0 _ rfl
  have y4 := (blk hh4).2.1 4 _ rfl
  have y7 : w4.cell? ⟨gb, off + 7, none⟩ = some (.int .i64 9) := ((hB4.cell (p := ⟨gb, off + 7, none⟩) (Nat.lt_of_lt_of_le hgb hbB.size)).trans (hbB.cell (p := ⟨gb, off + 7, none⟩) hgb)).trans hop
  have e0 := (h24.cell (p := ⟨db, doff + 2, none⟩) hdb).trans d0
  have e1 := (h24.cell (p := ⟨db, doff + 26, none⟩) hdb).trans d1
  have e2 := (h24.cell (p := ⟨db, doff + 30, none⟩) hdb).trans d2
  have HW := hide (hw3.trans (hb4.mono hw3.size))
  obtain ⟨NN, hNN⟩ : ∃ x : ByteArray, ⟨#[45, 51]⟩ = x := ⟨_, rfl⟩
  have en : (NN.toList == [45, 51]) = true := by rw [← hNN, Lib.toList_data]; rfl
  rw [hNN] at e0
  clear hwB hbB hhB hgb hop hw2 hb2 hdb d0 d1 d2 hw3 hb3 hB4 h24 hh4 hb4 C4 hNN
  go_wp2
  go_ret
  exact ⟨rfl, unhide HW⟩
end Go.Proofs.YtfkfnbehdcmgeaaGreatDoor

/- The statements of package parse: ParsePlaces, the texts. -/
namespace Go.Proofs.YtfkfnbehdcmgeaaGreatDoor
open Go Go.RowKit
def bls (n : Nat) : ByteArray := ⟨(List.replicate n 32).toArray⟩
theorem bls_size (n : Nat) : (bls n).size = n := by simp [bls, ByteArray.size]
theorem bls_succ (n : Nat) : bls (n + 1) = bls n ++ ⟨#[32]⟩ := by
  unfold bls
  apply ByteArray.ext
  apply Array.ext'
  simp [List.replicate_succ', ByteArray.data_append]
def plT : ByteArray := ⟨#[105, 102, 32, 97, 32, 116, 104, 101, 110, 32, 108, 101, 116, 32, 98, 32, 61, 32, 49, 32, 105, 110, 32, 98, 32, 59, 32, 99, 32, 101, 108, 115, 101, 32, 45, 32, 102, 32, 40, 32, 50, 32, 44, 32, 33, 32, 100, 32, 41]⟩
/-- The tree that ParsePlaces looks for, at a place. -/
def ckp (n : Nat) (x : Except (Int × Int) Ex) : Bool := match x with
  | .ok (.mk _ _ _ _ [.mk _ _ _ _ _ a0, .mk 23 _ _ _ [.mk _ _ _ _ _ b0, .mk _ _ _ _ [.mk _ _ _ _ _ c0, .mk _ _ _ _ _ c1] b1] a1, .mk 7 _ _ _ [.mk _ _ _ _ [.mk _ _ _ _ _ e0, .mk _ _ _ _ _ e1] d0] a2] at0) =>
    decide (at0 = n) && decide (a0 = n + 3) && decide (a1 = n + 10) && decide (b0 = n + 18) && decide (b1 = n + 25) && decide (c0 = n + 23) && decide (c1 = n + 27) && decide (a2 = n + 34) && decide (d0 = n + 36) && decide (e0 = n + 40) && decide (e1 = n + 44)
  | _ => false
theorem ckp_all : ((List.range 50).all fun n => ckp n (exprS (bls n ++ plT))) = true := by kernel_rfl
theorem ckp_of {n : Nat} (hn : n < 50) : ckp n (exprS (bls n ++ plT)) = true := List.all_eq_true.1 ckp_all n (List.mem_range.2 hn)
end Go.Proofs.YtfkfnbehdcmgeaaGreatDoor

/- The statements of package parse: expressions that lie, opened. -/
namespace Go.Proofs.YtfkfnbehdcmgeaaGreatDoor
open Go Go.RowKit
/-- A row of expressions that lies: each one's cells, and its own row. -/
def RowO (w : World) (a : Option Addr) (n c : Nat) (l : List Ex) : Prop := n = l.length ∧ n ≤ c ∧ (l ≠ [] → ∃ b off, a = some ⟨b, off, none⟩ ∧ b < w.heap.size ∧ ∀ (j : Nat) t, l[j]? = some t → ∃ (P : Nat → Prop) (h : Nat), ExAt w P h b (off + j * 7) t)
theorem ex_open {w : World} {P : Nat → Prop} {h b o : Nat} {t : Ex} (hx : ExAt w P h b o t) : ∃ a n c, w.rangeAt b o [.int .i64 t.op, .string t.name, .string t.num, .bool t.b, .slice a n c, .int .i64 0, .int .i64 t.at'] ∧ RowO w a n c t.l := by
  obtain ⟨op, nm, nu, bl, l, i⟩ := t
  cases h with
  | zero => exact hx.elim
  | succ h =>
    obtain ⟨a, c, h1, h2, h3, h4⟩ := hx
    refine ⟨a, l.length, c, h1, rfl, h2, fun hne => ?_⟩
    obtain ⟨b, off, e, -, hb, hj⟩ := h4 (fun e => hne (List.length_eq_zero_iff.1 e))
    exact ⟨b, off, e, hb, fun j t ht => ⟨P, h, hj j (List.getElem?_eq_some_iff.1 ht).1 t ht⟩⟩
theorem ise_open {w : World} {lo : Nat} {v : Value} {t : Ex} (hx : IsE w lo v t) : ∃ a n c, v = .agg #[.int .i64 t.op, .string t.name, .string t.num, .bool t.b, .slice a n c, .int .i64 0, .int .i64 t.at'] ∧ RowO w a n c t.l := by
  obtain ⟨op, nm, nu, bl, l, i⟩ := t
  obtain ⟨h, a, c, e, h2, h3, h4⟩ := hx
  refine ⟨a, l.length, c, e, rfl, h2, fun hne => ?_⟩
  obtain ⟨b, off, e, -, hb, hj⟩ := h4 (fun e => hne (List.length_eq_zero_iff.1 e))
  exact ⟨b, off, e, hb, fun j t ht => ⟨_, h, hj j (List.getElem?_eq_some_iff.1 ht).1 t ht⟩⟩
theorem RowO.open {w : World} {a : Option Addr} {n c : Nat} {l : List Ex} (h : RowO w a n c l) (hne : l ≠ []) : ∃ b off, a = some ⟨b, off, none⟩ ∧ b < w.heap.size ∧ ∀ (j : Nat) t, l[j]? = some t → ∃ a n c, w.rangeAt b (off + j * 7) [.int .i64 t.op, .string t.name, .string t.num, .bool t.b, .slice a n c, .int .i64 0, .int .i64 t.at'] ∧ RowO w a n c t.l := by
  obtain ⟨b, off, e, hb, hj⟩ := h.2.2 hne
  refine ⟨b, off, e, hb, fun j t ht => ?_⟩
  obtain ⟨P, k, hx⟩ := hj j t ht
  exact ex_open hx
theorem ckp_open {n : Nat} {x : Except (Int × Int) Ex} (h : ckp n x = true) : ∃ (u0 u1 u2 v0 v1 c0 c1 z0 e0 e1 t : Ex), x = .ok t ∧ t.l = [u0, u1, u2] ∧ u1.op = 23 ∧ u1.l = [v0, v1] ∧ v1.l = [c0, c1] ∧ u2.op = 7 ∧ u2.l = [z0] ∧ z0.l = [e0, e1] ∧
    t.at' = n ∧ u0.at' = n + 3 ∧ u1.at' = n + 10 ∧ v0.at' = n + 18 ∧ v1.at' = n + 25 ∧ c0.at' = n + 23 ∧ c1.at' = n + 27 ∧ u2.at' = n + 34 ∧ z0.at' = n + 36 ∧ e0.at' = n + 40 ∧ e1.at' = n + 44 := by
  unfold ckp at h
  split at h
  · simp only [Bool.and_eq_true, decide_eq_true_eq] at h
    obtain ⟨⟨⟨⟨⟨⟨⟨⟨⟨⟨h0, h1⟩, h2⟩, h3⟩, h4⟩, h5⟩, h6⟩, h7⟩, h8⟩, h9⟩, h10⟩ := h
    exact ⟨_, _, _, _, _, _, _, _, _, _, _, rfl, rfl, rfl, rfl, rfl, rfl, rfl, rfl, h0, h1, h2, h3, h4, h5, h6, h7, h8, h9, h10⟩
  · cases h
end Go.Proofs.YtfkfnbehdcmgeaaGreatDoor

/- The statements of package parse: ParsePlaces, its last part. -/
namespace Go.Proofs.YtfkfnbehdcmgeaaGreatDoor
open Go Go.RowKit
def pR : Code → Code
  | .seq _ b => b
  | c => c
/-- What stands behind y and z. -/
def pTail (f : Func) : Code := pR (pR (pR (pR (pR (pR (pR (pR (f.body.getD .skip))))))))
set_option maxRecDepth 100000 in
set_option maxHeartbeats 16000000 in
theorem places_tail {V : World} {i xq qy qz b1 o1 tc by_ oy yc bz oz zc bc oc vc be oe zc1 : Nat} {x3 x4 x9 x10 x11 x12 x13 x14 x15 x16 x17 x18 x19 x20 x21 x22 x23 x24 x25 x26 x27 x28 x29 x30 x31 x32 x33 x34 x35 x36 x37 x38 x39 x40 x41 : Value} {Q : Exit → Act → World → Prop} (hi : i < 50) (h1 : V.cell? ⟨xq, 4, none⟩ = some (.slice (some ⟨b1, o1, none⟩) 3 tc)) (h2 : V.cell? ⟨xq, 6, none⟩ = some (.int .i64 (i : Int))) (h3 : V.cell? ⟨b1, o1 + 6, none⟩ = some (.int .i64 ((i : Int) + 3))) (h4 : V.cell? ⟨qy, 0, none⟩ = some (.int .i64 23)) (h5 : V.cell? ⟨qy, 4, none⟩ = some (.slice (some ⟨by_, oy, none⟩) 2 yc)) (h6 : V.cell? ⟨qy, 6, none⟩ = some (.int .i64 ((i : Int) + 10))) (h7 : V.cell? ⟨qz, 0, none⟩ = some (.int .i64 7)) (h8 : V.cell? ⟨qz, 4, none⟩ = some (.slice (some ⟨bz, oz, none⟩) 1 zc)) (h9 : V.cell? ⟨qz, 6, none⟩ = some (.int .i64 ((i : Int) + 34))) (k0 : V.cell? ⟨by_, oy + 6, none⟩ = some (.int .i64 ((i : Int) + 18))) (k1 : V.cell? ⟨by_, oy + 11, none⟩ = some (.slice (some ⟨bc, oc, none⟩) 2 vc)) (k2 : V.cell? ⟨by_, oy + 13, none⟩ = some (.int .i64 ((i : Int) + 25))) (k3 : V.cell? ⟨bc, oc + 6, none⟩ = some (.int .i64 ((i : Int) + 23))) (k4 : V.cell? ⟨bc, oc + 13, none⟩ = some (.int .i64 ((i : Int) + 27))) (k5 : V.cell? ⟨bz, oz + 4, none⟩ = some (.slice (some ⟨be, oe, none⟩) 2 zc1)) (k6 : V.cell? ⟨bz, oz + 6, none⟩ = some (.int .i64 ((i : Int) + 36))) (k7 : V.cell? ⟨be, oe + 6, none⟩ = some (.int .i64 ((i : Int) + 40))) (k8 : V.cell? ⟨be, oe + 13, none⟩ = some (.int .i64 ((i : Int) + 44))) (hQ : ∀ a : Act, a.defers = [] → a.tmps.getD 2 undef = .bool true → Q .ret a V) :
    Code.wp Tryz.prog (pTail Tryz.f10) Q { tmps := #[.int .i64 i, undef, .bool false, x3, x4, .pointer (some ⟨xq, 0, none⟩), .nilIface, .pointer (some ⟨qy, 0, none⟩), .pointer (some ⟨qz, 0, none⟩), x9, x10, x11, x12, x13, x14, x15, x16, x17, x18, x19, x20, x21, x22, x23, x24, x25, x26, x27, x28, x29, x30, x31, x32, x33, x34, x35, x36, x37, x38, x39, x40, x41, undef, undef, undef, undef, undef, undef, undef, undef, undef, undef, undef, undef, undef, undef, undef, undef, undef, undef, undef, undef, undef, undef, undef, undef, undef, undef, undef, undef, undef, undef, undef, undef, undef, undef, undef, undef, undef, undef, undef, undef, undef, undef, undef, undef, undef, undef, undef, undef, undef, undef, undef, undef, undef, undef, undef, undef, undef, undef, undef, undef, undef, undef, undef, undef, undef, undef, undef, undef, undef, undef, undef, undef, undef, undef, undef, undef, undef, undef, undef, undef, undef, undef, undef, undef, undef, undef, undef, undef, undef, undef, undef, undef, undef, undef, undef, undef, undef, undef, undef, undef, undef, undef, undef, undef, undef, undef, undef, undef, undef, undef, undef, undef, undef, undef, undef, undef, undef, undef, undef, undef, undef, undef, undef, undef, undef, undef, undef, undef, undef, undef, undef, undef, undef, undef, undef, undef, undef, undef, undef, undef, undef, undef, undef, undef, undef, undef, undef, undef], defers := [] } V := by
  have gi : (i : Int) < 50 := by omega
  have g0 : (0 : Int) ≤ (i : Int) := by omega
  have HQ := hide hQ
  clear hQ hi
  conv => arg 2; whnf
  go_wp2
  exact unhide HQ _ rfl rfl
end Go.Proofs.YtfkfnbehdcmgeaaGreatDoor

/- The statements of package parse: ParsePlaces, its walk up to the tree. -/
namespace Go.Proofs.YtfkfnbehdcmgeaaGreatDoor
open Go Go.RowKit
set_option maxRecDepth 100000 in
set_option maxHeartbeats 16000000 in
theorem places_walk (a : Int) (w : World) (hG : SG w) (hE : EH w) : Calls Tryz.prog 10 #[.int .i64 a] w fun e w' => e = .returned (.bool true) ∧ Below w.heap.size w w' := by
  obtain ⟨k, hk, hk4⟩ : ∃ k : Nat, plc a 50 = (k : Int) ∧ k < 50 := ⟨(plc a 50).toNat, by have := plc_in a (n := 50) (by omega); omega, by have := plc_in a (n := 50) (by omega); omega⟩
  have hP1 := fun W => place_any a 50 W (by omega) (by omega)
  rw [hk] at hP1
  replace hP1 := hide hP1
  have h1w := hG.lt
  have C0 := hide (known15_any w hG hE)
  have HGE := hide (And.intro hG (And.intro hE h1w))
  have HK := hide hk4
  clear hk hG hE h1w hk4
  go_enter Tryz.func10, Tryz.ntmps10
  go_wp2_with fail
  refine (unhide C0).mono ?_
  rintro e w1 ⟨rfl, hb1⟩
  have HB := hide hb1
  clear hb1 C0
  go_wp2_with fail
  refine (unhide hP1 _).mono ?_
  rintro e w3 ⟨rfl, rfl⟩
  go_wp2_with fail
  go_loopw [3, 4] (fun tv iv wr => ∃ (i : Nat) (T : ByteArray), i ≤ k ∧ iv = .int .i64 i ∧ tv = .string T ∧ Hid (T = bls i) ∧ wr = w3) (fun _ iv _ => k - (intOf iv).toNat)
  case atStart => exact ⟨0, _, Nat.zero_le _, rfl, rfl, rfl, rfl⟩
  case round =>
    obtain ⟨i, T, hi0, rfl, rfl, hT, rfl⟩ := hrel
    have hk4 := unhide HK
    have hTs : T.size ≤ 50 := by rw [unhide hT, bls_size]; omega
    by_cases hi : i < k
    · have gi : (i : Int) < (k : Int) := by omega
      have gk : (k : Int) < 50 := by omega
      have gi0 : (0 : Int) ≤ (i : Int) := by omega
      have hov : (9223372036854775807 < T.size + 1) = False := by simp; omega
      have HN : Hid (T ++ ⟨#[32]⟩ = bls (i + 1)) := by
        show _ = _
        rw [unhide hT, bls_succ]
      clear hTs hi0
      go_wp2
      refine ⟨⟨i + 1, _, by omega, by simp, rfl, unhide HN, (by first | rfl | trivial)⟩, ?_⟩
      simp [intOf]
      omega
    · obtain rfl : i = k := by omega
      have gi : decide ((i : Int) < (i : Int)) = false := by simp
      have g1 : ¬ ((i : Int) < (i : Int)) := by omega
      have hov : (9223372036854775807 < T.size + 49) = False := by simp; omega
      obtain ⟨hG, hE, h1w⟩ := unhide HGE
      have gIN : i < 50 := hk4
      have hck := ckp_of hk4
      rw [← unhide hT] at hck
      have C1 := hide (pexpr_any (T ++ plT) wr (hG.below (unhide HB) h1w))
      replace hck := hide hck
      clear hk4 hTs hi hi0 hG hE h1w hT
      go_wp2_with fail
      refine (unhide C1).mono ?_
      rintro e w4 ⟨hb4, h4⟩
      obtain ⟨u0, u1, u2, v0, v1, c0, c1, z0, e0, e1, t, hx, ht, hu1, hu1l, hv1l, hu2, hu2l, hz0l, p0, p1, p2, p3, p4, p5, p6, p7, p8, p9, p10⟩ := ckp_open (unhide hck)
      rw [hx] at h4
      obtain ⟨v, rfl, hv⟩ := h4
      obtain ⟨ta, tn, tc, rfl, hrow⟩ := ise_open hv
      have htn : tn = 3 := by rw [hrow.1, ht]; rfl
      have htc := hrow.2.1
      subst htn
      obtain ⟨b1, o1, rfl, hb1, hj1⟩ := hrow.open (by rw [ht]; simp)
      obtain ⟨xa, xn, xc, r0, q0⟩ := hj1 0 u0 (by rw [ht]; rfl)
      obtain ⟨ya, yn, yc, r1, q1⟩ := hj1 1 u1 (by rw [ht]; rfl)
      obtain ⟨za, zn, zc, r2, q2⟩ := hj1 2 u2 (by rw [ht]; rfl)
      obtain ⟨B, eB, hbB, hsB, hhB⟩ := box_new w4 #[.int .i64 t.op, .string t.name, .string t.num, .bool t.b, .slice (some ⟨b1, o1, none⟩) 3 tc, .int .i64 0, .int .i64 t.at'] 36
      have k1 : B.rangeAt b1 (o1 + 7) [.int .i64 u1.op, .string u1.name, .string u1.num, .bool u1.b, .slice ya yn yc, .int .i64 0, .int .i64 u1.at'] := range_same r1 (hbB.block b1 hb1)
      have k2 : B.rangeAt b1 (o1 + 14) [.int .i64 u2.op, .string u2.name, .string u2.num, .bool u2.b, .slice za zn zc, .int .i64 0, .int .i64 u2.at'] := range_same r2 (hbB.block b1 hb1)
      have k0 : B.rangeAt b1 (o1 + 0 * 7) [.int .i64 u0.op, .string u0.name, .string u0.num, .bool u0.b, .slice xa xn xc, .int .i64 0, .int .i64 u0.at'] := range_same r0 (hbB.block b1 hb1)
      have HQ := hide (And.intro hb4 (And.intro hbB (And.intro hb1 (And.intro k0 (And.intro k1 (And.intro k2 (And.intro q1 (And.intro q2 hhB))))))))
      have HPL := hide (And.intro hu1 (And.intro hu1l (And.intro hv1l (And.intro hu2 (And.intro hu2l (And.intro hz0l (And.intro p0 (And.intro p1 (And.intro p2 (And.intro p3 (And.intro p4 (And.intro p5 (And.intro p6 (And.intro p7 (And.intro p8 (And.intro p9 p10))))))))))))))))
      have HEB := hide eB
      have s4 := (blk hhB).2.1 4 _ rfl
      have m0 := k1 0 _ rfl
      have n0 := k2 0 _ rfl
      have m1 := k1 1 _ rfl
      have n1 := k2 1 _ rfl
      have m2 := k1 2 _ rfl
      have n2 := k2 2 _ rfl
      have m3 := k1 3 _ rfl
      have n3 := k2 3 _ rfl
      have m4 := k1 4 _ rfl
      have n4 := k2 4 _ rfl
      have m5 := k1 5 _ rfl
      have n5 := k2 5 _ rfl
      have m6 := k1 6 _ rfl
      have n6 := k2 6 _ rfl
      simp only [Nat.add_assoc, Nat.reduceAdd, Nat.add_zero] at m0 n0 m1 n1 m2 n2 m3 n3 m4 n4 m5 n5 m6 n6
      have hb1B : b1 < B.heap.size := Nat.lt_of_lt_of_le hb1 hbB.size
      have hBB : w4.heap.size < B.heap.size := (blk hhB).1
      have al1 : ∀ (o : Obj) (x : Nat), (B.alloc o).cell? ⟨b1, x, none⟩ = B.cell? ⟨b1, x, none⟩ := fun o x => ((Below.refl B.heap.size B).alloc (Nat.le_refl _) o).cell (p := ⟨b1, x, none⟩) hb1B
      have al2 : ∀ (o p : Obj) (x : Nat), ((B.alloc o).alloc p).cell? ⟨b1, x, none⟩ = B.cell? ⟨b1, x, none⟩ := fun o p x => (((Below.refl (B.alloc o).heap.size (B.alloc o)).alloc (Nat.le_refl _) p).cell (p := ⟨b1, x, none⟩) (by simp; omega)).trans (al1 o x)
      have bl1 : ∀ (o : Obj) (x : Nat), (B.alloc o).cell? ⟨w4.heap.size, x, none⟩ = B.cell? ⟨w4.heap.size, x, none⟩ := fun o x => ((Below.refl B.heap.size B).alloc (Nat.le_refl _) o).cell (p := ⟨w4.heap.size, x, none⟩) hBB
      have bl2 : ∀ (o p : Obj) (x : Nat), ((B.alloc o).alloc p).cell? ⟨w4.heap.size, x, none⟩ = B.cell? ⟨w4.heap.size, x, none⟩ := fun o p x => (((Below.refl (B.alloc o).heap.size (B.alloc o)).alloc (Nat.le_refl _) p).cell (p := ⟨w4.heap.size, x, none⟩) (by simp; omega)).trans (bl1 o x)
      have htc3 : 3 ≤ tc := htc
      clear C1 hb4 hx ht hu1 hu1l hv1l hu2 hu2l hz0l p0 p1 p2 p3 p4 p5 p6 p7 p8 p9 p10 hv hrow htc hb1 hj1 r0 r1 r2 q0 q1 q2 eB hbB hsB hhB k0 k1 k2 hck htc3 hb1B hBB
      go_wp2_with fail
      rw [unhide HEB]
      rename_i K1 h1
      replace h1 := hide h1
      go_region
      all_goals refine unhide h1 _ _ ?_
      all_goals clear K1 h1
      all_goals change Code.wp _ (pTail Tryz.f10) _ _ _
      · obtain ⟨V1, eV1, hbV1, hsV1, hhV1⟩ := box_new B #[.int .i64 u1.op, .string u1.name, .string u1.num, .bool u1.b, .slice ya yn yc, .int .i64 0, .int .i64 u1.at'] 36
        obtain ⟨V2, eV2, hbV2, hsV2, hhV2⟩ := box_new V1 #[.int .i64 u2.op, .string u2.name, .string u2.num, .bool u2.b, .slice za zn zc, .int .i64 0, .int .i64 u2.at'] 36
        rw [eV1, eV2]
        obtain ⟨hb4, hbB, hb1, k0, k1, k2, q1, q2, hhB⟩ := unhide HQ
        obtain ⟨hu1, hu1l, hv1l, hu2, hu2l, hz0l, p0, p1, p2, p3, p4, p5, p6, p7, p8, p9, p10⟩ := unhide HPL
        have hBV : Below B.heap.size B V2.drew := (hbV1.trans (hbV2.mono (Nat.le_of_lt (by omega)))).drew
        have hw : Below w4.heap.size w4 V2.drew := hbB.trans (hBV.mono hbB.size)
        have h1st : V2.drew.heap[B.heap.size]? = some (.cells #[.int .i64 u1.op, .string u1.name, .string u1.num, .bool u1.b, .slice ya yn yc, .int .i64 0, .int .i64 u1.at'] 36) := (hbV2.block _ (by omega)).trans hhV1
        have h2nd : V2.drew.heap[B.heap.size + 1]? = some (.cells #[.int .i64 u2.op, .string u2.name, .string u2.num, .bool u2.b, .slice za zn zc, .int .i64 0, .int .i64 u2.at'] 36) := by rw [← hsV1]; exact hhV2
        have hX : V2.drew.heap[w4.heap.size]? = some (.cells #[.int .i64 t.op, .string t.name, .string t.num, .bool t.b, .slice (some ⟨b1, o1, none⟩) 3 tc, .int .i64 0, .int .i64 t.at'] 36) := (hBV.block _ (blk hhB).1).trans hhB
        have hfin : Below w.heap.size w V2.drew := (unhide HB).trans (((hb4.trans (hw.mono hb4.size))).mono (unhide HB).size)
        have kv : ∀ (b o : Nat) (v : Value), b < w4.heap.size → w4.cell? ⟨b, o, none⟩ = some v → V2.drew.cell? ⟨b, o, none⟩ = some v := fun b o v hb h => (hw.cell (p := ⟨b, o, none⟩) hb).trans h
        have kB : ∀ (b o : Nat) (v : Value), b < B.heap.size → B.cell? ⟨b, o, none⟩ = some v → V2.drew.cell? ⟨b, o, none⟩ = some v := fun b o v hb h => (hBV.cell (p := ⟨b, o, none⟩) hb).trans h
        have hb1B : b1 < B.heap.size := Nat.lt_of_lt_of_le hb1 hbB.size
        have x4 := (blk hX).2.1 4 _ rfl
        have x6 := (blk hX).2.1 6 _ rfl
        have a6 := kB _ _ _ hb1B (k0 6 _ rfl)
        have y0 := (blk h1st).2.1 0 _ rfl
        have y4 := (blk h1st).2.1 4 _ rfl
        have y6 := (blk h1st).2.1 6 _ rfl
        have z0' := (blk h2nd).2.1 0 _ rfl
        have z4 := (blk h2nd).2.1 4 _ rfl
        have z6 := (blk h2nd).2.1 6 _ rfl
        have hyn : yn = 2 := by rw [q1.1, hu1l]; rfl
        have hzn : zn = 1 := by rw [q2.1, hu2l]; rfl
        obtain ⟨by_, oy, rfl, hby, hjy⟩ := q1.open (by rw [hu1l]; simp)
        obtain ⟨bz, oz, rfl, hbz, hjz⟩ := q2.open (by rw [hu2l]; simp)
        obtain ⟨va, vn, vc, rv0, -⟩ := hjy 0 v0 (by rw [hu1l]; rfl)
        obtain ⟨v1a, v1n, v1c, rv1, qv1⟩ := hjy 1 v1 (by rw [hu1l]; rfl)
        obtain ⟨z1a, z1n, z1c, rz0, qz0⟩ := hjz 0 z0 (by rw [hu2l]; rfl)
        have hv1n : v1n = 2 := by rw [qv1.1, hv1l]; rfl
        have hz1n : z1n = 2 := by rw [qz0.1, hz0l]; rfl
        obtain ⟨bc, oc, rfl, hbc, hjc⟩ := qv1.open (by rw [hv1l]; simp)
        obtain ⟨be, oe, rfl, hbe, hje⟩ := qz0.open (by rw [hz0l]; simp)
        obtain ⟨_, _, _, rc0, -⟩ := hjc 0 c0 (by rw [hv1l]; rfl)
        obtain ⟨_, _, _, rc1, -⟩ := hjc 1 c1 (by rw [hv1l]; rfl)
        obtain ⟨_, _, _, re0, -⟩ := hje 0 e0 (by rw [hz0l]; rfl)
        obtain ⟨_, _, _, re1, -⟩ := hje 1 e1 (by rw [hz0l]; rfl)
        subst hyn hzn hv1n hz1n
        have f0 := kv _ _ _ hby (rv0 6 _ rfl)
        have f1 := kv _ _ _ hby (rv1 4 _ rfl)
        have f2 := kv _ _ _ hby (rv1 6 _ rfl)
        have f3 := kv _ _ _ hbc (rc0 6 _ rfl)
        have f4 := kv _ _ _ hbc (rc1 6 _ rfl)
        have f5 := kv _ _ _ hbz (rz0 4 _ rfl)
        have f6 := kv _ _ _ hbz (rz0 6 _ rfl)
        have f7 := kv _ _ _ hbe (re0 6 _ rfl)
        have f8 := kv _ _ _ hbe (re1 6 _ rfl)
        simp only [Nat.zero_mul, Nat.one_mul, Nat.add_zero, Nat.add_assoc, Nat.reduceAdd] at a6 f0 f1 f2 f3 f4 f5 f6 f7 f8
        refine places_tail (i := i) gIN (x4.trans rfl) (x6.trans (by rw [← p0]; rfl)) (a6.trans (by rw [← p1])) (y0.trans (by rw [← hu1]; rfl)) (y4.trans rfl) (y6.trans (by rw [← p2]; rfl)) (z0'.trans (by rw [← hu2]; rfl)) (z4.trans rfl) (z6.trans (by rw [← p7]; rfl)) (f0.trans (by rw [← p3])) f1 (f2.trans (by rw [← p4])) (f3.trans (by rw [← p5])) (f4.trans (by rw [← p6])) f5 (f6.trans (by rw [← p8])) (f7.trans (by rw [← p9])) (f8.trans (by rw [← p10])) (fun a hd ht => ?_)
        refine bodyPost_ret (results_tmp rfl _ _ _) hd ⟨?_, hfin⟩
        rw [ht]
      · obtain ⟨V1, eV1, hbV1, hsV1, hhV1⟩ := box_new B #[.int .i64 u2.op, .string u2.name, .string u2.num, .bool u2.b, .slice za zn zc, .int .i64 0, .int .i64 u2.at'] 36
        obtain ⟨V2, eV2, hbV2, hsV2, hhV2⟩ := box_new V1 #[.int .i64 u1.op, .string u1.name, .string u1.num, .bool u1.b, .slice ya yn yc, .int .i64 0, .int .i64 u1.at'] 36
        rw [eV1, eV2]
        obtain ⟨hb4, hbB, hb1, k0, k1, k2, q1, q2, hhB⟩ := unhide HQ
        obtain ⟨hu1, hu1l, hv1l, hu2, hu2l, hz0l, p0, p1, p2, p3, p4, p5, p6, p7, p8, p9, p10⟩ := unhide HPL
        have hBV : Below B.heap.size B V2.drew := (hbV1.trans (hbV2.mono (Nat.le_of_lt (by omega)))).drew
        have hw : Below w4.heap.size w4 V2.drew := hbB.trans (hBV.mono hbB.size)
        have h1st : V2.drew.heap[B.heap.size]? = some (.cells #[.int .i64 u2.op, .string u2.name, .string u2.num, .bool u2.b, .slice za zn zc, .int .i64 0, .int .i64 u2.at'] 36) := (hbV2.block _ (by omega)).trans hhV1
        have h2nd : V2.drew.heap[B.heap.size + 1]? = some (.cells #[.int .i64 u1.op, .string u1.name, .string u1.num, .bool u1.b, .slice ya yn yc, .int .i64 0, .int .i64 u1.at'] 36) := by rw [← hsV1]; exact hhV2
        have hX : V2.drew.heap[w4.heap.size]? = some (.cells #[.int .i64 t.op, .string t.name, .string t.num, .bool t.b, .slice (some ⟨b1, o1, none⟩) 3 tc, .int .i64 0, .int .i64 t.at'] 36) := (hBV.block _ (blk hhB).1).trans hhB
        have hfin : Below w.heap.size w V2.drew := (unhide HB).trans (((hb4.trans (hw.mono hb4.size))).mono (unhide HB).size)
        have kv : ∀ (b o : Nat) (v : Value), b < w4.heap.size → w4.cell? ⟨b, o, none⟩ = some v → V2.drew.cell? ⟨b, o, none⟩ = some v := fun b o v hb h => (hw.cell (p := ⟨b, o, none⟩) hb).trans h
        have kB : ∀ (b o : Nat) (v : Value), b < B.heap.size → B.cell? ⟨b, o, none⟩ = some v → V2.drew.cell? ⟨b, o, none⟩ = some v := fun b o v hb h => (hBV.cell (p := ⟨b, o, none⟩) hb).trans h
        have hb1B : b1 < B.heap.size := Nat.lt_of_lt_of_le hb1 hbB.size
        have x4 := (blk hX).2.1 4 _ rfl
        have x6 := (blk hX).2.1 6 _ rfl
        have a6 := kB _ _ _ hb1B (k0 6 _ rfl)
        have y0 := (blk h2nd).2.1 0 _ rfl
        have y4 := (blk h2nd).2.1 4 _ rfl
        have y6 := (blk h2nd).2.1 6 _ rfl
        have z0' := (blk h1st).2.1 0 _ rfl
        have z4 := (blk h1st).2.1 4 _ rfl
        have z6 := (blk h1st).2.1 6 _ rfl
        have hyn : yn = 2 := by rw [q1.1, hu1l]; rfl
        have hzn : zn = 1 := by rw [q2.1, hu2l]; rfl
        obtain ⟨by_, oy, rfl, hby, hjy⟩ := q1.open (by rw [hu1l]; simp)
        obtain ⟨bz, oz, rfl, hbz, hjz⟩ := q2.open (by rw [hu2l]; simp)
        obtain ⟨va, vn, vc, rv0, -⟩ := hjy 0 v0 (by rw [hu1l]; rfl)
        obtain ⟨v1a, v1n, v1c, rv1, qv1⟩ := hjy 1 v1 (by rw [hu1l]; rfl)
        obtain ⟨z1a, z1n, z1c, rz0, qz0⟩ := hjz 0 z0 (by rw [hu2l]; rfl)
        have hv1n : v1n = 2 := by rw [qv1.1, hv1l]; rfl
        have hz1n : z1n = 2 := by rw [qz0.1, hz0l]; rfl
        obtain ⟨bc, oc, rfl, hbc, hjc⟩ := qv1.open (by rw [hv1l]; simp)
        obtain ⟨be, oe, rfl, hbe, hje⟩ := qz0.open (by rw [hz0l]; simp)
        obtain ⟨_, _, _, rc0, -⟩ := hjc 0 c0 (by rw [hv1l]; rfl)
        obtain ⟨_, _, _, rc1, -⟩ := hjc 1 c1 (by rw [hv1l]; rfl)
        obtain ⟨_, _, _, re0, -⟩ := hje 0 e0 (by rw [hz0l]; rfl)
        obtain ⟨_, _, _, re1, -⟩ := hje 1 e1 (by rw [hz0l]; rfl)
        subst hyn hzn hv1n hz1n
        have f0 := kv _ _ _ hby (rv0 6 _ rfl)
        have f1 := kv _ _ _ hby (rv1 4 _ rfl)
        have f2 := kv _ _ _ hby (rv1 6 _ rfl)
        have f3 := kv _ _ _ hbc (rc0 6 _ rfl)
        have f4 := kv _ _ _ hbc (rc1 6 _ rfl)
        have f5 := kv _ _ _ hbz (rz0 4 _ rfl)
        have f6 := kv _ _ _ hbz (rz0 6 _ rfl)
        have f7 := kv _ _ _ hbe (re0 6 _ rfl)
        have f8 := kv _ _ _ hbe (re1 6 _ rfl)
        simp only [Nat.zero_mul, Nat.one_mul, Nat.add_zero, Nat.add_assoc, Nat.reduceAdd] at a6 f0 f1 f2 f3 f4 f5 f6 f7 f8
        refine places_tail (i := i) gIN (x4.trans rfl) (x6.trans (by rw [← p0]; rfl)) (a6.trans (by rw [← p1])) (y0.trans (by rw [← hu1]; rfl)) (y4.trans rfl) (y6.trans (by rw [← p2]; rfl)) (z0'.trans (by rw [← hu2]; rfl)) (z4.trans rfl) (z6.trans (by rw [← p7]; rfl)) (f0.trans (by rw [← p3])) f1 (f2.trans (by rw [← p4])) (f3.trans (by rw [← p5])) (f4.trans (by rw [← p6])) f5 (f6.trans (by rw [← p8])) (f7.trans (by rw [← p9])) (f8.trans (by rw [← p10])) (fun a hd ht => ?_)
        refine bodyPost_ret (results_tmp rfl _ _ _) hd ⟨?_, hfin⟩
        rw [ht]
end Go.Proofs.YtfkfnbehdcmgeaaGreatDoor

namespace Go.Proofs.YtfkfnbehdcmgeaaGreatDoor
open Go Go.RowKit

theorem la_et : Tryz.prog.globalNamed "errors.errorType" = some 0 := by kernel_rfl
theorem la_rt : (Tryz.prog.cutTypes.find? (·.1 == "internal/reflectlite.rtype")).map (·.2) = some 114 := by kernel_rfl
theorem la_one : ((List.range Tryz.prog.types.size).filter fun t => Tryz.prog.rowNamed t [101, 114, 114, 111, 114]) = [25] := by kernel_rfl
theorem eh_of {W : World} (h : handlesMet Tryz.prog [("errors.errorType", Rows.laid_errors_errorType)] W) : EH W := by
  obtain ⟨name, u, ty, e1, e2, e3, e4, e5⟩ := h _ (List.mem_singleton.2 rfl)
  have en : name = [101, 114, 114, 111, 114] := (Option.some.inj e1).symm
  subst en
  obtain rfl := Option.some.inj (la_rt.symm.trans e2)
  have hm : ty ∈ (List.range Tryz.prog.types.size).filter fun t => Tryz.prog.rowNamed t [101, 114, 114, 111, 114] := List.mem_filter.2 ⟨List.mem_range.2 e3, e4⟩
  rw [la_one] at hm
  obtain rfl := List.mem_singleton.1 hm
  have hh : typeHandle Tryz.prog 25 = .pointer (some ⟨4, 25, none⟩) := by kernel_rfl
  rw [hh] at e5
  have := World.var?_cell la_et e5 0
  simpa [EH] using this
theorem la_sg : Tryz.prog.globalNamed "avow/lex.signs" = some 1 := by kernel_rfl
theorem la_st : (Tryz.prog.globals[1]?).map (·.type) = some 139 := by kernel_rfl
theorem la_arr : Tryz.prog.underlying 139 = some (.array 25 9) := by kernel_rfl
theorem la_ca : Tryz.prog.cellsOf 139 = 25 := by kernel_rfl
theorem la_ce : Tryz.prog.cellsOf 9 = 1 := by kernel_rfl
theorem la_data : (Rows.laid_avow_lex_signs : DataW Unit) = .agg ((List.range 25).map fun k => .lit (.string (sgB k).data.toList)) := by kernel_rfl
theorem sg_of {W : World} (h : Lib.VarReads Tryz.prog W "avow/lex.signs" Rows.laid_avow_lex_signs) : SG W := by
  obtain ⟨g, t, cs, fuel, p, hg, hty, hvar, hd⟩ := h
  obtain rfl := Option.some.inj (la_sg.symm.trans hg)
  obtain rfl := Option.some.inj (la_st.symm.trans hty)
  obtain ⟨xs, m, _, hx, hl, hxl, hall⟩ := DataW.trod_array la_arr hd
  rw [la_ca] at hl
  have hxs : xs.map (·.1) = (List.range 25).map fun k => (.lit (.string (sgB k).data.toList) : DataW Unit) := by
    have := congrArg Prod.fst hx
    simp only [la_data] at this
    injection this with this
    exact this.symm
  have hcs : cs.toList = signV := by
    apply List.ext_getElem?
    intro i
    by_cases hi : i < 25
    · have h1 := hall i hi
      obtain ⟨b, hb⟩ : ∃ b, xs[i]? = some b := ⟨xs[i]'(by omega), List.getElem?_eq_getElem (by omega)⟩
      rw [hb, la_ce] at h1
      obtain ⟨z, hcz, rfl, _⟩ := DataW.trod_string (P := Tryz.prog) (t := 9) (by kernel_rfl) h1
      have h2 : cs.toList[i]? = some (.string z) := by
        have := congrArg (·[0]?) hcz
        simpa [List.getElem?_take, List.getElem?_drop] using this
      have h3 : (xs.map (·.1))[i]? = some (.lit (.string z.data.toList) : DataW Unit) := by simp [hb]
      rw [hxs, List.getElem?_map, List.getElem?_range hi] at h3
      simp only [Option.map_some, Option.some.injEq, DataW.lit.injEq, Lit.string.injEq] at h3
      have hz : z = sgB i := by
        cases z with
        | mk z =>
          obtain ⟨y, hy⟩ : ∃ y, sgB i = y := ⟨_, rfl⟩
          rw [hy] at h3 ⊢
          cases y with
          | mk y => simp only at h3; rw [Array.toList_inj.1 h3.symm]
      rw [h2, hz]
      unfold signV
      rw [List.getElem?_map, List.getElem?_range hi]
      rfl
    · rw [List.getElem?_eq_none (by omega), List.getElem?_eq_none (by simp [signV]; omega)]
  unfold World.var? at hvar
  rw [la_sg] at hvar
  simp only [Option.bind_some] at hvar
  split at hvar
  · rename_i c t fr hh
    obtain rfl := Option.some.inj hvar
    refine ⟨t, fr, ?_⟩
    rw [← hcs]
    simpa using hh
  · cases hvar
/-- A row that lists errors.errorType and the signs. -/
theorem two_of {W : World} (h : laidMetH Tryz.prog [("errors.errorType", Rows.laid_errors_errorType), ("avow/lex.signs", Rows.laid_avow_lex_signs)] W) : SG W ∧ EH W := by
  have h' : laidMet Tryz.prog [("avow/lex.signs", Rows.laid_avow_lex_signs)] W ∧ handlesMet Tryz.prog [("errors.errorType", Rows.laid_errors_errorType)] W := h
  exact ⟨sg_of (Lib.laidMet.reads h'.1 (List.mem_singleton.2 rfl)), eh_of h'.2⟩
end Go.Proofs.YtfkfnbehdcmgeaaGreatDoor
