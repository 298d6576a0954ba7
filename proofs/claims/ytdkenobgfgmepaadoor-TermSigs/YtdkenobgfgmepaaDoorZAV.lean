/- The document's names and binds. -/
import Derived.Test.YtdkenobgfgmepaaDoorZAU
import Derived.Test.YtdkenobgfgmepaaDoorRows
import Derived.Lib.LaidTab
import Derived.MakeChecks
import Derived.ChangeArms
import Derived.FnData
import Derived.Test.YtdkenobgfgmepaaDoorZAT
set_option linter.unusedVariables false
set_option linter.unusedSimpArgs false

/- TermWords: its walk. -/
namespace Go.Proofs.YtdkenobgfgmepaaDoor
open Go Go.RowKit
/-- A place among n, of any number. -/
def plc (k n : Int) : Int := if Int.tmod k n < 0 then Int.tmod k n + n else Int.tmod k n
theorem tmod_lt {k n : Int} (hn : 0 < n) : -n < Int.tmod k n ∧ Int.tmod k n < n := by
  have h1 := Int.tmod_lt_of_pos k hn
  have h2 : Int.tmod (-k) n < n := Int.tmod_lt_of_pos (-k) hn
  rw [Int.neg_tmod] at h2
  omega
theorem plc_in (k : Int) {n : Int} (hn : 0 < n) : 0 ≤ plc k n ∧ plc k n < n := by
  have h := tmod_lt (k := k) hn
  unfold plc
  split <;> omega
set_option maxRecDepth 100000 in
set_option maxHeartbeats 4000000 in
theorem place_any (k n : Int) (w : World) (hn : 0 < n) (hn2 : n ≤ 1000000000) : Calls Tryd.prog 30 #[.int .i64 k, .int .i64 n] w fun e w' => e = .returned (.int .i64 (plc k n)) ∧ w' = w := by
  have hr := tmod_lt (k := k) hn
  have n0 : ¬ n = 0 := by omega
  have n1 : (n == 0) = false := by simpa using n0
  have e1 : IntKind.i64.wrap (Int.tmod k n) = Int.tmod k n := by rw [IntKind.wrap_i64]; omega
  by_cases h : Int.tmod k n < 0
  · have hp : Hid (plc k n = Int.tmod k n + n) := if_pos h
    have e2 : IntKind.i64.wrap (Int.tmod k n + n) = Int.tmod k n + n := by rw [IntKind.wrap_i64]; omega
    rw [unhide hp]
    go_enter Tryd.func30, Tryd.ntmps30
    go_wp2
    go_ret
    exact ⟨rfl, rfl⟩
  · have hp : Hid (plc k n = Int.tmod k n) := if_neg h
    have hd : decide (Int.tmod k n < 0) = false := by simp; omega
    rw [unhide hp]
    go_enter Tryd.func30, Tryd.ntmps30
    go_wp2
    go_ret
    exact ⟨rfl, rfl⟩
def tA (s : ByteArray) : Tm := ⟨17, s, 0, .empty, [], [], []⟩
theorem sz_tA (s : ByteArray) : (tA s).size = 1 := by rw [Tm.size_eq]; rfl
theorem dp_tA (s : ByteArray) : (tA s).depth = 1 := by rw [Tm.depth_eq]; rfl
theorem wt_tA (s : ByteArray) : (tA s).wt = 1 := by rw [Tm.wt_eq]; rfl
theorem c_app (s : ByteArray) : (tA s).check rtT [⟨s, [], 1⟩] = if wordB s then (1, 0) else (0, 30) := by
  have hlim : limE (tA s) = 0 := by unfold limE; rw [dp_tA, sz_tA]; rfl
  unfold Tm.check
  rw [hlim]
  simp only [ne_eq, not_true_eq_false, if_false]
  rw [Tm.chk_eq]
  have hf : findF s [⟨s, [], 1⟩] = some ⟨s, [], 1⟩ := by simp [findF]
  by_cases h : wordB s = true
  · have hs : shapeE rtT [⟨s, [], 1⟩] (tA s).op (tA s).name (tA s).num (tA s).l.length (headOp (tA s).l) (tA s).vars (tA s).pat.length = 0 := by
      show appE [⟨s, [], 1⟩] s 0 = 0
      unfold appE
      rw [h, hf]
      rfl
    rw [hs, if_pos h]
    show (match sortOfT [⟨s, [], 1⟩] 17 s [] with | some s => ((s, 0) : Int × Int) | none => (0, 31)) = (1, 0)
    have : sortOfT [⟨s, [], 1⟩] 17 s [] = some 1 := by
      unfold sortOfT
      rw [if_pos rfl, hf]
      rfl
    rw [this]
  · have hs : shapeE rtT [⟨s, [], 1⟩] (tA s).op (tA s).name (tA s).num (tA s).l.length (headOp (tA s).l) (tA s).vars (tA s).pat.length = 30 := by
      show appE [⟨s, [], 1⟩] s 0 = 30
      unfold appE
      rw [if_neg h]
    rw [hs, if_neg h]
    rfl
/-- So many w. -/
def ws (n : Nat) : ByteArray := ⟨(List.replicate n 119).toArray⟩
theorem ws_size (n : Nat) : (ws n).size = n := by simp [ws, ByteArray.size]
theorem ws_succ (n : Nat) : ws (n + 1) = ws n ++ ⟨#[119]⟩ := by
  unfold ws
  apply ByteArray.ext
  apply Array.ext'
  simp [List.replicate_succ', ByteArray.data_append]
theorem ws_word (n : Nat) (h : 39 ≤ n) : wordB (ws n) = decide (n ≤ 40) := by
  have hr : isRes (ws n) = false := by
    have hl : ∀ l : List UInt8, l.length ≤ 38 → ((ws n).toList == l) = false := fun l hl => by
      rw [ByteArray.toList_eq, beq_eq_false_iff_ne]
      intro e
      have := congrArg List.length e
      simp [ws] at this
      omega
    unfold isRes
    simp [hl]
  unfold wordB
  rw [hr, ws_size]
  have ha : ((List.range n).all fun i => letB (byteOf (ws n) i) || (digB (byteOf (ws n) i) && !(i == 0))) = true := by
    rw [List.all_eq_true]
    intro i hi
    have hin : i < n := List.mem_range.1 hi
    have hb : byteOf (ws n) i = 119 := by
      unfold byteOf ws
      simp [List.getD_eq_getElem?_getD, List.getElem?_replicate, hin]
    rw [hb]
    rfl
  rw [ha]
  have : decide (0 < n) = true := by simp; omega
  rw [this]
  simp
end Go.Proofs.YtdkenobgfgmepaaDoor

/- TermWords: its walk. -/
namespace Go.Proofs.YtdkenobgfgmepaaDoor
open Go Go.RowKit
/-- Check of a name's application, with that name alone. -/
theorem check_name (s : ByteArray) (hs : s.size ≤ 9223372036854775807) {W : World} (hR : RL W) (h0 : 0 < W.heap.size) {g : Nat} (hg : W.heap[g]? = some (.cells #[.string s, .slice none 0 0, .int .i64 1] 56)) :
    Calls Tryd.prog 14 #[.slice (some ⟨g, 0, none⟩) 1 1, .agg #[.int .i64 17, .string s, .int .i64 0, .string .empty, .slice none 0 0, .slice none 0 0, .slice none 0 0]] W (VPost (.tuple #[.int .i64 (if wordB s then 1 else 0), .int .i64 (if wordB s then 0 else 30)]) W) := by
  have hlt := (Array.getElem?_eq_some_iff.1 hg).1
  have hI : IsT W W.heap.size 0 (.agg #[.int .i64 17, .string s, .int .i64 0, .string .empty, .slice none 0 0, .slice none 0 0, .slice none 0 0]) (tA s) := IsT.mk (t := tA s) (show fits 17 by unfold fits; omega) (show fits 0 by unfold fits; omega) row_nil row_nil row_nil
  have hSig : Row W.heap.size (some ⟨g, 0, none⟩) 1 1 3 (SigR W W.heap.size [⟨s, [], 1⟩]) := by
    refine ⟨Nat.le_refl _, by omega, fun _ => ⟨g, 0, rfl, hlt, fun j hj f hf => ?_⟩⟩
    have hj0 : j = 0 := by omega
    subst hj0
    have hf' : f = ⟨s, [], 1⟩ := by simpa using hf.symm
    subst hf'
    have hh : W.heap[g]? = some (.cells [.string s, .slice none 0 0, .int .i64 1].toArray 56) := hg
    exact ⟨none, 0, range_block hh, (show fits 1 by unfold fits; omega), row_nil⟩
  have h := Check_any (rt := rtT) (B := W.heap.size) (d := 0) (sig := [⟨s, [], 1⟩]) hI hSig rfl (Nat.le_refl _) h0 hR ⟨fun h => absurd h (show ¬ (17 : Int) = 1 by decide), hs, by simp [tA], by rw [sz_tA]; omega, by rw [dp_tA]; omega, by simp [tA], by simp [tA]⟩ (by rw [wt_tA]; omega)
  rw [c_app] at h
  have e : pairV (if wordB s then ((1, 0) : Int × Int) else (0, 30)) = .tuple #[.int .i64 (if wordB s then 1 else 0), .int .i64 (if wordB s then 0 else 30)] := by
    unfold pairV
    split <;> rfl
  rw [e] at h
  exact h
theorem check_e (s : ByteArray) (hs : s.size ≤ 9223372036854775807) : ∃ e1 e2 : Int, (∀ (W : World) (g : Nat), RL W → 0 < W.heap.size → W.heap[g]? = some (.cells #[.string s, .slice none 0 0, .int .i64 1] 56) → Calls Tryd.prog 14 #[.slice (some ⟨g, 0, none⟩) 1 1, .agg #[.int .i64 17, .string s, .int .i64 0, .string .empty, .slice none 0 0, .slice none 0 0, .slice none 0 0]] W (VPost (.tuple #[.int .i64 e1, .int .i64 e2]) W)) ∧ ((e2 = 0 ∧ wordB s = true) ∨ (e2 = 30 ∧ wordB s = false)) := by
  refine ⟨if wordB s then 1 else 0, if wordB s then 0 else 30, fun W g hR h0 hg => check_name s hs hR h0 hg, ?_⟩
  cases wordB s
  · exact .inr ⟨rfl, rfl⟩
  · exact .inl ⟨rfl, rfl⟩
set_option maxRecDepth 1000000 in
set_option maxHeartbeats 16000000 in
theorem words_walk (s : ByteArray) (n : Int) (w : World) (hs : s.size ≤ 9223372036854775807) (hR : RL w) (h0 : 0 < w.heap.size) : Calls Tryd.prog 10 #[.string s, .int .i64 n] w (VPost (.bool true) w) := by
  have HK := hide (known_any hR h0)
  have HR := hide hR
  clear hR
  obtain ⟨hp0, hp1⟩ := plc_in n (n := 3) (by omega)
  obtain ⟨p, ep⟩ : ∃ p : Nat, plc n 3 = (p : Int) := ⟨(plc n 3).toNat, by omega⟩
  have hp3 : p < 3 := by omega
  have HP : Hid (∀ w : World, Calls Tryd.prog 30 #[.int .i64 n, .int .i64 3] w fun e w' => e = .returned (.int .i64 (p : Int)) ∧ w' = w) := fun w => by
    have := place_any n 3 w (by omega) (by omega)
    rw [ep] at this
    exact this
  clear ep hp0 hp1
  by_cases hl : 100 < s.size
  · have hd1 : decide ((100 : Int) < (s.size : Int)) = true := by simp; omega
    clear hl
    go_enter Tryd.func10, Tryd.ntmps10
    go_wp2_with fail
    refine (unhide HK).mono ?_
    rintro e w1 ⟨rfl, hb1⟩
    have HB1 := hide hb1
    clear hb1
    go_wp2
    go_ret
    exact ⟨rfl, unhide HB1⟩
  have hd1 : decide ((100 : Int) < (s.size : Int)) = false := by simp; omega
  have hsI : (s.size : Int) ≤ 100 := by omega
  clear hl
  go_enter Tryd.func10, Tryd.ntmps10
  go_wp2_with fail
  refine (unhide HK).mono ?_
  rintro e w1 ⟨rfl, hb1⟩
  have HB1 := hide hb1
  clear hb1
  go_wp2
  go_loopw [6, 5] (fun iv sv wr => ∃ i : Nat, i ≤ 39 + p ∧ iv = .int .i64 (i : Int) ∧ sv = .string (ws i) ∧ wr = w1) (fun iv _ _ => (39 + p - (intOf iv).toNat))
  case atStart => exact ⟨0, Nat.zero_le _, rfl, rfl, rfl⟩
  case round =>
    obtain ⟨i, hi, rfl, rfl, rfl⟩ := hrel
    have hwsz := ws_size i
    by_cases hlt : i < 39 + p
    · have hdi : decide ((i : Int) < 39 + (p : Int)) = true := by simp; omega
      have hcat : (9223372036854775807 < (ws i).size + 1) = False := by simp; omega
      have hsc := hide (ws_succ i)
      clear hwsz
      go_wp2_with fail
      refine (unhide HP wr).mono ?_
      rintro e w2 ⟨rfl, rfl⟩
      go_wp2
      exact ⟨⟨i + 1, by omega, rfl, by rw [unhide hsc], trivial⟩, by simp only [intOf]; omega⟩
    · obtain rfl : i = 39 + p := by omega
      have hdi : decide (((39 + p : Nat) : Int) < 39 + (p : Int)) = false := by simp
      go_wp2_with fail
      refine (unhide HP wr).mono ?_
      rintro e w2 ⟨rfl, rfl⟩
      obtain ⟨e1, e2, hc, he⟩ := check_e s hs
      obtain ⟨m, hm⟩ : ∃ m : Nat, 39 + p = m := ⟨_, rfl⟩
      rw [hm] at hwsz ⊢
      have hdm : decide ((m : Int) < 39 + (p : Int)) = false := by simp; omega
      obtain ⟨f1, f2, hcf, hf⟩ := check_e (ws m) (by omega)
      have hwm := ws_word m (by omega)
      have HCE := hide hc
      have HCF := hide hcf
      have HMM := hide (And.intro hwm (show m ≤ 41 by omega))
      obtain ⟨A, eA, hbA, hsA, hcA, hhA⟩ := box_new w2 #[.string s, .slice none 0 0, .int .i64 1] 56
      have HA := hide (And.intro hbA hhA)
      have HEA := hide eA
      have HAp := hide (app_any s none 0 0 A)
      clear hc hcf hwm hbA hsA hcA hhA eA hm hdi
      go_wp2_with fail
      rw [unhide HEA]
      refine (unhide HAp).mono ?_
      rintro e w3 ⟨rfl, hb3⟩
      have hA3 := ((hb3.block _ (Array.getElem?_eq_some_iff.1 (unhide HA).2).1).trans (unhide HA).2)
      have hb13 : Below w2.heap.size w2 w3 := (unhide HA).1.trans (hb3.mono (unhide HA).1.size)
      have hb03 : Below w.heap.size w w3 := (unhide HB1).trans (hb13.mono (unhide HB1).size)
      have HC3 := hide (unhide HCE w3 w2.heap.size ((unhide HR).below hb03 h0) (by have := hb03.size; omega) hA3)
      have H3 := hide hb03
      clear hb3 hA3 hb13 hb03 HAp
      go_wp2_with fail
      refine (unhide HC3).mono ?_
      rintro e w4 ⟨rfl, hb4⟩
      have hb04 : Below w.heap.size w w4 := (unhide H3).trans (hb4.mono (unhide H3).size)
      obtain ⟨D, eD, hbD, hsD, hcD, hhD⟩ := box_new w4 #[.string (ws m), .slice none 0 0, .int .i64 1] 56
      have HD := hide (And.intro hbD (And.intro hhD hb04))
      have HED := hide eD
      have HAp := hide (app_any (ws m) none 0 0 D)
      clear hb4 hb04 hbD hsD hcD hhD eD HC3
      go_wp2_with fail
      rw [unhide HED]
      refine (unhide HAp).mono ?_
      rintro e w5 ⟨rfl, hb5⟩
      obtain ⟨hbD, hhD, hb04⟩ := unhide HD
      have hD5 := ((hb5.block _ (Array.getElem?_eq_some_iff.1 hhD).1).trans hhD)
      have hb45 : Below w4.heap.size w4 w5 := hbD.trans (hb5.mono hbD.size)
      have hb05 : Below w.heap.size w w5 := hb04.trans (hb45.mono hb04.size)
      have HC5 := hide (unhide HCF w5 w4.heap.size ((unhide HR).below hb05 h0) (by have := hb05.size; omega) hD5)
      have H5 := hide hb05
      clear hb5 hD5 hb45 hb05 HAp hbD hhD hb04
      go_wp2_with fail
      refine (unhide HC5).mono ?_
      rintro e w6 ⟨rfl, hb6⟩
      have H6 := hide ((unhide H5).trans (hb6.mono (unhide H5).size))
      have HW := hide (Word_any s w6 hs)
      clear hb6 HC5
      go_wp2_with fail
      refine (unhide HW).mono ?_
      rintro e w7 ⟨bw, rfl, hbw, hb7⟩
      have H7 := hide ((unhide H6).trans (hb7.mono (unhide H6).size))
      have hbe : bw = wordB s := by
        have h1 := wordB_iff s
        cases hb : bw <;> cases hw : wordB s <;> simp_all
      clear hb7 hbw
      have hmI : (m : Int) ≤ 41 := by have := (unhide HMM).2; omega
      have hml : ((ws m).size : Int) = (m : Int) := by rw [ws_size]
      rcases he with ⟨rfl, hw⟩ | ⟨rfl, hw⟩
      · rw [hw] at hbe
        subst hbe
        by_cases h40 : m ≤ 40
        · have hd4 : decide ((m : Int) ≤ 40) = true := by simp; omega
          have hf2 : f2 = 0 := by
            rcases hf with ⟨h, _⟩ | ⟨_, h⟩
            · exact h
            · rw [(unhide HMM).1] at h
              simp at h
              omega
          subst hf2
          clear hf hw h40
          go_wp2
          go_ret
          exact ⟨rfl, unhide H7⟩
        · have hd4 : decide ((m : Int) ≤ 40) = false := by simp; omega
          have hf2 : f2 = 30 := by
            rcases hf with ⟨_, h⟩ | ⟨h, _⟩
            · rw [(unhide HMM).1] at h
              simp at h
              omega
            · exact h
          subst hf2
          clear hf hw h40
          go_wp2
          go_ret
          exact ⟨rfl, unhide H7⟩
      · rw [hw] at hbe
        subst hbe
        by_cases h40 : m ≤ 40
        · have hd4 : decide ((m : Int) ≤ 40) = true := by simp; omega
          have hf2 : f2 = 0 := by
            rcases hf with ⟨h, _⟩ | ⟨_, h⟩
            · exact h
            · rw [(unhide HMM).1] at h
              simp at h
              omega
          subst hf2
          clear hf hw h40
          go_wp2
          go_ret
          exact ⟨rfl, unhide H7⟩
        · have hd4 : decide ((m : Int) ≤ 40) = false := by simp; omega
          have hf2 : f2 = 30 := by
            rcases hf with ⟨_, h⟩ | ⟨h, _⟩
            · rw [(unhide HMM).1] at h
              simp at h
              omega
            · exact h
          subst hf2
          clear hf hw h40
          go_wp2
          go_ret
          exact ⟨rfl, unhide H7⟩
end Go.Proofs.YtdkenobgfgmepaaDoor

/- The table of rules, as the rows read it. -/
namespace Go.Proofs.YtdkenobgfgmepaaDoor
open Go Go.RowKit
theorem ru_g : Tryd.prog.globalNamed "avow/term.rules" = some 0 := by kernel_rfl
theorem ru_gt : (Tryd.prog.globals[0]?).map (·.type) = some 176 := by kernel_rfl
theorem ru_arr : Tryd.prog.underlying 176 = some (.array 17 175) := by kernel_rfl
theorem ru_ca : Tryd.prog.cellsOf 176 = 68 := by kernel_rfl
theorem ru_ce : Tryd.prog.cellsOf 175 = 4 := by kernel_rfl
theorem ru_cs : Tryd.prog.cellsOf 9 = 1 := by kernel_rfl
theorem ru_ci : Tryd.prog.cellsOf 3 = 1 := by kernel_rfl
theorem ru_str : Tryd.prog.underlying 9 = some .string := by kernel_rfl
theorem ru_int : Tryd.prog.underlying 3 = some (.int .i64) := by kernel_rfl
theorem ru_fs : ((Tryd.prog.underlying 175).map fun d => match d with | .struct fs => fs.toList.map (fun f => (f.type, f.offset)) | _ => []) = some [(9, 0), (3, 1), (3, 2), (3, 3)] := by kernel_rfl
set_option maxRecDepth 100000 in
theorem ru_un : ∃ f0 f1 f2 f3 : Field, Tryd.prog.underlying 175 = some (.struct #[f0, f1, f2, f3]) ∧ f0.type = 9 ∧ f0.offset = 0 ∧ f1.type = 3 ∧ f1.offset = 1 ∧ f2.type = 3 ∧ f2.offset = 2 ∧ f3.type = 3 ∧ f3.offset = 3 := by
  obtain ⟨fs, hfs⟩ : ∃ fs, Tryd.prog.underlying 175 = some (.struct fs) := struct_of (by kernel_rfl)
  have h := ru_fs
  rw [hfs] at h
  simp only [Option.map_some, Option.some.injEq] at h
  obtain ⟨l, rfl⟩ : ∃ l : List Field, fs = l.toArray := ⟨fs.toList, by simp⟩
  match l, h with
  | [f0, f1, f2, f3], h =>
    simp at h
    obtain ⟨⟨a1, a2⟩, ⟨b1, b2⟩, ⟨c1, c2⟩, d1, d2⟩ := h
    exact ⟨f0, f1, f2, f3, hfs, a1, a2, b1, b2, c1, c2, d1, d2⟩
/-- One rule's cells. -/
theorem rule_cells {H : Type} {enc : TypeId × Value → H} {w : World} {base : Nat} {sp : Nat → Bool} {held : Bool} {fuel : Nat} {cs : List Value} {s : List UInt8} {a b c : Int} {p : List MemPlace} (h : DataW.trod enc Tryd.prog w base sp held fuel 175 cs = some (.agg [.lit (.string s), .lit (.int .i64 a), .lit (.int .i64 b), .lit (.int .i64 c)], p)) :
    cs[0]? = some (.string ⟨s.toArray⟩) ∧ cs[1]? = some (.int .i64 a) ∧ cs[2]? = some (.int .i64 b) ∧ cs[3]? = some (.int .i64 c) := by
  obtain ⟨f0, f1, f2, f3, hu, t0, o0, t1, o1, t2, o2, t3, o3⟩ := ru_un
  obtain ⟨xs, n, _, hx, hl, hlen, hf⟩ := DataW.trod_struct hu h
  match xs, hlen with
  | [y0, y1, y2, y3], _ =>
    have k0 := hf 0 f0 rfl
    have k1 := hf 1 f1 rfl
    have k2 := hf 2 f2 rfl
    have k3 := hf 3 f3 rfl
    rw [t0, o0, ru_cs] at k0
    rw [t1, o1, ru_ci] at k1
    rw [t2, o2, ru_ci] at k2
    rw [t3, o3, ru_ci] at k3
    obtain ⟨s', c0, e0, _⟩ := DataW.trod_string ru_str k0
    obtain ⟨n1, c1, e1, _⟩ := DataW.trod_int ru_int k1
    obtain ⟨n2, c2, e2, _⟩ := DataW.trod_int ru_int k2
    obtain ⟨n3, c3, e3, _⟩ := DataW.trod_int ru_int k3
    subst e0 e1 e2 e3
    simp only [Prod.mk.injEq, DataW.agg.injEq, List.map_cons, List.map_nil, List.cons.injEq, DataW.lit.injEq, Lit.string.injEq, Lit.int.injEq, true_and, and_true] at hx
    obtain ⟨⟨rfl, rfl, rfl, rfl⟩, _⟩ := hx
    have g : ∀ (o : Nat) (v : Value), (cs.drop o).take 1 = [v] → cs[o]? = some v := fun o v hv => by
      have := congrArg (·[0]?) hv
      simpa [List.getElem?_take, List.getElem?_drop] using this
    exact ⟨g 0 _ c0, g 1 _ c1, g 2 _ c2, g 3 _ c3⟩
theorem rules_at (n : Nat) (h1 : 4 ≤ n) (h2 : n ≤ 16) (ps : List (DataW Unit)) (h : (Rows.laid_avow_term_rules : DataW Unit) = .agg ps) : ps[n]? = some (.agg [.lit (.string (opWord n)), .lit (.int .i64 (opCount n)), .lit (.int .i64 (opEach n)), .lit (.int .i64 (opOwn n))]) := by
  unfold Rows.laid_avow_term_rules at h
  injection h with h
  subst h
  rcases (by omega : n = 4 ∨ n = 5 ∨ n = 6 ∨ n = 7 ∨ n = 8 ∨ n = 9 ∨ n = 10 ∨ n = 11 ∨ n = 12 ∨ n = 13 ∨ n = 14 ∨ n = 15 ∨ n = 16) with rfl | rfl | rfl | rfl | rfl | rfl | rfl | rfl | rfl | rfl | rfl | rfl | rfl <;> rfl
theorem rules_met {W : World} (h : laidMetH Tryd.prog [("avow/term.rules", Rows.laid_avow_term_rules)] W) : RL W := by
  have h : laidMet Tryd.prog [("avow/term.rules", Rows.laid_avow_term_rules)] W := h
  obtain ⟨_, ⟨g', t', cs, fuel, p, q, hg', ht', hvar, hd, _, _⟩, _⟩ := h
  obtain rfl := Option.some.inj (ru_g.symm.trans hg')
  obtain rfl := Option.some.inj (ru_gt.symm.trans ht')
  obtain ⟨ps, hps⟩ : ∃ ps, (Rows.laid_avow_term_rules : DataW Unit) = .agg ps := ⟨_, rfl⟩
  cases fuel with
  | zero => simp [DataW.trod] at hd
  | succ fuel =>
    simp only [DataW.trod, ru_arr, ru_ce, ru_ca] at hd
    split at hd
    · rename_i hl
      obtain ⟨xs, hm, hx⟩ := Option.map_eq_some_iff.1 hd
      have hxs : xs.map (·.1) = ps := by
        have := congrArg Prod.fst hx
        rw [hps] at this
        simpa using this
      intro n h1 h2
      obtain ⟨b, hb, hf⟩ := Lib.mapM_at hm n n (by rw [List.getElem?_range (by omega)])
      have hbn : b.1 = .agg [.lit (.string (opWord n)), .lit (.int .i64 (opCount n)), .lit (.int .i64 (opEach n)), .lit (.int .i64 (opOwn n))] := by
        have h3 := rules_at n h1 h2 ps hps
        rw [← hxs, List.getElem?_map, hb] at h3
        exact Option.some.inj h3
      obtain ⟨b1, b2⟩ := b
      simp only at hbn
      subst hbn
      obtain ⟨c0, c1, c2, c3⟩ := rule_cells hf
      have cell : ∀ (k : Nat) (v : Value), k < 4 → ((cs.toList.drop (n * 4)).take 4)[k]? = some v → W.cell? ⟨0, n * 4 + k, none⟩ = some v := fun k v hk hv => by
        rw [World.var?_cell ru_g hvar (n * 4 + k)]
        rw [List.getElem?_take, if_pos hk, List.getElem?_drop, Array.getElem?_toList] at hv
        exact hv
      exact ⟨cell 0 _ (by omega) c0, cell 1 _ (by omega) c1, cell 2 _ (by omega) c2, cell 3 _ (by omega) c3⟩
    · cases hd
end Go.Proofs.YtdkenobgfgmepaaDoor

/- The document's has and Bare. -/
namespace Go.Proofs.YtdkenobgfgmepaaDoor
open Go Go.RowKit
theorem memB_app (k : ByteArray) (a b : List ByteArray) : memB k (a ++ b) = (memB k a || memB k b) := by simp [memB]
/-- The names that the operands bear. -/
theorem memB_flat (k : ByteArray) : ∀ (l : List (List ByteArray)), memB k l.flatten = l.any (memB k)
  | [] => rfl
  | a :: l => by rw [List.flatten_cons, memB_app, memB_flat k l]; rfl
theorem any_no {α : Type} {l : List α} {p : α → Bool} {i : Nat} (h : ¬ i < l.length) (ha : (l.take i).any p = false) : l.any p = false := by
  rw [List.take_of_length_le (by omega)] at ha
  exact ha
theorem any_more {α : Type} {l : List α} {p : α → Bool} {i : Nat} (h : i < l.length) (ha : (l.take i).any p = false) (hp : p l[i] = false) : (l.take (i + 1)).any p = false := by
  rw [take_more h, List.any_append, ha]
  simp [hp]
theorem any_yes {α : Type} {l : List α} {p : α → Bool} {i : Nat} (h : i < l.length) (hp : p l[i] = true) : l.any p = true := List.any_eq_true.2 ⟨_, List.getElem_mem h, hp⟩
set_option maxRecDepth 100000 in
set_option maxHeartbeats 16000000 in
theorem has_any (d : Nat) : ∀ (B : Nat) (v : Value) (t : Tm) (k : ByteArray) (w : World), IsT w B d v t → B ≤ w.heap.size →
    Calls Tryd.prog 85 #[v, .string k] w (VPost (.bool (memB k t.vn)) w) := by
  induction d using Nat.strongRecOn with
  | _ d ih =>
  intro B v t k w hT hB
  obtain ⟨h1, h2, aL, aV, aP, cL, cV, cP, rfl, hL, hV, hP⟩ := hT
  have IH := hide ih
  clear ih hV hP h1 h2
  simp only [tcells, List.toArray]
  generalize t.vars.length = nV at *
  generalize t.pat.length = nP at *
  obtain ⟨n, hn⟩ : ∃ n, t.l.length = n := ⟨_, rfl⟩
  rw [hn] at hL ⊢
  have hmax : n ≤ 281474976710656 := hL.2.1
  have hvn : memB k t.vn = ((t.op == 18 && decide (t.name = k)) || (t.l.map Tm.vn).any (memB k)) := by
    rw [Tm.vn_eq, memB_app, memB_flat]
    congr 1
    by_cases h : t.op = 18
    · simp [h, memB]
    · simp [h, memB]
  rw [hvn, List.any_map]
  have HN := hide hn
  have HL := hide hL
  clear hn hL hvn
  by_cases hop : t.op = 18 ∧ t.name = k
  · obtain ⟨e1, rfl⟩ := hop
    rw [e1]
    go_enter Tryd.func85, Tryd.ntmps85
    go_wp2
    go_ret
    exact ⟨by simp, (Below.refl _ w).alloc (Nat.le_refl _) _⟩
  · have hnb : (t.op == 18 && decide (t.name = k)) = false := by
      cases h : (t.op == 18 && decide (t.name = k)) with
      | false => rfl
      | true => simp at h; exact absurd h hop
    rw [hnb, Bool.false_or]
    have hq : (t.op == 18) = false ∨ ((t.op == 18) = true ∧ (t.name.toList == k.toList) = false) := by
      by_cases h : t.op = 18
      · exact .inr ⟨by simp [h], str_ne fun e => hop ⟨h, e⟩⟩
      · exact .inl (by simp [h])
    clear hnb hop
    have HQ := hide hq
    clear hq
    obtain ⟨w0, e0, hb0, hs0, hc0, hh⟩ := box_new w #[.int .i64 t.op, .string t.name, .int .i64 t.sort, .string t.num, .slice aL n cL, .slice aV nV cV, .slice aP nP cP] 26
    have hc4 : w0.cell? ⟨w.heap.size, 4, none⟩ = some (.slice aL n cL) := hc0 4 _ rfl
    have HE := hide e0
    have HB0 := hide hb0
    have HC4 := hide hc4
    clear hc0 e0 hh hb0 hc4
    rcases unhide HQ with hq | ⟨hq, hq2⟩
    all_goals
      go_enter Tryd.func85, Tryd.ntmps85
      go_wp2
      rw [unhide HE]
      go_loopw [5] (fun iv wr => ∃ i : Nat, i ≤ n ∧ iv = .int .i64 i ∧ (t.l.take i).any (memB k ∘ Tm.vn) = false ∧ Below w0.heap.size w0 wr) (fun iv _ => n - (intOf iv).toNat)
      case atStart => exact ⟨0, Nat.zero_le _, rfl, rfl, Below.refl _ _⟩
      case round =>
        obtain ⟨i, hi0, rfl, hno, hb⟩ := hrel
        have hc4 := (hb.cell (p := ⟨w.heap.size, 4, none⟩) (show w.heap.size < w0.heap.size by omega)).trans (unhide HC4)
        have hbw : Below w.heap.size w wr := (unhide HB0).trans (hb.mono (by omega))
        by_cases hi : i < n
        · obtain ⟨b, off, rfl, hbB, hAt⟩ := ((unhide HL).below (hbw.mono hB)).at (unhide HN).symm hi
          obtain ⟨d', bL, bV, bP, mL, mV, mP, kL, kV, kP, rfl, ⟨c0, c1, c2, c3, c4, c5, c6⟩, hT⟩ := hAt.cells
          have hil : i < t.l.length := by rw [unhide HN]; exact hi
          have hy := hide (any_yes (p := memB k ∘ Tm.vn) hil)
          have hm := hide (any_more (p := memB k ∘ Tm.vn) hil hno)
          generalize t.l[i] = u at *
          have HT := hide hT
          have HB := hide hb
          have HBw := hide hbw
          clear hT hb hbw hAt hno
          go_wp2_with fail
          refine (unhide IH d' (by omega) B _ u k wr (unhide HT) (by have := (unhide HBw).size; omega)).mono ?_
          rintro e w1 ⟨rfl, hb1⟩
          have hsz := (unhide HBw).size
          have HB1 := hide hb1
          clear hb1
          cases hres : memB k u.vn with
          | true =>
            have hall := hide ((unhide hy) hres)
            clear hy hm
            go_wp2
            go_ret
            exact ⟨by rw [unhide hall]; rfl, (unhide HBw).trans ((unhide HB1).mono hsz)⟩
          | false =>
            have hm2 := hide ((unhide hm) hres)
            clear hy hm
            go_wp2
            exact ⟨⟨i + 1, by omega, by simp, unhide hm2, (unhide HB).trans ((unhide HB1).mono (unhide HB).size)⟩, by simp [intOf]; omega⟩
        · have hall := hide (any_no (p := memB k ∘ Tm.vn) (by rw [unhide HN]; exact hi) hno)
          have HBw := hide hbw
          clear hbw hb hno
          go_wp2
          go_ret
          exact ⟨by rw [unhide hall]; rfl, unhide HBw⟩
theorem all_more {α : Type} {l : List α} {p : α → Bool} {i : Nat} (h : i < l.length) (ha : (l.take i).all p = true) (hp : p l[i] = true) : (l.take (i + 1)).all p = true := by
  rw [take_more h, List.all_append, ha]
  simp [hp]
theorem all_end {α : Type} {l : List α} {p : α → Bool} {i : Nat} (h : ¬ i < l.length) (ha : (l.take i).all p = true) : l.all p = true := by
  rw [List.take_of_length_le (by omega)] at ha
  exact ha
theorem all_not {α : Type} {l : List α} {p : α → Bool} {i : Nat} (h : i < l.length) (hp : p l[i] = false) : l.all p = false := by
  cases hx : l.all p with
  | false => rfl
  | true => rw [List.all_eq_true.1 hx _ (List.getElem_mem h)] at hp; cases hp
set_option maxRecDepth 100000 in
set_option maxHeartbeats 16000000 in
theorem Bare_any (d : Nat) : ∀ (B : Nat) (v : Value) (t : Tm) (w : World), IsT w B d v t → B ≤ w.heap.size →
    Calls Tryd.prog 64 #[v] w (VPost (.bool t.bare) w) := by
  induction d using Nat.strongRecOn with
  | _ d ih =>
  intro B v t w hT hB
  obtain ⟨h1, h2, aL, aV, aP, cL, cV, cP, rfl, hL, hV, hP⟩ := hT
  have IH := hide ih
  clear ih hV hP h1 h2
  simp only [tcells, List.toArray]
  generalize t.vars.length = nV at *
  generalize t.pat.length = nP at *
  obtain ⟨n, hn⟩ : ∃ n, t.l.length = n := ⟨_, rfl⟩
  rw [hn] at hL ⊢
  have hmax : n ≤ 281474976710656 := hL.2.1
  have hvn : t.bare = ((t.op == 1 || (decide (12 ≤ t.op) && decide (t.op ≤ 15)) || t.op == 17 || t.op == 18) && t.l.all Tm.bare) := by
    rw [Tm.bare_eq]
  rw [hvn]
  have HN := hide hn
  have HL := hide hL
  clear hn hL hvn
  by_cases hop : t.op = 17 ∨ t.op = 18 ∨ t.op = 1 ∨ t.op = 12 ∨ t.op = 13 ∨ t.op = 14 ∨ t.op = 15
  · obtain ⟨w0, e0, hb0, hs0, hc0, hh⟩ := box_new w #[.int .i64 t.op, .string t.name, .int .i64 t.sort, .string t.num, .slice aL n cL, .slice aV nV cV, .slice aP nP cP] 26
    have hc4 : w0.cell? ⟨w.heap.size, 4, none⟩ = some (.slice aL n cL) := hc0 4 _ rfl
    have hopb : (t.op == 1 || (decide (12 ≤ t.op) && decide (t.op ≤ 15)) || t.op == 17 || t.op == 18) = true := by
      rcases hop with h | h | h | h | h | h | h <;> rw [h] <;> rfl
    rw [hopb, Bool.true_and]
    have HE := hide e0
    have HB0 := hide hb0
    have HC4 := hide hc4
    clear hc0 e0 hh hb0 hc4 hopb
    rcases hop with h | h | h | h | h | h | h
    all_goals
      rw [h] at HE ⊢
      clear h
      go_enter Tryd.func64, Tryd.ntmps64
      go_wp2
      rw [unhide HE]
      go_loopw [3] (fun iv wr => ∃ i : Nat, i ≤ n ∧ iv = .int .i64 i ∧ (t.l.take i).all Tm.bare = true ∧ Below w0.heap.size w0 wr) (fun iv _ => n - (intOf iv).toNat)
      case atStart => exact ⟨0, Nat.zero_le _, rfl, rfl, Below.refl _ _⟩
      case round =>
        obtain ⟨i, hi0, rfl, hno, hb⟩ := hrel
        have hc4 := (hb.cell (p := ⟨w.heap.size, 4, none⟩) (show w.heap.size < w0.heap.size by omega)).trans (unhide HC4)
        have hbw : Below w.heap.size w wr := (unhide HB0).trans (hb.mono (by omega))
        by_cases hi : i < n
        · obtain ⟨b, off, rfl, hbB, hAt⟩ := ((unhide HL).below (hbw.mono hB)).at (unhide HN).symm hi
          obtain ⟨d', bL, bV, bP, mL, mV, mP, kL, kV, kP, rfl, ⟨c0, c1, c2, c3, c4, c5, c6⟩, hT⟩ := hAt.cells
          have hil : i < t.l.length := by rw [unhide HN]; exact hi
          have hy := hide (all_not (p := Tm.bare) hil)
          have hm := hide (all_more (p := Tm.bare) hil hno)
          generalize t.l[i] = u at *
          have HT := hide hT
          have HB := hide hb
          have HBw := hide hbw
          clear hT hb hbw hAt hno
          go_wp2_with fail
          refine (unhide IH d' (by omega) B _ u wr (unhide HT) (by have := (unhide HBw).size; omega)).mono ?_
          rintro e w1 ⟨rfl, hb1⟩
          have hsz := (unhide HBw).size
          have HB1 := hide hb1
          clear hb1
          cases hres : u.bare with
          | false =>
            have hall := hide ((unhide hy) hres)
            clear hy hm
            go_wp2
            go_ret
            exact ⟨by rw [unhide hall]; rfl, (unhide HBw).trans ((unhide HB1).mono hsz)⟩
          | true =>
            have hm2 := hide ((unhide hm) hres)
            clear hy hm
            go_wp2
            exact ⟨⟨i + 1, by omega, by simp, unhide hm2, (unhide HB).trans ((unhide HB1).mono (unhide HB).size)⟩, by simp [intOf]; omega⟩
        · have hall := hide (all_end (p := Tm.bare) (by rw [unhide HN]; exact hi) hno)
          have HBw := hide hbw
          clear hbw hb hno
          go_wp2
          go_ret
          exact ⟨by rw [unhide hall]; rfl, unhide HBw⟩
  · have e1 : (t.op == 17) = false := by simp; omega
    have e2 : (t.op == 18) = false := by simp; omega
    have e3 : (t.op == 1) = false := by simp; omega
    have e4 : (t.op == 12) = false := by simp; omega
    have e5 : (t.op == 13) = false := by simp; omega
    have e6 : (t.op == 14) = false := by simp; omega
    have e7 : (t.op == 15) = false := by simp; omega
    have hopb : (t.op == 1 || (decide (12 ≤ t.op) && decide (t.op ≤ 15)) || t.op == 17 || t.op == 18) = false := by
      rw [e3, e1, e2]
      simp
      omega
    rw [hopb, Bool.false_and]
    clear hop hopb
    go_enter Tryd.func64, Tryd.ntmps64
    go_wp2
    go_ret
    exact ⟨rfl, (Below.refl _ w).alloc (Nat.le_refl _) _⟩
end Go.Proofs.YtdkenobgfgmepaaDoor

namespace Go.Proofs.YtdkenobgfgmepaaDoor
open Go Go.RowKit
theorem Row.atV {w : World} {B n cap : Nat} {a : Option Addr} {x : List (ByteArray × Int)} (h : Row B a n cap 2 (BR w x)) (hn : n = x.length) {i : Nat} (hi : i < n) :
    ∃ b off, a = some ⟨b, off, none⟩ ∧ b < B ∧ w.cell? ⟨b, off + i * 2, none⟩ = some (.string (x[i]'(by omega)).1) ∧ w.cell? ⟨b, off + i * 2 + 1, none⟩ = some (.int .i64 (x[i]'(by omega)).2) := by
  obtain ⟨b, off, e, hb, hj⟩ := h.2.2 (by omega)
  have := (hj i hi _ (List.getElem?_eq_getElem (by omega))).1
  exact ⟨b, off, e, hb, this 0 _ rfl, this 1 _ rfl⟩
theorem Row.belowV {w w' : World} {B n cap : Nat} {a : Option Addr} {x : List (ByteArray × Int)} (h : Row B a n cap 2 (BR w x)) (hw : Below B w w') : Row B a n cap 2 (BR w' x) :=
  h.mono (Nat.le_refl _) fun b o j hb h u hu => ⟨rangeAt_below (h u hu).1 hb hw, (h u hu).2⟩
def namesB (t : Tm) : Bool := t.vars.all fun v => memB v.1 ((t.pat.map Tm.vn).flatten)
set_option maxRecDepth 100000 in
set_option maxHeartbeats 16000000 in
theorem names_any {B d : Nat} {v : Value} {t : Tm} {w : World} (hT : IsT w B d v t) (hB : B ≤ w.heap.size) : Calls Tryd.prog 65 #[v] w (VPost (.bool (namesB t)) w) := by
  obtain ⟨h1, h2, aL, aV, aP, cL, cV, cP, rfl, hL, hV, hP⟩ := hT
  clear hL h1 h2
  simp only [tcells, List.toArray]
  generalize t.l.length = nL at *
  obtain ⟨n, hn⟩ : ∃ n, t.vars.length = n := ⟨_, rfl⟩
  obtain ⟨m, hm⟩ : ∃ n, t.pat.length = n := ⟨_, rfl⟩
  rw [hn] at hV ⊢
  rw [hm] at hP ⊢
  have hmaxV : n ≤ 281474976710656 := hV.2.1
  have hmaxP : m ≤ 281474976710656 := hP.2.1
  have hnm : namesB t = t.vars.all fun v => t.pat.any (fun p => memB v.1 p.vn) := by
    unfold namesB
    congr 1
    funext v
    rw [memB_flat, List.any_map]
    rfl
  rw [hnm]
  have HN := hide hn
  have HM := hide hm
  have HV := hide hV
  have HP := hide hP
  clear hn hm hV hP hnm
  obtain ⟨w0, e0, hb0, hs0, hc0, hh⟩ := box_new w #[.int .i64 t.op, .string t.name, .int .i64 t.sort, .string t.num, .slice aL nL cL, .slice aV n cV, .slice aP m cP] 26
  have HC := hide (And.intro (show w0.cell? ⟨w.heap.size, 5, none⟩ = some (.slice aV n cV) from hc0 5 _ rfl) (show w0.cell? ⟨w.heap.size, 6, none⟩ = some (.slice aP m cP) from hc0 6 _ rfl))
  have HE := hide e0
  have HB0 := hide hb0
  clear hc0 e0 hh hb0
  go_enter Tryd.func65, Tryd.ntmps65
  go_wp2
  rw [unhide HE]
  go_loopw [3] (fun iv wr => ∃ i : Nat, i ≤ n ∧ iv = .int .i64 i ∧ (t.vars.take i).all (fun v => t.pat.any (fun p => memB v.1 p.vn)) = true ∧ Below w0.heap.size w0 wr) (fun iv _ => n - (intOf iv).toNat)
  case atStart => exact ⟨0, Nat.zero_le _, rfl, rfl, Below.refl _ _⟩
  case round =>
    obtain ⟨i, hi0, rfl, hno, hb⟩ := hrel
    have hc5 := (hb.cell (p := ⟨w.heap.size, 5, none⟩) (show w.heap.size < w0.heap.size by omega)).trans (unhide HC).1
    have hbw : Below w.heap.size w wr := (unhide HB0).trans (hb.mono (by omega))
    by_cases hi : i < n
    · have hil : i < t.vars.length := by rw [unhide HN]; exact hi
      obtain ⟨b, off, rfl, hbB, hc1, hc2⟩ := ((unhide HV).belowV (hbw.mono hB)).atV (unhide HN).symm hi
      have hy := hide (all_not (p := fun (v : ByteArray × Int) => t.pat.any (fun p => memB v.1 p.vn)) hil)
      have hmo := hide (all_more (p := fun (v : ByteArray × Int) => t.pat.any (fun p => memB v.1 p.vn)) hil hno)
      generalize t.vars[i] = x at *
      have HB := hide hb
      have HBw := hide hbw
      have HX := hide (And.intro hc1 hc2)
      have HB' := hide hbB
      clear hb hbw hno hc1 hc2
      obtain ⟨wi, ewi⟩ : ∃ W, W = wr := ⟨_, rfl⟩
      subst ewi
      go_wp2
      clear hc5
      go_loopw [4, 5] (fun nv iv wq => ∃ k : Nat, k ≤ m ∧ iv = .int .i64 k ∧ nv = .bool ((t.pat.take k).any fun p => memB x.1 p.vn) ∧ Below wi.heap.size wi wq) (fun _ iv _ => m - (intOf iv).toNat)
      case atStart => exact ⟨0, Nat.zero_le _, rfl, rfl, Below.refl _ _⟩
      case round =>
        obtain ⟨k, hk0, rfl, rfl, hb2⟩ := hrel
        have hb02 : Below w0.heap.size w0 wr := (unhide HB).trans (hb2.mono (unhide HB).size)
        have hbw2 : Below w.heap.size w wr := (unhide HBw).trans (hb2.mono (unhide HBw).size)
        have hc5 := (hb02.cell (p := ⟨w.heap.size, 5, none⟩) (show w.heap.size < w0.heap.size by omega)).trans (unhide HC).1
        have hc6 := (hb02.cell (p := ⟨w.heap.size, 6, none⟩) (show w.heap.size < w0.heap.size by omega)).trans (unhide HC).2
        by_cases hk : k < m
        · have hkl : k < t.pat.length := by rw [unhide HM]; exact hk
          have hcx := (hb2.cell (p := ⟨b, off + i * 2, none⟩) (show b < wi.heap.size by have := (unhide HBw).size; omega)).trans (unhide HX).1
          obtain ⟨b', off', rfl, hbB', hAt⟩ := ((unhide HP).below (hbw2.mono hB)).at (unhide HM).symm hk
          obtain ⟨d', bL, bV, bP, mL, mV, mP, kL, kV, kP, rfl, ⟨c0, c1, c2, c3, c4, c5, c6⟩, hT⟩ := hAt.cells
          have hnext : (t.pat.take (k + 1)).any (fun p => memB x.1 p.vn) = ((t.pat.take k).any (fun p => memB x.1 p.vn) || memB x.1 (t.pat[k]).vn) := by
            rw [take_more hkl, List.any_append]
            simp
          generalize (t.pat.take k).any (fun p => memB x.1 p.vn) = so at *
          generalize t.pat[k] = u at *
          have hwB : B ≤ wr.heap.size := by have := hbw2.size; omega
          have HCa := hide (fun (w2 : World) (h : Below wr.heap.size wr w2) => has_any d' B _ u x.1 w2 (hT.more (h.mono hwB) (Nat.le_refl _) (Nat.le_refl _)) (Nat.le_trans hwB h.size))
          have HT := hide hT
          have HNx := hide hnext
          have HB2 := hide hb2
          clear hT hb2 hb02 hbw2 hAt hnext
          cases so with
          | true =>
            go_wp2
            go_region
            go_wp2
            exact ⟨⟨k + 1, by omega, by simp, by rw [unhide HNx]; rfl, (unhide HB2).drew⟩, by simp [intOf]; omega⟩
          | false =>
            have HSS : Hid (∀ w', Below wr.heap.size wr w' → (Below wr.heap.size wr w' ∧ w'.cell? ⟨w.heap.size, 5, none⟩ = some (.slice (some ⟨b, off, none⟩) n cV) ∧ w'.cell? ⟨w.heap.size, 6, none⟩ = some (.slice (some ⟨b', off', none⟩) m cP) ∧ w'.cell? ⟨b, off + i * 2, none⟩ = some (.string x.1) ∧ Cells7 w' b' (off' + k * 7) u bL bV bP mL mV mP kL kV kP)) := fun w' h => by
              have h1 : w.heap.size < wr.heap.size := by have := (unhide HB2).size; have := (unhide HB).size; omega
              have h2 : b < wr.heap.size := by omega
              have h3 : b' < wr.heap.size := by omega
              exact ⟨h, (h.cell (p := ⟨w.heap.size, 5, none⟩) h1).trans hc5, (h.cell (p := ⟨w.heap.size, 6, none⟩) h1).trans hc6, (h.cell (p := ⟨b, off + i * 2, none⟩) h2).trans hcx, (h.cell (p := ⟨b', off' + k * 7, none⟩) h3).trans c0, (h.cell (p := ⟨b', off' + k * 7 + 1, none⟩) h3).trans c1, (h.cell (p := ⟨b', off' + k * 7 + 2, none⟩) h3).trans c2, (h.cell (p := ⟨b', off' + k * 7 + 3, none⟩) h3).trans c3, (h.cell (p := ⟨b', off' + k * 7 + 4, none⟩) h3).trans c4, (h.cell (p := ⟨b', off' + k * 7 + 5, none⟩) h3).trans c5, (h.cell (p := ⟨b', off' + k * 7 + 6, none⟩) h3).trans c6⟩
            unfold Cells7 at HSS
            go_wp2
            go_region_held3 (fun w' => Below wr.heap.size wr w' ∧ w'.cell? ⟨w.heap.size, 5, none⟩ = some (.slice (some ⟨b, off, none⟩) n cV) ∧ w'.cell? ⟨w.heap.size, 6, none⟩ = some (.slice (some ⟨b', off', none⟩) m cP) ∧ w'.cell? ⟨b, off + i * 2, none⟩ = some (.string x.1) ∧ w'.cell? ⟨b', off' + k * 7, none⟩ = some (.int .i64 u.op) ∧ w'.cell? ⟨b', off' + k * 7 + 1, none⟩ = some (.string u.name) ∧ w'.cell? ⟨b', off' + k * 7 + 2, none⟩ = some (.int .i64 u.sort) ∧ w'.cell? ⟨b', off' + k * 7 + 3, none⟩ = some (.string u.num)
    ∧ w'.cell? ⟨b', off' + k * 7 + 4, none⟩ = some (.slice bL mL kL) ∧ w'.cell? ⟨b', off' + k * 7 + 5, none⟩ = some (.slice bV mV kV) ∧ w'.cell? ⟨b', off' + k * 7 + 6, none⟩ = some (.slice bP mP kP)) (first | assumption | exact unhide HSS _ hT1 | exact unhide HSS _ (by assumption) | exact unhide HSS _ (keep0 _)) (first
              | (go_at_call 85; refine (unhide HCa _ (by assumption)).mono ?_; rintro e v1 ⟨rfl, hv1⟩; have hT1 : Below wr.heap.size wr v1 := keepC (by assumption) hv1)
              | (go_at_call 85; refine (unhide HCa _ (keep0 _)).mono ?_; rintro e v1 ⟨rfl, hv1⟩; have hT1 : Below wr.heap.size wr v1 := (keep0 _).trans (hv1.mono (keep0 _).size)))
            all_goals
              have HT1 := hide hT1
              clear hT1
              go_wp2
              exact ⟨⟨k + 1, by omega, by simp, by rw [unhide HNx]; rfl, (unhide HB2).trans ((unhide HT1).mono (unhide HB2).size)⟩, by simp [intOf]; omega⟩
        · have hall : (t.pat.take k).any (fun p => memB x.1 p.vn) = t.pat.any (fun p => memB x.1 p.vn) := by rw [List.take_of_length_le (by rw [unhide HM]; omega)]
          rw [hall]
          cases hres : t.pat.any (fun p => memB x.1 p.vn) with
          | true =>
            have hm2 := hide (unhide hmo hres)
            have HZ := hide hb02
            clear hb2 hb02 hbw2 hall hmo hy
            go_wp2
            exact ⟨⟨i + 1, by omega, by simp, unhide hm2, unhide HZ⟩, by simp [intOf]; omega⟩
          | false =>
            have hm2 := hide (unhide hy hres)
            have HZ := hide hbw2
            clear hb2 hb02 hbw2 hall hmo hy
            go_wp2
            go_ret
            exact ⟨by rw [unhide hm2]; rfl, unhide HZ⟩
    · have hall := hide (all_end (p := fun (v : ByteArray × Int) => t.pat.any (fun p => memB v.1 p.vn)) (by rw [unhide HN]; exact hi) hno)
      have HBw := hide hbw
      clear hbw hb hno
      go_wp2
      go_ret
      exact ⟨by rw [unhide hall]; rfl, unhide HBw⟩
theorem word_b (s : ByteArray) (w : World) (hs : s.size ≤ 9223372036854775807) : Calls Tryd.prog 33 #[.string s] w (VPost (.bool (wordB s)) w) :=
  (Word_any s w hs).mono fun e w' ⟨b, h1, h2, h3⟩ => by
    have : b = wordB s := by
      have := wordB_iff s
      cases hb : b <;> cases hw : wordB s <;> simp_all
    exact ⟨by rw [h1, this], h3⟩
def bindsB (t : Tm) : Bool := (t.l.length == 1 && decide (0 < t.pat.length)) && bindersB t.vars
theorem binders_take {x : List (ByteArray × Int)} {i : Nat} (hi : i < x.length) : (x.take (i + 1)).map (·.1) = (x.take i).map (·.1) ++ [x[i].1] := by rw [take_more hi, List.map_append]; rfl
theorem distinct_take : ∀ (l : List ByteArray) (i : Nat), distinct l = true → distinct (l.take i) = true
  | [], _, _ => by simp [distinct]
  | _ :: _, 0, _ => rfl
  | k :: l, i + 1, h => by
    simp only [distinct, Bool.and_eq_true, Bool.not_eq_true'] at h
    simp only [List.take_succ_cons, distinct, Bool.and_eq_true, Bool.not_eq_true']
    refine ⟨?_, distinct_take l i h.2⟩
    cases hm : memB k (l.take i) with
    | false => rfl
    | true =>
      have := List.any_eq_true.1 hm
      obtain ⟨y, hy, he⟩ := this
      rw [show memB k l = true from List.any_eq_true.2 ⟨y, List.mem_of_mem_take hy, he⟩] at h
      cases h.1
theorem memB_take {l : List ByteArray} {k : ByteArray} {j : Nat} (hj : j < l.length) (h : l[j] = k) {i : Nat} (hi : j < i) : memB k (l.take i) = true :=
  List.any_eq_true.2 ⟨k, by rw [List.mem_take_iff_getElem]; exact ⟨j, by omega, h⟩, by simp⟩
set_option maxRecDepth 100000 in
set_option maxHeartbeats 16000000 in
theorem binds_any {B d : Nat} {v : Value} {t : Tm} {w : World} (hT : IsT w B d v t) (hB : B ≤ w.heap.size) (hsz : ∀ x ∈ t.vars, x.1.size ≤ 9223372036854775807) : Calls Tryd.prog 63 #[v] w (VPost (.bool (bindsB t)) w) := by
  obtain ⟨h1, h2, aL, aV, aP, cL, cV, cP, rfl, hL, hV, hP⟩ := hT
  simp only [tcells, List.toArray]
  obtain ⟨n, hn⟩ : ∃ n, t.vars.length = n := ⟨_, rfl⟩
  obtain ⟨m, hm⟩ : ∃ n, t.pat.length = n := ⟨_, rfl⟩
  obtain ⟨l, hl⟩ : ∃ n, t.l.length = n := ⟨_, rfl⟩
  unfold bindsB bindersB
  rw [hn] at hV ⊢
  rw [hm] at hP ⊢
  rw [hl] at hL ⊢
  have hmaxV : n ≤ 281474976710656 := hV.2.1
  have hmaxP : m ≤ 281474976710656 := hP.2.1
  have hmaxL : l ≤ 281474976710656 := hL.2.1
  have HN := hide hn
  have HV := hide hV
  have HS := hide hsz
  clear hn hm hl hV hP hL h1 h2 hsz
  by_cases hl1 : l = 1
  · by_cases hn0 : n = 0
    · have e1 : ((l : Int) != 1) = false := by simp; omega
      have e2 : ((n : Int) == 0) = true := by simp; omega
      have e3 : (n == 0) = true := by simp; omega
      rw [e3]
      clear hl1 hn0
      go_enter Tryd.func63, Tryd.ntmps63
      go_wp2
      go_ret
      exact ⟨by simp, (Below.refl _ w).alloc (Nat.le_refl _) _⟩
    · by_cases hm0 : m = 0
      · have e1 : ((l : Int) != 1) = false := by simp; omega
        have e2 : ((n : Int) == 0) = false := by simp; omega
        have e4 : ((m : Int) == 0) = true := by simp; omega
        have e3 : decide (0 < m) = false := by simp; omega
        rw [e3]
        clear hl1 hn0 hm0
        go_enter Tryd.func63, Tryd.ntmps63
        go_wp2
        go_ret
        exact ⟨by simp, (Below.refl _ w).alloc (Nat.le_refl _) _⟩
      · have e1 : ((l : Int) != 1) = false := by simp; omega
        have e2 : ((n : Int) == 0) = false := by simp; omega
        have e4 : ((m : Int) == 0) = false := by simp; omega
        have e3 : ((l == 1) && decide (0 < m)) = true := by simp; omega
        have e5 : (!(n == 0)) = true := by simp; omega
        rw [e3, e5, Bool.true_and, Bool.true_and]
        obtain ⟨w0, e0, hb0, hs0, hc0, hh⟩ := box_new w #[.int .i64 t.op, .string t.name, .int .i64 t.sort, .string t.num, .slice aL l cL, .slice aV n cV, .slice aP m cP] 26
        have HC := hide (show w0.cell? ⟨w.heap.size, 5, none⟩ = some (.slice aV n cV) from hc0 5 _ rfl)
        have HE := hide e0
        have HB0 := hide hb0
        clear hc0 e0 hh hb0 hl1 hn0 hm0 e3 e5
        go_enter Tryd.func63, Tryd.ntmps63
        go_wp2
        rw [unhide HE]
        go_loopw [3] (fun iv wr => ∃ i : Nat, i ≤ n ∧ iv = .int .i64 i ∧ ((t.vars.take i).all fun v => wordB v.1 && sortB v.2) = true ∧ distinct ((t.vars.take i).map (·.1)) = true ∧ Below w0.heap.size w0 wr) (fun iv _ => n - (intOf iv).toNat)
        case atStart => exact ⟨0, Nat.zero_le _, rfl, rfl, rfl, Below.refl _ _⟩
        case round =>
          obtain ⟨i, hi0, rfl, hno, hdi, hb⟩ := hrel
          have hc5 := (hb.cell (p := ⟨w.heap.size, 5, none⟩) (show w.heap.size < w0.heap.size by omega)).trans (unhide HC)
          have hbw : Below w.heap.size w wr := (unhide HB0).trans (hb.mono (by omega))
          by_cases hi : i < n
          · have hil : i < t.vars.length := by rw [unhide HN]; exact hi
            obtain ⟨b, off, rfl, hbB, hc1, hc2⟩ := ((unhide HV).belowV (hbw.mono hB)).atV (unhide HN).symm hi
            have hy := hide (all_not (p := fun (v : ByteArray × Int) => wordB v.1 && sortB v.2) hil)
            have hmo := hide (all_more (p := fun (v : ByteArray × Int) => wordB v.1 && sortB v.2) hil hno)
            have hxs := (unhide HS) _ (List.getElem_mem hil)
            have htk := hide (binders_take hil)
            have hsn := hide (distinct_snoc ((t.vars.take i).map (·.1)) (t.vars[i]).1)
            have hdt := hide (distinct_take (t.vars.map (·.1)) (i + 1))
            have hgen : ∀ k (hk : k < i), (t.vars[k]'(by omega)).1 = (t.vars[i]).1 → distinct (t.vars.map (·.1)) = false := fun k hk e => by
              cases hd : distinct (t.vars.map (·.1)) with
              | false => rfl
              | true =>
                have h1 := distinct_take (t.vars.map (·.1)) (i + 1) hd
                rw [← List.map_take, binders_take hil, distinct_snoc] at h1
                have h2 : memB (t.vars[i]).1 ((t.vars.take i).map (·.1)) = true := by
                  rw [List.map_take]
                  exact memB_take (j := k) (by simp; omega) (by simpa using e) hk
                rw [h2] at h1
                simp at h1
            have hfin : (∀ k (hk : k < i), ¬ (t.vars[k]'(by omega)).1 = (t.vars[i]).1) → distinct ((t.vars.take (i + 1)).map (·.1)) = true := fun h => by
              rw [binders_take hil, distinct_snoc, hdi]
              have : memB (t.vars[i]).1 ((t.vars.take i).map (·.1)) = false := by
                cases hm : memB (t.vars[i]).1 ((t.vars.take i).map (·.1)) with
                | false => rfl
                | true =>
                  obtain ⟨y, hy, he⟩ := List.any_eq_true.1 hm
                  obtain ⟨j, hj, rfl⟩ := List.getElem_of_mem hy
                  simp at he hj
                  exact absurd he (h j (by omega))
              rw [this]
              rfl
            have HG := hide (And.intro hgen hfin)
            clear hgen hfin htk hsn hdt
            obtain ⟨x, ex⟩ : ∃ x, t.vars[i] = x := ⟨_, rfl⟩
            rw [ex] at hy hmo hxs hc1 hc2
            have HX := hide ex
            have HB := hide hb
            have HBw := hide hbw
            have HC1 := hide (And.intro hc1 hc2)
            have HDi := hide hdi
            clear hb hbw ex hdi hno
            obtain ⟨wi, ewi⟩ : ∃ W, W = wr := ⟨_, rfl⟩
            subst ewi
            go_wp2_with fail
            refine (word_b x.1 wi hxs).mono ?_
            rintro e w1 ⟨rfl, hb1⟩
            have hwi : w0.heap.size ≤ wi.heap.size := (unhide HB).size
            have hbi : b < wi.heap.size := by have := (unhide HBw).size; omega
            have d5 := (hb1.cell (p := ⟨w.heap.size, 5, none⟩) (show w.heap.size < wi.heap.size by omega)).trans hc5
            have d2 := (hb1.cell (p := ⟨b, off + i * 2 + 1, none⟩) hbi).trans hc2
            have HB1 := hide hb1
            clear hb1 hc5 hc1 hc2
            cases hw1 : wordB x.1 with
            | false =>
              have hm2 := hide (unhide hy (by rw [hw1]; rfl))
              clear hy hmo d5 d2
              go_wp2
              go_ret
              exact ⟨by rw [unhide hm2]; rfl, (unhide HBw).trans ((unhide HB1).mono (unhide HBw).size)⟩
            | true =>
              go_wp2_with fail
              refine (knownS_any x.2 w1).mono ?_
              rintro e w2 ⟨rfl, rfl⟩
              cases hk1 : (decide (1 ≤ x.2) && decide (x.2 ≤ 3)) with
              | false =>
                have hm2 := hide (unhide hy (by rw [hw1]; exact hk1))
                clear hy hmo d5 d2
                go_wp2
                go_ret
                exact ⟨by rw [unhide hm2]; rfl, (unhide HBw).trans ((unhide HB1).mono (unhide HBw).size)⟩
              | true =>
                have hm2 := hide (unhide hmo (by rw [hw1]; exact hk1))
                have HD5 := hide d5
                clear hy hmo d5 d2 hk1 hw1
                obtain ⟨wj, ewj⟩ : ∃ W, W = w2 := ⟨_, rfl⟩
                subst ewj
                go_wp2
                go_loopw [4] (fun iv wr => ∃ k : Nat, k ≤ i ∧ iv = .int .i64 k ∧ Hid (∀ j (hj : j < i), j < k → ¬ (t.vars[j]'(by omega)).1 = x.1) ∧ Below wj.heap.size wj wr) (fun iv _ => i - (intOf iv).toNat)
                case atStart => exact ⟨0, Nat.zero_le _, rfl, fun j _ h => absurd h (by omega), Below.refl _ _⟩
                case round =>
                  obtain ⟨k, hk0, rfl, hne, hb2⟩ := hrel
                  have hji : wi.heap.size ≤ wj.heap.size := (unhide HB1).size
                  have hc5 := (hb2.cell (p := ⟨w.heap.size, 5, none⟩) (show w.heap.size < wj.heap.size by omega)).trans (unhide HD5)
                  have hbj : Below wi.heap.size wi wr := (unhide HB1).trans (hb2.mono hji)
                  have hbw2 : Below w.heap.size w wr := (unhide HBw).trans (hbj.mono (unhide HBw).size)
                  by_cases hk : k < i
                  · have hkI : (k : Int) < (i : Int) := by omega
                    have hkn : (k : Int) < (n : Int) := by omega
                    have hin : (i : Int) < (n : Int) := by omega
                    obtain ⟨b3, off3, e3, hbB3, hc3, _⟩ := ((unhide HV).belowV (hbw2.mono hB)).atV (unhide HN).symm (show k < n by omega)
                    obtain ⟨rfl, rfl⟩ : b3 = b ∧ off3 = off := by injection e3 with e3; injection e3 with e1 e2; exact ⟨e1.symm, e2.symm⟩
                    have hc1 := (hbj.cell (p := ⟨b3, off3 + i * 2, none⟩) hbi).trans (unhide HC1).1
                    have hyes : (t.vars[k]'(by omega)).1 = x.1 → distinct (t.vars.map (·.1)) = false := fun e => (unhide HG).1 k hk (by rw [unhide HX]; exact e)
                    have hmor : ¬ (t.vars[k]'(by omega)).1 = x.1 → Hid (∀ j (hj : j < i), j < k + 1 → ¬ (t.vars[j]'(by omega)).1 = x.1) := fun hno j hj hjk => by
                      by_cases e : j = k
                      · subst e; exact hno
                      · exact unhide hne j hj (by omega)
                    generalize (t.vars[k]'(by omega)).1 = y at *
                    have HYM := hide (And.intro hyes hmor)
                    have HB2 := hide (And.intro hb2 hbw2)
                    clear hyes hmor hne hb2 hbw2 hbj e3
                    by_cases hyx : y = x.1
                    · have hd := hide ((unhide HYM).1 hyx)
                      subst hyx
                      go_wp2
                      go_quiet (fail)
                      go_wp2
                      go_ret
                      exact ⟨by rw [unhide hd]; simp, (unhide HB2).2.trans (below_drewN (Below.refl _ wr) _ |>.mono (unhide HB2).2.size)⟩
                    · have hd := (unhide HYM).2 hyx
                      have hne2 := str_ne hyx
                      clear hyx
                      go_wp2
                      go_quiet (fail)
                      go_wp2
                      exact ⟨⟨k + 1, by omega, by simp, hd, (unhide HB2).1.trans (below_drewN (Below.refl _ wr) _ |>.mono (unhide HB2).1.size)⟩, by simp [intOf]; omega⟩
                  · have hki : k = i := by omega
                    have hd := hide ((unhide HG).2 fun j hj => by rw [unhide HX]; exact unhide hne j hj (by omega))
                    have HBj := hide ((unhide HB).trans (hbj.mono (unhide HB).size))
                    have hnk : decide ((k : Int) < (i : Int)) = false := by simp; omega
                    clear hne hb2 hbj hbw2 hki
                    go_wp2
                    exact ⟨⟨i + 1, by omega, by simp, unhide hm2, unhide hd, unhide HBj⟩, by simp [intOf]; omega⟩
          · have hall := hide (all_end (p := fun (v : ByteArray × Int) => wordB v.1 && sortB v.2) (by rw [unhide HN]; exact hi) hno)
            have hd2 : distinct (t.vars.map (·.1)) = true := by
              rw [List.take_of_length_le (by rw [unhide HN]; omega)] at hdi
              exact hdi
            have HD := hide hd2
            have HBw := hide hbw
            clear hbw hb hno hdi hd2
            go_wp2
            go_ret
            exact ⟨by rw [unhide hall, unhide HD]; rfl, unhide HBw⟩
  · have e1 : ((l : Int) != 1) = true := by simp; omega
    have e3 : (l == 1) = false := by simp; omega
    rw [e3]
    clear hl1
    go_enter Tryd.func63, Tryd.ntmps63
    go_wp2
    go_ret
    exact ⟨by simp, (Below.refl _ w).alloc (Nat.le_refl _) _⟩
end Go.Proofs.YtdkenobgfgmepaaDoor
