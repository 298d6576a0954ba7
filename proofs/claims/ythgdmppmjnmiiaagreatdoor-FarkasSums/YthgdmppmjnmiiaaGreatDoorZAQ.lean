/- The document's Sum: the region that adds to a name's sum. -/
import Derived.Test.YthgdmppmjnmiiaaGreatDoorZAP
import Derived.Deep.QuietTactic
import Derived.BigQuiet
set_option linter.unusedVariables false
set_option linter.unusedSimpArgs false

/- The document's Names, whole. -/
namespace Go.Proofs.YthgdmppmjnmiiaaGreatDoor
open Go Go.RowKit Go.Maps
open _root_.Go.Proofs.YthgdmppmjnmiiaaGreatDoor.Nm (IsI pw)
theorem nms_len (ls : List (List (ByteArray × ByteArray) × ByteArray)) : (nmsL ls).length ≤ lwt ls := by
  induction ls with
  | nil => simp [nmsL]
  | cons l ls ih =>
    have e : lwt (l :: ls) = 1 + l.1.length + lwt ls := by simp [lwt]
    unfold nmsL at ih ⊢
    rw [List.flatMap_cons, List.length_append]
    simp only [nmsC, List.length_map] at ih ⊢
    omega
theorem nms_take {ls : List (List (ByteArray × ByteArray) × ByteArray)} {i : Nat} {l : List (ByteArray × ByteArray) × ByteArray} (h : ls[i]? = some l) (z : ByteArray) : z ∈ nmsL (ls.take (i + 1)) ↔ z ∈ nmsL (ls.take i) ∨ z ∈ nmsC l.1 := by
  unfold nmsL
  rw [List.take_add_one, h]
  simp
theorem nms_sub {ls : List (List (ByteArray × ByteArray) × ByteArray)} {i : Nat} {z : ByteArray} (h : z ∈ nmsL (ls.take i)) : z ∈ nmsL ls := by
  unfold nmsL at *
  obtain ⟨l, hl, hz⟩ := List.mem_flatMap.1 h
  exact List.mem_flatMap.2 ⟨l, List.mem_of_mem_take hl, hz⟩
theorem nmsC_take {C : List (ByteArray × ByteArray)} {k : Nat} {c : ByteArray × ByteArray} (h : C[k]? = some c) (z : ByteArray) : z ∈ nmsC (C.take (k + 1)) ↔ z ∈ nmsC (C.take k) ∨ z = c.1 := by
  unfold nmsC
  rw [List.take_add_one, h]
  simp
/-- The list of names so far. -/
structure NI (w : World) (wr : World) (v : Value) (P : ByteArray → Prop) (cur : List ByteArray) : Prop where
  own : wr.ownsRow w.heap.size 9 1 v cur.length (cur.map Value.string)
  srt : SrtN cur
  mem : ∀ z, z ∈ cur ↔ P z
  bel : Below w.heap.size w wr
theorem NI.to {w V U : World} {v : Value} {P Q : ByteArray → Prop} {cur : List ByteArray} (h : NI w V v P cur) (hU : Below V.heap.size V U) (hP : ∀ z, P z ↔ Q z) : NI w U v Q cur :=
  ⟨own_sameK h.own fun g hg => hU.block g (h.own.lt g hg).2, h.srt, fun z => (h.mem z).trans (hP z), h.bel.trans (hU.mono h.bel.size)⟩
def NmPost (ls : List (List (ByteArray × ByteArray) × ByteArray)) (w : World) (e : Ending) (w' : World) : Prop := ∃ v nl, e = .returned v ∧ NI w w' v (fun z => z ∈ nmsL ls) nl
set_option maxRecDepth 100000 in
set_option maxHeartbeats 8000000 in
theorem names_any {w : World} {aL : Option Addr} {n cL : Nat} {ls : List (List (ByteArray × ByteArray) × ByteArray)} (hL : Row w.heap.size aL n cL 2 (LAt w w.heap.size ls)) (hn : n = ls.length) (hw : lwt ls ≤ 100) : Calls Tryz.prog 20 #[.slice aL n cL] w (NmPost ls w) := by
  have HA := hide (And.intro hL (And.intro hn hw))
  have hnb : n ≤ 100 := by have := (lwt_len ls).1; omega
  clear hL hn hw
  go_enter Tryz.func20, Tryz.ntmps20
  go_wp2_with fail
  go_loopw [3, 4] (fun v3 iv wr => ∃ (i : Nat) (cur : List ByteArray), i ≤ n ∧ iv = .int .i64 i ∧ Hid (NI w wr v3 (fun z => z ∈ nmsL (ls.take i)) cur)) (fun _ iv _ => n - (intOf iv).toNat)
  case atStart => exact ⟨0, [], Nat.zero_le _, rfl, own_nil _ _, List.Pairwise.nil, fun z => by simp [nmsL], Below.refl _ _⟩
  case round =>
    obtain ⟨i, cur, hi0, rfl, hO⟩ := hrel
    by_cases hi : i < n
    · have g1 : (i : Int) < (n : Int) := by omega
      have g0 : (0 : Int) ≤ (i : Int) := by omega
      have g2 : (n : Int) ≤ 1000000 := by omega
      obtain ⟨hL, hn, hw⟩ := unhide HA
      obtain ⟨b, off, rfl, hbB, hLj⟩ := hL.2.2 (by omega)
      obtain ⟨l, hl⟩ : ∃ l, ls[i]? = some l := ⟨_, List.getElem?_eq_getElem (by omega)⟩
      obtain ⟨x, y, hcc, aC, nC, cC, exy, hnC, hRC⟩ := hLj i hi _ hl
      have hx : x = .slice aC nC cC := by simp at exy; exact exy.1
      subst hx
      have HQ := hide (And.intro hbB (And.intro (hcc 0 _ rfl) (And.intro hnC (And.intro hRC (And.intro ((lwt_len ls).2 l (List.mem_of_getElem? hl)) (And.intro hw hl))))))
      clear hL hn hw hbB hLj hl hcc exy hnC hRC
      go_wp2_with fail
      go_loopw [3, 5] (fun v3 kv wr => ∃ (k : Nat) (cur : List ByteArray), k ≤ nC ∧ kv = .int .i64 k ∧ Hid (NI w wr v3 (fun z => z ∈ nmsL (ls.take i) ∨ z ∈ nmsC (l.1.take k)) cur)) (fun _ kv _ => nC - (intOf kv).toNat)
      case atStart => exact ⟨0, cur, Nat.zero_le _, rfl, (unhide hO).own, (unhide hO).srt, fun z => ((unhide hO).mem z).trans (by simp [nmsC]), (unhide hO).bel⟩
      case round =>
        obtain ⟨k, cur2, hk0, rfl, hO2⟩ := hrel
        obtain ⟨hbB, hc0, hnC, hRC, hC100, hw, hl⟩ := unhide HQ
        have hnC2 : nC ≤ 100 := by omega
        have hBr := (unhide hO2).bel
        have p0 : wr.cell? ⟨b, off + i * 2, none⟩ = some (.slice aC nC cC) := (hBr.cell (p := ⟨b, off + i * 2, none⟩) hbB).trans hc0
        by_cases hk : k < nC
        · obtain ⟨bc, oc, rfl, hbc, hCj⟩ := hRC.2.2 (by omega)
          obtain ⟨c, hc⟩ : ∃ c, l.1[k]? = some c := ⟨_, List.getElem?_eq_getElem (by omega)⟩
          have p1 : wr.cell? ⟨bc, oc + k * 2, none⟩ = some (.string c.1) := (hBr.cell (p := ⟨bc, oc + k * 2, none⟩) hbc).trans (hCj k hk c hc 0 _ rfl)
          have g3 : (k : Int) < (nC : Int) := by omega
          have g4 : (0 : Int) ≤ (k : Int) := by omega
          have g5 : (nC : Int) ≤ 1000000 := by omega
          have hcl : cur2.length ≤ 100 := by
            have h1 := srt_len (unhide hO2).srt (m := nmsL ls) fun z hz => by
              rcases ((unhide hO2).mem z).1 hz with h | h
              · exact nms_sub h
              · refine List.mem_flatMap.2 ⟨l, List.mem_of_getElem? hl, ?_⟩
                obtain ⟨q, hq, rfl⟩ := List.mem_map.1 h
                exact List.mem_map.2 ⟨q, List.mem_of_mem_take hq, rfl⟩
            have h2 := nms_len ls
            omega
          have hlt2 : b < wr.heap.size ∧ bc < wr.heap.size := by have := hBr.size; omega
          obtain ⟨x, hx⟩ : ∃ x, c.1 = x := ⟨_, rfl⟩
          rw [hx] at p1
          have HC := hide (And.intro hc (And.intro hlt2 hx))
          clear hbB hc0 hnC hRC hC100 hw hbc hCj hc hBr hl hlt2 hx
          obtain ⟨V, hV⟩ : ∃ V, V = wr := ⟨wr, rfl⟩
          subst hV
          obtain ⟨a3, c3, rfl, l3, R3⟩ := own_row (unhide hO2).own (by omega)
          have HR3 := hide R3
          have HP := hide (And.intro p0 p1)
          clear R3 l3
          go_wp2_with fail
          go_loopw [6] (fun av wr => ∃ at_ : Nat, at_ ≤ cur2.length ∧ av = .int .i64 at_ ∧ Hid (∀ (j : Nat) y, j < at_ → cur2[j]? = some y → NL y x) ∧ Hid (Below V.heap.size V wr)) (fun av _ => cur2.length - (intOf av).toNat)
          case atStart => exact ⟨0, Nat.zero_le _, rfl, fun j y h => absurd h (by omega), Below.refl _ _⟩
          case round =>
            obtain ⟨at_, ha0, rfl, hlt, hwr3⟩ := hrel
            have hV3 := unhide hwr3
            obtain ⟨hc, ⟨hb1, hb2⟩, hx⟩ := unhide HC
            have q0 : wr.cell? ⟨b, off + i * 2, none⟩ = some (.slice (some ⟨bc, oc, none⟩) nC cC) := (hV3.cell (p := ⟨b, off + i * 2, none⟩) hb1).trans (unhide HP).1
            have q1 : wr.cell? ⟨bc, oc + k * 2, none⟩ = some (.string x) := (hV3.cell (p := ⟨bc, oc + k * 2, none⟩) hb2).trans (unhide HP).2
            have g7 : (0 : Int) ≤ (at_ : Int) := by omega
            have g8 : (cur2.length : Int) ≤ 1000000 := by omega
            have hU : ∀ n1 n2, Below V.heap.size V ((wr.drewN n1).drewN n2) := fun n1 n2 => ⟨hV3.os, hV3.tape, hV3.output, hV3.size, hV3.block⟩
            have ins : ∀ U : World, Below V.heap.size V U → (∀ y, cur2[at_]? = some y → ¬ NL y x ∧ y ≠ x) → ∃ u W2 v' W3, (Builtin.append_ #[23, 23] 23 #[.slice (some ⟨U.drew.heap.size, 0, none⟩) 1 1, loV (.slice a3 cur2.length c3) at_]).run Tryz.prog (U.drew.alloc (.cells #[.string x] 9)) = .ok u W2 ∧ (Builtin.append_ #[23, 23] 23 #[hiV (.slice a3 cur2.length c3) at_, u]).run Tryz.prog W2 = .ok v' W3 ∧ Below U.heap.size U W2 ∧ Below U.heap.size U W3 ∧ NI w W3 v' (fun z => z ∈ nmsL (ls.take i) ∨ z ∈ nmsC (l.1.take (k + 1))) (cur2.take at_ ++ x :: cur2.drop at_) := fun U hVU hge => by
              obtain ⟨own, srt, mem, bel⟩ := unhide hO2
              have hVD : Below V.heap.size V U.drew := hVU.drew
              have oU : U.drew.ownsRow w.heap.size 9 1 (.slice a3 cur2.length c3) cur2.length (cur2.map Value.string) := own_sameK own fun g hg => hVD.block g (own.lt g hg).2
              obtain ⟨u, W2, r1, o1, b1⟩ := ins_run1 (x := x) oU ha0 (by omega) 23
              have hb2' : Below U.heap.size U W2 := ((Below.refl U.heap.size U).drew).trans b1
              have o2 : W2.ownsRow w.heap.size 9 1 (.slice a3 cur2.length c3) cur2.length (cur2.map Value.string) := own_sameK oU fun g hg => b1.block g (oU.lt g hg).2
              have hrl : (x :: cur2.drop at_).length = 1 + (cur2.length - at_) := by simp; omega
              have hwU : w.heap.size ≤ W2.heap.size := Nat.le_trans bel.size (Nat.le_trans hVU.size hb2'.size)
              obtain ⟨v', W3, r2, o3, b3⟩ := ins_run2 (rest := x :: cur2.drop at_) o2 ha0 (by rw [hrl]; exact o1) (by simp) hwU (by rw [hrl]; omega) 23
              have hb3' : Below U.heap.size U W3 := hb2'.trans (b3.mono hb2'.size)
              refine ⟨u, W2, v', W3, r1, r2, hb2', hb3', ?_, ins_srt srt (unhide hlt) hge, fun z => ?_, bel.trans ((hVU.trans (hb3'.mono hVU.size)).mono bel.size)⟩
              · have e : (cur2.take at_ ++ x :: cur2.drop at_).length = at_ + (x :: cur2.drop at_).length := by simp; omega
                rw [e]
                exact o3
              · rw [ins_mem, mem z, nmsC_take hc, hx]
                constructor
                · rintro ((h | h) | h)
                  · exact .inl h
                  · exact .inr (.inl h)
                  · exact .inr (.inr h)
                · rintro (h | h | h)
                  · exact .inl (.inl h)
                  · exact .inl (.inr h)
                  · exact .inr h
            have HINS := hide ins
            have HU := hide hU
            have HB := hide (And.intro hb1 (And.intro hb2 (And.intro hc hx)))
            clear hV3 hc hb1 hb2 hx hU ins
            by_cases ha : at_ < cur2.length
            · obtain ⟨g3', o3, rfl, hg3, hj3⟩ := (unhide HR3).2.2 (by omega)
              obtain ⟨y, hy⟩ : ∃ y, cur2[at_]? = some y := ⟨_, List.getElem?_eq_getElem ha⟩
              have p3 : wr.cell? ⟨g3', o3 + at_, none⟩ = some (.string y) := by
                have := ((unhide hwr3).cell (p := ⟨g3', o3 + at_ * 1, none⟩) hg3).trans (hj3 at_ ha y hy)
                rwa [Nat.mul_one] at this
              have g6 : (at_ : Int) < (cur2.length : Int) := by omega
              have HY := hide (And.intro hy (And.intro hg3 hj3))
              clear hg3 hj3 hy p0 p1
              go_wp2_with fail
              go_quiet (fail)
              cases hbl : Op.bytesLess y.toList x.toList with
              | true =>
                go_wp2
                have hnl : NL y x := by
                  rw [bytesLess_eq] at hbl
                  have : y.toList < x.toList := by simpa using hbl
                  exact this
                refine ⟨⟨at_ + 1, by omega, by simp, ?_, ?_⟩, ?_⟩
                · intro j y' hj hy'
                  rcases Nat.lt_or_ge j at_ with e | e
                  · exact unhide hlt j y' e hy'
                  · obtain rfl : j = at_ := by omega
                    rw [(unhide HY).1] at hy'
                    injection hy' with hy'
                    subst hy'
                    exact hnl
                · have h := unhide hwr3
                  exact ⟨h.os, h.tape, h.output, h.size, h.block⟩
                · simp [intOf]
                  omega
              | false =>
                have hnl : Hid (¬ NL y x) := by
                  show ¬ NL y x
                  rw [bytesLess_eq] at hbl
                  have : ¬ y.toList < x.toList := by simpa using hbl
                  exact this
                clear hbl
                go_wp2_with fail
                obtain ⟨U1, hU1⟩ : ∃ U, wr.drewN nq = U := ⟨_, rfl⟩
                rw [hU1]
                have q0' : U1.cell? ⟨b, off + i * 2, none⟩ = some (.slice (some ⟨bc, oc, none⟩) nC cC) := by rw [← hU1]; exact q0
                have q1' : U1.cell? ⟨bc, oc + k * 2, none⟩ = some (.string x) := by rw [← hU1]; exact q1
                have p3' : U1.cell? ⟨g3', o3 + at_, none⟩ = some (.string y) := by rw [← hU1]; exact p3
                have HV : Hid (∀ n2, Below V.heap.size V (U1.drewN n2)) := by
                  intro n2
                  rw [← hU1]
                  exact unhide HU nq n2
                clear hU1 q0 q1 p3
                by_cases hyx : y = x
                · have heq : (y.toList == x.toList) = true := by rw [hyx]; simp
                  have HNew : Hid (∀ n2, NI w (U1.drewN n2) (.slice (some ⟨g3', o3, none⟩) cur2.length c3) (fun z => z ∈ nmsL (ls.take i) ∨ z ∈ nmsC (l.1.take (k + 1))) cur2) := by
                    intro n2
                    refine (unhide hO2).to (unhide HV n2) fun z => ?_
                    obtain ⟨hb1, hb2, hc, hx⟩ := unhide HB
                    rw [nmsC_take hc, hx]
                    constructor
                    · rintro (h | h)
                      · exact .inl h
                      · exact .inr (.inl h)
                    · rintro (h | h | h)
                      · exact .inl h
                      · exact .inr h
                      · rw [h, ← hyx]
                        exact ((unhide hO2).mem y).1 (List.mem_of_getElem? (unhide HY).1)
                  clear hyx hnl
                  go_quiet (fail)
                  go_wp2
                  refine ⟨⟨k + 1, cur2, by omega, by simp, unhide HNew _⟩, ?_⟩
                  simp [intOf]
                  omega
                · have heq : (y.toList == x.toList) = false := by
                    simp
                    exact fun e => hyx (toList_inj e)
                  have HGE : Hid (∀ y', cur2[at_]? = some y' → ¬ NL y' x ∧ y' ≠ x) := by
                    intro y' hy'
                    rw [(unhide HY).1] at hy'
                    injection hy' with hy'
                    subst hy'
                    exact ⟨unhide hnl, hyx⟩
                  clear hyx hnl
                  go_quiet (fail)
                  go_wp2_with fail
                  obtain ⟨u, W2, v', W3, r1, r2, b2, b3, hNI⟩ := unhide HINS _ (unhide HV nq) (unhide HGE)
                  have hV9 := unhide HV nq
                  obtain ⟨hb1, hb2, hc, hx⟩ := unhide HB
                  refine names_r13 (w0 := U1.drewN nq) (cur := cur2) (v3 := .slice (some ⟨g3', o3, none⟩) cur2.length c3) (x := x) rfl rfl rfl rfl rfl rfl (hV9.cell (p := ⟨b, off + i * 2, none⟩) hb1 |>.trans (unhide HP).1) (hV9.cell (p := ⟨bc, oc + k * 2, none⟩) hb2 |>.trans (unhide HP).2) (Nat.lt_of_lt_of_le hb1 hV9.size) (Nat.lt_of_lt_of_le hb2 hV9.size) hi (by omega) hk (by omega) (own_sameK (unhide hO2).own fun g hg => hV9.block g ((unhide hO2).own.lt g hg).2) ha0 r1 r2 b2 b3 ?_
                  intro a hd hsz hkp hv3
                  obtain ⟨yy, rfl, hyy⟩ := act_set [3, 68, 69, 70, 71, 72, 73, 74, 75, 76, 77, 78, 79, 80, 81, 82, 83, 84, 85, 86] (by kernel_rfl) hd hsz rfl hkp
                  have hy3 : yy 3 = v' := (hyy 3).trans hv3
                  have hl9 : (cur2.take at_ ++ x :: cur2.drop at_).length ≤ 1000000 := by simp; omega
                  obtain ⟨cur3, hc3⟩ : ∃ cur3, cur2.take at_ ++ x :: cur2.drop at_ = cur3 := ⟨_, rfl⟩
                  rw [hc3] at hNI hl9
                  have HNI := hide hNI
                  clear hd hsz hkp hv3 hyy r1 r2 b2 b3 hNI hV9 hb1 hb2 hc hx hc3
                  obtain ⟨a4, c4, rfl, l4, -⟩ := own_row (unhide HNI).own hl9
                  clear hl9
                  simp only [setAll, hy3]
                  clear hy3
                  go_wp2
                  refine ⟨⟨k + 1, _, by omega, by simp, HNI⟩, ?_⟩
                  simp [intOf]
                  omega
            · have g6 : ¬ ((at_ : Int) < (cur2.length : Int)) := by omega
              have g9 : decide ((at_ : Int) < (cur2.length : Int)) = false := by simp; omega
              have g10 : ¬ at_ < cur2.length := ha
              have HGE : Hid (∀ y', cur2[at_]? = some y' → ¬ NL y' x ∧ y' ≠ x) := by
                intro y' hy'
                have := (List.getElem?_eq_some_iff.1 hy').1
                omega
              clear p0 p1
              go_wp2_with fail
              go_quiet (fail)
              go_wp2_with fail
              obtain ⟨U1, hU1⟩ : ∃ U, wr.drewN nq = U := ⟨_, rfl⟩
              rw [hU1]
              have HV : Hid (∀ n2, Below V.heap.size V (U1.drewN n2)) := by
                intro n2
                rw [← hU1]
                exact unhide HU nq n2
              clear hU1 q0 q1
              go_quiet (fail)
              go_wp2_with fail
              obtain ⟨u, W2, v', W3, r1, r2, b2, b3, hNI⟩ := unhide HINS _ (unhide HV nq) (unhide HGE)
              have hV9 := unhide HV nq
              obtain ⟨hb1, hb2, hc, hx⟩ := unhide HB
              refine names_r13 (w0 := U1.drewN nq) (cur := cur2) (v3 := .slice a3 cur2.length c3) (x := x) rfl rfl rfl rfl rfl rfl (hV9.cell (p := ⟨b, off + i * 2, none⟩) hb1 |>.trans (unhide HP).1) (hV9.cell (p := ⟨bc, oc + k * 2, none⟩) hb2 |>.trans (unhide HP).2) (Nat.lt_of_lt_of_le hb1 hV9.size) (Nat.lt_of_lt_of_le hb2 hV9.size) hi (by omega) hk (by omega) (own_sameK (unhide hO2).own fun g hg => hV9.block g ((unhide hO2).own.lt g hg).2) ha0 r1 r2 b2 b3 ?_
              intro a hd hsz hkp hv3
              obtain ⟨yy, rfl, hyy⟩ := act_set [3, 68, 69, 70, 71, 72, 73, 74, 75, 76, 77, 78, 79, 80, 81, 82, 83, 84, 85, 86] (by kernel_rfl) hd hsz rfl hkp
              have hy3 : yy 3 = v' := (hyy 3).trans hv3
              have hl9 : (cur2.take at_ ++ x :: cur2.drop at_).length ≤ 1000000 := by simp; omega
              obtain ⟨cur3, hc3⟩ : ∃ cur3, cur2.take at_ ++ x :: cur2.drop at_ = cur3 := ⟨_, rfl⟩
              rw [hc3] at hNI hl9
              have HNI := hide hNI
              clear hd hsz hkp hv3 hyy r1 r2 b2 b3 hNI hV9 hb1 hb2 hc hx hc3
              obtain ⟨a4, c4, rfl, l4, -⟩ := own_row (unhide HNI).own hl9
              clear hl9
              simp only [setAll, hy3]
              clear hy3
              go_wp2
              refine ⟨⟨k + 1, _, by omega, by simp, HNI⟩, ?_⟩
              simp [intOf]
              omega
        · have gi : decide ((k : Int) < (nC : Int)) = false := by simp; omega
          have g3 : ¬ ((k : Int) < (nC : Int)) := by omega
          obtain rfl : k = nC := by omega
          have hNew := (unhide hO2).to (Below.refl _ _) (Q := fun z => z ∈ nmsL (ls.take (i + 1))) fun z => by
            rw [nms_take hl, hnC, List.take_length]
          have HNew := hide hNew
          obtain ⟨a4, c4, rfl, l4, -⟩ := own_row (unhide hO2).own (by
            have h1 := srt_len hNew.srt (m := nmsL ls) fun z hz => nms_sub ((hNew.mem z).1 hz)
            have h2 := nms_len ls
            omega)
          clear hNew hbB hc0 hnC hRC hC100 hw hl hBr hk hk0 hO2 l4
          go_wp2
          refine ⟨⟨i + 1, cur2, by omega, by simp, HNew⟩, ?_⟩
          simp [intOf]
          omega
    · have gi : decide ((i : Int) < (n : Int)) = false := by simp; omega
      have g1 : ¬ ((i : Int) < (n : Int)) := by omega
      obtain rfl : i = n := by omega
      have hNew := unhide hO
      rw [(unhide HA).2.1, List.take_length] at hNew
      have HNew := hide hNew
      obtain ⟨a4, c4, rfl, l4, -⟩ := own_row (unhide hO).own (by
        have h1 := srt_len hNew.srt (m := nmsL ls) fun z hz => (hNew.mem z).1 hz
        have h2 := nms_len ls
        have h3 := (unhide HA).2.2
        omega)
      clear hNew hi hi0 hO l4
      go_wp2
      go_ret
      exact ⟨_, cur, rfl, unhide HNew⟩
end Go.Proofs.YthgdmppmjnmiiaaGreatDoor

/- The document's Sum: its numbers, and what it tells, as lists. -/
namespace Go.Proofs.YthgdmppmjnmiiaaGreatDoor
open Go Go.RowKit Go.Maps
open _root_.Go.Proofs.YthgdmppmjnmiiaaGreatDoor.Nm (IsI IsN pw)
/-- Must at a text that is a number. -/
theorem mustT {s : ByteArray} {d : Nat} {z : Int} (hd : d ≤ 1900) (h : numT d s = some z) (w : World) : Calls Tryz.prog 18 #[.string s] w fun e w' => ∃ r, e = .returned r ∧ Below w.heap.size w w' ∧ IsN w' r z := by
  unfold numT at h
  split at h
  · rename_i hr
    have hR := ((rightB_iff (by omega)).1 hr).1
    have hm := Nm.must_val _ _ s w (txt_of s.data.toList).symm hR
    cases h
    exact hm
  · cases h
/-- What the document's Sum tells: the names in their order, but those whose sum is none. -/
def tellN (F : ByteArray → Int) (nl : List ByteArray) : List (ByteArray × ByteArray) := (nl.filter fun s => decide (F s ≠ 0)).map fun s => (s, bytesOf (Lib.itoa (F s)))
theorem tellN_take {F : ByteArray → Int} {nl : List ByteArray} {i : Nat} {s : ByteArray} (h : nl[i]? = some s) : tellN F (nl.take (i + 1)) = if F s = 0 then tellN F (nl.take i) else tellN F (nl.take i) ++ [(s, bytesOf (Lib.itoa (F s)))] := by
  unfold tellN
  rw [List.take_add_one, h]
  simp only [Option.toList_some, List.filter_append, List.map_append]
  by_cases h0 : F s = 0
  · simp [h0]
  · simp [h0]
theorem told_sorted {F : ByteArray → Int} {ss : List (List UInt8)} {nl : List ByteArray} (hk : Keys F ss) (hs : SrtN nl) (hz : ∀ z ∈ nl, F z ≠ 0 → z.size ≤ maxLen) (hn : ∀ z, z.size ≤ maxLen → F z ≠ 0 → z ∈ nl) : coefsOf F ss = tellN F nl := by
  obtain ⟨ml, hml⟩ : ∃ ml, ml = (nl.filter fun s => decide (F s ≠ 0)) := ⟨_, rfl⟩
  have hsm : SrtN ml := by rw [hml]; exact List.Pairwise.sublist List.filter_sublist hs
  have hmem : ∀ z, z ∈ ml ↔ z ∈ nl ∧ F z ≠ 0 := fun z => by rw [hml]; simp
  have hL : (ml.map fun s => s.data.toList) = srt ss := by
    have hnd : (ml.map fun s : ByteArray => s.data.toList).Nodup := by
      have h1 := srt_nodup hsm
      unfold List.Nodup at h1 ⊢
      rw [List.pairwise_map]
      exact h1.imp fun {a b} hab e => hab (by rw [← bytesOf_self a, ← bytesOf_self b, e])
    have hp : (ml.map fun s : ByteArray => s.data.toList).Perm ss := (List.perm_ext_iff_of_nodup hnd hk.1).2 fun x => by
      rw [hk.2, List.mem_map]
      have hsz : (bytesOf x).size = x.length := by simp [bytesOf, ByteArray.size]
      constructor
      · rintro ⟨z, h1, rfl⟩
        obtain ⟨q1, q2⟩ := (hmem z).1 h1
        rw [bytesOf_self]
        exact ⟨by rw [size_data]; exact hz z q1 q2, q2⟩
      · rintro ⟨h1, h2⟩
        exact ⟨bytesOf x, (hmem _).2 ⟨hn _ (by rw [hsz]; exact h1) h2, h2⟩, by simp [bytesOf]⟩
    have tr : ∀ a b c : List UInt8, decide (a ≤ b) = true → decide (b ≤ c) = true → decide (a ≤ c) = true := fun a b c h1 h2 => by
      simp only [decide_eq_true_eq] at h1 h2 ⊢
      exact List.le_trans h1 h2
    have tt : ∀ a b : List UInt8, (decide (a ≤ b) || decide (b ≤ a)) = true := fun a b => by
      simp only [Bool.or_eq_true, decide_eq_true_eq]
      exact List.le_total a b
    have s2 := List.pairwise_mergeSort (le := fun x y : List UInt8 => decide (x ≤ y)) tr tt ss
    have s1 : (ml.map fun s : ByteArray => s.data.toList).Pairwise fun x y : List UInt8 => decide (x ≤ y) = true := by
      rw [List.pairwise_map]
      refine hsm.imp fun {a b} hab => ?_
      unfold NL at hab
      rw [Lib.toList_data, Lib.toList_data] at hab
      rw [decide_eq_true_eq]
      exact List.le_of_lt hab
    refine List.Perm.eq_of_pairwise (le := fun x y : List UInt8 => decide (x ≤ y) = true) ?_ s1 s2 (hp.trans (srt_perm ss).symm)
    intro a b _ _ h1 h2
    simp only [decide_eq_true_eq] at h1 h2
    exact List.le_antisymm h1 h2
  show (srt ss).map (coefOf F) = _
  unfold tellN
  rw [← hml, ← hL, List.map_map]
  refine List.map_congr_left fun s _ => ?_
  show coefOf F s.data.toList = _
  unfold coefOf
  rw [bytesOf_self]
/-- A name that no row has adds nothing. -/
theorem cf_none {C : List (ByteArray × ByteArray)} {ps : List (ByteArray × Int)} (h : readC C = some ps) {s : ByteArray} (hs : s ∉ nmsC C) : cf ps s = 0 := by
  induction C generalizing ps with
  | nil =>
    have : ps = [] := by cases h; rfl
    subst this
    rfl
  | cons c C ih =>
    unfold readC at h
    split at h
    · rename_i p qs hp hq
      cases h
      have h1 : p.1 = c.1 := by
        unfold readP at hp
        split at hp
        · cases hp
        · cases hz : numT 400 c.2 with
          | none => rw [hz] at hp; cases hp
          | some z => rw [hz] at hp; cases hp; rfl
      have h2 : p.1 ≠ s := fun e => hs (by rw [← e, h1]; simp [nmsC])
      have h3 : s ∉ nmsC C := fun e => hs (by unfold nmsC at e ⊢; rw [List.map_cons]; exact List.mem_cons_of_mem _ e)
      rw [cf_cons, if_neg h2, ih hq h3]
      rfl
    · cases h
theorem readR_C {C : List (ByteArray × ByteArray)} {K : ByteArray} {r : List (ByteArray × Int) × Int} (h : readR C K = some r) : readC C = some r.1 ∧ numT 400 K = some r.2 := by
  unfold readR at h
  split at h
  · rename_i k ps hk hp
    cases h
    exact ⟨hp, hk⟩
  · cases h
theorem sumC_none {ls : List (List (ByteArray × ByteArray) × ByteArray)} {s : ByteArray} (hs : s ∉ nmsL ls) : ∀ {rs : List (List (ByteArray × Int) × Int)} (ns : List Int), allO (fun l => readR l.1 l.2) ls = some rs → sumC rs ns s = 0 := by
  induction ls with
  | nil =>
    intro rs ns h
    cases h
    simp [sumC]
  | cons l ls ih =>
    intro rs ns h
    unfold allO at h
    split at h
    · rename_i r qs hr hq
      cases h
      have h1 : s ∉ nmsC l.1 := fun e => hs (by unfold nmsL; rw [List.flatMap_cons]; exact List.mem_append_left _ e)
      have h2 : s ∉ nmsL ls := fun e => hs (by unfold nmsL at e ⊢; rw [List.flatMap_cons]; exact List.mem_append_right _ e)
      cases ns with
      | nil => simp [sumC]
      | cons n ns =>
        have h3 := ih h2 ns hq
        unfold sumC at h3 ⊢
        rw [List.zip_cons_cons, List.map_cons, List.sum_cons, h3, cf_none (readR_C hr).1 h1]
        simp
    · cases h
end Go.Proofs.YthgdmppmjnmiiaaGreatDoor

/- The document's Sum: the region that adds to the constant. -/
namespace Go.Proofs.YthgdmppmjnmiiaaGreatDoor
open Go Go.RowKit Go.Maps
open _root_.Go.Proofs.YthgdmppmjnmiiaaGreatDoor.Nm (IsI IsN pw op_indexAddr)
theorem enter_MustD : Enters Tryz.prog 18 := ⟨fun xs w => by go_simp⟩
theorem enter_MulD : Enters Tryz.prog 23 := ⟨fun xs w => by go_simp⟩
theorem enter_AddD : Enters Tryz.prog 22 := ⟨fun xs w => by go_simp⟩
theorem enter_TextD : Enters Tryz.prog 24 := ⟨fun xs w => by go_simp⟩
set_option maxRecDepth 100000 in
theorem ld_N {b o : Nat} {x y : Value} {w : World} (h : w.rangeAt b o [x, y]) : (Instr.loadAt 58 (.pointer (some ⟨b, o, none⟩))).run Tryz.prog w = .ok (.agg #[x, y]) w := run_loadAt_mid (P := Tryz.prog) w b o 58 _ _ h rfl rfl rfl
set_option maxRecDepth 100000 in
theorem fa_linK (r o : Nat) (w : World) : (Instr.fieldAt 28 (.pointer (some ⟨r, o, none⟩)) 1).run Tryz.prog w = .ok (.pointer (some ⟨r, o + 1, none⟩)) w := by go_simp
def sps20 (b off n cL i : Nat) (T : ByteArray) (kv mv : Value) : List Value := [kv, mv, .slice (some ⟨b, off, none⟩) n cL, .int .i64 i, .pointer (some ⟨b, off + i * 2, none⟩), .pointer (some ⟨b, off + i * 2 + 1, none⟩), .string T]
def sp20 (b off n cL i : Nat) (T : ByteArray) (kv mv : Value) (z1 z2 z3 : Int) (j : Nat) (w : World) (v : Value) : Prop := (j < 7 → v = (sps20 b off n cL i T kv mv).getD j undef) ∧ (j = 7 → IsN w v z1) ∧ (j = 8 → IsN w v z2) ∧ (j = 9 → IsN w v z3)
/-- Memory grew, and a number was laid at a place. -/
def AddedN (w0 w : World) (A o : Nat) (z : Int) : Prop := ∃ (V : World) (nb : Bool) (na : Option Addr) (nl nc : Nat), Below w0.heap.size w0 V ∧ IsN V (.agg #[.bool nb, .slice na nl nc]) z ∧ w = (V.setCell ⟨A, o, none⟩ (.bool nb)).setCell ⟨A, o + 1, none⟩ (.slice na nl nc)
def kept20 : List Nat := List.range 75
set_option maxRecDepth 100000 in
set_option maxHeartbeats 4000000 in
theorem sum_r20 {Q : Exit → Act → World → Prop} {a0 : Act} {w0 : World} {A M b off n cL i : Nat} {k1 k2 m1 m2 : Value} {T : ByteArray} {k m z : Int} (hN : a0.tmps.size = 166) (h10 : a0.tmps[10]? = some (.pointer (some ⟨A, 0, none⟩))) (h12 : a0.tmps[12]? = some (.pointer (some ⟨M, 0, none⟩))) (h0 : a0.tmps[0]? = some (.slice (some ⟨b, off, none⟩) n cL)) (h11 : a0.tmps[11]? = some (.int .i64 i))
    (hA : w0.heap[A]? = some (.cells #[k1, k2] 58)) (hM : w0.heap[M]? = some (.cells #[m1, m2] 58)) (hT : w0.cell? ⟨b, off + i * 2 + 1, none⟩ = some (.string T)) (hb : b < w0.heap.size) (hi : i < n) (hn : n ≤ 1000000)
    (hk : IsN w0 (.agg #[k1, k2]) k) (hm : IsN w0 (.agg #[m1, m2]) m) (hz : numT 400 T = some z) (bk : (k.natAbs : Int) < Nm.T4.pw 9000) (bm : (m.natAbs : Int) < Nm.T4.pw 4000) (bz : (z.natAbs : Int) < Nm.T4.pw 4000) (bmz : ((m * z).natAbs : Int) < Nm.T4.pw 9000)
    (hend : ∀ (a : Act) (w : World), a.defers = a0.defers → a.tmps.size = 166 → (∀ k, k ∈ kept20 → a.tmps[k]? = a0.tmps[k]?) → AddedN w0 w A 0 (k + m * z) → Q .normal a w) :
    (Code.region 20 (Nm.regionOf Tryz.f7 20).toArray true).wp Tryz.prog Q a0 w0 := by
  have hD : Below w0.heap.size w0 w0.drew := (Below.refl _ w0).drew
  have hl : (Nm.regionOf Tryz.f7 20).length = 11 := by kernel_rfl
  have hAlt : A < w0.heap.size := (Array.getElem?_eq_some_iff.1 hA).1
  have hMlt : M < w0.heap.size := (Array.getElem?_eq_some_iff.1 hM).1
  refine wp_region_any (by kernel_rfl) ?_
  refine one_store2 (l := (Nm.regionOf Tryz.f7 20)) (w0 := w0.drew) 166 w0.heap.size 10 9 kept20 [0, 1, 2, 3, 4, 5, 6, 7, 8, 9] (sp20 b off n cL i T (.agg #[k1, k2]) (.agg #[m1, m2]) z (m * z) (k + m * z)) (fun _ _ => True) (fun w _ => AddedN w0 w A 0 (k + m * z)) (by kernel_rfl) hN (Nat.le_refl _) (by rw [hl]; omega) (by kernel_rfl) (by kernel_rfl) (by kernel_rfl) (by kernel_rfl) (by decide) (by decide) (by kernel_rfl) ?_ (fun _ => trivial) ?_ ?_ ?_ ?_
  · intro j w w' v h hb
    exact ⟨h.1, fun e => (h.2.1 e).below hb, fun e => (h.2.2.1 e).below hb, fun e => (h.2.2.2 e).below hb⟩
  · intro j hj a w hbw hn' hk' hp
    have hb0 : Below w0.heap.size w0 w := hD.trans hbw
    have k10 : a.eval (.tmp 10) = .pointer (some ⟨A, 0, none⟩) := getD_of ((hk' 10 (by decide)).trans h10)
    have k12 : a.eval (.tmp 12) = .pointer (some ⟨M, 0, none⟩) := getD_of ((hk' 12 (by decide)).trans h12)
    have k0 : a.eval (.tmp 0) = .slice (some ⟨b, off, none⟩) n cL := getD_of ((hk' 0 (by decide)).trans h0)
    have k11 : a.eval (.tmp 11) = .int .i64 i := getD_of ((hk' 11 (by decide)).trans h11)
    have hi' : j = 0 ∨ j = 1 ∨ j = 2 ∨ j = 3 ∨ j = 4 ∨ j = 5 ∨ j = 6 ∨ j = 7 ∨ j = 8 ∨ j = 9 := by simpa using hj
    rcases hi' with rfl | rfl | rfl | rfl | rfl | rfl | rfl | rfl | rfl | rfl
    · refine st_want (wnone rfl) (op_load k10 (ld_N (x := k1) (y := k2) fun j v hv => ?_) ⟨_, rfl, Below.refl _ _, ⟨fun _ => rfl, by simp, by simp, by simp⟩, trivial⟩)
      rw [hb0.cell (p := ⟨A, 0 + j, none⟩) hAlt]
      match j, hv with
      | 0, hv => exact ((blk hA).2.1 0 _ rfl).trans (by simpa using hv)
      | 1, hv => exact ((blk hA).2.1 1 _ rfl).trans (by simpa using hv)
      | j + 2, hv => simp at hv
    · refine st_want (wnone rfl) (op_load k12 (ld_N (x := m1) (y := m2) fun j v hv => ?_) ⟨_, rfl, Below.refl _ _, ⟨fun _ => rfl, by simp, by simp, by simp⟩, trivial⟩)
      rw [hb0.cell (p := ⟨M, 0 + j, none⟩) hMlt]
      match j, hv with
      | 0, hv => exact ((blk hM).2.1 0 _ rfl).trans (by simpa using hv)
      | 1, hv => exact ((blk hM).2.1 1 _ rfl).trans (by simpa using hv)
      | j + 2, hv => simp at hv
    · exact st_want (wnone rfl) (op_move ⟨_, rfl, Below.refl _ _, ⟨fun _ => k0, by simp, by simp, by simp⟩, trivial⟩)
    · exact st_want (wnone rfl) (op_move ⟨_, rfl, Below.refl _ _, ⟨fun _ => k11, by simp, by simp, by simp⟩, trivial⟩)
    · have e1 : a.eval (.tmp 77) = .slice (some ⟨b, off, none⟩) n cL := (hp 2 rfl (by decide)).1 (by decide)
      have e2 : a.eval (.tmp 78) = .int .i64 i := (hp 3 rfl (by decide)).1 (by decide)
      exact st_want (wnone rfl) (op_indexAddr e1 e2 (ix_L w hi hn) ⟨_, rfl, Below.refl _ _, ⟨fun _ => rfl, by simp, by simp, by simp⟩, trivial⟩)
    · have e : a.eval (.tmp 79) = .pointer (some ⟨b, off + i * 2, none⟩) := (hp 4 rfl (by decide)).1 (by decide)
      exact st_want (wnone rfl) (op_fieldAddr e (fa_linK b (off + i * 2) w) ⟨_, rfl, Below.refl _ _, ⟨fun _ => rfl, by simp, by simp, by simp⟩, trivial⟩)
    · have e : a.eval (.tmp 80) = .pointer (some ⟨b, off + i * 2 + 1, none⟩) := (hp 5 rfl (by decide)).1 (by decide)
      exact st_want (wnone rfl) (op_load e (ld_S ((hb0.cell (p := ⟨b, off + i * 2 + 1, none⟩) hb).trans hT)) ⟨_, rfl, Below.refl _ _, ⟨fun _ => rfl, by simp, by simp, by simp⟩, trivial⟩)
    · have e1 : a.tmps.getD 81 undef = .string T := (hp 6 rfl (by decide)).1 (by decide)
      refine st_want (wnone rfl) (op_call enter_MustD ?_)
      have hargs : (#[Operand.tmp 81]).map a.eval = #[.string T] := by
        simp only [List.map_toArray, List.map_cons, List.map_nil, Act.eval]
        rw [e1]
      rw [hargs]
      refine (mustT (by omega) hz w).mono ?_
      rintro ex w' ⟨q, rfl, hb', hI⟩
      exact ⟨q, rfl, q, rfl, hb', ⟨by simp, fun _ => hI, by simp, by simp⟩, trivial⟩
    · have e1 : a.tmps.getD 76 undef = .agg #[m1, m2] := (hp 1 rfl (by decide)).1 (by decide)
      have e2 : IsN w (a.tmps.getD 82 undef) z := (hp 7 rfl (by decide)).2.1 rfl
      refine st_want (wnone rfl) (op_call enter_MulD ?_)
      have hargs : (#[Operand.tmp 76, .tmp 82]).map a.eval = #[.agg #[m1, m2], a.tmps.getD 82 undef] := by
        simp only [List.map_toArray, List.map_cons, List.map_nil, Act.eval]
        rw [e1]
      rw [hargs]
      refine (Nm.mulN_any _ _ m z w (hm.below hb0) e2 bm bz).mono ?_
      rintro ex w' ⟨q, rfl, hb', hI⟩
      exact ⟨q, rfl, q, rfl, hb', ⟨by simp, by simp, fun _ => hI, by simp⟩, trivial⟩
    · have e1 : a.tmps.getD 75 undef = .agg #[k1, k2] := (hp 0 rfl (by decide)).1 (by decide)
      have e2 : IsN w (a.tmps.getD 83 undef) (m * z) := (hp 8 rfl (by decide)).2.2.1 rfl
      refine st_want (wnone rfl) (op_call enter_AddD ?_)
      have hargs : (#[Operand.tmp 75, .tmp 83]).map a.eval = #[.agg #[k1, k2], a.tmps.getD 83 undef] := by
        simp only [List.map_toArray, List.map_cons, List.map_nil, Act.eval]
        rw [e1]
      rw [hargs]
      refine (Nm.addN_any _ _ k (m * z) w (hk.below hb0) e2 bk bmz).mono ?_
      rintro ex w' ⟨q, rfl, hb', hI⟩
      exact ⟨q, rfl, q, rfl, hb', ⟨by simp, by simp, by simp, fun _ => hI⟩, trivial⟩
  · intro j hj hj1 hj2 a w hn hk hp
    rw [hl] at hj
    have hj1' : ¬ (j = 0 ∨ j = 1 ∨ j = 2 ∨ j = 3 ∨ j = 4 ∨ j = 5 ∨ j = 6 ∨ j = 7 ∨ j = 8 ∨ j = 9) := by simpa using hj1
    omega
  · intro a w hbw hn' hk' hp
    have hb0 : Below w0.heap.size w0 w := hD.trans hbw
    have hI : IsN w (a.tmps.getD 84 undef) (k + m * z) := (hp 9 (by decide)).2.2.2 rfl
    obtain ⟨nb, na, nl, nc, e7⟩ := hI.form
    have e3 : a.eval (.tmp 84) = .agg #[.bool nb, .slice na nl nc] := e7
    have e4 : a.eval (.tmp 10) = .pointer (some ⟨A, 0, none⟩) := getD_of ((hk' 10 (by decide)).trans h10)
    rw [e7] at hI
    have hrw : w.heap[A]? = some (.cells #[k1, k2] 58) := (hb0.block A hAlt).trans hA
    have r1 : w.cell? ⟨A, 0, none⟩ = some k1 := (blk hrw).2.1 0 _ rfl
    have r2 : w.cell? ⟨A, 1, none⟩ = some k2 := (blk hrw).2.1 1 _ rfl
    have f1 := (blk hrw).2.2 0
    have f2 := (blk hrw).2.2 1
    show Oper.wp Tryz.prog ⟨none, .store 58 (.tmp 10) (.tmp 84), _, _, _, _⟩ a w _ _
    unfold Oper.wp
    simp only [execOp, e3, e4]
    simp [go_sem, r1, r2, f1, f2]
    exact ⟨w, nb, na, nl, nc, hb0, hI, rfl⟩
  · intro a w hd hn hk hpu hJ
    exact hend a w hd hn hk hJ
end Go.Proofs.YthgdmppmjnmiiaaGreatDoor

namespace Go.Proofs.YthgdmppmjnmiiaaGreatDoor
open Go Go.RowKit Go.Maps
open _root_.Go.Proofs.YthgdmppmjnmiiaaGreatDoor.Nm (IsI IsN pw op_indexAddr)
theorem ix_N {b off n c i : Nat} (w : World) (hi : i < n) (hn : n ≤ 1000000) : (Instr.indexAt 62 (.slice (some ⟨b, off, none⟩) n c) (.int .i64 i)).run Tryz.prog w = .ok (.pointer (some ⟨b, off + i * 2, none⟩)) w := by
  have g1 : (i : Int) < (n : Int) := by omega
  have g0 : (0 : Int) ≤ (i : Int) := by omega
  have g2 : (n : Int) ≤ 1000000 := by omega
  go_simp
set_option maxRecDepth 100000 in
theorem fa_coK (r o : Nat) (w : World) : (Instr.fieldAt 39 (.pointer (some ⟨r, o, none⟩)) 1).run Tryz.prog w = .ok (.pointer (some ⟨r, o + 1, none⟩)) w := by go_simp
set_option maxRecDepth 100000 in
theorem ld_CL {r o : Nat} {v : Value} {w : World} (h : w.cell? ⟨r, o, none⟩ = some v) : (Instr.loadAt 26 (.pointer (some ⟨r, o, none⟩))).run Tryz.prog w = .ok v w := by
  go_simp
def sps28 (S so sn sc q b off n cL i bc oc nC cC c : Nat) (T : ByteArray) (kv mv : Value) : List Value := [.slice (some ⟨S, so, none⟩) sn sc, .int .i64 q, .slice (some ⟨S, so, none⟩) sn sc, .int .i64 q, .pointer (some ⟨S, so + q * 2, none⟩), kv, mv, .slice (some ⟨b, off, none⟩) n cL, .int .i64 i, .pointer (some ⟨b, off + i * 2, none⟩), .pointer (some ⟨b, off + i * 2, none⟩), .slice (some ⟨bc, oc, none⟩) nC cC, .int .i64 c, .pointer (some ⟨bc, oc + c * 2, none⟩), .pointer (some ⟨bc, oc + c * 2 + 1, none⟩), .string T, undef, undef, undef, .pointer (some ⟨S, so + q * 2, none⟩)]
def sp28 (L : List Value) (z1 z2 z3 : Int) (j : Nat) (w : World) (v : Value) : Prop := (j ≠ 16 → j ≠ 17 → j ≠ 18 → v = L.getD j undef) ∧ (j = 16 → IsN w v z1) ∧ (j = 17 → IsN w v z2) ∧ (j = 18 → IsN w v z3)
def kept28 : List Nat := List.range 115
set_option maxRecDepth 100000 in
set_option maxHeartbeats 4000000 in
theorem sum_r28 {Q : Exit → Act → World → Prop} {a0 : Act} {w0 : World} {S so sn sc q M b off n cL i bc oc nC cC c : Nat} {k1 k2 m1 m2 : Value} {cs : Array Value} {sty : TypeId} {T : ByteArray} {k m z : Int} (hN : a0.tmps.size = 166) (h9 : a0.tmps[9]? = some (.slice (some ⟨S, so, none⟩) sn sc)) (h14 : a0.tmps[14]? = some (.int .i64 q)) (h12 : a0.tmps[12]? = some (.pointer (some ⟨M, 0, none⟩))) (h0 : a0.tmps[0]? = some (.slice (some ⟨b, off, none⟩) n cL)) (h11 : a0.tmps[11]? = some (.int .i64 i)) (h13 : a0.tmps[13]? = some (.int .i64 c))
    (hS : w0.rangeAt S (so + q * 2) [k1, k2]) (hSlt : S < w0.heap.size) (hSb : w0.heap[S]? = some (.cells cs sty)) (hM : w0.heap[M]? = some (.cells #[m1, m2] 58)) (hC : w0.cell? ⟨b, off + i * 2, none⟩ = some (.slice (some ⟨bc, oc, none⟩) nC cC)) (hT : w0.cell? ⟨bc, oc + c * 2 + 1, none⟩ = some (.string T)) (hb : b < w0.heap.size) (hbc : bc < w0.heap.size) (hi : i < n) (hn : n ≤ 1000000) (hc : c < nC) (hnC : nC ≤ 1000000) (hq : q < sn) (hsn : sn ≤ 1000000)
    (hk : IsN w0 (.agg #[k1, k2]) k) (hm : IsN w0 (.agg #[m1, m2]) m) (hz : numT 400 T = some z) (bk : (k.natAbs : Int) < Nm.T4.pw 9000) (bm : (m.natAbs : Int) < Nm.T4.pw 4000) (bz : (z.natAbs : Int) < Nm.T4.pw 4000) (bmz : ((m * z).natAbs : Int) < Nm.T4.pw 9000)
    (hend : ∀ (a : Act) (w : World), a.defers = a0.defers → a.tmps.size = 166 → (∀ k, k ∈ kept28 → a.tmps[k]? = a0.tmps[k]?) → AddedN w0 w S (so + q * 2) (k + m * z) → Q .normal a w) :
    (Code.region 28 (Nm.regionOf Tryz.f7 28).toArray true).wp Tryz.prog Q a0 w0 := by
  have hD : Below w0.heap.size w0 w0.drew := (Below.refl _ w0).drew
  have hl : (Nm.regionOf Tryz.f7 28).length = 21 := by kernel_rfl
  have hMlt : M < w0.heap.size := (Array.getElem?_eq_some_iff.1 hM).1
  refine wp_region_any (by kernel_rfl) ?_
  refine one_store2 (l := (Nm.regionOf Tryz.f7 28)) (w0 := w0.drew) 166 w0.heap.size 20 18 kept28 (List.range 20) (sp28 (sps28 S so sn sc q b off n cL i bc oc nC cC c T (.agg #[k1, k2]) (.agg #[m1, m2])) z (m * z) (k + m * z)) (fun _ _ => True) (fun w _ => AddedN w0 w S (so + q * 2) (k + m * z)) (by kernel_rfl) hN (Nat.le_refl _) (by rw [hl]; omega) (by kernel_rfl) (by kernel_rfl) (by kernel_rfl) (by kernel_rfl) (by decide) (by decide) (by kernel_rfl) ?_ (fun _ => trivial) ?_ ?_ ?_ ?_
  · intro j w w' v h hb
    exact ⟨h.1, fun e => (h.2.1 e).below hb, fun e => (h.2.2.1 e).below hb, fun e => (h.2.2.2 e).below hb⟩
  · intro j hj a w hbw hn' hk' hp
    have hb0 : Below w0.heap.size w0 w := hD.trans hbw
    have k9 : a.eval (.tmp 9) = .slice (some ⟨S, so, none⟩) sn sc := getD_of ((hk' 9 (by decide)).trans h9)
    have k14 : a.eval (.tmp 14) = .int .i64 q := getD_of ((hk' 14 (by decide)).trans h14)
    have k12 : a.eval (.tmp 12) = .pointer (some ⟨M, 0, none⟩) := getD_of ((hk' 12 (by decide)).trans h12)
    have k0 : a.eval (.tmp 0) = .slice (some ⟨b, off, none⟩) n cL := getD_of ((hk' 0 (by decide)).trans h0)
    have k11 : a.eval (.tmp 11) = .int .i64 i := getD_of ((hk' 11 (by decide)).trans h11)
    have k13 : a.eval (.tmp 13) = .int .i64 c := getD_of ((hk' 13 (by decide)).trans h13)
    have hi' : j < 20 := List.mem_range.1 hj
    match j, hi' with
    | 0, _ => exact st_want (wnone rfl) (op_move ⟨_, rfl, Below.refl _ _, ⟨fun _ _ _ => k9, by simp, by simp, by simp⟩, trivial⟩)
    | 1, _ => exact st_want (wnone rfl) (op_move ⟨_, rfl, Below.refl _ _, ⟨fun _ _ _ => k14, by simp, by simp, by simp⟩, trivial⟩)
    | 2, _ => exact st_want (wnone rfl) (op_move ⟨_, rfl, Below.refl _ _, ⟨fun _ _ _ => k9, by simp, by simp, by simp⟩, trivial⟩)
    | 3, _ => exact st_want (wnone rfl) (op_move ⟨_, rfl, Below.refl _ _, ⟨fun _ _ _ => k14, by simp, by simp, by simp⟩, trivial⟩)
    | 4, _ =>
      have e1 : a.eval (.tmp 117) = .slice (some ⟨S, so, none⟩) sn sc := (hp 2 rfl (by decide)).1 (by decide) (by decide) (by decide)
      have e2 : a.eval (.tmp 118) = .int .i64 q := (hp 3 rfl (by decide)).1 (by decide) (by decide) (by decide)
      exact st_want (wnone rfl) (op_indexAddr e1 e2 (ix_N w hq hsn) ⟨_, rfl, Below.refl _ _, ⟨fun _ _ _ => rfl, by simp, by simp, by simp⟩, trivial⟩)
    | 5, _ =>
      have e : a.eval (.tmp 119) = .pointer (some ⟨S, so + q * 2, none⟩) := (hp 4 rfl (by decide)).1 (by decide) (by decide) (by decide)
      refine st_want (wnone rfl) (op_load e (ld_N (x := k1) (y := k2) fun j v hv => ?_) ⟨_, rfl, Below.refl _ _, ⟨fun _ _ _ => rfl, by simp, by simp, by simp⟩, trivial⟩)
      rw [hb0.cell (p := ⟨S, so + q * 2 + j, none⟩) hSlt]
      exact hS j v hv
    | 6, _ =>
      refine st_want (wnone rfl) (op_load k12 (ld_N (x := m1) (y := m2) fun j v hv => ?_) ⟨_, rfl, Below.refl _ _, ⟨fun _ _ _ => rfl, by simp, by simp, by simp⟩, trivial⟩)
      rw [hb0.cell (p := ⟨M, 0 + j, none⟩) hMlt]
      match j, hv with
      | 0, hv => exact ((blk hM).2.1 0 _ rfl).trans (by simpa using hv)
      | 1, hv => exact ((blk hM).2.1 1 _ rfl).trans (by simpa using hv)
      | j + 2, hv => simp at hv
    | 7, _ => exact st_want (wnone rfl) (op_move ⟨_, rfl, Below.refl _ _, ⟨fun _ _ _ => k0, by simp, by simp, by simp⟩, trivial⟩)
    | 8, _ => exact st_want (wnone rfl) (op_move ⟨_, rfl, Below.refl _ _, ⟨fun _ _ _ => k11, by simp, by simp, by simp⟩, trivial⟩)
    | 9, _ =>
      have e1 : a.eval (.tmp 122) = .slice (some ⟨b, off, none⟩) n cL := (hp 7 rfl (by decide)).1 (by decide) (by decide) (by decide)
      have e2 : a.eval (.tmp 123) = .int .i64 i := (hp 8 rfl (by decide)).1 (by decide) (by decide) (by decide)
      exact st_want (wnone rfl) (op_indexAddr e1 e2 (ix_L w hi hn) ⟨_, rfl, Below.refl _ _, ⟨fun _ _ _ => rfl, by simp, by simp, by simp⟩, trivial⟩)
    | 10, _ =>
      have e : a.eval (.tmp 124) = .pointer (some ⟨b, off + i * 2, none⟩) := (hp 9 rfl (by decide)).1 (by decide) (by decide) (by decide)
      exact st_want (wnone rfl) (op_fieldAddr e (fa_linO b (off + i * 2) w) ⟨_, rfl, Below.refl _ _, ⟨fun _ _ _ => rfl, by simp, by simp, by simp⟩, trivial⟩)
    | 11, _ =>
      have e : a.eval (.tmp 125) = .pointer (some ⟨b, off + i * 2, none⟩) := (hp 10 rfl (by decide)).1 (by decide) (by decide) (by decide)
      exact st_want (wnone rfl) (op_load e (ld_CL ((hb0.cell (p := ⟨b, off + i * 2, none⟩) hb).trans hC)) ⟨_, rfl, Below.refl _ _, ⟨fun _ _ _ => rfl, by simp, by simp, by simp⟩, trivial⟩)
    | 12, _ => exact st_want (wnone rfl) (op_move ⟨_, rfl, Below.refl _ _, ⟨fun _ _ _ => k13, by simp, by simp, by simp⟩, trivial⟩)
    | 13, _ =>
      have e1 : a.eval (.tmp 126) = .slice (some ⟨bc, oc, none⟩) nC cC := (hp 11 rfl (by decide)).1 (by decide) (by decide) (by decide)
      have e2 : a.eval (.tmp 127) = .int .i64 c := (hp 12 rfl (by decide)).1 (by decide) (by decide) (by decide)
      exact st_want (wnone rfl) (op_indexAddr e1 e2 (ix_C w hc hnC) ⟨_, rfl, Below.refl _ _, ⟨fun _ _ _ => rfl, by simp, by simp, by simp⟩, trivial⟩)
    | 14, _ =>
      have e : a.eval (.tmp 128) = .pointer (some ⟨bc, oc + c * 2, none⟩) := (hp 13 rfl (by decide)).1 (by decide) (by decide) (by decide)
      exact st_want (wnone rfl) (op_fieldAddr e (fa_coK bc (oc + c * 2) w) ⟨_, rfl, Below.refl _ _, ⟨fun _ _ _ => rfl, by simp, by simp, by simp⟩, trivial⟩)
    | 15, _ =>
      have e : a.eval (.tmp 129) = .pointer (some ⟨bc, oc + c * 2 + 1, none⟩) := (hp 14 rfl (by decide)).1 (by decide) (by decide) (by decide)
      exact st_want (wnone rfl) (op_load e (ld_S ((hb0.cell (p := ⟨bc, oc + c * 2 + 1, none⟩) hbc).trans hT)) ⟨_, rfl, Below.refl _ _, ⟨fun _ _ _ => rfl, by simp, by simp, by simp⟩, trivial⟩)
    | 16, _ =>
      have e1 : a.tmps.getD 130 undef = .string T := (hp 15 rfl (by decide)).1 (by decide) (by decide) (by decide)
      refine st_want (wnone rfl) (op_call enter_MustD ?_)
      have hargs : (#[Operand.tmp 130]).map a.eval = #[.string T] := by
        simp only [List.map_toArray, List.map_cons, List.map_nil, Act.eval]
        rw [e1]
      rw [hargs]
      refine (mustT (by omega) hz w).mono ?_
      rintro ex w' ⟨q, rfl, hb', hI⟩
      exact ⟨q, rfl, q, rfl, hb', ⟨by simp, fun _ => hI, by simp, by simp⟩, trivial⟩
    | 17, _ =>
      have e1 : a.tmps.getD 121 undef = .agg #[m1, m2] := (hp 6 rfl (by decide)).1 (by decide) (by decide) (by decide)
      have e2 : IsN w (a.tmps.getD 131 undef) z := (hp 16 rfl (by decide)).2.1 rfl
      refine st_want (wnone rfl) (op_call enter_MulD ?_)
      have hargs : (#[Operand.tmp 121, .tmp 131]).map a.eval = #[.agg #[m1, m2], a.tmps.getD 131 undef] := by
        simp only [List.map_toArray, List.map_cons, List.map_nil, Act.eval]
        rw [e1]
      rw [hargs]
      refine (Nm.mulN_any _ _ m z w (hm.below hb0) e2 bm bz).mono ?_
      rintro ex w' ⟨q, rfl, hb', hI⟩
      exact ⟨q, rfl, q, rfl, hb', ⟨by simp, by simp, fun _ => hI, by simp⟩, trivial⟩
    | 18, _ =>
      have e1 : a.tmps.getD 120 undef = .agg #[k1, k2] := (hp 5 rfl (by decide)).1 (by decide) (by decide) (by decide)
      have e2 : IsN w (a.tmps.getD 132 undef) (m * z) := (hp 17 rfl (by decide)).2.2.1 rfl
      refine st_want (wnone rfl) (op_call enter_AddD ?_)
      have hargs : (#[Operand.tmp 120, .tmp 132]).map a.eval = #[.agg #[k1, k2], a.tmps.getD 132 undef] := by
        simp only [List.map_toArray, List.map_cons, List.map_nil, Act.eval]
        rw [e1]
      rw [hargs]
      refine (Nm.addN_any _ _ k (m * z) w (hk.below hb0) e2 bk bmz).mono ?_
      rintro ex w' ⟨q, rfl, hb', hI⟩
      exact ⟨q, rfl, q, rfl, hb', ⟨by simp, by simp, by simp, fun _ => hI⟩, trivial⟩
    | 19, _ =>
      have e1 : a.eval (.tmp 115) = .slice (some ⟨S, so, none⟩) sn sc := (hp 0 rfl (by decide)).1 (by decide) (by decide) (by decide)
      have e2 : a.eval (.tmp 116) = .int .i64 q := (hp 1 rfl (by decide)).1 (by decide) (by decide) (by decide)
      exact st_want (wnone rfl) (op_indexAddr e1 e2 (ix_N w hq hsn) ⟨_, rfl, Below.refl _ _, ⟨fun _ _ _ => rfl, by simp, by simp, by simp⟩, trivial⟩)
    | j + 20, h => omega
  · intro j hj hj1 hj2 a w hn hk hp
    rw [hl] at hj
    have hj1' : ¬ j < 20 := fun h => hj1 (List.mem_range.2 h)
    omega
  · intro a w hbw hn' hk' hp
    have hb0 : Below w0.heap.size w0 w := hD.trans hbw
    have hI : IsN w (a.tmps.getD 133 undef) (k + m * z) := (hp 18 (by decide)).2.2.2 rfl
    obtain ⟨nb, na, nl, nc, e7⟩ := hI.form
    have e3 : a.eval (.tmp 133) = .agg #[.bool nb, .slice na nl nc] := e7
    have e4 : a.eval (.tmp 134) = .pointer (some ⟨S, so + q * 2, none⟩) := (hp 19 (by decide)).1 (by decide) (by decide) (by decide)
    rw [e7] at hI
    have r1 : w.cell? ⟨S, so + q * 2, none⟩ = some k1 := (hb0.cell (p := ⟨S, so + q * 2, none⟩) hSlt).trans (hS 0 _ rfl)
    have r2 : w.cell? ⟨S, so + q * 2 + 1, none⟩ = some k2 := (hb0.cell (p := ⟨S, so + q * 2 + 1, none⟩) hSlt).trans (hS 1 _ rfl)
    have f1 := (blk ((hb0.block S hSlt).trans hSb)).2.2 (so + q * 2)
    have f2 := (blk ((hb0.block S hSlt).trans hSb)).2.2 (so + q * 2 + 1)
    show Oper.wp Tryz.prog ⟨none, .store 58 (.tmp 134) (.tmp 133), _, _, _, _⟩ a w _ _
    unfold Oper.wp
    simp only [execOp, e3, e4]
    simp [go_sem, r1, r2, f1, f2]
    exact ⟨w, nb, na, nl, nc, hb0, hI, rfl⟩
  · intro a w hd hn hk hpu hJ
    exact hend a w hd hn hk hJ
end Go.Proofs.YthgdmppmjnmiiaaGreatDoor
