/- avowlaw10: known() is true. -/
import Derived.Test.YtnkigifcilgmbaaGreatDoorZAO
import Derived.Test.YtnkigifcilgmbaaGreatDoorZAN
set_option linter.unusedVariables false
set_option linter.unusedSimpArgs false

/- Package farkas: opposite. -/
namespace Go.Proofs.YtnkigifcilgmbaaGreatDoor
open Go Go.RowKit Go.Maps
open _root_.Go.Proofs.YtnkigifcilgmbaaGreatDoor.Nm (IsI pw)
/-- Parts in a block of their own. -/
def PInv (V : World) (pb n : Nat) (qs : List (ByteArray × Int)) : Prop := ∃ cs, V.heap[pb]? = some (.cells cs 102) ∧ cs.size = n * 3 ∧ (∀ (o : Nat) y, cs[o]? ≠ some (.int .u32 y)) ∧ ∀ (j : Nat) p, qs[j]? = some p → ∃ x y, V.rangeAt pb (j * 3) [.string p.1, x, y] ∧ IsB V V.heap.size (.agg #[x, y]) p.2
theorem PInv.grow {V V' : World} {pb n : Nat} {qs : List (ByteArray × Int)} (h : PInv V pb n qs) (hb : Below V.heap.size V V') : PInv V' pb n qs := by
  obtain ⟨cs, h1, h2, h3, h4⟩ := h
  have hlt := (Array.getElem?_eq_some_iff.1 h1).1
  refine ⟨cs, (hb.block pb hlt).trans h1, h2, h3, fun j p hp => ?_⟩
  obtain ⟨x, y, k1, k2⟩ := h4 j p hp
  exact ⟨x, y, rangeAt_below k1 hlt hb, k2.more hb hb.size⟩
theorem PInv.put {V : World} {pb n i : Nat} {qs : List (ByteArray × Int)} {nm : ByteArray} {z z0 : Int} {za : Option Addr} {zl zc : Nat} (h : PInv V pb n qs) (hi : qs.length = i) (hn : i < n) (hz : IsB V V.heap.size (.agg #[.int .i64 z0, .slice za zl zc]) z) : PInv (((V.setCell ⟨pb, i * 3, none⟩ (.string nm)).setCell ⟨pb, i * 3 + 1, none⟩ (.int .i64 z0)).setCell ⟨pb, i * 3 + 2, none⟩ (.slice za zl zc)) pb n (qs ++ [(nm, z)]) ∧
    PutAt pb V (((V.setCell ⟨pb, i * 3, none⟩ (.string nm)).setCell ⟨pb, i * 3 + 1, none⟩ (.int .i64 z0)).setCell ⟨pb, i * 3 + 2, none⟩ (.slice za zl zc)) ∧ ∀ {v : Value} {u : Int}, IsB V V.heap.size v u → IsB (((V.setCell ⟨pb, i * 3, none⟩ (.string nm)).setCell ⟨pb, i * 3 + 1, none⟩ (.int .i64 z0)).setCell ⟨pb, i * 3 + 2, none⟩ (.slice za zl zc)) V.heap.size v u := by
  obtain ⟨cs, h7, h8, h9, h12⟩ := h
  obtain ⟨cs', k1, k2, k3, k4, k5, k6, k7⟩ := three_put (o := i * 3) (x := .string nm) (y := .int .i64 z0) (z := .slice za zl zc) h7 (by omega)
  have hn' : ∀ (o : Nat) y, cs'[o]? ≠ some (.int .u32 y) := fun o y => by
    rcases (by omega : o < i * 3 ∨ i * 3 + 2 < o ∨ o = i * 3 ∨ o = i * 3 + 1 ∨ o = i * 3 + 2) with e | e | rfl | rfl | rfl
    · rw [k7 o (.inl e)]; exact h9 o y
    · rw [k7 o (.inr e)]; exact h9 o y
    · rw [k4]; simp
    · rw [k5]; simp
    · rw [k6]; simp
  have hI : ∀ {v : Value} {u : Int}, IsB V V.heap.size v u → IsB (((V.setCell ⟨pb, i * 3, none⟩ (.string nm)).setCell ⟨pb, i * 3 + 1, none⟩ (.int .i64 z0)).setCell ⟨pb, i * 3 + 2, none⟩ (.slice za zl zc)) V.heap.size v u := fun {v u} hv => hv.put k2 h7 h9
  refine ⟨⟨cs', k1, by omega, hn', fun j p hj => ?_⟩, k2, hI⟩
  rw [k2.size]
  rcases Nat.lt_or_ge j i with e | e
  · rw [List.getElem?_append_left (by omega)] at hj
    obtain ⟨x, y, hr, hv⟩ := h12 j p hj
    refine ⟨x, y, fun t v ht => ?_, hI hv⟩
    have ht3 : t < 3 := by
      have := (List.getElem?_eq_some_iff.1 ht).1
      simpa using this
    rw [cell_arr k1, k7 (j * 3 + t) (by omega), ← cell_arr h7]
    exact hr t v ht
  · rw [List.getElem?_append_right (by omega), hi] at hj
    obtain rfl : j = i := by
      have := (List.getElem?_eq_some_iff.1 hj).1
      simp at this
      omega
    have : p = (nm, z) := by simpa using hj.symm
    subst this
    refine ⟨.int .i64 z0, .slice za zl zc, fun t v ht => ?_, hI hz⟩
    rw [cell_arr k1]
    match t with
    | 0 => rw [show j * 3 + 0 = j * 3 by omega, k4]; simpa using ht
    | 1 => rw [k5]; simpa using ht
    | 2 => rw [k6]; simpa using ht
    | t + 3 => simp at ht
/-- While an opposite is made. -/
def OInv (w : World) (r : List (ByteArray × Int) × Int) (xb : Array Value) (n ob pb : Nat) (m0 : Int) (ma : Option Addr) (ml mc i : Nat) (V : World) : Prop :=
  Below w.heap.size w V ∧ V.heap[w.heap.size]? = some (.cells xb 77) ∧ V.heap[w.heap.size + 1]? = some (.cells #[.slice none 0 0, .int .i64 0, .slice none 0 0] 77) ∧ V.heap[ob]? = some (.cells #[.slice (some ⟨pb, 0, none⟩) n n, .int .i64 m0, .slice ma ml mc] 77) ∧ IsB V V.heap.size (.agg #[.int .i64 m0, .slice ma ml mc]) (-r.2 - 1) ∧ PInv V pb n ((opp r).1.take i)
theorem OInv.grow {w V V' : World} {r : List (ByteArray × Int) × Int} {xb : Array Value} {n ob pb : Nat} {m0 : Int} {ma : Option Addr} {ml mc i : Nat} (h : OInv w r xb n ob pb m0 ma ml mc i V) (hb : Below V.heap.size V V') : OInv w r xb n ob pb m0 ma ml mc i V' := by
  obtain ⟨h1, h2, h3, h4, h5, h6⟩ := h
  have q : ∀ {b : Nat} {o : Obj}, V.heap[b]? = some o → V'.heap[b]? = some o := fun {b o} h => (hb.block b (Array.getElem?_eq_some_iff.1 h).1).trans h
  exact ⟨h1.trans (hb.mono h1.size), q h2, q h3, q h4, h5.more hb hb.size, h6.grow hb⟩
def OPost (r : List (ByteArray × Int) × Int) (w : World) (e : Ending) (w' : World) : Prop := ∃ v, e = .returned (.tuple #[v, .bool (shortI (opp r).2)]) ∧ Below w.heap.size w w' ∧ (∃ a n c i a2 n2 c2, v = .agg #[.slice a n c, .int .i64 i, .slice a2 n2 c2]) ∧ IsR w' w'.heap.size v (opp r).1 (opp r).2
set_option maxRecDepth 100000 in
set_option maxHeartbeats 4000000 in
theorem opposite_any {w : World} {v : Value} {r : List (ByteArray × Int) × Int} (hR : IsR w w.heap.size v r.1 r.2) (hok : RowOk r) (hT : Nm.Tab w) : Calls Tryz.prog 63 #[v] w (OPost r w) := by
  obtain ⟨ap, n, cp, x1, x2, rfl, hnr, hrow, hk⟩ := hR
  obtain ⟨x0, xa, xl, xc, e12⟩ := hk.form
  obtain ⟨rfl, rfl⟩ : x1 = .int .i64 x0 ∧ x2 = .slice xa xl xc := by simpa using e12
  obtain ⟨w1, e1, hb1, hs1, hc1, hh1⟩ := box_new w #[.slice ap n cp, .int .i64 x0, .slice xa xl xc] 77
  obtain ⟨w2, e2, hb2, hs2, hc2, hh2⟩ := box_new w1 #[.slice none 0 0, .int .i64 0, .slice none 0 0] 77
  have hX2 := (hb2.block w.heap.size (by omega)).trans hh1
  rw [hs1] at hh2
  have hbw2 : Below w.heap.size w w2 := hb1.trans (hb2.mono (by omega))
  have hpw := pow_pw (d := 400) (k := 2999) (by omega)
  have hpm : pw 2999 < pw 3000 := by
    have : pw 3000 = 1000000000 * pw 2999 := rfl
    have := Nm.pw_pos 2999
    omega
  have hk2 := hk.more hbw2 hbw2.size
  have hnk : n ≤ 1000 := by have := hok.1; omega
  have HE := hide (And.intro e1 e2)
  have HF := hide (And.intro hX2 (And.intro hh2 (And.intro hbw2 (And.intro hk2 (And.intro hs1 hs2)))))
  have HC := hide (And.intro hrow (And.intro hnr (And.intro hok (And.intro hT (And.intro hpw (And.intro hpm (And.intro hnk hk)))))))
  clear hrow hnr hk hok hT e1 e2 hb1 hs1 hc1 hh1 hb2 hs2 hc2 hh2 hX2 hbw2 hpw hpm hk2 hnk e12
  go_enter Tryz.func63, Tryz.ntmps63
  go_wp2_with fail
  obtain ⟨e1, e2⟩ := unhide HE
  rw [e1, e2]
  clear e1 e2
  obtain ⟨hX2, hh2, hbw2, hk2, hs1, hs2⟩ := unhide HF
  obtain ⟨hrow, _, hok, hT, hpw, hpm, hnk, hk⟩ := unhide HC
  refine opp_r1 (w0 := w2) (xb := w.heap.size) (n := n) (cp := cp) (ap := ap) (x1 := .int .i64 x0) (x2 := .slice xa xl xc) (k := r.2) rfl rfl hX2 hk2 (by have := hok.2.1; omega) (by omega) ?_
  intro a V hd hsz hkp hJ
  obtain ⟨pb, ob, m0, ma, ml, mc, e4, j1, j2, j3, j4, j5, j6, j7⟩ := hJ
  obtain ⟨yy, rfl, hyy⟩ := act_set [4, 7, 8, 9, 10, 11, 12, 13, 14, 15, 16] (by kernel_rfl) hd hsz rfl hkp
  have hy4 : yy 4 = .pointer (some ⟨ob, 0, none⟩) := (hyy 4).trans e4
  have hpo : w.heap.size + 2 ≤ pb ∧ w.heap.size + 2 ≤ ob ∧ pb ≠ ob := by omega
  have hinv : OInv w r #[.slice ap n cp, .int .i64 x0, .slice xa xl xc] n ob pb m0 ma ml mc 0 V := ⟨hbw2.trans (j1.mono (by omega)), (j1.block _ (by omega)).trans hX2, (j1.block _ (by omega)).trans hh2, j3, j4, _, j2, size_madeCells _ _, made_zero _, fun j p hp => by simp at hp⟩
  have q0 : V.cell? ⟨w.heap.size, 0, none⟩ = some (.slice ap n cp) := (blk hinv.2.1).2.1 0 _ rfl
  have HINV := hide hinv
  have HPO := hide hpo
  clear hinv hpo hd hsz hkp e4 j1 j2 j3 j4 j5 j6 j7 hyy hX2 hh2 hbw2 hk2 hs1 hs2 hrow hok hT hpw hpm hnk hk HE HF
  simp only [setAll, hy4]
  clear hy4
  go_wp2_with fail
  clear q0
  go_loopw [20] (fun iv wr => ∃ i : Nat, i ≤ n ∧ iv = .int .i64 i ∧ OInv w r #[.slice ap n cp, .int .i64 x0, .slice xa xl xc] n ob pb m0 ma ml mc i wr) (fun iv _ => n - (intOf iv).toNat)
  case atStart => exact ⟨0, Nat.zero_le _, rfl, unhide HINV⟩
  case round =>
    obtain ⟨i, hi0, rfl, hO⟩ := hrel
    by_cases hi : i < n
    · obtain ⟨hrow, hnr', hok, hT, hpw, hpm, hnk, hk⟩ := unhide HC
      obtain ⟨b, off, rfl, hbB, hCj⟩ := hrow.2.2 (by omega)
      obtain ⟨p, hp⟩ : ∃ p, r.1[i]? = some p := ⟨_, List.getElem?_eq_getElem (by omega)⟩
      obtain ⟨y1, y2, hcc, hIB⟩ := hCj i hi _ hp
      obtain ⟨y0, ya, yl, yc, ey⟩ := hIB.form
      obtain ⟨rfl, rfl⟩ : y1 = .int .i64 y0 ∧ y2 = .slice ya yl yc := by simpa using ey
      have hwr : Below w.heap.size w wr := hO.1
      have q0 : wr.cell? ⟨b, off + i * 3, none⟩ = some (.string p.1) := (hwr.cell (p := ⟨b, off + i * 3, none⟩) hbB).trans (hcc 0 _ rfl)
      have q1 : wr.cell? ⟨b, off + i * 3 + 1, none⟩ = some (.int .i64 y0) := (hwr.cell (p := ⟨b, off + i * 3 + 1, none⟩) hbB).trans (hcc 1 _ rfl)
      have q2 : wr.cell? ⟨b, off + i * 3 + 2, none⟩ = some (.slice ya yl yc) := (hwr.cell (p := ⟨b, off + i * 3 + 2, none⟩) hbB).trans (hcc 2 _ rfl)
      have g1 : (i : Int) < (n : Int) := by omega
      have g0 : (0 : Int) ≤ (i : Int) := by omega
      have g2 : (n : Int) ≤ 1000000 := by omega
      obtain ⟨A, eA, hbA, hsA, hcA, hhA⟩ := box_new wr #[.string p.1, .int .i64 y0, .slice ya yl yc] 102
      have hOA := hO.grow hbA
      have hyA := hIB.more (hwr.trans (hbA.mono hwr.size)) (Nat.le_trans hwr.size hbA.size)
      have hpb : p.2.natAbs < tenTo 400 := (hok.2.2 p (List.mem_of_getElem? hp)).1
      have HEA := hide eA
      have HA := hide (And.intro hOA (And.intro hyA (And.intro hpb (And.intro hhA (And.intro hp (And.intro hpw (And.intro hpm hnk)))))))
      clear hrow hnr' hok hT hpw hpm hnk hk hbB hCj hcc hIB hwr eA hbA hsA hcA hhA hO hp hOA hyA hpb ey
      go_wp2_with fail
      rw [unhide HEA]
      obtain ⟨hOA, hyA, hpb, hhA, hp, hpw, hpm, hnk⟩ := unhide HA
      obtain ⟨cs, k1, k2, k3, k4⟩ := id hOA.2.2.2.2.2
      have hpw2 := Nm.pw_mono (a := 3000) (b := 10000) (by omega)
      refine opp_r5 (w0 := A) (ob := ob) (pb := pb) (qb := wr.heap.size) (n := n) (i := i) (nm := p.1) (z := p.2) (cs := cs) rfl rfl rfl rfl hOA.2.2.2.1 hhA k1 k2 hyA (by omega) hi (by omega) ?_
      intro a W hd hsz hkp hJ
      obtain ⟨V', z0, za, zl, zc, l1, l2, l3⟩ := hJ
      obtain ⟨yy, rfl, -⟩ := act_set [25, 26, 27, 28, 29, 30, 31, 32, 33, 34] (by kernel_rfl) hd hsz rfl hkp
      have hOV := hOA.grow l1
      obtain ⟨o1, o2, o3, o4, o5, o6⟩ := hOV
      have hlen : ((opp r).1.take i).length = i := by
        have := (List.getElem?_eq_some_iff.1 hp).1
        simp [opp]
        omega
      obtain ⟨m1, m2, m3⟩ := o6.put (nm := p.1) hlen hi (IsB.of l2)
      have hnew : OInv w r #[.slice (some ⟨b, off, none⟩) n cp, .int .i64 x0, .slice xa xl xc] n ob pb m0 ma ml mc (i + 1) W := by
        have hpo := unhide HPO
        rw [l3]
        refine ⟨m2.below o1 (by omega), (m2.block _ (by omega)).trans o2, (m2.block _ (by omega)).trans o3, (m2.block _ (by omega)).trans o4, by rw [m2.size]; exact m3 o5, ?_⟩
        rw [List.take_add_one]
        have : (opp r).1[i]? = some (p.1, -p.2) := by simp [opp, hp]
        rw [this]
        exact m1
      have HNew := hide hnew
      clear hnew l1 l2 l3 o1 o2 o3 o4 o5 o6 m1 m2 m3 hOA hyA hpb hhA hp hpw hpm hnk k1 k2 k3 k4 hpw2 hlen hd hsz hkp HEA HA q0 q1 q2
      simp only [setAll]
      go_wp2
      refine ⟨⟨i + 1, by omega, by simp, unhide HNew⟩, ?_⟩
      simp [intOf]
      omega
    · have gi : decide ((i : Int) < (n : Int)) = false := by simp; omega
      have g1 : ¬ ((i : Int) < (n : Int)) := by omega
      obtain rfl : i = n := by omega
      have HO := hide hO
      clear hO hi hi0
      go_wp2_with fail
      obtain ⟨o1, o2, o3, o4, o5, o6⟩ := unhide HO
      obtain ⟨hrow, hnr', hok, hT, hpw, hpm, hnk, hk⟩ := unhide HC
      have hb4 : ((-r.2 - 1).natAbs : Int) < pw 4000 := by
        have := Nm.pw_mono (a := 3000) (b := 4000) (by omega)
        have := hok.2.1
        have := Nm.pw_pos 2999
        have h9 : pw 3000 = 1000000000 * pw 2999 := rfl
        omega
      refine opp_r7 (w0 := wr) (ob := ob) (rb := w.heap.size + 1) (k := -r.2 - 1) rfl rfl rfl o4 o3 o5 hb4 (Nm.Tab.below hT o1) ?_
      intro a W hd hsz hkp h3 hJ
      obtain ⟨V', l1, rfl⟩ := hJ
      obtain ⟨yy, rfl, hyy⟩ := act_set [3, 36, 37, 38, 39, 40] (by kernel_rfl) hd hsz rfl hkp
      have hy3 : yy 3 = .bool (shortI (-r.2 - 1)) := (hyy 3).trans h3
      obtain ⟨bb, hbb⟩ : ∃ bb, shortI (-r.2 - 1) = bb := ⟨_, rfl⟩
      rw [hbb] at hy3
      have HR2 := hide (And.intro l1 hbb)
      clear l1 hd hsz hkp h3 hyy o1 o2 o3 o4 o5 o6 hrow hnr' hok hT hpw hpm hnk hk hb4 hbb
      simp only [setAll, hy3]
      clear hy3
      go_wp2
      obtain ⟨l1, hbb⟩ := unhide HR2
      obtain ⟨o1, o2, o3, o4, o5, o6⟩ := (unhide HO).grow l1
      obtain ⟨hrow, hnr', hok, hT, hpw, hpm, hnk, hk⟩ := unhide HC
      have hpo := unhide HPO
      have hp3 := put3 V' (w.heap.size + 1) (.slice (some ⟨pb, 0, none⟩) i i) (.int .i64 m0) (.slice ma ml mc)
      refine bodyPost_ret (res_row2 (cs := [.slice (some ⟨pb, 0, none⟩) i i, .int .i64 m0, .slice ma ml mc]) rfl rfl rfl (range_block (fill3 o3)) rfl rfl rfl) rfl ?_
      refine ⟨_, by rw [← hbb]; rfl, hp3.below o1 (by omega), ⟨_, _, _, _, _, _, _, rfl⟩, some ⟨pb, 0, none⟩, i, i, .int .i64 m0, .slice ma ml mc, rfl, by simp [opp]; omega, ?_, ?_⟩
      · obtain ⟨cs, k1, k2, k3, k4⟩ := o6
        refine ⟨Nat.le_refl _, by omega, fun _ => ⟨pb, 0, rfl, by rw [hp3.size]; exact (Array.getElem?_eq_some_iff.1 k1).1, fun j hj q hq => ?_⟩⟩
        rw [Nat.zero_add]
        obtain ⟨x, y, q1, q2⟩ := k4 j q (by rw [List.getElem?_take, if_pos hj]; exact hq)
        refine ⟨x, y, fun t u hu => (World.cell?_of_block (w := V') (a := ⟨pb, j * 3 + t, none⟩) (hp3.block pb (by omega))).trans (q1 t u hu), ?_⟩
        rw [hp3.size]
        exact q2.put hp3 o3 (fun o y h => by
          match o, h with
          | 0, h => simp at h
          | 1, h => simp at h
          | 2, h => simp at h
          | o + 3, h => simp at h)
      · rw [hp3.size]
        exact o5.put hp3 o3 (fun o y h => by
          match o, h with
          | 0, h => simp at h
          | 1, h => simp at h
          | 2, h => simp at h
          | o + 3, h => simp at h)
end Go.Proofs.YtnkigifcilgmbaaGreatDoor

/- Package farkas: splits. -/
namespace Go.Proofs.YtnkigifcilgmbaaGreatDoor
open Go Go.RowKit Go.Maps
open _root_.Go.Proofs.YtnkigifcilgmbaaGreatDoor.Nm (IsI pw)
theorem bool_of (P : Prop) : ∃ b : Bool, b = true ↔ P := ⟨@decide P (Classical.propDecidable P), by simp⟩
theorem dd_lt (u : Nat) : u < 10 ^ (Lib.decDigits u).length ∧ ∀ c ∈ Lib.decDigits u, c ≠ 45 := by
  induction u using Nat.strongRecOn with
  | _ u ih =>
    have hd : ∀ m, m < 10 → UInt8.ofNat (48 + m) ≠ 45 := fun m hm => by
      match m, hm with
      | 0, _ => decide
      | 1, _ => decide
      | 2, _ => decide
      | 3, _ => decide
      | 4, _ => decide
      | 5, _ => decide
      | 6, _ => decide
      | 7, _ => decide
      | 8, _ => decide
      | 9, _ => decide
    rw [Lib.decDigits]
    split
    · rename_i h
      exact ⟨by simpa using h, fun c hc => by rw [List.mem_singleton.1 hc]; exact hd u h⟩
    · rename_i h
      obtain ⟨h1, h2⟩ := ih (u / 10) (by omega)
      refine ⟨?_, fun c hc => ?_⟩
      · rw [List.length_append, List.length_singleton, Nat.pow_succ]
        omega
      · rcases List.mem_append.1 hc with h3 | h3
        · exact h2 c h3
        · rw [List.mem_singleton.1 h3]
          exact hd _ (Nat.mod_lt _ (by omega))
theorem itoa_trim (z : Int) : Lib.trimPrefix (Lib.itoa z) [45] = Lib.decDigits z.natAbs := by
  unfold Lib.itoa
  split
  · simp [Lib.trimPrefix, Lib.hasPrefix]
  · rename_i h
    have e : z.toNat = z.natAbs := by omega
    rw [e]
    have h2 := (dd_lt z.natAbs).2
    unfold Lib.trimPrefix Lib.hasPrefix
    cases hD : Lib.decDigits z.natAbs with
    | nil => rfl
    | cons c t =>
      have hc : c ≠ 45 := h2 c (by rw [hD]; simp)
      have : (45 == c) = false := by
        simp
        exact fun e => hc e.symm
      simp [List.isPrefixOf, this]
theorem tenTo_mono {a b : Nat} (h : a ≤ b) : tenTo a ≤ tenTo b := Nat.pow_le_pow_right (by omega) h
theorem short_lt {z : Int} (h : shortI z = true) : z.natAbs < tenTo 400 := by
  unfold shortI at h
  rw [itoa_trim] at h
  have hl := of_decide_eq_true h
  exact Nat.lt_of_lt_of_le (dd_lt z.natAbs).1 (tenTo_mono hl)
theorem RowOk.opp {r : List (ByteArray × Int) × Int} (h : RowOk r) (hs : shortI (opp r).2 = true) : RowOk (opp r) := by
  obtain ⟨h1, h2, h3⟩ := h
  refine ⟨by simpa [Go.Proofs.YtnkigifcilgmbaaGreatDoor.opp] using h1, short_lt hs, fun p hp => ?_⟩
  obtain ⟨q, hq, rfl⟩ := List.mem_map.1 hp
  obtain ⟨k1, k2, k3⟩ := h3 q hq
  exact ⟨by simpa using k1, k2, k3⟩
/-- The region where the row has no opposite. -/
def phiF (j : Nat) (v : Value) : Prop := (j == 0 || j == 1 || j == 15 || j == 16 || j == 30 || j == 31) = true → v = .bool false
set_option maxRecDepth 100000 in
set_option maxHeartbeats 4000000 in
theorem spl_r5f {X : Exit → Act → World → Prop} {a0 : Act} {w0 : World} (hN : a0.tmps.size = 58) (h10 : a0.tmps[10]? = some (.bool false))
    (hend : ∀ (a : Act), a.defers = a0.defers → a.tmps.size = 58 → (∀ k, k ∈ keptS → a.tmps[k]? = a0.tmps[k]?) → a.tmps.getD 8 undef = .bool false → X .normal a w0.drew) :
    (Code.region 5 (Nm.regionOf Tryz.f49 5).toArray true).wp Tryz.prog X a0 w0 := by
  have hl : (Nm.regionOf Tryz.f49 5).length = 32 := by kernel_rfl
  refine wp_region_any (by kernel_rfl) ?_
  refine seqG (l := (Nm.regionOf Tryz.f49 5)) (w0 := w0.drew) 58 keptS phiF (fun _ => false) (fun _ _ w => w = w0.drew) (by kernel_rfl) hN (by kernel_rfl) (fun _ h => by cases h) rfl (fun _ _ _ _ _ _ h => h) ?_ (fun _ h => by cases h) ?_
  · intro j hj _ a w Lf hn' hk hp hq
    rw [hl] at hj
    have k10 : a.eval (.tmp 10) = .bool false := getD_of ((hk 10 (by decide)).trans h10)
    have hj' : j = 0 ∨ j = 1 ∨ j = 2 ∨ j = 3 ∨ j = 4 ∨ j = 5 ∨ j = 6 ∨ j = 7 ∨ j = 8 ∨ j = 9 ∨ j = 10 ∨ j = 11 ∨ j = 12 ∨ j = 13 ∨ j = 14 ∨ j = 15 ∨ j = 16 ∨ j = 17 ∨ j = 18 ∨ j = 19 ∨ j = 20 ∨ j = 21 ∨ j = 22 ∨ j = 23 ∨ j = 24 ∨ j = 25 ∨ j = 26 ∨ j = 27 ∨ j = 28 ∨ j = 29 ∨ j = 30 ∨ j = 31 := by omega
    rcases hj' with rfl | rfl | rfl | rfl | rfl | rfl | rfl | rfl | rfl | rfl | rfl | rfl | rfl | rfl | rfl | rfl | rfl | rfl | rfl | rfl | rfl | rfl | rfl | rfl | rfl | rfl | rfl | rfl | rfl | rfl | rfl | rfl
    · exact st_want (wnone rfl) (op_move ⟨_, rfl, rfl, fun _ => k10⟩)
    · exact st_want (wnone rfl) (op_move ⟨_, rfl, rfl, fun _ => hp 0 rfl (by decide)⟩)
    · exact guarded (i := 1) (d := 28) rfl rfl (hp 1 rfl (by decide)) (fun h => by cases h) (fun _ h => absurd h (by decide))
    · exact guarded (i := 1) (d := 28) rfl rfl (hp 1 rfl (by decide)) (fun h => by cases h) (fun _ h => absurd h (by decide))
    · exact guarded (i := 1) (d := 28) rfl rfl (hp 1 rfl (by decide)) (fun h => by cases h) (fun _ h => absurd h (by decide))
    · exact guarded (i := 1) (d := 28) rfl rfl (hp 1 rfl (by decide)) (fun h => by cases h) (fun _ h => absurd h (by decide))
    · exact guarded (i := 1) (d := 28) rfl rfl (hp 1 rfl (by decide)) (fun h => by cases h) (fun _ h => absurd h (by decide))
    · exact guarded (i := 1) (d := 28) rfl rfl (hp 1 rfl (by decide)) (fun h => by cases h) (fun _ h => absurd h (by decide))
    · exact guarded (i := 1) (d := 28) rfl rfl (hp 1 rfl (by decide)) (fun h => by cases h) (fun _ h => absurd h (by decide))
    · exact guarded (i := 1) (d := 28) rfl rfl (hp 1 rfl (by decide)) (fun h => by cases h) (fun _ h => absurd h (by decide))
    · exact guarded (i := 1) (d := 28) rfl rfl (hp 1 rfl (by decide)) (fun h => by cases h) (fun _ h => absurd h (by decide))
    · exact guarded (i := 1) (d := 28) rfl rfl (hp 1 rfl (by decide)) (fun h => by cases h) (fun _ h => absurd h (by decide))
    · exact guarded (i := 1) (d := 28) rfl rfl (hp 1 rfl (by decide)) (fun h => by cases h) (fun _ h => absurd h (by decide))
    · exact guarded (i := 1) (d := 28) rfl rfl (hp 1 rfl (by decide)) (fun h => by cases h) (fun _ h => absurd h (by decide))
    · exact guarded (i := 1) (d := 28) rfl rfl (hp 1 rfl (by decide)) (fun h => by cases h) (fun _ h => absurd h (by decide))
    · exact st_want (wnone rfl) (op_pick (hp 1 rfl (by decide)) ⟨_, rfl, rfl, fun _ => rfl⟩)
    · exact st_want (wnone rfl) (op_move ⟨_, rfl, rfl, fun _ => hp 15 rfl (by decide)⟩)
    · exact guarded (i := 16) (d := 43) rfl rfl (hp 16 rfl (by decide)) (fun h => by cases h) (fun _ h => absurd h (by decide))
    · exact guarded (i := 16) (d := 43) rfl rfl (hp 16 rfl (by decide)) (fun h => by cases h) (fun _ h => absurd h (by decide))
    · exact guarded (i := 16) (d := 43) rfl rfl (hp 16 rfl (by decide)) (fun h => by cases h) (fun _ h => absurd h (by decide))
    · exact guarded (i := 16) (d := 43) rfl rfl (hp 16 rfl (by decide)) (fun h => by cases h) (fun _ h => absurd h (by decide))
    · exact guarded (i := 16) (d := 43) rfl rfl (hp 16 rfl (by decide)) (fun h => by cases h) (fun _ h => absurd h (by decide))
    · exact guarded (i := 16) (d := 43) rfl rfl (hp 16 rfl (by decide)) (fun h => by cases h) (fun _ h => absurd h (by decide))
    · exact guarded (i := 16) (d := 43) rfl rfl (hp 16 rfl (by decide)) (fun h => by cases h) (fun _ h => absurd h (by decide))
    · exact guarded (i := 16) (d := 43) rfl rfl (hp 16 rfl (by decide)) (fun h => by cases h) (fun _ h => absurd h (by decide))
    · exact guarded (i := 16) (d := 43) rfl rfl (hp 16 rfl (by decide)) (fun h => by cases h) (fun _ h => absurd h (by decide))
    · exact guarded (i := 16) (d := 43) rfl rfl (hp 16 rfl (by decide)) (fun h => by cases h) (fun _ h => absurd h (by decide))
    · exact guarded (i := 16) (d := 43) rfl rfl (hp 16 rfl (by decide)) (fun h => by cases h) (fun _ h => absurd h (by decide))
    · exact guarded (i := 16) (d := 43) rfl rfl (hp 16 rfl (by decide)) (fun h => by cases h) (fun _ h => absurd h (by decide))
    · exact guarded (i := 16) (d := 43) rfl rfl (hp 16 rfl (by decide)) (fun h => by cases h) (fun _ h => absurd h (by decide))
    · exact st_want (wnone rfl) (op_pick (hp 16 rfl (by decide)) ⟨_, rfl, rfl, fun _ => rfl⟩)
    · exact st_want (wnone rfl) (op_assign ⟨_, rfl, rfl, fun _ => hp 30 rfl (by decide)⟩)
  · intro a w hdf hn' hk hp hq
    subst hq
    exact hend a hdf hn' hk (hp 31 (by rw [hl]; decide) (by decide))
def splP (k : Nat) (rs : List (List (ByteArray × Int) × Int)) (f a b : Fk) : Prop := ∃ r, readR f.C f.K = some r ∧ shortI (opp r).2 = true ∧ refP k (rs ++ [r]) a ∧ refP k (rs ++ [opp r]) b
def SplPost (B k cb g c : Nat) (left : Int) (rs : List (List (ByteArray × Int) × Int)) (f a b : Fk) (w : World) (e : Ending) (w' : World) : Prop := ∃ q : Bool, e = .returned (.bool q) ∧ (q = true ↔ splP k rs f a b) ∧ Fr cb g w w' ∧ StR B cb g c left rs ((a.cnt : Int) + (b.cnt : Int)) w'
set_option maxRecDepth 100000 in
set_option maxHeartbeats 4000000 in
theorem splits_any {wB w : World} {cb g c fb fo d k : Nat} {left : Int} {rs : List (List (ByteArray × Int) × Int)} {f fA fB : Fk} (hC : RefC k) (hk2 : k ≤ 199) (hT : Nm.Tab wB) (hbB : Below wB.heap.size wB w) (hc : w.heap[cb]? = some (chk left)) (hcB : wB.heap.size ≤ cb) (hcnt : ((fA.cnt + fB.cnt : Nat) : Int) ≤ left) (hleft : left ≤ 33554432) (hR : RowsM w wB.heap.size g c rs) (hlen : rs.length + 1 + k ≤ 1000) (hoks : ∀ r ∈ rs, RowOk r) (hF : FkAt wB wB.heap.size (d + 1) fb fo f) (hfl : f.l = [fA, fB]) :
    Calls Tryz.prog 49 #[.pointer (some ⟨cb, 0, none⟩), .slice (some ⟨g, 0, none⟩) rs.length c, .pointer (some ⟨fb, fo, none⟩), .int .i64 (200 - (k : Int))] w (SplPost wB.heap.size k cb g c left rs f fA fB w) := by
  obtain ⟨hfb, hCl, aS, nS, cS, aC, nC, cC, aL, nL, cL, f1, f2, f3, f4, f5, f6, f7⟩ := hF
  rw [hfl] at f6 f7
  have hnL : nL = 2 := f6
  subst hnL
  obtain ⟨Lb, Lo, rfl, hLb, hLj⟩ := f7.2.2 (by omega)
  have hFA : FkAt wB wB.heap.size d Lb Lo fA := by
    have := hLj 0 (by omega) fA rfl
    simpa using this
  have hFB : FkAt wB wB.heap.size d Lb (Lo + 5) fB := by
    have := hLj 1 (by omega) fB rfl
    simpa using this
  have hIL : IsL w wB.heap.size (.agg #[.slice aC nC cC, .string f.K]) f.C f.K := ⟨aC, nC, cC, rfl, f4, f5.mono (Nat.le_refl _) fun b o j hb h => h.more hb hbB⟩
  have c2 : w.cell? ⟨fb, fo + 2, none⟩ = some (.slice aC nC cC) := (hbB.cell (p := ⟨fb, fo + 2, none⟩) hfb).trans (f1 2 _ rfl)
  have c3 : w.cell? ⟨fb, fo + 2 + 1, none⟩ = some (.string f.K) := (hbB.cell (p := ⟨fb, fo + 2 + 1, none⟩) hfb).trans (f1 3 _ rfl)
  have HRd := hide (readRow_any hIL hbB.size (by omega))
  have HF := hide (And.intro hFA (And.intro hFB (f1 4 _ rfl)))
  have HC := hide (And.intro hC (And.intro hk2 (And.intro hT (And.intro hbB (And.intro hc (And.intro hcB (And.intro hcnt (And.intro hleft (And.intro hR (And.intro hlen (And.intro hoks (And.intro hfb hCl))))))))))))
  clear hC hk2 hT hbB hc hcB hcnt hleft hR hlen hoks hfl hfb hCl f1 f2 f3 f4 f5 f6 f7 hLb hLj hFA hFB hIL
  obtain ⟨KK, hKK⟩ : ∃ KK, f.K = KK := ⟨_, rfl⟩
  obtain ⟨nR, hnR⟩ : ∃ nR, rs.length = nR := ⟨_, rfl⟩
  rw [hKK] at c3 HRd
  rw [hnR]
  have HKK := hide (And.intro hKK hnR)
  clear hKK hnR
  go_enter Tryz.func49, Tryz.ntmps49
  go_wp2_with fail
  refine (unhide HRd).mono ?_
  rintro e w3 ⟨v1, rfl, hb3, ⟨q1, t1, u1, i1, q2, t2, u2, rfl⟩, hI1⟩
  obtain ⟨w4, e4, hb4, hs4, hc4, hh4⟩ := box_new w3 #[.slice q1 t1 u1, .int .i64 i1, .slice q2 t2 u2] 77
  have hb04 : Below w.heap.size w w4 := hb3.trans (hb4.mono hb3.size)
  have s0 : w4.cell? ⟨w3.heap.size, 0, none⟩ = some (.slice q1 t1 u1) := (blk hh4).2.1 0 _ rfl
  have s1 : w4.cell? ⟨w3.heap.size, 1, none⟩ = some (.int .i64 i1) := (blk hh4).2.1 1 _ rfl
  have s2 : w4.cell? ⟨w3.heap.size, 2, none⟩ = some (.slice q2 t2 u2) := (blk hh4).2.1 2 _ rfl
  have HE4 := hide e4
  have H4 := hide (And.intro hb04 (And.intro hb3 (And.intro hb4 (And.intro hI1 (And.intro hh4 hs4)))))
  rw [← e4] at s0 s1 s2
  clear hb3 hI1 e4 hb4 hs4 hc4 hh4 hb04 HRd c2 c3
  cases hrr : readR f.C KK with
  | none =>
    clear s0 s1 s2
    go_wp2
    go_ret
    rw [unhide HE4]
    obtain ⟨hb04, _⟩ := unhide H4
    obtain ⟨hC, hk2, hT, hbB, hc, hcB, hcnt, hleft, hR, hlen, hoks, hfb, hCl⟩ := unhide HC
    refine ⟨false, rfl, ⟨fun h => (by cases h), fun ⟨r, h, _⟩ => ?_⟩, Fr.of hb04 (Nat.le_refl _), (StR.grow (mm := 0) ⟨hR, left, hc, by omega, Int.le_refl _⟩ hb04).weak (by omega)⟩
    rw [(unhide HKK).1, hrr] at h
    cases h
  | some r1 =>
    obtain ⟨hb04, hb3, hb4, hI1, hh4, hs4⟩ := unhide H4
    obtain ⟨hC, hk2, hT, hbB, hc, hcB, hcnt, hleft, hR, hlen, hoks, hfb, hCl⟩ := unhide HC
    have hIR3 := hI1 r1.1 r1.2 hrr
    have hIR4 := hIR3.more hb4 hb4.size (Nat.le_refl _)
    have hrr' : readR f.C f.K = some r1 := by rw [(unhide HKK).1]; exact hrr
    have hok1 : RowOk r1 := RowOk.of hrr' hCl
    have hB4 : Below wB.heap.size wB w4 := hbB.trans (hb04.mono hbB.size)
    have HOp := hide (opposite_any hIR4 hok1 (Nm.Tab.below hT hB4))
    have HR4 := hide (And.intro hIR4 (And.intro hok1 (And.intro hrr' (And.intro hB4 (And.intro hb04 (And.intro hb3 hh4))))))
    clear hb04 hb3 hb4 hI1 hh4 hs4 hC hk2 hT hbB hc hcB hcnt hleft hR hlen hoks hfb hCl hIR3 hIR4 hrr' hok1 hB4 H4 hrr
    go_wp2_with fail
    rw [unhide HE4]
    refine (unhide HOp).mono ?_
    rintro e w5 ⟨v2, rfl, hb5, ⟨q3, t3, u3, i2, q4, t4, u4, rfl⟩, hI2⟩
    obtain ⟨w6, e6, hb6, hs6, hc6, hh6⟩ := box_new w5 #[.slice q3 t3 u3, .int .i64 i2, .slice q4 t4 u4] 77
    obtain ⟨hIR4, hok1, hrr', hB4, hb04, hb3, hh4⟩ := unhide HR4
    have hb46 : Below w4.heap.size w4 w6 := hb5.trans (hb6.mono hb5.size)
    have hb06 : Below w.heap.size w w6 := hb04.trans (hb46.mono hb04.size)
    have HE6 := hide e6
    have H6 := hide (And.intro hb06 (And.intro hb46 (And.intro (hI2.more hb6 hb6.size (Nat.le_refl _)) (And.intro hh6 (And.intro hs6 hb5.size)))))
    clear hb5 hI2 e6 hb6 hs6 hc6 hh6 hIR4 hok1 hrr' hB4 hb04 hb3 hh4 hb46 hb06 HOp s0 s1 s2
    cases hsh : shortI (opp r1).2 with
    | false =>
      go_wp2_with fail
      rw [unhide HE6]
      refine spl_r5f rfl rfl ?_
      intro a hd hsz hkp h8
      obtain ⟨tm, df⟩ := a
      obtain rfl : df = [] := hd
      have h8' : (⟨tm, []⟩ : Act).tmps.getD 8 undef = .bool false := h8
      have H8 := hide h8'
      clear hsz hkp h8 h8'
      go_wp2
      go_ret
      rw [unhide H8]
      have hbd : Below w.heap.size w w6.drew := (unhide H6).1.drew
      obtain ⟨hIR4, hok1, hrr', _⟩ := unhide HR4
      obtain ⟨hC, hk2, hT, hbB, hc, hcB, hcnt, hleft, hR, hlen, hoks, hfb, hCl⟩ := unhide HC
      refine ⟨false, rfl, ⟨fun h => (by cases h), fun ⟨r, h, h2, _⟩ => ?_⟩, Fr.of hbd (Nat.le_refl _), (StR.grow (mm := 0) ⟨hR, left, hc, by omega, Int.le_refl _⟩ hbd).weak (by omega)⟩
      rw [hrr'] at h
      injection h with h
      subst h
      rw [hsh] at h2
      cases h2
    | true =>
      go_wp2_with fail
      rw [unhide HE6]
      obtain ⟨hb06, hb46, hIR6, hh6, hs6, hs5⟩ := unhide H6
      obtain ⟨hIR4, hok1, hrr', hB4, hb04, hb3, hh4⟩ := unhide HR4
      obtain ⟨hC, hk2, hT, hbB, hc, hcB, hcnt, hleft, hR, hlen, hoks, hfb, hCl⟩ := unhide HC
      obtain ⟨hFA, hFB, hf4⟩ := unhide HF
      obtain ⟨hKK, hnR⟩ := unhide HKK
      obtain ⟨p1, hp1⟩ := bool_of (refP k (rs ++ [r1]) fA)
      obtain ⟨p2, hp2⟩ := bool_of (refP k (rs ++ [opp r1]) fB)
      have hB6 : Below wB.heap.size wB w6 := hbB.trans (hb06.mono hbB.size)
      have hgl := hR.lt
      have h3s := hb3.size
      have h4s : w3.heap.size < w4.heap.size := (Array.getElem?_eq_some_iff.1 hh4).1
      have hcl : cb < w.heap.size := (Array.getElem?_eq_some_iff.1 hc).1
      subst hnR
      refine spl_r5 (wB := wB) (w0 := w6) (cb := cb) (g := g) (c := c) (fb := fb) (fo := fo) (Lb := Lb) (Lo := Lo) (cL := cL) (b9 := w3.heap.size) (b11 := w5.heap.size) (d := d) (k := k) (left := left) (rs := rs) (r1 := r1) (r2 := opp r1) (fA := fA) (fB := fB) (p1 := p1) (p2 := p2) rfl rfl rfl rfl rfl rfl rfl rfl hT hB6 ((hb06.block cb hcl).trans hc) hcB (hR.more hb06) ((hB6.cell (p := ⟨fb, fo + 4, none⟩) hfb).trans hf4) hfb hFA hFB ((hb46.block w3.heap.size h4s).trans hh4) hh6 (by omega) (by omega) (hIR4.more hb46 hb46.size (Nat.le_refl _)) hIR6 hok1 (hok1.opp hsh) hoks hcnt hleft hlen hk2 hC hp1 hp2 ?_
      intro a V hd hsz hkp h8 hSA hSR
      obtain ⟨tm, df⟩ := a
      obtain rfl : df = [] := hd
      obtain ⟨pp, hpp⟩ : ∃ pp, (p1 && p2) = pp := ⟨_, rfl⟩
      have h8' : (⟨tm, []⟩ : Act).tmps.getD 8 undef = .bool pp := by rw [← hpp]; exact h8
      have hq : pp = true ↔ splP k rs f fA fB := by
        rw [← hpp, Bool.and_eq_true]
        constructor
        · rintro ⟨h1, h2⟩
          exact ⟨r1, hrr', hsh, hp1.1 h1, hp2.1 h2⟩
        · rintro ⟨r, h1, h2, h3, h4⟩
          rw [hrr'] at h1
          injection h1 with h1
          subst h1
          exact ⟨hp1.2 h3, hp2.2 h4⟩
      have H8 := hide h8'
      have HFin := hide (And.intro hq (And.intro ((Fr.of hb06 (Nat.le_refl _)).trans hSA.fr) hSR))
      clear hsz hkp h8 h8' hSA hSR hpp hq hb06 hb46 hIR6 hh6 hs6 hs5 hIR4 hok1 hrr' hB4 hb04 hb3 hh4 hC hk2 hT hbB hc hcB hcnt hleft hR hlen hoks hfb hCl hFA hFB hf4 hKK hp1 hp2 hB6 hgl h3s h4s hcl
      go_wp2
      go_ret
      rw [unhide H8]
      exact ⟨pp, rfl, unhide HFin⟩
end Go.Proofs.YtnkigifcilgmbaaGreatDoor

/- Package farkas: refutes, whatever it is handed. -/
namespace Go.Proofs.YtnkigifcilgmbaaGreatDoor
open Go Go.RowKit Go.Maps
open _root_.Go.Proofs.YtnkigifcilgmbaaGreatDoor.Nm (IsI pw)
/-- One part more is counted. -/
theorem tick {w : World} {B cb g c : Nat} {left : Int} {rs : List (List (ByteArray × Int) × Int)} (hc : w.heap[cb]? = some (chk left)) (hR : RowsM w B g c rs) : ∃ A, w.setCell ⟨cb, 0, none⟩ (.int .i64 (left - 1)) = A ∧ A.heap[cb]? = some (chk (left - 1)) ∧ RowsM A B g c rs ∧ PutAt cb w A ∧ Fr cb g w A := by
  have hpt : PutAt cb w (w.setCell ⟨cb, 0, none⟩ (.int .i64 (left - 1))) := (PutAt.refl cb w).set 0 _
  have hfr : Fr cb g w (w.setCell ⟨cb, 0, none⟩ (.int .i64 (left - 1))) := Fr.put hpt (.inl rfl)
  refine ⟨_, rfl, set_block hc _, ?_, hpt, hfr⟩
  have hne := hR.ne hc
  obtain ⟨cs, _, h2, _, _, h5, _⟩ := id hR
  exact hR.keep (hpt.block g hne) (.fr hfr hc (chk_noS left) h2 h5)
set_option maxRecDepth 100000 in
set_option maxHeartbeats 4000000 in
theorem ref_zero : RefC 0 := by
  intro wB w cb g c fb fo d left rs f hT hbB hc hcB hcnt hleft hR hlen hoks hF hk
  obtain ⟨A, eA, hcA, hRA, hpt, hfr⟩ := tick hc hR
  have x0 : w.cell? ⟨cb, 0, none⟩ = some (.int .i64 left) := (blk hc).2.1 0 _ rfl
  have xf := (blk hc).2.2 0
  have g3 : IntKind.i64.wrap (left - 1) = left - 1 := by have := f.cnt_pos; rw [IntKind.wrap_i64]; omega
  have c0 : A.cell? ⟨cb, 0, none⟩ = some (.int .i64 (left - 1)) := (blk hcA).2.1 0 _ rfl
  have HE := hide eA
  have hpos := f.cnt_pos
  have HF := hide (show RefPost wB.heap.size 0 cb g c left rs f w (.returned (.bool false)) A from ⟨false, rfl, ⟨fun h => (by cases h), fun h => h.elim⟩, hfr, hRA, left - 1, hcA, by omega, by omega⟩)
  rw [← eA] at c0
  rw [show (201 : Int) - ((0 : Nat) : Int) = 201 by omega]
  clear hT hbB hc hcB hcnt hleft hR hlen hoks hF hk eA hcA hRA hpt hfr hpos
  go_enter Tryz.func33, Tryz.ntmps33
  go_wp2
  go_ret
  rw [unhide HE]
  exact unhide HF
set_option maxRecDepth 100000 in
set_option maxHeartbeats 4000000 in
theorem ref_split {k : Nat} (hC : RefC k) (hk2 : k ≤ 199) {wB w : World} {cb g c fb fo d : Nat} {left : Int} {rs : List (List (ByteArray × Int) × Int)} {f : Fk} (hT : Nm.Tab wB) (hbB : Below wB.heap.size wB w) (hc : w.heap[cb]? = some (chk left)) (hcB : wB.heap.size ≤ cb) (hcnt : (f.cnt : Int) ≤ left) (hleft : left ≤ 33554432) (hR : RowsM w wB.heap.size g c rs) (hlen : rs.length + (k + 1) ≤ 1000) (hoks : ∀ r ∈ rs, RowOk r) (hF : FkAt wB wB.heap.size d fb fo f) (hs : f.split = true) :
    Calls Tryz.prog 33 #[.pointer (some ⟨cb, 0, none⟩), .slice (some ⟨g, 0, none⟩) rs.length c, .pointer (some ⟨fb, fo, none⟩), .int .i64 (200 - (k : Int))] w (RefPost wB.heap.size (k + 1) cb g c left rs f w) := by
  obtain ⟨A, eA, hcA, hRA, hpt, hfr⟩ := tick hc hR
  have x0 : w.cell? ⟨cb, 0, none⟩ = some (.int .i64 left) := (blk hc).2.1 0 _ rfl
  have xf := (blk hc).2.2 0
  have g3 : IntKind.i64.wrap (left - 1) = left - 1 := by have := f.cnt_pos; rw [IntKind.wrap_i64]; omega
  have c0 : A.cell? ⟨cb, 0, none⟩ = some (.int .i64 (left - 1)) := (blk hcA).2.1 0 _ rfl
  have hgB : wB.heap.size ≤ g := hR.choose_spec.1
  have hbA : Below wB.heap.size wB A := hbB.trans (hfr.below hcB hgB hbB.size)
  cases d with
  | zero => exact hF.elim
  | succ d =>
    have hF' := hF
    obtain ⟨hfb, hCl, aS, nS, cS, aC, nC, cC, aL, nL, cL, f1, f2, f3, f4, f5, f6, f7⟩ := hF
    rw [hs] at f1
    have y1 : A.cell? ⟨fb, fo + 1, none⟩ = some (.bool true) := (hbA.cell (p := ⟨fb, fo + 1, none⟩) hfb).trans (f1 1 _ rfl)
    have y4 : A.cell? ⟨fb, fo + 4, none⟩ = some (.slice aL nL cL) := (hbA.cell (p := ⟨fb, fo + 4, none⟩) hfb).trans (f1 4 _ rfl)
    have g1 : decide ((200 : Int) < 200 - (k : Int)) = false := by simp; omega
    have hpos := f.cnt_pos
    have g2 : decide (left - 1 < (0 : Int)) = false := by simp; omega
    have hnl : nL = f.l.length := f6
    by_cases h2 : nL = 2
    · subst h2
      obtain ⟨fA, fB, hfl⟩ : ∃ fA fB, f.l = [fA, fB] := by
        match hl : f.l with
        | [a, b] => exact ⟨a, b, rfl⟩
        | [] => rw [hl] at hnl; simp at hnl
        | [a] => rw [hl] at hnl; simp at hnl
        | a :: b :: e :: t => rw [hl] at hnl; simp at hnl
      have hct := Fk.cnt_two hfl
      have HS := hide (splits_any (left := left - 1) hC hk2 hT hbA hcA hcB (by omega) (by omega) hRA (by omega) hoks hF' hfl)
      have HX := hide (And.intro hfr (And.intro hfl (And.intro hct hs)))
      have HE := hide eA
      rw [← eA] at c0 y1 y4
      obtain ⟨nR, hnR⟩ : ∃ nR, rs.length = nR := ⟨_, rfl⟩
      rw [hnR] at HS ⊢
      clear hT hbB hc hcB hcnt hleft hR hlen hoks hF' hs eA hcA hRA hpt hfr hgB hbA hfb hCl f1 f2 f3 f4 f5 f6 f7 hpos hnl hfl hct hnR
      go_enter Tryz.func33, Tryz.ntmps33
      go_wp2_with fail
      rw [unhide HE]
      refine (unhide HS).mono ?_
      rintro e w' ⟨q, rfl, hq, hf2, hS2⟩
      obtain ⟨hfr, hfl, hct, hs⟩ := unhide HX
      have HFin := hide (show RefPost wB.heap.size (k + 1) cb g c left rs f w (.returned (.bool q)) w' from by
        obtain ⟨hR', l', k1, k2, k3⟩ := hS2
        refine ⟨q, rfl, hq.trans ⟨fun ⟨r, h1, h2, h3, h4⟩ => .inr ⟨hs, fA, fB, r, hfl, h1, h2, h3, h4⟩, fun h => ?_⟩, hfr.trans hf2, hR', l', k1, by omega, by omega⟩
        rcases h with ⟨h, _⟩ | ⟨_, a, b, r, h0, h1, h2, h3, h4⟩
        · rw [hs] at h; cases h
        · rw [hfl] at h0
          injection h0 with h5 h6
          injection h6 with h6 _
          subst h5 h6
          exact ⟨r, h1, h2, h3, h4⟩)
      clear hq hf2 hS2 hfr hfl hct hs HS HX c0 y1 y4 x0 xf g3 g1 g2 HE
      go_wp2
      go_ret
      exact unhide HFin
    · have HFin := hide (show RefPost wB.heap.size (k + 1) cb g c left rs f w (.returned (.bool false)) A from by
        refine ⟨false, rfl, ⟨fun h => (by cases h), fun h => ?_⟩, hfr, hRA, left - 1, hcA, by omega, by omega⟩
        rcases h with ⟨h, _⟩ | ⟨_, a, b, r, h0, _⟩
        · rw [hs] at h; cases h
        · rw [h0] at hnl; simp at hnl; omega)
      have HE := hide eA
      have g4 : ((nL : Int) == 2) = false := by simp; omega
      have g5 : ¬ (nL : Int) = 2 := by omega
      rw [← eA] at c0 y1 y4
      clear hC hT hbB hc hcB hcnt hleft hR hlen hoks hF' hs eA hcA hRA hpt hfr hgB hbA hfb hCl f1 f2 f3 f4 f5 f6 f7 hpos hnl
      go_enter Tryz.func33, Tryz.ntmps33
      go_wp2
      go_ret
      rw [unhide HE]
      exact unhide HFin
set_option maxRecDepth 100000 in
set_option maxHeartbeats 4000000 in
theorem ref_leaf {k : Nat} (hk2 : k ≤ 199) {wB w : World} {cb g c fb fo d : Nat} {left : Int} {rs : List (List (ByteArray × Int) × Int)} {f : Fk} (hbB : Below wB.heap.size wB w) (hc : w.heap[cb]? = some (chk left)) (hcB : wB.heap.size ≤ cb) (hcnt : (f.cnt : Int) ≤ left) (hleft : left ≤ 33554432) (hR : RowsM w wB.heap.size g c rs) (hlen : rs.length + (k + 1) ≤ 1000) (hoks : ∀ r ∈ rs, RowOk r) (hF : FkAt wB wB.heap.size d fb fo f) (hs : f.split = false) :
    Calls Tryz.prog 33 #[.pointer (some ⟨cb, 0, none⟩), .slice (some ⟨g, 0, none⟩) rs.length c, .pointer (some ⟨fb, fo, none⟩), .int .i64 (200 - (k : Int))] w (RefPost wB.heap.size (k + 1) cb g c left rs f w) := by
  obtain ⟨A, eA, hcA, hRA, hpt, hfr⟩ := tick hc hR
  have x0 : w.cell? ⟨cb, 0, none⟩ = some (.int .i64 left) := (blk hc).2.1 0 _ rfl
  have xf := (blk hc).2.2 0
  have g3 : IntKind.i64.wrap (left - 1) = left - 1 := by have := f.cnt_pos; rw [IntKind.wrap_i64]; omega
  have c0 : A.cell? ⟨cb, 0, none⟩ = some (.int .i64 (left - 1)) := (blk hcA).2.1 0 _ rfl
  have hgB : wB.heap.size ≤ g := hR.choose_spec.1
  have hbA : Below wB.heap.size wB A := hbB.trans (hfr.below hcB hgB hbB.size)
  cases d with
  | zero => exact hF.elim
  | succ d =>
    obtain ⟨hfb, hCl, aS, nS, cS, aC, nC, cC, aL, nL, cL, f1, f2, f3, f4, f5, f6, f7⟩ := hF
    rw [hs] at f1
    have y0 : A.cell? ⟨fb, fo, none⟩ = some (.slice aS nS cS) := (hbA.cell (p := ⟨fb, fo, none⟩) hfb).trans (f1 0 _ rfl)
    have y1 : A.cell? ⟨fb, fo + 1, none⟩ = some (.bool false) := (hbA.cell (p := ⟨fb, fo + 1, none⟩) hfb).trans (f1 1 _ rfl)
    have g1 : decide ((200 : Int) < 200 - (k : Int)) = false := by simp; omega
    have hpos := f.cnt_pos
    have g2 : decide (left - 1 < (0 : Int)) = false := by simp; omega
    have hSA : Row A.heap.size aS nS cS 1 (BA A f.sum) := f3.mono hbA.size fun b o j hb h => h.more hb hbA
    have HSum := hide (sumOf_any (X := XX) (hRA.row (by omega)) rfl hSA f2 (Nat.le_refl _) (by omega) (RowOk.sums hoks) (fun s z hz => Int.lt_of_lt_of_le (by have := numT_bound (by omega) hz; omega) (pow_pw (d := 1600) (k := 3000) (by omega))) big_X)
    have HX := hide (And.intro hfr (And.intro hRA (And.intro hcA (And.intro hs hpos))))
    have HE := hide eA
    rw [← eA] at c0 y0 y1
    obtain ⟨nR, hnR⟩ : ∃ nR, rs.length = nR := ⟨_, rfl⟩
    rw [hnR] at HSum ⊢
    clear hbB hc hcB hcnt hleft hR hlen hoks hs eA hcA hRA hpt hfr hgB hbA hfb hCl f1 f2 f3 f4 f5 f6 f7 hpos hSA hnR
    go_enter Tryz.func33, Tryz.ntmps33
    go_wp2_with fail
    rw [unhide HE]
    refine (unhide HSum).mono ?_
    rintro e w3 ⟨r, rfl, hb3, ⟨mx, si, sa, sl, sc, rfl⟩, hq⟩
    obtain ⟨w4, e4, hb4, hs4, hc4, hh4⟩ := box_new w3 #[.map mx, .int .i64 si, .slice sa sl sc] 66
    have hb34 : Below A.heap.size A w4 := hb3.trans (hb4.mono hb3.size)
    have s0 : w4.cell? ⟨w3.heap.size, 0, none⟩ = some (.map mx) := (blk hh4).2.1 0 _ rfl
    have s1 : w4.cell? ⟨w3.heap.size, 1, none⟩ = some (.int .i64 si) := (blk hh4).2.1 1 _ rfl
    have s2 : w4.cell? ⟨w3.heap.size, 2, none⟩ = some (.slice sa sl sc) := (blk hh4).2.1 2 _ rfl
    have HE4 := hide e4
    have H4 := hide (And.intro hb34 (And.intro hb4 hq))
    rw [← e4] at s0 s1 s2
    have HEnd : Hid (∀ (b : Bool) (V : World), (b = true ↔ Refuted rs f.sum) → Below A.heap.size A V → RefPost wB.heap.size (k + 1) cb g c left rs f w (.returned (.bool b)) V) := by
      intro b V hb hV
      obtain ⟨hfr, hRA, hcA, hs, hpos⟩ := unhide HX
      refine ⟨b, rfl, hb.trans ⟨fun h => .inl ⟨hs, h⟩, fun h => ?_⟩, hfr.trans (Fr.of hV (Nat.le_refl _)), hRA.more hV, left - 1, (hV.block cb (Array.getElem?_eq_some_iff.1 hcA).1).trans hcA, by omega, by omega⟩
      rcases h with ⟨_, h⟩ | ⟨h, _⟩
      · exact h
      · rw [hs] at h; cases h
    clear hb3 hq e4 hb4 hs4 hc4 hh4 hb34 HSum HE c0 y0 y1 x0 xf g1 g2 g3 HX
    cases hso : sumO rs f.sum with
    | none =>
      clear s0 s1 s2
      go_wp2
      go_ret
      rw [unhide HE4]
      exact unhide HEnd false w4 ⟨fun h => (by cases h), fun ⟨q, h, _⟩ => by rw [hso] at h; cases h⟩ (unhide H4).1
    | some q =>
      obtain ⟨hb34, hb4, hq⟩ := unhide H4
      obtain ⟨⟨D, mb, nn, i', a', l', c', ev, hom, hnn, hmf, hI⟩, hfb, hkb⟩ := hq q hso
      obtain ⟨rfl, rfl, rfl, rfl, rfl⟩ : mx = some mb ∧ i' = si ∧ a' = sa ∧ l' = sl ∧ c' = sc := by simp at ev; exact ⟨ev.1, ev.2.1.symm, ev.2.2.1.symm, ev.2.2.2.1.symm, ev.2.2.2.2.symm⟩
      have hom4 : w4.ownsMap Tryz.prog 9 R0 mb nn D := by
        obtain ⟨es, cl, hm, F, hs, hD⟩ := hom
        exact ⟨es, cl, (hb4.block mb (Array.getElem?_eq_some_iff.1 hm).1).trans hm, F, hs, hD⟩
      have HF := hide (isFalse_any hom4 (hI.more hb4 hb4.size) (by omega))
      have hz := size_zero hom4 (hmf.more hb4)
      have hiff : (decide (Maps.size D = 0) && decide (q.2 < 0)) = true ↔ Refuted rs f.sum := by
        simp only [Bool.and_eq_true, decide_eq_true_eq]
        constructor
        · rintro ⟨h1, h2⟩
          exact ⟨q, hso, hz.1 h1, h2⟩
        · rintro ⟨q', h, h1, h2⟩
          rw [hso] at h
          injection h with h
          subst h
          exact ⟨hz.2 h1, h2⟩
      obtain ⟨bb, hbb⟩ : ∃ bb, (decide (Maps.size D = 0) && decide (q.2 < 0)) = bb := ⟨_, rfl⟩
      rw [hbb] at HF hiff
      have HI := hide hiff
      clear hb34 hb4 hq ev hom hnn hmf hI hfb hkb hom4 hz hiff hbb hso
      go_wp2_with fail
      rw [unhide HE4]
      refine (unhide HF).mono ?_
      rintro e w5 ⟨rfl, hb5⟩
      have HB5 := hide ((unhide H4).1.trans (hb5.mono (unhide H4).1.size))
      clear hb5 HF s0 s1 s2
      go_wp2
      go_ret
      exact unhide HEnd bb w5 (unhide HI) (unhide HB5)
theorem ref_all : ∀ k, k ≤ 200 → RefC k
  | 0, _ => ref_zero
  | k + 1, hk => by
    intro wB w cb g c fb fo d left rs f hT hbB hc hcB hcnt hleft hR hlen hoks hF _
    rw [show (201 : Int) - ((k + 1 : Nat) : Int) = 200 - (k : Int) by omega]
    cases hs : f.split with
    | true => exact ref_split (ref_all k (by omega)) (by omega) hT hbB hc hcB hcnt hleft hR hlen hoks hF hs
    | false => exact ref_leaf (by omega) hbB hc hcB hcnt hleft hR hlen hoks hF hs
end Go.Proofs.YtnkigifcilgmbaaGreatDoor

/- Package farkas: Check, whatever it is handed. -/
namespace Go.Proofs.YtnkigifcilgmbaaGreatDoor
open Go Go.RowKit Go.Maps
open _root_.Go.Proofs.YtnkigifcilgmbaaGreatDoor.Nm (IsI pw)
/-- A refutation as a value. -/
def IsFk (w : World) (B d : Nat) (cs : List Value) (f : Fk) : Prop := f.C.length ≤ 1000 ∧ ∃ aS nS cS aC nC cC aL nL cL, cs = [.slice aS nS cS, .bool f.split, .slice aC nC cC, .string f.K, .slice aL nL cL] ∧ nS = f.sum.length ∧ Row B aS nS cS 1 (BA w f.sum) ∧ nC = f.C.length ∧ Row B aC nC cC 2 (CA w f.C) ∧ nL = f.l.length ∧ Row B aL nL cL 5 (fun b o j => ∀ g, f.l[j]? = some g → FkAt w B d b o g)
theorem FkAt.up {w : World} {B B' : Nat} (hB : B ≤ B') : ∀ (d b o : Nat) (f : Fk), FkAt w B d b o f → FkAt w B' d b o f
  | 0, _, _, _, h => h
  | d + 1, b, o, f, ⟨hb, hC, aS, nS, cS, aC, nC, cC, aL, nL, cL, h1, h2, h3, h4, h5, h6, h7⟩ => ⟨Nat.lt_of_lt_of_le hb hB, hC, aS, nS, cS, aC, nC, cC, aL, nL, cL, h1, h2, h3.mono hB fun _ _ _ _ h => h, h4, h5.mono hB fun _ _ _ _ h => h, h6, h7.mono hB fun b o _ _ h g hg => FkAt.up hB d b o g (h g hg)⟩
theorem IsFk.more {w w' : World} {B B' d : Nat} {cs : List Value} {f : Fk} (h : IsFk w B d cs f) (hw : Below B w w') (hB : B ≤ B') : IsFk w' B' d cs f := by
  obtain ⟨h0, aS, nS, cS, aC, nC, cC, aL, nL, cL, h1, h2, h3, h4, h5, h6, h7⟩ := h
  exact ⟨h0, aS, nS, cS, aC, nC, cC, aL, nL, cL, h1, h2, h3.mono hB fun b o j hb h => h.more hb hw, h4, h5.mono hB fun b o j hb h => h.more hb hw, h6, h7.mono hB fun b o j hb h g hg => FkAt.up hB d b o g (FkAt.more hw d b o g (h g hg))⟩
/-- Where its five cells lie. -/
theorem IsFk.at {w : World} {B d b o : Nat} {cs : List Value} {f : Fk} (h : IsFk w B d cs f) (hb : b < B) (hr : w.rangeAt b o cs) : FkAt w B (d + 1) b o f := by
  obtain ⟨h0, aS, nS, cS, aC, nC, cC, aL, nL, cL, rfl, h2, h3, h4, h5, h6, h7⟩ := h
  exact ⟨hb, h0, aS, nS, cS, aC, nC, cC, aL, nL, cL, hr, h2, h3, h4, h5, h6, h7⟩
def CkPost (ls : List (List (ByteArray × ByteArray) × ByteArray)) (f : Fk) (w : World) (e : Ending) (w' : World) : Prop := ∃ z : Int, e = .returned (.int .i64 z) ∧ Below w.heap.size w w' ∧ (readL ls = none → z = 90) ∧ ∀ rs, readL ls = some rs → (refP 200 rs f → z = 0) ∧ (¬ refP 200 rs f → z = 100)
set_option maxRecDepth 100000 in
set_option maxHeartbeats 4000000 in
theorem Check_any {w : World} {aL : Option Addr} {n cL d : Nat} {cs : List Value} {f : Fk} {ls : List (List (ByteArray × ByteArray) × ByteArray)} (hL : Row w.heap.size aL n cL 2 (LAt w w.heap.size ls)) (hnl : n = ls.length) (hn : n ≤ 800) (hC : ∀ l ∈ ls, l.1.length ≤ 1000) (hF : IsFk w w.heap.size d cs f) (hcnt : f.cnt ≤ 33554432) (hT : Nm.Tab w) : Calls Tryz.prog 15 #[.slice aL n cL, .agg cs.toArray] w (CkPost ls f w) := by
  have hF0 := hF
  obtain ⟨-, aS, nS, cS, aC, nC, cC, aF, nF, cF, rfl, -⟩ := hF
  obtain ⟨A, eA, hbA, hsA, hcA, hhA⟩ := box_new w #[.slice aS nS cS, .bool f.split, .slice aC nC cC, .string f.K, .slice aF nF cF] 31
  have hFA : FkAt A A.heap.size (d + 1) w.heap.size 0 f := (hF0.more hbA hbA.size).at (by omega) (range_block hhA)
  have hLA : Row w.heap.size aL n cL 2 (LAt A w.heap.size ls) := hL.mono (Nat.le_refl _) fun b o j hb h l hl => by
    obtain ⟨x, y, h1, h2⟩ := h l hl
    exact ⟨x, y, rangeAt_below h1 hb hbA, h2.more hbA⟩
  have HR := hide (readRows_any hLA hnl hbA.size (by omega) (fun l hl => by have := hC l hl; omega))
  have HE := hide eA
  have HB := hide (And.intro hbA (And.intro hsA (And.intro hFA (And.intro hn (And.intro hC (And.intro hcnt (And.intro (Nm.Tab.below hT hbA) hnl)))))))
  obtain ⟨KK, hKK⟩ : ∃ KK, f.K = KK := ⟨_, rfl⟩
  obtain ⟨sp, hsp⟩ : ∃ sp, f.split = sp := ⟨_, rfl⟩
  rw [hKK, hsp] at HE ⊢
  clear hL hnl hn hC hF0 hcnt hT eA hbA hsA hcA hhA hLA hFA hKK hsp
  show Calls Tryz.prog 15 #[.slice aL n cL, .agg #[.slice aS nS cS, .bool sp, .slice aC nC cC, .string KK, .slice aF nF cF]] w (CkPost ls f w)
  go_enter Tryz.func15, Tryz.ntmps15
  go_wp2_with fail
  rw [unhide HE]
  refine (unhide HR).mono ?_
  rintro e w2 ⟨aR, nR, cR, rfl, hb2, hrs⟩
  have H2 := hide (And.intro hb2 hrs)
  clear hb2 hrs HR HE
  cases hrl : readL ls with
  | none =>
    go_wp2
    go_ret
    obtain ⟨hb2, _⟩ := unhide H2
    obtain ⟨hbA, _⟩ := unhide HB
    exact ⟨90, rfl, hbA.trans (hb2.mono hbA.size), fun _ => rfl, fun rs h => by rw [hrl] at h; cases h⟩
  | some rs =>
    obtain ⟨hb2, hrs⟩ := unhide H2
    obtain ⟨hbA, hsA, hFA, hn, hC, hcnt, hT, hnl⟩ := unhide HB
    obtain ⟨k1, ⟨k2, g, cs, rfl, kg, kh, ks, kn⟩, k3⟩ := hrs rs hrl
    have hlr := allO_len hrl
    subst k2
    have hM : RowsM w2 A.heap.size g cR rs := ⟨cs, kg, kh, by omega, ks, kn, fun j r hr => by
      have hj := (List.getElem?_eq_some_iff.1 hr).1
      obtain ⟨b, off, e, hb, hx⟩ := k3.2.2 (by omega)
      injection e with e
      injection e with e1 e2 _
      subst e1 e2
      have := hx j (by omega)
      rw [Nat.zero_add] at this
      exact this r hr⟩
    obtain ⟨w4, e4, hb4, hs4, hc4, hh4⟩ := box_new w2 #[.int .i64 33554432] 81
    have hb24 : Below A.heap.size A w4 := hb2.trans (hb4.mono hb2.size)
    have hgo := ref_all 200 (Nat.le_refl _) A w4 w2.heap.size g cR w.heap.size 0 (d + 1) 33554432 rs f hT hb24 hh4 hb2.size (by omega) (Int.le_refl _) (hM.more hb4) (by omega) (RowOk.all hrl hC) hFA (Nat.le_refl _)
    rw [← k1] at hgo
    have HRef := hide hgo
    have HE4 := hide e4
    have HB4 := hide (And.intro (hbA.trans (hb24.mono hbA.size)) (And.intro hb2.size (And.intro hbA.size (And.intro hsA (And.intro kg hs4)))))
    have HRL := hide hrl
    clear hb2 hrs hbA hsA hFA hn hC hcnt hT hnl k1 kg kh ks kn k3 hlr hM e4 hb4 hs4 hc4 hh4 hb24 hgo hrl H2
    go_wp2_with fail
    rw [unhide HE4]
    refine (unhide HRef).mono ?_
    rintro e w5 ⟨b, rfl, hbi, hfr, _⟩
    have hb5 : Below w.heap.size w w5 := by
      obtain ⟨h1, h2, h3, h4, h5, h6⟩ := unhide HB4
      exact h1.trans (hfr.below (by omega) (by omega) h1.size)
    have H5 := hide (And.intro hb5 hbi)
    clear hb5 hbi hfr HRef
    cases b with
    | false =>
      go_wp2
      go_ret
      obtain ⟨hb5, hbi⟩ := unhide H5
      refine ⟨100, rfl, hb5, fun h => (by rw [unhide HRL] at h; cases h), fun rs' h => ?_⟩
      rw [unhide HRL] at h
      injection h with h
      subst h
      exact ⟨fun h => absurd (hbi.2 h) (by simp), fun _ => rfl⟩
    | true =>
      go_wp2
      go_ret
      obtain ⟨hb5, hbi⟩ := unhide H5
      refine ⟨0, rfl, hb5, fun h => (by rw [unhide HRL] at h; cases h), fun rs' h => ?_⟩
      rw [unhide HRL] at h
      injection h with h
      subst h
      exact ⟨fun _ => rfl, fun h => absurd (by simpa using hbi) h⟩
end Go.Proofs.YtnkigifcilgmbaaGreatDoor

namespace Go.Proofs.YtnkigifcilgmbaaGreatDoor
open Go Go.RowKit Go.Maps
open _root_.Go.Proofs.YtnkigifcilgmbaaGreatDoor.Nm (IsI pw)
def bx : ByteArray := ⟨#[120]⟩
def b1 : ByteArray := ⟨#[49]⟩
def b2 : ByteArray := ⟨#[50]⟩
def bm1 : ByteArray := ⟨#[45, 49]⟩
def bm2 : ByteArray := ⟨#[45, 50]⟩
def ls0 : List (List (ByteArray × ByteArray) × ByteArray) := [([(bx, b1)], b1), ([(bx, bm1)], bm2)]
def rs0 : List (List (ByteArray × Int) × Int) := [([(bx, 1)], 1), ([(bx, -1)], -2)]
theorem n1 (d : Nat) (h : 1 ≤ d) : numT d b1 = some 1 := by
  have : decide (1 ≤ d) = true := by simpa using h
  simp [numT, rightB, b1, Lib.hasPrefix, Lib.trimPrefix, List.isPrefixOf, isDigB, Nm.dec, h]
theorem n2 (d : Nat) (h : 1 ≤ d) : numT d b2 = some 2 := by
  simp [numT, rightB, b2, Lib.hasPrefix, Lib.trimPrefix, List.isPrefixOf, isDigB, Nm.dec, h]
theorem nm1 (d : Nat) (h : 1 ≤ d) : numT d bm1 = some (-1) := by
  simp [numT, rightB, bm1, Lib.hasPrefix, Lib.trimPrefix, List.isPrefixOf, isDigB, Nm.dec, h]
theorem nm2 (d : Nat) (h : 1 ≤ d) : numT d bm2 = some (-2) := by
  simp [numT, rightB, bm2, Lib.hasPrefix, Lib.trimPrefix, List.isPrefixOf, isDigB, Nm.dec, h]
theorem rd0 : readL ls0 = some rs0 := by
  have h1 : readP (bx, b1) = some (bx, 1) := by
    unfold readP
    rw [if_neg (by show ¬ ((1 : Nat) = 0 ∨ 200 < 1); omega), n1 400 (by omega)]
    rfl
  have h2 : readP (bx, bm1) = some (bx, -1) := by
    unfold readP
    rw [if_neg (by show ¬ ((1 : Nat) = 0 ∨ 200 < 1); omega), nm1 400 (by omega)]
    rfl
  have h3 : readR [(bx, b1)] b1 = some ([(bx, 1)], 1) := by
    simp [readR, readC, h1, n1 400]
  have h4 : readR [(bx, bm1)] bm2 = some ([(bx, -1)], -2) := by
    simp [readR, readC, h2, nm2 400]
  simp [readL, allO, ls0, rs0, h3, h4]
theorem t1 : timesT b1 = some 1 := by simp [timesT, n1 1600]
theorem t2 : timesT b2 = some 2 := by simp [timesT, n2 1600]
theorem sum21 : sumAll ls0 [b2, b1] = some (fput (fput (fun _ => 0) bx 2) bx 1, 0) := by
  unfold sumAll
  rw [rd0]
  simp [sumO, allO, t1, t2, rs0, sumN, sumStep, fadd, fput]
theorem sum11 : sumO rs0 [b1, b1] = some (fput (fput (fun _ => 0) bx 1) bx 0, -1) := by
  simp [sumO, allO, t1, rs0, sumN, sumStep, fadd, fput]
theorem ref11 : Refuted rs0 [b1, b1] := ⟨_, sum11, fun s _ => by
  show (if s = bx then (0 : Int) else if s = bx then 1 else 0) = 0
  split
  · rfl
  · rfl, by show (-1 : Int) < 0; decide⟩
theorem sum1 : sumO rs0 [b1] = some (fput (fun _ => 0) bx 1, 1) := by
  simp [sumO, allO, t1, rs0, sumN, sumStep, fadd, fput]
theorem ref1 : ¬ Refuted rs0 [b1] := fun ⟨q, h, _, h2⟩ => by
  rw [sum1] at h
  injection h with h
  subst h
  exact absurd h2 (by show ¬ (1 : Int) < 0; decide)
theorem emptyT (d : Nat) : numT d ⟨#[]⟩ = none := by
  simp [numT, rightB, Lib.hasPrefix, Lib.trimPrefix, List.isPrefixOf]
theorem rdE : readL [([], ⟨#[]⟩)] = none := by
  simp [readL, allO, readR, emptyT]
/-- The names of known's sum: x alone. -/
theorem ss_x {ss : List (List UInt8)} (hn : ss.Nodup) (h : ∀ x, x ∈ ss ↔ x.length ≤ maxLen ∧ (fput (fput (fun _ => 0) bx 2) bx 1) (bytesOf x) ≠ 0) : ss = [[120]] := by
  have hx : ∀ x, x ∈ ss ↔ x = [120] := fun x => by
    rw [h x]
    have e : bytesOf x = bx ↔ x = [120] := by
      constructor
      · intro e
        have := congrArg (fun b : ByteArray => b.data.toList) e
        simpa [bytesOf, bx] using this
      · rintro rfl
        rfl
    unfold fput
    constructor
    · rintro ⟨_, h⟩
      by_cases hb : bytesOf x = bx
      · exact e.1 hb
      · simp [hb] at h
    · intro hx
      refine ⟨by rw [hx]; unfold maxLen; simp, ?_⟩
      rw [if_pos (e.2 hx)]
      decide
  cases ss with
  | nil => exact absurd ((hx [120]).2 rfl) (by simp)
  | cons a l =>
    have ha := (hx a).1 (by simp)
    subst ha
    cases l with
    | nil => rfl
    | cons b l =>
      have hb := (hx b).1 (by simp)
      subst hb
      simp at hn
theorem co_x : coefsOf (fput (fput (fun _ => 0) bx 2) bx 1) [[120]] = [(bx, b1)] := by
  have : (fput (fput (fun _ => 0) bx 2) bx 1) (bytesOf [120]) = 1 := by
    unfold fput
    rw [if_pos (show bytesOf [120] = bx from rfl)]
  have hi : Lib.itoa 1 = [49] := by kernel_rfl
  simp [coefsOf, coefOf, this, hi]
  exact ⟨rfl, rfl⟩
theorem k_0 : bytesOf (Lib.itoa 0) = ⟨#[48]⟩ := by
  have hi : Lib.itoa 0 = [48] := by kernel_rfl
  rw [hi]
  rfl
/-- The two rows of known lie there. -/
def KL (lb : Nat) (V : World) : Prop := lb < V.heap.size ∧ Row V.heap.size (some ⟨lb, 0, none⟩) 2 2 2 (LAt V V.heap.size ls0)
theorem KL.more {lb : Nat} {V V' : World} (h : KL lb V) (hb : Below V.heap.size V V') : KL lb V' := ⟨Nat.lt_of_lt_of_le h.1 hb.size, h.2.mono hb.size fun b o j hb' h l hl => by
  obtain ⟨x, y, h1, a, n, c, e, hn, hr⟩ := h l hl
  exact ⟨x, y, rangeAt_below h1 hb' hb, a, n, c, e, hn, hr.mono hb.size fun b o j hb2 h p hp => rangeAt_below (h p hp) hb2 hb⟩⟩
theorem KL.mk {V : World} {lb g1 g2 : Nat} (h1 : V.heap[g1]? = some (.cells #[.string bx, .string b1] 48)) (h2 : V.heap[g2]? = some (.cells #[.string bx, .string bm1] 48)) (hl : V.heap[lb]? = some (.cells #[.slice (some ⟨g1, 0, none⟩) 1 1, .string b1, .slice (some ⟨g2, 0, none⟩) 1 1, .string bm2] 28)) : KL lb V := by
  have hc : ∀ {g : Nat} {s t : ByteArray}, V.heap[g]? = some (.cells #[.string s, .string t] 48) → Row V.heap.size (some ⟨g, 0, none⟩) 1 1 2 (CA V [(s, t)]) := fun {g s t} h => ⟨Nat.le_refl _, by omega, fun _ => ⟨g, 0, rfl, (blk h).1, fun j hj c hc i u hu => by
    obtain rfl : j = 0 := by omega
    obtain rfl : (s, t) = c := by simpa using hc
    rw [show 0 + 0 * 2 + i = i by omega]
    exact (blk h).2.1 i u (by simpa using hu)⟩⟩
  refine ⟨(blk hl).1, Nat.le_refl _, by omega, fun _ => ⟨lb, 0, rfl, (blk hl).1, fun j hj l hlj => ?_⟩⟩
  rcases (by omega : j = 0 ∨ j = 1) with rfl | rfl
  · have : l = ([(bx, b1)], b1) := by simpa [ls0] using hlj.symm
    subst this
    exact ⟨.slice (some ⟨g1, 0, none⟩) 1 1, .string b1, fun t u hu => (blk hl).2.1 (0 + 0 * 2 + t) u (by
      match t, hu with
      | 0, hu => simpa using hu
      | 1, hu => simpa using hu
      | t + 2, hu => simp at hu), _, _, _, rfl, rfl, hc h1⟩
  · have : l = ([(bx, bm1)], bm2) := by simpa [ls0] using hlj.symm
    subst this
    exact ⟨.slice (some ⟨g2, 0, none⟩) 1 1, .string bm2, fun t u hu => (blk hl).2.1 (0 + 1 * 2 + t) u (by
      match t, hu with
      | 0, hu => simpa using hu
      | 1, hu => simpa using hu
      | t + 2, hu => simp at hu), _, _, _, rfl, rfl, hc h2⟩
theorem BA.mk {V : World} {g : Nat} {cs : Array Value} {bs : List ByteArray} (h : V.heap[g]? = some (.cells cs 9)) (hb : ∀ (j : Nat) s, bs[j]? = some s → cs[j]? = some (.string s)) (hn : bs.length ≤ 1000) : Row V.heap.size (some ⟨g, 0, none⟩) bs.length bs.length 1 (BA V bs) := ⟨Nat.le_refl _, by omega, fun _ => ⟨g, 0, rfl, (blk h).1, fun j hj s hs => by
  rw [show 0 + j * 1 = j by omega]
  exact (blk h).2.1 j _ (hb j s hs)⟩⟩
end Go.Proofs.YtnkigifcilgmbaaGreatDoor
