/- The walks of scaleMag and mulMag: a magnitude so many times, by one digit and by another magnitude. -/
import Derived.Test.YtlcfldkmojpkpaaGreatDoorD
import Derived.Deep.QuietTactic
import Derived.BigQuiet
namespace Go.Proofs.YtlcfldkmojpkpaaGreatDoor
open Go.RowKit

theorem scale_step (X zs : List Int) (k : Nat) (t c x : Int) (hz : zs.length = k) (hx : X[k]?.getD 0 = x) (h : val zs + pw k * c = t * val (X.take k)) :
    ∀ d c' : Int, c + x * t = d + 1000000000 * c' → val (zs ++ [d]) + pw (k + 1) * c' = t * val (X.take (k + 1)) := by
  intro d c' e
  rw [val_snoc, hz, val_take_succ', hx]
  simp only [pw]
  have e2 : pw k * c + pw k * (x * t) = pw k * d + pw k * (1000000000 * c') := by rw [← Int.mul_add, ← Int.mul_add, e]
  have e3 : pw k * (1000000000 * c') = 1000000000 * pw k * c' := by rw [← Int.mul_assoc, Int.mul_comm (pw k)]
  have e4 : t * (val (X.take k) + pw k * x) = t * val (X.take k) + pw k * (x * t) := by
    rw [Int.mul_add, ← Int.mul_assoc t, Int.mul_comm t (pw k), Int.mul_assoc, Int.mul_comm t x]
  omega

set_option maxRecDepth 100000 in
set_option maxHeartbeats 1600000 in
theorem scaleMag_any (vx : Value) (xs : List Int) (t : Int) (w : World) (hmx : Mg w vx xs) (hdx : Dig xs) (hlx : xs.length ≤ 10000) (t0 : 0 ≤ t) (t1 : t < 1000000000) :
    Calls Tryz.prog 114 #[vx, .int .u32 t] w fun e w' => ∃ v zs, e = .returned v ∧ Below w.heap.size w w' ∧ w'.ownsRow w.heap.size 88 1 v zs.length (zs.map (Value.int .u32)) ∧ Dig zs ∧ val zs = t * val xs ∧ zs.length = xs.length + 1 := by
  obtain ⟨i0, hi, hz0, hz1, hz2⟩ := info_parts info32
  obtain ⟨ax, capx, rfl, hcx, hatxs⟩ := hmx
  go_enter Tryz.func114, Tryz.ntmps114
  go_wp2_with (at_make; refine wpList_make_own _ rfl _ _ 24 rfl w.heap.size 88 i0 (.int .u32 0) 1 Tryz.underlying24 hi hz0 hz1 _ _ _ (xs.length + 1) rfl rfl (by omega) ?b2 ?b3 ?b4 ?_)
  case b2 => rw [hz2]; omega
  case b3 => unfold maxLen; omega
  case b4 => exact Nat.le_refl _
  intro w0 hown0 hgrow0
  have hbel0 := (Below.refl w.heap.size w).grown hgrow0 (Nat.le_refl _) (fun k hk => by cases hk)
  clear hgrow0
  go_wp2
  go_loopw [5, 6, 15] (fun o cv i wr => ∃ (k : Nat) (c : Int) (zs : List Int), k ≤ xs.length ∧ i = .int .i64 k ∧ cv = .int .u64 c ∧ 0 ≤ c ∧ c < 1000000000 ∧ zs.length = k ∧ wr.ownsRow w.heap.size 88 1 o zs.length (zs.map (Value.int .u32)) ∧ Below w.heap.size w wr ∧ Dig zs ∧ val zs + pw k * c = t * val (xs.take k)) (fun _ _ i _ => xs.length - (intOf i).toNat)
  case atStart => exact ⟨0, 0, [], Nat.zero_le _, rfl, rfl, by omega, by omega, rfl, hown0, hbel0, Dig.nil, by simp [val, pw]⟩
  case round =>
    obtain ⟨k, c, zs, hk, rfl, rfl, hc0, hc1, hzl, hown, hbel, hdz, hval⟩ := hrel
    obtain ⟨x, hx, hx0, hx1⟩ := hdx.get k
    have HV := hide hval
    have hzle : zs.length ≤ 100000 := by omega
    have HZ := hide hzl
    have HX := hide hx
    clear hval hzl hx
    by_cases hlt : k < xs.length
    · obtain ⟨bx, ox, rfl, hbx, hcx⟩ := hatxs (by intro e; subst e; simp at hlt)
      have hcxk : wr.cell? ⟨bx, ox + k, none⟩ = some (.int .u32 x) := by rw [← unhide HX]; exact (hbel.cell (p := ⟨bx, ox + k, none⟩) hbx).trans (hcx k hlt)
      have key := hide (scale_step xs zs k t c x (unhide HZ) (unhide HX) (unhide HV))
      obtain ⟨hm0, hm1⟩ := mul_bd hx0 t0 t1
      go_wp2_with (at_builtin; refine wpList_append_own _ rfl _ _ 24 rfl w.heap.size 88 i0 (.int .u32 0) 1 4 Tryz.underlying24 hi hz0 hz1 hz2 rfl (by decide) _ _ _ rfl (hown.alloc _) ⟨wr.heap.size, 0, none⟩ 1 1 [.int .u32 ((c + x * t) % 1000000000)] rfl rfl (cell_one_new _ _ _) (one32 _) ?c3 ?c4 ?c5 ?_)
      case c3 => unfold maxLen; omega
      case c4 => omega
      case c5 => have := hbel.size; simp; omega
      intro v' w1 hown' hgrow _
      have hB := (hbel.alloc hbel.size (.cells #[.int .u32 ((c + x * t) % 1000000000)] 88)).grown hgrow (by have := hbel.size; simp; omega) (fun k hk => (hown.lt k hk).1)
      have hO := own_snoc hown'
      clear hown' hgrow hown hbel
      go_wp2
      exact ⟨⟨k + 1, (c + x * t) / 1000000000, zs ++ [(c + x * t) % 1000000000], by omega, by simp, rfl, by omega, by omega, by simp [unhide HZ], hO, hB, hdz.append (Dig.one (by omega) (by omega)), unhide key _ _ (by omega)⟩, by simp [intOf]; omega⟩
    · obtain rfl : k = xs.length := by omega
      go_wp2_with (at_builtin; refine wpList_append_own _ rfl _ _ 24 rfl w.heap.size 88 i0 (.int .u32 0) 1 4 Tryz.underlying24 hi hz0 hz1 hz2 rfl (by decide) _ _ _ rfl (hown.alloc _) ⟨wr.heap.size, 0, none⟩ 1 1 [.int .u32 (c)] rfl rfl (cell_one_new _ _ _) (one32 _) ?c3 ?c4 ?c5 ?_)
      case c3 => unfold maxLen; omega
      case c4 => omega
      case c5 => have := hbel.size; simp; omega
      intro v' w1 hown' hgrow _
      have hB := (hbel.alloc hbel.size (.cells #[.int .u32 (c)] 88)).grown hgrow (by have := hbel.size; simp; omega) (fun k hk => (hown.lt k hk).1)
      have hO := own_snoc hown'
      clear hown' hgrow hown hbel
      have hv' : Hid (val (zs ++ [c]) = t * val xs) := by
        have := unhide HV
        rw [List.take_of_length_le (Nat.le_refl _)] at this
        show _ = _
        rw [val_snoc, unhide HZ]
        exact this
      go_wp2
      go_ret
      exact ⟨_, zs ++ [c], rfl, hB, hO, hdz.append (Dig.one (by omega) (by omega)), unhide hv', by simp [unhide HZ]⟩

theorem At.set0 {w : World} {b : Nat} {zs : List Int} {x : Int} {rs : List Int} (h : At w b 0 (zs ++ x :: rs)) {k : Nat} (hz : zs.length = k) (d : Int) : At (w.setCell ⟨b, k, none⟩ (.int .u32 d)) b 0 (zs ++ d :: rs) := by
  have := h.set hz d
  rwa [Nat.zero_add] at this
theorem At.at0 {w : World} {b : Nat} {zs : List Int} {x : Int} {rs : List Int} (h : At w b 0 (zs ++ x :: rs)) {k : Nat} (hz : zs.length = k) : w.cell? ⟨b, k, none⟩ = some (.int .u32 x) := by
  have := h.at hz
  rwa [Nat.zero_add] at this
theorem At.drewN {w : World} {b off : Nat} {xs : List Int} (h : At w b off xs) (q : Nat) : At (w.drewN q) b off xs := fun j hj => by
  rw [World.cell?_drewN]; exact h j hj
theorem InBlk.drewN {b off n : Nat} {w w1 : World} (h : InBlk b off n w w1) (q : Nat) : InBlk b off n w (w1.drewN q) :=
  h.trans ⟨rfl, rfl, rfl, rfl, fun _ _ => rfl, fun _ _ => rfl, fun _ => rfl⟩
theorem mul_step (H Y ns : List Int) (j : Nat) (x c h y : Int) (hz : ns.length = j) (hh : H[j]?.getD 0 = h) (hy : Y[j]?.getD 0 = y) (hv : val ns + pw j * c = val (H.take j) + x * val (Y.take j)) :
    ∀ d c' : Int, c + (h + x * y) = d + 1000000000 * c' → val (ns ++ [d]) + pw (j + 1) * c' = val (H.take (j + 1)) + x * val (Y.take (j + 1)) := by
  intro d c' e
  rw [val_snoc, hz, val_take_succ', val_take_succ', hh, hy]
  simp only [pw]
  have e2 : pw j * c + (pw j * h + pw j * (x * y)) = pw j * d + pw j * (1000000000 * c') := by rw [← Int.mul_add, ← Int.mul_add, ← Int.mul_add, e]
  have e3 : pw j * (1000000000 * c') = 1000000000 * pw j * c' := by rw [← Int.mul_assoc, Int.mul_comm (pw j)]
  have e4 : x * (val (Y.take j) + pw j * y) = x * val (Y.take j) + pw j * (x * y) := by
    rw [Int.mul_add, ← Int.mul_assoc x, Int.mul_comm x (pw j), Int.mul_assoc]
  omega

set_option maxRecDepth 100000 in
set_option maxHeartbeats 1600000 in
theorem mulMag_any (vx vy : Value) (xs ys : List Int) (w : World) (hmx : Mg w vx xs) (hmy : Mg w vy ys) (hdxs : Dig xs) (hdys : Dig ys) (hlx : xs.length ≤ 10000) (hly : ys.length ≤ 10000) :
    Calls Tryz.prog 76 #[vx, vy] w fun e w' => ∃ v zs, e = .returned v ∧ Below w.heap.size w w' ∧ Mg w' v zs ∧ Dig zs ∧ Norm zs ∧ val zs = val xs * val ys ∧ zs.length ≤ xs.length + ys.length := by
  obtain ⟨i0, hi, hz0, hz1, hz2⟩ := info_parts info32
  obtain ⟨ax, capx, rfl, hcx, hatxs⟩ := hmx
  obtain ⟨ay, capy, rfl, hcy, hatys⟩ := hmy
  go_enter Tryz.func76, Tryz.ntmps76
  go_wp2_with (at_make; refine wpList_make_full _ rfl _ _ 24 rfl w.heap.size 88 i0 (.int .u32 0) 1 Tryz.underlying24 hi hz0 hz1 _ _ _ _ (xs.length + ys.length) rfl rfl (by omega) (by omega) ?b2 ?b3 ?b4 ?_)
  case b2 => rw [hz2]; omega
  case b3 => unfold maxLen; omega
  case b4 => exact Nat.le_refl _
  intro w0 hown0 hgrow0
  have hbel0 := (Below.refl w.heap.size w).grown hgrow0 (Nat.le_refl _) (fun k hk => by cases hk)
  have hg0 : w.heap.size < w0.heap.size := (hown0.lt w.heap.size rfl).2
  have hfz : ∀ o, w0.frozen? ⟨w.heap.size, o, none⟩ = false := fun o => hown0.frozenAt _
  have hat0 : At w0 w.heap.size 0 (List.replicate (xs.length + ys.length) 0) := by
    intro j hj
    have := hown0.cellAt j (by simpa using hj)
    have hj' : j < xs.length + ys.length := by simpa using hj
    rw [Nat.zero_add, this, toList_madeCells_one]
    simp [hj']
  clear hgrow0 hown0
  go_wp2
  go_loopw [18] (fun i wr => ∃ (k : Nat) (us : List Int), k ≤ xs.length ∧ i = .int .i64 k ∧ us.length = k + ys.length ∧ At wr w.heap.size 0 (us ++ List.replicate (xs.length - k) 0) ∧ InBlk w.heap.size 0 (xs.length + ys.length) w0 wr ∧ Dig us ∧ val us = val (xs.take k) * val ys) (fun i _ => xs.length - (intOf i).toNat)
  case atStart => exact ⟨0, List.replicate ys.length 0, Nat.zero_le _, rfl, by simp, by simpa [Nat.add_comm] using hat0, InBlk.refl _ _ _ _, Dig.replicate _, by simp [val, val_replicate]⟩
  case round =>
    obtain ⟨k, us, hk, rfl, hul, hatr, hin, hdu, hval⟩ := hrel
    obtain ⟨x, hx, hx0, hx1⟩ := hdxs.get k
    have HV := hide hval
    have HU := hide hul
    have HX := hide hx
    clear hval hul hx
    by_cases hlt : k < xs.length
    · obtain ⟨bx, ox, rfl, hbx, hcx⟩ := hatxs (by intro e; subst e; simp at hlt)
      have hcxk : wr.cell? ⟨bx, ox + k, none⟩ = some (.int .u32 x) := by rw [← unhide HX]; exact ((hin.cell (p := ⟨bx, ox + k, none⟩) (by simp; omega)).trans (hbel0.cell (p := ⟨bx, ox + k, none⟩) hbx)).trans (hcx k hlt)
      go_wp2
      go_loopw [8, 25] (fun cv i wq => ∃ (j : Nat) (c : Int) (ns : List Int), j ≤ ys.length ∧ i = .int .i64 j ∧ cv = .int .u64 c ∧ 0 ≤ c ∧ c < 1000000000 ∧ ns.length = j ∧ At wq w.heap.size 0 (us.take k ++ (ns ++ ((us.drop k).drop j ++ List.replicate (xs.length - k) 0))) ∧ InBlk w.heap.size 0 (xs.length + ys.length) w0 wq ∧ Dig ns ∧ val ns + pw j * c = val ((us.drop k).take j) + x * val (ys.take j)) (fun _ i _ => ys.length - (intOf i).toNat)
      case atStart => exact ⟨0, 0, [], Nat.zero_le _, rfl, rfl, by omega, by omega, rfl, by simpa [← List.append_assoc] using hatr, hin, Dig.nil, by simp [val, pw]⟩
      case round =>
        obtain ⟨j, c, ns, hj, rfl, rfl, hc0, hc1, hnl, hatq, hinq, hdn, hvq⟩ := hrel
        obtain ⟨h, hh, hh0, hh1⟩ := (hdu.drop k).get j
        obtain ⟨y, hy, hy0, hy1⟩ := hdys.get j
        have HQ := hide hvq
        have HN := hide hnl
        have HH := hide hh
        have HY := hide hy
        clear hvq hnl hh hy
        by_cases hjl : j < ys.length
        · obtain ⟨yb, oy, rfl, hby, hcy⟩ := hatys (by intro e; subst e; simp at hjl)
          have hcyk : wr.cell? ⟨yb, oy + j, none⟩ = some (.int .u32 y) := by rw [← unhide HY]; exact ((hinq.cell (p := ⟨yb, oy + j, none⟩) (by simp; omega)).trans (hbel0.cell (p := ⟨yb, oy + j, none⟩) hby)).trans (hcy j hjl)
          have hdr : (us.drop k).drop j = h :: (us.drop k).drop (j + 1) := by
            have hl : j < (us.drop k).length := by rw [List.length_drop, unhide HU]; omega
            rw [List.drop_eq_getElem_cons hl]
            have := unhide HH
            rw [List.getElem?_eq_getElem hl] at this
            simp only [Option.getD_some] at this
            rw [this]
          rw [hdr, List.cons_append, ← List.append_assoc (us.take k)] at hatq
          have hpl : (us.take k ++ ns).length = k + j := by
            rw [List.length_append, List.length_take, unhide HU, unhide HN]; omega
          have HP := hide hpl
          clear hdr hpl
          have hcok : wr.cell? ⟨w.heap.size, k + j, none⟩ = some (.int .u32 h) := hatq.at0 (unhide HP)
          have hfk : wr.frozen? ⟨w.heap.size, k + j, none⟩ = false := (hinq.frozen _).trans (hfz _)
          obtain ⟨hm0, hm1⟩ := mul_bd hx0 hy0 hy1
          have key := hide (mul_step (us.drop k) ys ns j x c h y (unhide HN) (unhide HH) (unhide HY) (unhide HQ))
          go_wp2
          go_quiet (fail)
          go_wp2
          refine ⟨⟨j + 1, (c + (h + x * y)) / 1000000000, ns ++ [(c + (h + x * y)) % 1000000000], by omega, by simp, rfl, by omega, by omega, by simp [unhide HN], ?_, (hinq.drewN _).setCell (by omega) (by omega) _, hdn.append (Dig.one (by omega) (by omega)), unhide key _ _ (by omega)⟩, by simp [intOf]; omega⟩
          have := (hatq.drewN nq).set0 (unhide HP) ((c + (h + x * y)) % 1000000000)
          simpa [List.append_assoc] using this
        · obtain rfl : j = ys.length := by omega
          have hdn0 : (us.drop k).drop ys.length = [] := List.drop_eq_nil_of_le (by rw [List.length_drop, unhide HU]; omega)
          obtain ⟨m, hm⟩ : ∃ m, xs.length - k = m + 1 := ⟨xs.length - k - 1, by omega⟩
          rw [hdn0, hm, List.replicate_succ, List.nil_append, ← List.append_assoc (us.take k)] at hatq
          have hpl : (us.take k ++ ns).length = k + ys.length := by
            rw [List.length_append, List.length_take, unhide HU, unhide HN]; omega
          have HP := hide hpl
          have HM := hide hm
          clear hdn0 hpl hm
          have hcok : wr.cell? ⟨w.heap.size, k + ys.length, none⟩ = some (.int .u32 0) := hatq.at0 (unhide HP)
          have hfk : wr.frozen? ⟨w.heap.size, k + ys.length, none⟩ = false := (hinq.frozen _).trans (hfz _)
          have hvu : Hid (val (us.take k ++ ns ++ [c]) = val (xs.take (k + 1)) * val ys) := by
            show _ = _
            have h1 := unhide HV
            have h2 := unhide HQ
            rw [List.take_of_length_le (by rw [List.length_drop, unhide HU]; omega), List.take_of_length_le (Nat.le_refl _)] at h2
            have h3 : val us = val (us.take k) + pw k * val (us.drop k) := by
              have := val_append (us.take k) (us.drop k)
              rw [List.take_append_drop, List.length_take, unhide HU, Nat.min_eq_left (by omega)] at this
              exact this
            rw [List.append_assoc, val_append, val_snoc, unhide HN, h2, List.length_take, unhide HU, Nat.min_eq_left (by omega), val_take_succ', unhide HX, Int.mul_add, Int.add_mul, ← h1, h3, Int.mul_assoc]
            omega
          go_wp2
          refine ⟨⟨k + 1, us.take k ++ ns ++ [c], by omega, by simp, ?_, ?_, hinq.setCell (by omega) (by omega) _, ((hdu.take k).append hdn).append (Dig.one hc0 hc1), unhide hvu⟩, by simp [intOf]; omega⟩
          · rw [List.length_append, unhide HP]; simp; omega
          · have e : xs.length - (k + 1) = m := by have := unhide HM; omega
            rw [e, List.append_assoc]
            exact hatq.set0 (unhide HP) c
    · obtain rfl : k = xs.length := by omega
      have hA : At wr w.heap.size 0 us := by simpa using hatr
      have hm2 : Mg wr (.slice (some ⟨w.heap.size, 0, none⟩) (xs.length + ys.length) (xs.length + ys.length)) us := by
        rw [← unhide HU]
        exact hA.mg (by rw [hin.size]; exact hg0) (Nat.le_refl _)
      have hv' : Hid (val us = val xs * val ys) := by
        have := unhide HV
        rw [List.take_of_length_le (Nat.le_refl _)] at this
        exact this
      have hul : us.length ≤ xs.length + ys.length := Nat.le_of_eq (unhide HU)
      have hB2 := hbel0.trans (hin.below (B := w.heap.size) (Nat.le_refl _))
      clear hatr hA hin
      go_wp2_with (go_at_call 84; refine (trim_any _ us _ hm2 hdu (by omega)).mono ?_)
      rintro e w3 ⟨v3, ys3, rfl, rfl, hm3, hd3, hn3, hv3, hl3⟩
      have hv4 : Hid (val ys3 = val xs * val ys) := by show _ = _; rw [hv3]; exact hv'
      clear hv3 hv'
      go_wp2
      go_ret
      exact ⟨_, _, rfl, hB2, hm3, hd3, hn3, unhide hv4, by omega⟩

end Go.Proofs.YtlcfldkmojpkpaaGreatDoor
