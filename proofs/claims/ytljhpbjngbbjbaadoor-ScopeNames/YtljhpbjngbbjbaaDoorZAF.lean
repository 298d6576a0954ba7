/- Package scope: rows as trees hold them; parameters. -/
import Derived.Test.YtljhpbjngbbjbaaDoorZAE
set_option linter.unusedVariables false
set_option linter.unusedSimpArgs false

/- Package scope: the copier's params. -/
namespace Go.Proofs.YtljhpbjngbbjbaaDoor
open Go Go.RowKit
def coV (h : Nat) (l : List Pm) : Nat := sumN (l.map fun p => coL h p.t.r)
theorem coV_take {h j : Nat} {l : List Pm} {t : Pm} (ht : l[j]? = some t) : coV h (l.take (j + 1)) = coV h (l.take j) + coL h t.t.r := by
  unfold coV
  rw [List.take_add_one, ht]
  simp only [Option.toList, List.map_append, sumN_app]
  simp [sumN]
theorem coV_take_le (h j : Nat) (l : List Pm) : coV h (l.take j) ≤ coV h l := by
  have := congrArg (coV h) (List.take_append_drop j l)
  unfold coV at this ⊢
  rw [List.map_append, sumN_app] at this
  omega
structure XIp (w : World) (cb K g b off n : Nat) (L : Int) (l : List Pm) (j : Nat) (wr : World) : Prop where
  cp : CpS wr cb (L - n - coV K (l.take j))
  but : But cb w wr
  g0 : w.heap.size ≤ g
  g1 : g < wr.heap.size
  fr : ∀ o, wr.frozen? ⟨g, o, none⟩ = false
  rest : ∀ p, 6 * j ≤ p → p < 6 * n → wr.cell? ⟨g, p, none⟩ = w.cell? ⟨b, off + p, none⟩
  done : ∃ m, m ≤ wr.heap.size ∧ OLg 6 (OPm wr K) g (g + 1) m 0 ((l.take j).map (pr K))
theorem XIp.step {w : World} {cb K g b off n j c2 : Nat} {L : Int} {l : List Pm} {wr w2 : World} {t : Pm} {a2 sa : Option Addr} {sn cs : Nat} (hI : XIp w cb K g b off n L l j wr) (hcb : cb < w.heap.size) (hjn : j < n) (ht : l[j]? = some t) (hr : w.rangeAt b (off + j * 6) [.string t.name, .int .i64 t.t.kind, .string t.t.name, .slice sa sn cs, .int .i64 t.t.at', .int .i64 t.at'])
    (h2 : OSp (OE w2 K) wr.heap.size w2.heap.size a2 t.t.r.length c2 (t.t.r.map (er K))) (hc2 : CpS w2 cb (L - n - coV K (l.take j) - coL K t.t.r)) (hb2 : But cb wr w2) : XIp w cb K g b off n L l (j + 1) (w2.setCell ⟨g, j * 6 + 3, none⟩ (.slice a2 t.t.r.length c2)) := by
  have hs := hI.but.size
  have hs2 := hb2.size
  have hg := hI.g0
  have hg1 := hI.g1
  have hgc : g ≠ cb := by omega
  have hgs : ∀ o, w2.cell? ⟨g, o, none⟩ = wr.cell? ⟨g, o, none⟩ := fun o => cell_blk (hb2.block g hg1 hgc) o
  have hcell : ∀ x v, ([.string t.name, .int .i64 t.t.kind, .string t.t.name, .slice sa sn cs, .int .i64 t.t.at', .int .i64 t.at'] : List Value)[x]? = some v → w2.cell? ⟨g, j * 6 + x, none⟩ = some v := fun x v hv => by
    have hx : x < 6 := (List.getElem?_eq_some_iff.1 hv).1
    rw [hgs, hI.rest (j * 6 + x) (by omega) (by omega), ← Nat.add_assoc]
    exact hr x v hv
  obtain ⟨m, hm, hd⟩ := hI.done
  have hl6 : ((l.take j).map (pr K)).length = j := by
    have := (List.getElem?_eq_some_iff.1 ht).1
    simp
    omega
  have hgm := OLg.le _ _ _ _ hd
  refine ⟨?_, ?_, hg, by simp; omega, fun o => by rw [World.frozen?_setCell, froz_blk (hb2.block g hg1 hgc) o]; exact hI.fr o, fun p h3 h4 => ?_, w2.heap.size, by simp, ?_⟩
  · have e : L - n - (coV K (l.take (j + 1)) : Nat) = L - n - coV K (l.take j) - coL K t.t.r := by rw [coV_take ht]; push_cast; omega
    rw [e]
    exact (heap_set _ _ (Ne.symm hgc)).trans hc2
  · exact but_new (hI.but.trans ⟨hb2.os, hb2.tape, hb2.output, hb2.size, hb2.block⟩) hg _ _
  · rw [cell_ne (.inr (by omega)), hgs]
    exact hI.rest p (by omega) h4
  · rw [List.take_add_one, ht]
    simp only [Option.toList, List.map_append, List.map_cons, List.map_nil]
    rw [OLg.split]
    have hf : Fr (w2.heap.size + g + 1) (fun k i => k = g ∧ i = j * 6 + 3) w2 (w2.setCell ⟨g, j * 6 + 3, none⟩ (.slice a2 t.t.r.length c2)) := (Fr.refl _ _ _).set _ fun _ => ⟨rfl, rfl⟩
    refine ⟨m, ?_, w2.heap.size, by omega, ?_, rfl⟩
    · have hf2 : Fr wr.heap.size (fun k _ => k = cb) wr w2 := ⟨hb2.os, hb2.tape, hb2.output, hb2.size, fun k k1 k2 => hb2.block k k1 fun e => k2 0 e, fun k i k1 k2 => cell_blk (hb2.block k k1 k2) i, fun k i k1 => by
        by_cases e : k = cb
        · subst e
          have c1 := (blk hI.cp).2.2 i
          have c2 := (blk hc2).2.2 i
          rw [c1, c2]
        · exact froz_blk (hb2.block k k1 e) i⟩
      have hd2 : OLg 6 (OPm w2 K) g (g + 1) m 0 ((l.take j).map (pr K)) := OPl.fr hd hf2 hg1 hm (fun i k1 k2 hh => hgc hh) (fun k i k1 k2 hh => by omega)
      refine OPl.fr hd2 hf (by omega) (by omega) (fun i k1 k2 => ?_) (fun k i k1 k2 => ?_)
      · rw [hl6] at k2
        intro hh
        omega
      · intro hh
        omega
    · rw [hl6]
      have hw : OSp (OE w2 K) m w2.heap.size a2 t.t.r.length c2 (t.t.r.map (er K)) := h2.wide (by omega) (Nat.le_refl _)
      refine ⟨a2, t.t.r.length, c2, fun x v hv => ?_, hw.fr hf (by omega) fun k i k1 k2 hh => by omega⟩
      have hx : x < 6 := (List.getElem?_eq_some_iff.1 hv).1
      have e0 : 0 + 6 * j + x = j * 6 + x := by omega
      rw [e0]
      rcases x with _ | _ | _ | _ | _ | _ | x
      · exact (cell_ne (.inr (by omega))).trans (hcell 0 v hv)
      · exact (cell_ne (.inr (by omega))).trans (hcell 1 v hv)
      · exact (cell_ne (.inr (by omega))).trans (hcell 2 v hv)
      · have ev : v = .slice a2 t.t.r.length c2 := (Option.some.inj hv).symm
        subst ev
        exact World.cell?_setCell_same _ _ _ (hcell 3 _ rfl)
      · exact (cell_ne (.inr (by omega))).trans (hcell 4 v hv)
      · exact (cell_ne (.inr (by omega))).trans (hcell 5 v hv)
      · omega
def XpP (cb K : Nat) (L : Int) (n : Nat) (l : List Pm) (w : World) (e : Ending) (w' : World) : Prop := ∃ a2 c2, e = .returned (.slice a2 n c2) ∧ OSg 6 (OPm w' K) w.heap.size w'.heap.size a2 n c2 (l.map (pr K)) ∧ CpS w' cb (L - coP K l) ∧ But cb w w'
set_option maxRecDepth 100000 in
set_option maxHeartbeats 8000000 in
theorem xp_nil {w : World} {cb c K : Nat} {L : Int} {a : Option Addr} (hC : CpS w cb L) (h0 : 0 ≤ L) (hL2 : L ≤ 1000000) : Calls Tryd.prog 37 #[.pointer (some ⟨cb, 0, none⟩), .slice a 0 c] w (XpP cb K L 0 [] w) := by
  have HC := hide (fitP_any (n := 0) (c := c) (a := a) (Nat.zero_le _) (Nat.zero_le _) hC (by omega) hL2 (fun h => absurd rfl h))
  clear hC
  go_enter Tryd.func37, Tryd.ntmps37
  go_wp2_with fail
  refine (unhide HC).mono ?_
  rintro e w1 ⟨a2, c2, rfl, -, k1, k2, k3, -⟩
  obtain ⟨rfl, rfl⟩ := k3 trivial
  have H1 := hide (And.intro k1 k2)
  clear k1 k2 k3 HC
  go_wp2_with fail
  go_loopw [12] (fun iv wr => iv = .int .i64 (0 : Nat) ∧ Hid (wr = w1)) (fun iv _ => 0)
  case atStart => exact ⟨rfl, rfl⟩
  case round =>
    obtain ⟨rfl, HB⟩ := hrel
    go_wp2
    go_ret
    have e := unhide HB
    subst e
    obtain ⟨k1, k2⟩ := unhide H1
    exact ⟨none, 0, rfl, ⟨rfl, Nat.le_refl _, by omega, k2.size, fun h => absurd rfl h, fun _ => ⟨rfl, rfl⟩⟩, by simpa [coP, sumN] using k1, k2⟩
set_option maxRecDepth 100000 in
set_option maxHeartbeats 8000000 in
theorem xp_some {K : Nat} {w : World} {cb n c b off : Nat} {L : Int} {l : List Pm} {P : Nat → Prop} (hP : ∀ b, P b → b ≠ cb) (hC : CpS w cb L) (hx : PsP w P (.slice (some ⟨b, off, none⟩) n c) l) (hk : l.all (fun p => p.t.r.all (hiE K)) = true) (h0 : n ≠ 0) (hL : (coP K l : Int) ≤ L) (hL2 : L ≤ 1000000) : Calls Tryd.prog 37 #[.pointer (some ⟨cb, 0, none⟩), .slice (some ⟨b, off, none⟩) n c] w (XpP cb K L n l w) := by
  obtain ⟨a', c', e0, hr1, hr2, hr3⟩ := hx
  obtain ⟨rfl, hn, rfl⟩ : some ⟨b, off, none⟩ = a' ∧ n = l.length ∧ c = c' := by simpa using e0
  rw [← hn] at hr1 hr2 hr3
  obtain ⟨b', off', e, hPb, hbw, hrow⟩ := hr3 h0
  obtain ⟨rfl, rfl⟩ : b = b' ∧ off = off' := by simpa using e
  have hcb := (blk hC).1
  have hco : coP K l = l.length + coV K l := rfl
  have hrow2 : ∀ j, j < n → ∀ t, l[j]? = some t → ∃ sa sn cs, w.rangeAt b (off + j * 6) [.string t.name, .int .i64 t.t.kind, .string t.t.name, .slice sa sn cs, .int .i64 t.t.at', .int .i64 t.at'] ∧ LsH w P K sa sn cs t.t.r := fun j hj t ht => by
    obtain ⟨cs, k1, k2⟩ := hrow j hj
    obtain ⟨a, n', c', rfl, k3⟩ := k2 t ht
    exact ⟨a, n', c', k1, k3.high (List.all_eq_true.1 hk t (List.mem_of_getElem? ht))⟩
  have hcell : ∀ j, j < n * 6 → ∃ u, w.cell? ⟨b, off + j, none⟩ = some u ∧ u.oneCell' = true := fun j hj => by
    obtain ⟨t, ht⟩ : ∃ t, l[j / 6]? = some t := ⟨_, List.getElem?_eq_getElem (by omega)⟩
    obtain ⟨sa, sn, cs, k1, -⟩ := hrow2 (j / 6) (by omega) t ht
    obtain ⟨v, hv⟩ : ∃ v, ([.string t.name, .int .i64 t.t.kind, .string t.t.name, .slice sa sn cs, .int .i64 t.t.at', .int .i64 t.at'] : List Value)[j % 6]? = some v := ⟨_, List.getElem?_eq_getElem (by simp; omega)⟩
    refine ⟨v, ?_, ?_⟩
    · have := k1 (j % 6) v hv
      rw [show off + j / 6 * 6 + j % 6 = off + j by omega] at this
      exact this
    · have hm := List.mem_of_getElem? hv
      simp only [List.mem_cons, List.not_mem_nil, or_false] at hm
      rcases hm with rfl | rfl | rfl | rfl | rfl | rfl <;> rfl
  have HF := hide (fitP_any (a := some ⟨b, off, none⟩) hr1 hr2 hC (by omega) hL2 fun _ => ⟨b, off, rfl, hcell⟩)
  have HR := hide (And.intro hrow2 (And.intro hP (And.intro hcb (And.intro hn (And.intro hco (And.intro hL hPb))))))
  have g4 : (n : Int) ≤ 1000000 := by omega
  clear hrow hrow2 hP hcb hn hco hL hr1 hr3 hC hPb hbw hcell e e0 hk
  go_enter Tryd.func37, Tryd.ntmps37
  generalize hQQ : bodyPost Tryd.prog Tryd.f37 (XpP cb K L n l w) = QQ
  have HQQ := hide hQQ
  clear hQQ
  go_wp2_with fail
  refine (unhide HF).mono ?_
  rintro e w1 ⟨a2, c2, rfl, hc2, k1, k2, -, k3⟩
  obtain ⟨g, b', off', rfl, e, k4, k5, k6, k7⟩ := k3 h0
  obtain ⟨rfl, rfl⟩ : b = b' ∧ off = off' := by simpa using e
  have hI0 : XIp w cb K g b off n L l 0 w1 := ⟨by simpa [coV, sumN] using k1, k2, k4, k5, k6, fun p _ hp => k7 p (by omega), g + 1, by omega, rfl⟩
  have HI := hide hI0
  have HC2 := hide hc2
  clear k1 k2 k3 k4 k5 k6 k7 hI0 hc2 HF e
  go_wp2_with fail
  go_loopw [12] (fun iv wr => ∃ j : Nat, iv = .int .i64 j ∧ j ≤ n ∧ Hid (XIp w cb K g b off n L l j wr)) (fun iv _ => n - (intOf iv).toNat)
  case atStart => exact ⟨0, rfl, Nat.zero_le _, unhide HI⟩
  case round =>
    obtain ⟨j, rfl, hj, HB⟩ := hrel
    have g3 : (0 : Int) ≤ (j : Int) := by omega
    by_cases hjn : j < n
    rotate_left
    · have g1 : ¬ ((j : Int) < (n : Int)) := by omega
      have g2 : decide ((j : Int) < (n : Int)) = false := by simp; omega
      obtain rfl : j = n := by omega
      have H0 := hide h0
      have H6 := hide hr2
      clear HI hj hjn h0 hr2
      go_wp2
      rw [← unhide HQQ]
      go_ret
      obtain ⟨hrow, hP, hcb, hn, hco, hL, hPb⟩ := unhide HR
      have hI := unhide HB
      obtain ⟨m, hm, hd⟩ := hI.done
      have et : l.take j = l := List.take_of_length_le (by omega)
      rw [et] at hd
      have hcp := hI.cp
      rw [et] at hcp
      refine ⟨_, _, rfl, ⟨by simpa using hn, unhide HC2, unhide H6, by have := hI.but.size; omega, fun hl => ⟨g, 0, rfl, hI.g0, hI.g1, ?_⟩, fun e => ?_⟩, ?_, hI.but⟩
      · exact OLg.wide (p := OPm wr K) (fun _ _ _ _ _ g x => OPm.wide x (Nat.le_refl _) g) _ _ _ _ hl hd hm
      · have e0 : l.length = 0 := by simpa using congrArg List.length e
        exact absurd (hn.trans e0) (unhide H0)
      · rw [show L - (coP K l : Nat) = L - j - coV K l by rw [hco, ← hn]; push_cast; omega]
        exact hcp
    · obtain ⟨hrow, hP, hcb, hn, hco, hL, hPb⟩ := unhide HR
      have hI := unhide HB
      obtain ⟨t, ht⟩ : ∃ t, l[j]? = some t := ⟨_, List.getElem?_eq_getElem (by omega)⟩
      obtain ⟨sa, sn, cs, hr, hls⟩ := hrow j hjn t ht
      obtain rfl : sn = t.t.r.length := hls.1
      have hct : coV K (l.take (j + 1)) = coV K (l.take j) + coL K t.t.r := coV_take ht
      have hcl := coV_take_le K (j + 1) l
      have hlw : LsH wr (fun x => P x ∧ x < w.heap.size) K sa t.t.r.length cs t.t.r := hls.bnd.keep ⟨hI.but.size, fun k hk _ => hI.but.block k hk.2 (hP k hk.1)⟩ fun _ h => h
      have HC := hide (xc_all K wr cb (L - n - coV K (l.take j)) sa t.t.r.length cs t.t.r (fun x => P x ∧ x < w.heap.size) (fun x hx => hP x hx.1) hI.cp hlw (by omega) (by omega))
      have y3 : wr.cell? ⟨g, j * 6 + 3, none⟩ = some (.slice sa t.t.r.length cs) := by
        rw [hI.rest (j * 6 + 3) (by omega) (by omega), ← Nat.add_assoc]
        exact hr 3 _ rfl
      have HZ := hide (And.intro hI (And.intro hcb (And.intro ht (And.intro hr hjn))))
      have g1 : (j : Int) < (n : Int) := by omega
      have g2 : decide ((j : Int) < (n : Int)) = true := by simp; omega
      clear hrow hP hcb hn hco hL hPb hI ht hr hls hct hcl hlw hj HB HI HR h0 hr2
      have HJ := hide hjn
      clear hjn
      go_wp2_with fail
      refine (unhide HC).mono ?_
      rintro e w2 ⟨a3, c3, rfl, k1, k2, k3⟩
      obtain ⟨hI, hcb, ht, hr, hjn⟩ := unhide HZ
      have hg1 := hI.g1
      have hgc : g ≠ cb := by have := hI.g0; omega
      have y5 : w2.cell? ⟨g, j * 6 + 3, none⟩ = some (.slice sa t.t.r.length cs) := (cell_blk (k3.block g hg1 hgc) _).trans y3
      have yf : w2.frozen? ⟨g, j * 6 + 3, none⟩ = false := (froz_blk (k3.block g hg1 hgc) _).trans (hI.fr _)
      have HS := hide (hI.step hcb hjn ht hr k1 k2 k3)
      clear hI hcb ht hr hjn hg1 hgc k1 k2 k3 HC HZ y3
      go_wp2
      exact ⟨⟨j + 1, by push_cast; rfl, by have := unhide HJ; omega, unhide HS⟩, by simp only [intOf]; have := unhide HJ; omega⟩
theorem xp_any {K : Nat} {w : World} {cb n c : Nat} {a : Option Addr} {L : Int} {l : List Pm} {P : Nat → Prop} (hP : ∀ b, P b → b ≠ cb) (hC : CpS w cb L) (hx : PsP w P (.slice a n c) l) (hk : l.all (fun p => p.t.r.all (hiE K)) = true) (hL : (coP K l : Int) ≤ L) (hL2 : L ≤ 1000000) : Calls Tryd.prog 37 #[.pointer (some ⟨cb, 0, none⟩), .slice a n c] w (XpP cb K L n l w) := by
  by_cases h0 : n = 0
  · subst h0
    obtain ⟨a', c', e0, -⟩ := hx
    obtain ⟨-, hn, -⟩ : a = a' ∧ 0 = l.length ∧ c = c' := by simpa using e0
    have hl : l = [] := List.length_eq_zero_iff.1 hn.symm
    subst hl
    exact xp_nil hC (by simp [coP, sumN] at hL; omega) hL2
  · obtain ⟨a', c', e0, hr1, hr2, hr3⟩ := hx
    obtain ⟨rfl, hn, rfl⟩ : a = a' ∧ n = l.length ∧ c = c' := by simpa using e0
    obtain ⟨b', off', rfl, hPb, hbw, hrow⟩ := hr3 (by omega)
    exact xp_some hP hC ⟨_, _, e0, hr1, hr2, hr3⟩ hk h0 hL hL2
end Go.Proofs.YtljhpbjngbbjbaaDoor

/- Package scope: declarations that lie in blocks of their own; the copier between its steps. -/
namespace Go.Proofs.YtljhpbjngbbjbaaDoor
open Go Go.RowKit
def dzC (d : Dz) (x : DeV) : List Value := [.bool d.cell, .string d.name, .string d.num, .bool d.again, .slice x.pa x.pn x.pc, .int .i64 d.eff, .int .i64 d.t.kind, .string d.t.name, .slice x.ta x.tn x.tc, .int .i64 d.t.at', .slice x.ra x.rn x.rc, .string d.res, .slice x.ea x.en x.ec, .slice x.ma x.mn x.mc]
/-- What hangs on a declaration, in blocks of intervals one behind the other. -/
structure ODi (w : World) (K lo i1 i2 i3 i4 i5 hi b o : Nat) (d : Dz) (x : DeV) : Prop where
  cells : w.rangeAt b o (dzC d x)
  place : w.cell? ⟨b, o + 21, none⟩ = some (.int .i64 d.at')
  ps : OSg 6 (OPm w K) lo i1 x.pa x.pn x.pc d.ps
  ty : OSp (OE w K) i1 i2 x.ta x.tn x.tc d.t.r
  req : OSp (OE w K) i2 i3 x.ra x.rn x.rc d.req
  ens : OSp (OE w K) i3 i4 x.ea x.en x.ec d.ens
  mea : OSp (OE w K) i4 i5 x.ma x.mn x.mc d.mea
  body : OE w (K + 1) i5 hi b (o + 14) d.body
def OD (w : World) (K lo hi b o : Nat) (d : Dz) : Prop := ∃ x i1 i2 i3 i4 i5, ODi w K lo i1 i2 i3 i4 i5 hi b o d x
theorem ODi.le {w : World} {K lo i1 i2 i3 i4 i5 hi b o : Nat} {d : Dz} {x : DeV} (h : ODi w K lo i1 i2 i3 i4 i5 hi b o d x) : lo ≤ i1 ∧ i1 ≤ i2 ∧ i2 ≤ i3 ∧ i3 ≤ i4 ∧ i4 ≤ i5 ∧ i5 ≤ hi := ⟨h.ps.2.2.2.1, h.ty.2.2.2.1, h.req.2.2.2.1, h.ens.2.2.2.1, h.mea.2.2.2.1, h.body.le⟩
theorem OD.le {w : World} {K lo hi b o : Nat} {d : Dz} (h : OD w K lo hi b o d) : lo ≤ hi := by
  obtain ⟨x, i1, i2, i3, i4, i5, h⟩ := h
  have := h.le
  omega
theorem ODi.fr {w w' : World} {K lo i1 i2 i3 i4 i5 hi b o H : Nat} {d : Dz} {x : DeV} {S : Nat → Nat → Prop} (h : ODi w K lo i1 i2 i3 i4 i5 hi b o d x) (hf : Fr H S w w') (hb : b < H) (hh : hi ≤ H) (h1 : ∀ j, o ≤ j → j < o + 22 → ¬ S b j) (h2 : ∀ k j, lo ≤ k → k < hi → ¬ S k j) : ODi w' K lo i1 i2 i3 i4 i5 hi b o d x := by
  obtain ⟨l1, l2, l3, l4, l5, l6⟩ := h.le
  refine ⟨fun j v hv => ?_, (hf.cell b _ hb (h1 _ (by omega) (by omega))).trans h.place, OPs.fr h.ps hf (by omega) fun k j k1 k2 => h2 k j (by omega) (by omega), h.ty.fr hf (by omega) fun k j k1 k2 => h2 k j (by omega) (by omega), h.req.fr hf (by omega) fun k j k1 k2 => h2 k j (by omega) (by omega), h.ens.fr hf (by omega) fun k j k1 k2 => h2 k j (by omega) (by omega), h.mea.fr hf (by omega) fun k j k1 k2 => h2 k j (by omega) (by omega), h.body.fr hf hb hh (fun j k1 k2 => h1 j (by omega) (by omega)) fun k j k1 k2 => h2 k j (by omega) (by omega)⟩
  have hj : j < 14 := (List.getElem?_eq_some_iff.1 hv).1
  exact (hf.cell b (o + j) hb (h1 _ (by omega) (by omega))).trans (h.cells j v hv)
theorem OD.fr {w w' : World} {K lo hi b o H : Nat} {d : Dz} {S : Nat → Nat → Prop} (h : OD w K lo hi b o d) (hf : Fr H S w w') (hb : b < H) (hh : hi ≤ H) (h1 : ∀ j, o ≤ j → j < o + 22 → ¬ S b j) (h2 : ∀ k j, lo ≤ k → k < hi → ¬ S k j) : OD w' K lo hi b o d := by
  obtain ⟨x, i1, i2, i3, i4, i5, h⟩ := h
  exact ⟨x, i1, i2, i3, i4, i5, h.fr hf hb hh h1 h2⟩
theorem ODl.fr {w w' : World} {K lo hi q o H : Nat} {l : List Dz} {S : Nat → Nat → Prop} (hx : OLg 22 (OD w K) q lo hi o l) (hf : Fr H S w w') (hb : q < H) (hh : hi ≤ H) (h1 : ∀ j, o ≤ j → j < o + 22 * l.length → ¬ S q j) (h2 : ∀ k j, lo ≤ k → k < hi → ¬ S k j) : OLg 22 (OD w' K) q lo hi o l :=
  OLg.imp l _ _ _ hx fun lo' hi' o' t g1 g2 g3 g4 g5 => g5.fr hf hb (by omega) (fun j k1 k2 => h1 j (by omega) (by omega)) fun k j k1 k2 => h2 k j (by omega) (by omega)
theorem OSg.wide6 {w : World} {K lo hi lo' hi' n c : Nat} {a : Option Addr} {l : List Pr} (hx : OSg 6 (OPm w K) lo hi a n c l) (k1 : lo' ≤ lo) (k2 : hi ≤ hi') : OSg 6 (OPm w K) lo' hi' a n c l := by
  obtain ⟨h3, h4, h5, h6, h7, h8⟩ := hx
  refine ⟨h3, h4, h5, by omega, fun hl => ?_, h8⟩
  obtain ⟨q, o', e, g1, g2, g3⟩ := h7 hl
  exact ⟨q, o', e, by omega, by omega, OLg.wide (p := OPm w K) (fun _ _ _ _ _ g x => OPm.wide x (Nat.le_refl _) g) _ _ _ _ hl g3 k2⟩
theorem OD.wide {w : World} {K lo hi lo' hi' b o : Nat} {d : Dz} (h : OD w K lo hi b o d) (k1 : lo' ≤ lo) (k2 : hi ≤ hi') : OD w K lo' hi' b o d := by
  obtain ⟨x, i1, i2, i3, i4, i5, h⟩ := h
  exact ⟨x, i1, i2, i3, i4, i5, h.cells, h.place, h.ps.wide6 k1 (Nat.le_refl _), h.ty, h.req, h.ens, h.mea, h.body.wide (Nat.le_refl _) k2⟩
/-- All stands below H but two blocks. -/
def Two (cb g : Nat) (k _ : Nat) : Prop := k = cb ∨ k = g
theorem fr_but {cb g : Nat} {w w' : World} {L L' : Int} (hb : But cb w w') (h1 : CpS w cb L) (h2 : CpS w' cb L') : Fr w.heap.size (Two cb g) w w' :=
  ⟨hb.os, hb.tape, hb.output, hb.size, fun k k1 k2 => hb.block k k1 fun e => k2 0 (.inl e), fun k i k1 k2 => cell_blk (hb.block k k1 fun e => k2 (.inl e)) i, fun k i k1 => by
    by_cases e : k = cb
    · subst e
      rw [(blk h1).2.2 i, (blk h2).2.2 i]
    · exact froz_blk (hb.block k k1 e) i⟩
theorem Fr.less {H H' : Nat} {S : Nat → Nat → Prop} {w w' : World} (h : Fr H S w w') (hH : H' ≤ H) : Fr H' S w w' := ⟨h.os, h.tape, h.output, h.size, fun k hk => h.block k (by omega), fun k j hk => h.cell k j (by omega), fun k j hk => h.froz k j (by omega)⟩
theorem range_set {w : World} {b o s : Nat} {cs : List Value} (h : w.rangeAt b o cs) (hs : s < cs.length) (v : Value) : (w.setCell ⟨b, o + s, none⟩ v).rangeAt b o (cs.set s v) := fun j u hu => by
  by_cases e : j = s
  · subst e
    obtain ⟨x, hx⟩ : ∃ x, cs[j]? = some x := ⟨_, List.getElem?_eq_getElem hs⟩
    have : u = v := by simpa [hs] using hu.symm
    subst this
    exact World.cell?_setCell_same _ _ _ (h j x hx)
  · rw [List.getElem?_set_ne (Ne.symm e)] at hu
    exact (cell_ne (.inr (by omega))).trans (h j u hu)
/-- The copier within a round: the declaration's cells as they are now. -/
structure XJ (w : World) (cb K g b off n m : Nat) (l : List De) (j : Nat) (y : List Value) (C : Int) (W : World) : Prop where
  cp : CpS W cb C
  but : But cb w W
  g0 : w.heap.size ≤ g
  g1 : g < W.heap.size
  gm : g + 1 ≤ m
  mm : m ≤ W.heap.size
  fr : ∀ o, W.frozen? ⟨g, o, none⟩ = false
  now : W.rangeAt g (j * 22) y
  rest : ∀ p, 22 * (j + 1) ≤ p → p < 22 * n → W.cell? ⟨g, p, none⟩ = w.cell? ⟨b, off + p, none⟩
  done : OLg 22 (OD W K) g (g + 1) m 0 ((l.take j).map (dr K))
/-- Behind a call of the copier's methods. -/
theorem XJ.called {w : World} {cb K g b off n m j : Nat} {l : List De} {y : List Value} {C C' : Int} {W V : World} (h : XJ w cb K g b off n m l j y C W) (hcb : cb < w.heap.size) (hb : But cb W V) (hc : CpS V cb C') : XJ w cb K g b off n m l j y C' V := by
  have hg := h.g0
  have hs := h.but.size
  have hgc : g ≠ cb := by omega
  have hgs : ∀ o, V.cell? ⟨g, o, none⟩ = W.cell? ⟨g, o, none⟩ := fun o => cell_blk (hb.block g h.g1 hgc) o
  have hf : Fr W.heap.size (fun k _ => k = cb) W V := (fr_but (g := cb) hb h.cp hc).mono fun k j hk => by rcases hk with e | e <;> exact e
  refine ⟨hc, h.but.trans hb, hg, Nat.lt_of_lt_of_le h.g1 hb.size, h.gm, Nat.le_trans h.mm hb.size, fun o => (froz_blk (hb.block g h.g1 hgc) o).trans (h.fr o), fun i v hv => (hgs _).trans (h.now i v hv), fun p p1 p2 => (hgs _).trans (h.rest p p1 p2), ODl.fr h.done hf h.g1 h.mm (fun i k1 k2 hh => hgc hh) fun k i k1 k2 hh => by have := h.gm; omega⟩
/-- Behind a store into the declaration's cells. -/
theorem XJ.stored {w : World} {cb K g b off n m j s : Nat} {l : List De} {y : List Value} {C : Int} {W : World} (h : XJ w cb K g b off n m l j y C W) (hcb : cb < w.heap.size) (hj : j < l.length) (hy : y.length = 22) (hs : s < 22) (v : Value) : XJ w cb K g b off n m l j (y.set s v) C (W.setCell ⟨g, j * 22 + s, none⟩ v) := by
  have hg := h.g0
  have hl : ((l.take j).map (dr K)).length = j := by simp; omega
  have hf : Fr (W.heap.size) (fun k i => k = g ∧ i = j * 22 + s) W (W.setCell ⟨g, j * 22 + s, none⟩ v) := (Fr.refl _ _ _).set _ fun _ => ⟨rfl, rfl⟩
  refine ⟨(heap_set _ _ (by omega)).trans h.cp, but_new h.but hg _ _, hg, by simpa using h.g1, h.gm, by simpa using h.mm, fun o => by rw [World.frozen?_setCell]; exact h.fr o, range_set h.now (by omega) v, fun p p1 p2 => (cell_ne (.inr (by omega))).trans (h.rest p p1 p2), ODl.fr h.done hf h.g1 h.mm (fun i k1 k2 hh => ?_) fun k i k1 k2 hh => ?_⟩
  · rw [hl] at k2
    omega
  · have := h.gm
    omega
end Go.Proofs.YtljhpbjngbbjbaaDoor

/- Package scope: copied. -/
namespace Go.Proofs.YtljhpbjngbbjbaaDoor
open Go Go.RowKit
def coS (h : Nat) (l : List De) : Nat := sumN (l.map (coD h))
theorem coS_take {h j : Nat} {l : List De} {t : De} (ht : l[j]? = some t) : coS h (l.take (j + 1)) = coS h (l.take j) + coD h t := by
  unfold coS
  rw [List.take_add_one, ht]
  simp only [Option.toList, List.map_append, sumN_app]
  simp [sumN]
theorem coS_take_le (h j : Nat) (l : List De) : coS h (l.take j) ≤ coS h l := by
  have := congrArg (coS h) (List.take_append_drop j l)
  unfold coS at this ⊢
  rw [List.map_append, sumN_app] at this
  omega
def DsQ (w : World) (P : Nat → Prop) (v : Value) (l : List De) : Prop := RowP w 22 P v l.length fun j cs => ∀ t, l[j]? = some t → DeP w P cs t
/-- Between declarations. -/
def XK (w : World) (cb K g b off n : Nat) (l : List De) (j : Nat) (W : World) : Prop := CpS W cb (65536 - coS K (l.take j)) ∧ But cb w W ∧ w.heap.size ≤ g ∧ g < W.heap.size ∧ (∀ o, W.frozen? ⟨g, o, none⟩ = false) ∧ (∀ p, 22 * j ≤ p → p < 22 * n → W.cell? ⟨g, p, none⟩ = w.cell? ⟨b, off + p, none⟩) ∧ ∃ m, g + 1 ≤ m ∧ m ≤ W.heap.size ∧ OLg 22 (OD W K) g (g + 1) m 0 ((l.take j).map (dr K))
theorem XK.start {w W : World} {cb K g b off n j m : Nat} {l : List De} {t : De} {x : DeV} (hj : j < n) (h1 : CpS W cb (65536 - coS K (l.take j))) (h2 : But cb w W) (h3 : w.heap.size ≤ g) (h4 : g < W.heap.size) (h5 : ∀ o, W.frozen? ⟨g, o, none⟩ = false) (h6 : ∀ p, 22 * j ≤ p → p < 22 * n → W.cell? ⟨g, p, none⟩ = w.cell? ⟨b, off + p, none⟩) (h7 : g + 1 ≤ m) (h8 : m ≤ W.heap.size) (h9 : OLg 22 (OD W K) g (g + 1) m 0 ((l.take j).map (dr K))) (hr : w.rangeAt b (off + j * 22) (deCells t x)) : XJ w cb K g b off n m l j (deCells t x) (65536 - coS K (l.take j)) W := by
  refine ⟨h1, h2, h3, h4, h7, h8, h5, fun i v hv => ?_, fun p p1 p2 => h6 p (by omega) p2, h9⟩
  have hi : i < 22 := (List.getElem?_eq_some_iff.1 hv).1
  rw [h6 (j * 22 + i) (by omega) (by omega), ← Nat.add_assoc]
  exact hr i v hv
theorem XK.finish {w W : World} {cb K g b off n m j i0 i1 i2 i3 i4 i5 : Nat} {l : List De} {t : De} {x : DeV} {C : Int} (h : XJ w cb K g b off n m l j (deCells t x) C W) (ht : l[j]? = some t) (hC : C = 65536 - coS K (l.take (j + 1))) (hm : m ≤ i0)
    (ps : OSg 6 (OPm W K) i0 i1 x.pa x.pn x.pc (t.ps.map (pr K))) (ty : OSp (OE W K) i1 i2 x.ta x.tn x.tc (t.t.r.map (er K))) (req : OSp (OE W K) i2 i3 x.ra x.rn x.rc (t.req.map (er K))) (ens : OSp (OE W K) i3 i4 x.ea x.en x.ec (t.ens.map (er K))) (mea : OSp (OE W K) i4 i5 x.ma x.mn x.mc (t.mea.map (er K))) (body : OSp (OE W K) i5 W.heap.size x.ba x.bn x.bc (t.body.l.map (er K))) : XK w cb K g b off n l (j + 1) W := by
  have hl : ((l.take j).map (dr K)).length = j := by
    have := (List.getElem?_eq_some_iff.1 ht).1
    simp
    omega
  have l1 := ps.2.2.2.1
  have l2 := ty.2.2.2.1
  have l3 := req.2.2.2.1
  have l4 := ens.2.2.2.1
  have l5 := mea.2.2.2.1
  have l6 := body.2.2.2.1
  refine ⟨by rw [← hC]; exact h.cp, h.but, h.g0, h.g1, h.fr, h.rest, W.heap.size, by have := h.gm; have := h.mm; omega, Nat.le_refl _, ?_⟩
  rw [List.take_add_one, ht]
  simp only [Option.toList, List.map_append, List.map_cons, List.map_nil]
  rw [OLg.split]
  refine ⟨m, h.done, W.heap.size, h.mm, ?_, rfl⟩
  rw [hl]
  have e0 : 0 + 22 * j = j * 22 := by omega
  rw [e0]
  refine ⟨x, i1, i2, i3, i4, i5, fun i v hv => ?_, h.now 21 _ rfl, ps.wide6 hm (Nat.le_refl _), ty, req, ens, mea, x.ba, x.bn, x.bc, fun i v hv => ?_, h.fr _, body⟩
  · refine h.now i v ?_
    have hi : i < 14 := (List.getElem?_eq_some_iff.1 hv).1
    rcases i with _ | _ | _ | _ | _ | _ | _ | _ | _ | _ | _ | _ | _ | _ | i
    all_goals first | exact hv | omega
  · rw [Nat.add_assoc]
    refine h.now (14 + i) v ?_
    have hi : i < 7 := (List.getElem?_eq_some_iff.1 hv).1
    rcases i with _ | _ | _ | _ | _ | _ | _ | i
    all_goals first | exact hv | omega
def CoP (K n : Nat) (l : List De) (w : World) (e : Ending) (w' : World) : Prop := ∃ a2 c2, e = .returned (.slice a2 n c2) ∧ OSg 22 (OD w' K) w.heap.size w'.heap.size a2 n c2 (l.map (dr K)) ∧ Below w.heap.size w w'
theorem de_one {d : De} {x : DeV} : ∀ u ∈ deCells d x, u.oneCell' = true := fun u hu => by
  simp only [deCells, List.mem_cons, List.not_mem_nil, or_false] at hu
  rcases hu with rfl | rfl | rfl | rfl | rfl | rfl | rfl | rfl | rfl | rfl | rfl | rfl | rfl | rfl | rfl | rfl | rfl | rfl | rfl | rfl | rfl | rfl <;> rfl
set_option maxRecDepth 100000 in
set_option maxHeartbeats 8000000 in
theorem copied_some {K : Nat} {w : World} {n c b off : Nat} {l : List De} {P : Nat → Prop} (hx : DsQ w P (.slice (some ⟨b, off, none⟩) n c) l) (hk : l.all (hiD K) = true) (h0 : n ≠ 0) (hL : coS K l ≤ 65536) : Calls Tryd.prog 21 #[.slice (some ⟨b, off, none⟩) n c] w (CoP K n l w) := by
  obtain ⟨a', c', e0, hr1, hr2, hr3⟩ := hx
  obtain ⟨rfl, hn, rfl⟩ : some ⟨b, off, none⟩ = a' ∧ n = l.length ∧ c = c' := by simpa using e0
  rw [← hn] at hr1 hr2 hr3
  obtain ⟨b', off', e, hPb, hbw, hrow⟩ := hr3 h0
  obtain ⟨rfl, rfl⟩ : b = b' ∧ off = off' := by simpa using e
  obtain ⟨A, eA, hbA, hsA, hhA⟩ := box_new w #[.int .i64 65536] 91
  have hrow2 : ∀ j, j < n → ∀ t, l[j]? = some t → ∃ x, w.rangeAt b (off + j * 22) (deCells t x) ∧ DeInP w P t x ∧ hiD K t = true := fun j hj t ht => by
    obtain ⟨cs, k1, k2⟩ := hrow j hj
    obtain ⟨x, rfl, k3⟩ := k2 t ht
    exact ⟨x, k1, k3, List.all_eq_true.1 hk t (List.mem_of_getElem? ht)⟩
  have hcell : ∀ j, j < n * 22 → ∃ u, A.cell? ⟨b, off + j, none⟩ = some u ∧ u.oneCell' = true := fun j hj => by
    obtain ⟨t, ht⟩ : ∃ t, l[j / 22]? = some t := ⟨_, List.getElem?_eq_getElem (by omega)⟩
    obtain ⟨x, k1, -⟩ := hrow2 (j / 22) (by omega) t ht
    obtain ⟨v, hv⟩ : ∃ v, (deCells t x)[j % 22]? = some v := ⟨_, List.getElem?_eq_getElem (by simp [deCells]; omega)⟩
    refine ⟨v, ?_, de_one v (List.mem_of_getElem? hv)⟩
    have := k1 (j % 22) v hv
    rw [show off + j / 22 * 22 + j % 22 = off + j by omega] at this
    exact (hbA.cell (p := ⟨b, off + j, none⟩) hbw).trans this
  obtain ⟨g, cap, w1, hrun, k1, k2, k3, k4, k5, k6⟩ := app_copy (c := c) unD infD22 (by omega) (by omega) (by omega) h0 hr2 hcell 23
  have g4 : (n : Int) ≤ 1000000 := by omega
  have hI0 : XK A w.heap.size K g b off n l 0 w1 := by
    refine ⟨?_, But.of k4, k2, k3, k5, fun p _ hp => k6 p (by omega), g + 1, Nat.le_refl _, by omega, rfl⟩
    have e1 : (65536 - (coS K (l.take 0) : Nat) : Int) = 65536 := by simp [coS, sumN]
    rw [e1]
    exact (k4.block _ (blk hhA).1).trans hhA
  have HI := hide hI0
  rw [← eA] at hrun
  have R1 := hide hrun
  have HR := hide (And.intro hrow2 (And.intro hn (And.intro hL (And.intro hbw (And.intro k1 (And.intro hPb hr2))))))
  have HE := hide (And.intro hbA hsA)
  clear hrow hrow2 hn hL hr1 hr2 hr3 hPb hbw hcell e e0 hk eA hbA hsA hhA hrun k1 k2 k3 k4 k5 k6 hI0
  go_enter Tryd.func21, Tryd.ntmps21
  generalize hQQ : bodyPost Tryd.prog Tryd.f21 (CoP K n l w) = QQ
  have HQQ := hide hQQ
  clear hQQ
  go_wp2_with (at_builtin; refine app_run _ _ _ rfl rfl rfl rfl (unhide R1) ?_; clear R1)
  go_wp2_with fail
  go_loopw [12] (fun iv wr => ∃ j : Nat, iv = .int .i64 j ∧ j ≤ n ∧ Hid (XK A w.heap.size K g b off n l j wr)) (fun iv _ => n - (intOf iv).toNat)
  case atStart => exact ⟨0, rfl, Nat.zero_le _, unhide HI⟩
  case round =>
    obtain ⟨j, rfl, hj, HB⟩ := hrel
    have g3 : (0 : Int) ≤ (j : Int) := by omega
    by_cases hjn : j < n
    rotate_left
    · have g1 : ¬ ((j : Int) < (n : Int)) := by omega
      have g2 : decide ((j : Int) < (n : Int)) = false := by simp; omega
      obtain rfl : j = n := by omega
      have H0 := hide h0
      clear HI hj hjn h0
      go_wp2
      rw [← unhide HQQ]
      go_ret
      obtain ⟨hrow, hn, hL, hbw, hcap, hPb, hn6⟩ := unhide HR
      obtain ⟨-, k2, k3, k4, -, -, m, k7, k8, k9⟩ := unhide HB
      have et : l.take j = l := List.take_of_length_le (by omega)
      rw [et] at k9
      have hbA := (unhide HE).1
      have hsA := (unhide HE).2
      refine ⟨_, _, rfl, ⟨by simpa using hn, hcap, hn6, by have := k2.size; omega, fun hl => ⟨g, 0, rfl, by omega, k4, ?_⟩, fun e => ?_⟩, hbA.trans ⟨k2.os, k2.tape, k2.output, k2.size, fun k hk => k2.block k (by omega) (by omega)⟩⟩
      · exact OLg.wide (p := OD wr K) (fun _ _ _ _ _ g x => OD.wide x (Nat.le_refl _) g) _ _ _ _ hl k9 k8
      · have e0 : l.length = 0 := by simpa using congrArg List.length e
        exact absurd (hn.trans e0) (unhide H0)
    · obtain ⟨hrow, hn, hL, hbw, hcap, hPb, hn6⟩ := unhide HR
      obtain ⟨k1, k2, k3, k4, k5, k6, m, k7, k8, k9⟩ := unhide HB
      obtain ⟨t, ht⟩ : ∃ t, l[j]? = some t := ⟨_, List.getElem?_eq_getElem (by omega)⟩
      obtain ⟨x, hr, hin, hid⟩ := hrow j hjn t ht
      have hbA := (unhide HE).1
      have hsA := (unhide HE).2
      have hJ := XK.start hjn k1 k2 k3 k4 k5 k6 k7 k8 k9 (range_same hr (hbA.block b hbw))
      have hcb : w.heap.size < A.heap.size := by omega
      have hct := coS_take (h := K) ht
      have hcl := coS_take_le K (j + 1) l
      have hcd : coD K t = coP K t.ps + coL K t.t.r + coL K t.req + coL K t.ens + coL K t.mea + coL K t.body.l := rfl
      unfold hiD at hid
      simp only [Bool.and_eq_true] at hid
      obtain ⟨⟨⟨⟨⟨d1, d2⟩, d3⟩, d4⟩, d5⟩, d6⟩ := hid
      have hinb := hin.bnd
      have hSrc : ∀ W, But w.heap.size A W → DeInP W (fun x => P x ∧ x < w.heap.size) t x := fun W hW => hinb.keep ⟨Nat.le_trans hbA.size hW.size, fun k hk _ => (hW.block k (by have := hk.2; omega) (by have := hk.2; omega)).trans (hbA.block k hk.2)⟩ fun _ h => h
      obtain ⟨C, hC⟩ : ∃ C : Int, C = 65536 - coS K (l.take j) := ⟨_, rfl⟩
      rw [← hC] at hJ
      have g1 : (j : Int) < (n : Int) := by omega
      have g2 : decide ((j : Int) < (n : Int)) = true := by simp; omega
      have hjl : j < l.length := by omega
      have HN := hide (And.intro ht (And.intro hC (And.intro hct (And.intro hcl (And.intro hcd (And.intro hL (And.intro hjn k8)))))))
      have HS := hide hSrc
      have HD := hide (And.intro d1 (And.intro d2 (And.intro d3 (And.intro d4 (And.intro d5 d6)))))
      have hC6 : (coP K t.ps + coL K t.t.r + coL K t.req + coL K t.ens + coL K t.mea + coL K t.body.l : Int) ≤ C := by push_cast at *; omega
      have hC7 : C ≤ 65536 := by omega
      have HC6 := hide (And.intro hC6 (And.intro hC7 hjl))
      have HCB := hide hcb
      have HJ0 := hide hJ
      clear hrow hn hL hbw hcap hPb hn6 k1 k2 k3 k4 k5 k6 k7 k8 k9 ht hr hin hJ hct hcl hcd d1 d2 d3 d4 d5 d6 hinb hSrc hC hj hjn hC6 hC7 hjl HI HR h0 hbA hsA hcb
      have hJ := unhide HJ0
      have z0 : wr.cell? ⟨g, j * 22 + 4, none⟩ = some (.slice x.pa x.pn x.pc) := hJ.now 4 _ rfl
      have HC0 := hide (xp_any (K := K) (L := C) (P := fun x => P x ∧ x < w.heap.size) (fun q hq e => by have := hq.2; omega) hJ.cp ((unhide HS) _ hJ.but).ps (unhide HD).1 (by have := unhide HC6; omega) (by have := unhide HC6; omega))
      clear hJ
      go_wp2_with fail
      refine (unhide HC0).mono ?_
      rintro e v0 ⟨a0, c0, rfl, p0, q0, b0⟩
      have hJ := (unhide HJ0).called (unhide HCB) b0 q0
      have y0 : v0.cell? ⟨g, j * 22 + 4, none⟩ = some (.slice x.pa x.pn x.pc) := hJ.now 4 _ rfl
      have f0 := hJ.fr (j * 22 + 4)
      have hst := hJ.stored (s := 4) (unhide HCB) (unhide HC6).2.2 rfl (by omega) (.slice a0 x.pn c0)
      have HP0 := hide (And.intro p0 (And.intro hJ.g1 (fr_but (g := g) b0 (unhide HJ0).cp q0)))
      obtain ⟨u0, eu0⟩ : ∃ u, v0.setCell ⟨g, j * 22 + 4, none⟩ (.slice a0 x.pn c0) = u := ⟨_, rfl⟩
      rw [eu0] at hst
      have hft : Fr v0.heap.size (Two w.heap.size g) v0 u0 := by rw [← eu0]; exact (Fr.refl _ _ _).set _ fun _ => .inr rfl
      have hsz : u0.heap.size = v0.heap.size := by rw [← eu0]; simp
      have HJ1 : Hid (XJ A w.heap.size K g b off n m l j (deCells t ⟨a0, x.pn, c0, x.ta, x.tn, x.tc, x.ra, x.rn, x.rc, x.ea, x.en, x.ec, x.ma, x.mn, x.mc, x.ba, x.bn, x.bc⟩) (C - coP K t.ps) u0) := hst
      have HF0 := hide (And.intro hft hsz)
      clear hJ hst p0 q0 b0 hft hsz z0 HC0
      have hJ := unhide HJ1
      have z1 : u0.cell? ⟨g, j * 22 + 8, none⟩ = some (.slice x.ta x.tn x.tc) := hJ.now 8 _ rfl
      have HC1 := hide (xc_all K u0 w.heap.size (C - coP K t.ps) x.ta x.tn x.tc t.t.r (fun x => P x ∧ x < w.heap.size) (fun q hq e => by have := hq.2; omega) hJ.cp (((unhide HS) _ hJ.but).ty.high (unhide HD).2.1) (by have := unhide HC6; omega) (by have := unhide HC6; omega))
      clear hJ
      go_wp2_with fail
      refine (unhide HC1).mono ?_
      rintro e v1 ⟨a1, c1, rfl, p1, q1, b1⟩
      have hJ := (unhide HJ1).called (unhide HCB) b1 q1
      have y1 : v1.cell? ⟨g, j * 22 + 8, none⟩ = some (.slice x.ta x.tn x.tc) := hJ.now 8 _ rfl
      have f1 := hJ.fr (j * 22 + 8)
      have hst := hJ.stored (s := 8) (unhide HCB) (unhide HC6).2.2 rfl (by omega) (.slice a1 x.tn c1)
      have HP1 := hide (And.intro p1 (And.intro hJ.g1 (fr_but (g := g) b1 (unhide HJ1).cp q1)))
      obtain ⟨u1, eu1⟩ : ∃ u, v1.setCell ⟨g, j * 22 + 8, none⟩ (.slice a1 x.tn c1) = u := ⟨_, rfl⟩
      rw [eu1] at hst
      have hft : Fr v1.heap.size (Two w.heap.size g) v1 u1 := by rw [← eu1]; exact (Fr.refl _ _ _).set _ fun _ => .inr rfl
      have hsz : u1.heap.size = v1.heap.size := by rw [← eu1]; simp
      have HJ2 : Hid (XJ A w.heap.size K g b off n m l j (deCells t ⟨a0, x.pn, c0, a1, x.tn, c1, x.ra, x.rn, x.rc, x.ea, x.en, x.ec, x.ma, x.mn, x.mc, x.ba, x.bn, x.bc⟩) (C - coP K t.ps - coL K t.t.r) u1) := hst
      have HF1 := hide (And.intro hft hsz)
      clear hJ hst p1 q1 b1 hft hsz z1 HC1
      have hJ := unhide HJ2
      have z2 : u1.cell? ⟨g, j * 22 + 10, none⟩ = some (.slice x.ra x.rn x.rc) := hJ.now 10 _ rfl
      have HC2 := hide (xc_all K u1 w.heap.size (C - coP K t.ps - coL K t.t.r) x.ra x.rn x.rc t.req (fun x => P x ∧ x < w.heap.size) (fun q hq e => by have := hq.2; omega) hJ.cp (((unhide HS) _ hJ.but).req.high (unhide HD).2.2.1) (by have := unhide HC6; omega) (by have := unhide HC6; omega))
      clear hJ
      go_wp2_with fail
      refine (unhide HC2).mono ?_
      rintro e v2 ⟨a2, c2, rfl, p2, q2, b2⟩
      have hJ := (unhide HJ2).called (unhide HCB) b2 q2
      have y2 : v2.cell? ⟨g, j * 22 + 10, none⟩ = some (.slice x.ra x.rn x.rc) := hJ.now 10 _ rfl
      have f2 := hJ.fr (j * 22 + 10)
      have hst := hJ.stored (s := 10) (unhide HCB) (unhide HC6).2.2 rfl (by omega) (.slice a2 x.rn c2)
      have HP2 := hide (And.intro p2 (And.intro hJ.g1 (fr_but (g := g) b2 (unhide HJ2).cp q2)))
      obtain ⟨u2, eu2⟩ : ∃ u, v2.setCell ⟨g, j * 22 + 10, none⟩ (.slice a2 x.rn c2) = u := ⟨_, rfl⟩
      rw [eu2] at hst
      have hft : Fr v2.heap.size (Two w.heap.size g) v2 u2 := by rw [← eu2]; exact (Fr.refl _ _ _).set _ fun _ => .inr rfl
      have hsz : u2.heap.size = v2.heap.size := by rw [← eu2]; simp
      have HJ3 : Hid (XJ A w.heap.size K g b off n m l j (deCells t ⟨a0, x.pn, c0, a1, x.tn, c1, a2, x.rn, c2, x.ea, x.en, x.ec, x.ma, x.mn, x.mc, x.ba, x.bn, x.bc⟩) (C - coP K t.ps - coL K t.t.r - coL K t.req) u2) := hst
      have HF2 := hide (And.intro hft hsz)
      clear hJ hst p2 q2 b2 hft hsz z2 HC2
      have hJ := unhide HJ3
      have z3 : u2.cell? ⟨g, j * 22 + 12, none⟩ = some (.slice x.ea x.en x.ec) := hJ.now 12 _ rfl
      have HC3 := hide (xc_all K u2 w.heap.size (C - coP K t.ps - coL K t.t.r - coL K t.req) x.ea x.en x.ec t.ens (fun x => P x ∧ x < w.heap.size) (fun q hq e => by have := hq.2; omega) hJ.cp (((unhide HS) _ hJ.but).ens.high (unhide HD).2.2.2.1) (by have := unhide HC6; omega) (by have := unhide HC6; omega))
      clear hJ
      go_wp2_with fail
      refine (unhide HC3).mono ?_
      rintro e v3 ⟨a3, c3, rfl, p3, q3, b3⟩
      have hJ := (unhide HJ3).called (unhide HCB) b3 q3
      have y3 : v3.cell? ⟨g, j * 22 + 12, none⟩ = some (.slice x.ea x.en x.ec) := hJ.now 12 _ rfl
      have f3 := hJ.fr (j * 22 + 12)
      have hst := hJ.stored (s := 12) (unhide HCB) (unhide HC6).2.2 rfl (by omega) (.slice a3 x.en c3)
      have HP3 := hide (And.intro p3 (And.intro hJ.g1 (fr_but (g := g) b3 (unhide HJ3).cp q3)))
      obtain ⟨u3, eu3⟩ : ∃ u, v3.setCell ⟨g, j * 22 + 12, none⟩ (.slice a3 x.en c3) = u := ⟨_, rfl⟩
      rw [eu3] at hst
      have hft : Fr v3.heap.size (Two w.heap.size g) v3 u3 := by rw [← eu3]; exact (Fr.refl _ _ _).set _ fun _ => .inr rfl
      have hsz : u3.heap.size = v3.heap.size := by rw [← eu3]; simp
      have HJ4 : Hid (XJ A w.heap.size K g b off n m l j (deCells t ⟨a0, x.pn, c0, a1, x.tn, c1, a2, x.rn, c2, a3, x.en, c3, x.ma, x.mn, x.mc, x.ba, x.bn, x.bc⟩) (C - coP K t.ps - coL K t.t.r - coL K t.req - coL K t.ens) u3) := hst
      have HF3 := hide (And.intro hft hsz)
      clear hJ hst p3 q3 b3 hft hsz z3 HC3
      have hJ := unhide HJ4
      have z4 : u3.cell? ⟨g, j * 22 + 13, none⟩ = some (.slice x.ma x.mn x.mc) := hJ.now 13 _ rfl
      have HC4 := hide (xc_all K u3 w.heap.size (C - coP K t.ps - coL K t.t.r - coL K t.req - coL K t.ens) x.ma x.mn x.mc t.mea (fun x => P x ∧ x < w.heap.size) (fun q hq e => by have := hq.2; omega) hJ.cp (((unhide HS) _ hJ.but).mea.high (unhide HD).2.2.2.2.1) (by have := unhide HC6; omega) (by have := unhide HC6; omega))
      clear hJ
      go_wp2_with fail
      refine (unhide HC4).mono ?_
      rintro e v4 ⟨a4, c4, rfl, p4, q4, b4⟩
      have hJ := (unhide HJ4).called (unhide HCB) b4 q4
      have y4 : v4.cell? ⟨g, j * 22 + 13, none⟩ = some (.slice x.ma x.mn x.mc) := hJ.now 13 _ rfl
      have f4 := hJ.fr (j * 22 + 13)
      have hst := hJ.stored (s := 13) (unhide HCB) (unhide HC6).2.2 rfl (by omega) (.slice a4 x.mn c4)
      have HP4 := hide (And.intro p4 (And.intro hJ.g1 (fr_but (g := g) b4 (unhide HJ4).cp q4)))
      obtain ⟨u4, eu4⟩ : ∃ u, v4.setCell ⟨g, j * 22 + 13, none⟩ (.slice a4 x.mn c4) = u := ⟨_, rfl⟩
      rw [eu4] at hst
      have hft : Fr v4.heap.size (Two w.heap.size g) v4 u4 := by rw [← eu4]; exact (Fr.refl _ _ _).set _ fun _ => .inr rfl
      have hsz : u4.heap.size = v4.heap.size := by rw [← eu4]; simp
      have HJ5 : Hid (XJ A w.heap.size K g b off n m l j (deCells t ⟨a0, x.pn, c0, a1, x.tn, c1, a2, x.rn, c2, a3, x.en, c3, a4, x.mn, c4, x.ba, x.bn, x.bc⟩) (C - coP K t.ps - coL K t.t.r - coL K t.req - coL K t.ens - coL K t.mea) u4) := hst
      have HF4 := hide (And.intro hft hsz)
      clear hJ hst p4 q4 b4 hft hsz z4 HC4
      have hJ := unhide HJ5
      have z5 : u4.cell? ⟨g, j * 22 + 18, none⟩ = some (.slice x.ba x.bn x.bc) := hJ.now 18 _ rfl
      have HC5 := hide (xc_all K u4 w.heap.size (C - coP K t.ps - coL K t.t.r - coL K t.req - coL K t.ens - coL K t.mea) x.ba x.bn x.bc t.body.l (fun x => P x ∧ x < w.heap.size) (fun q hq e => by have := hq.2; omega) hJ.cp (((unhide HS) _ hJ.but).body.high (unhide HD).2.2.2.2.2) (by have := unhide HC6; omega) (by have := unhide HC6; omega))
      clear hJ
      go_wp2_with fail
      refine (unhide HC5).mono ?_
      rintro e v5 ⟨a5, c5, rfl, p5, q5, b5⟩
      have hJ := (unhide HJ5).called (unhide HCB) b5 q5
      have y5 : v5.cell? ⟨g, j * 22 + 18, none⟩ = some (.slice x.ba x.bn x.bc) := hJ.now 18 _ rfl
      have f5 := hJ.fr (j * 22 + 18)
      have hst := hJ.stored (s := 18) (unhide HCB) (unhide HC6).2.2 rfl (by omega) (.slice a5 x.bn c5)
      have HP5 := hide (And.intro p5 (And.intro hJ.g1 (fr_but (g := g) b5 (unhide HJ5).cp q5)))
      obtain ⟨u5, eu5⟩ : ∃ u, v5.setCell ⟨g, j * 22 + 18, none⟩ (.slice a5 x.bn c5) = u := ⟨_, rfl⟩
      rw [eu5] at hst
      have hft : Fr v5.heap.size (Two w.heap.size g) v5 u5 := by rw [← eu5]; exact (Fr.refl _ _ _).set _ fun _ => .inr rfl
      have hsz : u5.heap.size = v5.heap.size := by rw [← eu5]; simp
      have HJ6 : Hid (XJ A w.heap.size K g b off n m l j (deCells t ⟨a0, x.pn, c0, a1, x.tn, c1, a2, x.rn, c2, a3, x.en, c3, a4, x.mn, c4, a5, x.bn, c5⟩) (C - coP K t.ps - coL K t.t.r - coL K t.req - coL K t.ens - coL K t.mea - coL K t.body.l) u5) := hst
      have HF5 := hide (And.intro hft hsz)
      clear hJ hst p5 q5 b5 hft hsz z5 HC5
      go_wp2_with fail
      have hK : XK A w.heap.size K g b off n l (j + 1) u5 := by
        obtain ⟨ht, hC, hct, hcl, hcd, hL, hjn, k8⟩ := unhide HN
        have hcb := unhide HCB
        obtain ⟨p0, gv0, b0⟩ := unhide HP0
        obtain ⟨t0, s0⟩ := unhide HF0
        obtain ⟨p1, gv1, b1⟩ := unhide HP1
        obtain ⟨t1, s1⟩ := unhide HF1
        obtain ⟨p2, gv2, b2⟩ := unhide HP2
        obtain ⟨t2, s2⟩ := unhide HF2
        obtain ⟨p3, gv3, b3⟩ := unhide HP3
        obtain ⟨t3, s3⟩ := unhide HF3
        obtain ⟨p4, gv4, b4⟩ := unhide HP4
        obtain ⟨t4, s4⟩ := unhide HF4
        obtain ⟨p5, gv5, b5⟩ := unhide HP5
        obtain ⟨t5, s5⟩ := unhide HF5
        have gj0 := (unhide HJ0).g1
        have bs0 := b0.size
        have gj1 := (unhide HJ1).g1
        have bs1 := b1.size
        have gj2 := (unhide HJ2).g1
        have bs2 := b2.size
        have gj3 := (unhide HJ3).g1
        have bs3 := b3.size
        have gj4 := (unhide HJ4).g1
        have bs4 := b4.size
        have gj5 := (unhide HJ5).g1
        have bs5 := b5.size
        have bb := (unhide HJ0).but.size
        have T5 := t5
        have T4 := t4.trans ((b5.less (H' := v4.heap.size) (by omega)).trans (T5.less (H' := v4.heap.size) (by omega)))
        have T3 := t3.trans ((b4.less (H' := v3.heap.size) (by omega)).trans (T4.less (H' := v3.heap.size) (by omega)))
        have T2 := t2.trans ((b3.less (H' := v2.heap.size) (by omega)).trans (T3.less (H' := v2.heap.size) (by omega)))
        have T1 := t1.trans ((b2.less (H' := v1.heap.size) (by omega)).trans (T2.less (H' := v1.heap.size) (by omega)))
        have T0 := t0.trans ((b1.less (H' := v0.heap.size) (by omega)).trans (T1.less (H' := v0.heap.size) (by omega)))
        rw [s0] at p1
        rw [s1] at p2
        rw [s2] at p3
        rw [s3] at p4
        rw [s4] at p5
        have r0 := OPs.fr p0 T0 (Nat.le_refl _) (fun k' i q1 q2 hh => by rcases hh with hh | hh <;> omega)
        have r1 := p1.fr T1 (Nat.le_refl _) (fun k' i q1 q2 hh => by rcases hh with hh | hh <;> omega)
        have r2 := p2.fr T2 (Nat.le_refl _) (fun k' i q1 q2 hh => by rcases hh with hh | hh <;> omega)
        have r3 := p3.fr T3 (Nat.le_refl _) (fun k' i q1 q2 hh => by rcases hh with hh | hh <;> omega)
        have r4 := p4.fr T4 (Nat.le_refl _) (fun k' i q1 q2 hh => by rcases hh with hh | hh <;> omega)
        have r5 := p5.fr T5 (Nat.le_refl _) (fun k' i q1 q2 hh => by rcases hh with hh | hh <;> omega)
        rw [← s5] at r5
        exact XK.finish (unhide HJ6) ht (by rw [hC]; push_cast at *; omega) k8 r0 r1 r2 r3 r4 r5
      have HK := hide hK
      have HJN := hide (unhide HN).2.2.2.2.2.2.1
      exact ⟨⟨j + 1, by push_cast; rfl, unhide HJN, unhide HK⟩, by simp only [intOf]; have := unhide HJN; omega⟩
end Go.Proofs.YtljhpbjngbbjbaaDoor

namespace Go.Proofs.YtljhpbjngbbjbaaDoor
open Go Go.RowKit
def OsP (H r mc md mb K lo hi : Nat) (a : Option Addr) (n c : Nat) (x : List Er × RZ) (w : World) (e : Ending) (w' : World) : Prop := e = .returned (.tuple #[]) ∧ RSt H r mc md mb w' x.2 ∧ OSp (OE w' K) lo hi a n c x.1 ∧ Fr H (Foot lo hi 0 0 0) w w'
theorem os_in {H lo hi q o n : Nat} {w w' : World} (hf : Fr H (Foot (q + 1) hi q o n) w w') (h1 : lo ≤ q) (h2 : q < hi) : Fr H (Foot lo hi 0 0 0) w w' := hf.mono fun k j hk => by
  rcases hk with ⟨g1, g2⟩ | ⟨g1, g2, g3⟩
  · exact .inl ⟨by omega, g2⟩
  · exact .inl ⟨by omega, by omega⟩
theorem xrow_os {H r mc md mb K lo hi n c : Nat} {a : Option Addr} {w : World} {z : RZ} {l : List Er} (h : RSt H r mc md mb w z) (hx : OSp (OE w K) lo hi a n c l) (hh : hi ≤ H) (hFi : Fi K z) : Calls Tryd.prog 58 #[.pointer (some ⟨r, 0, none⟩), .slice a n c] w (OsP H r mc md mb K lo hi a n c (thr (rxE K) z l) w) := by
  obtain ⟨h3, h4, h5, h6, h7, h8⟩ := hx
  cases l with
  | nil =>
    obtain rfl : n = 0 := h3
    refine (exprs_nil h).mono ?_
    rintro e w' ⟨rfl, k1, k2⟩
    exact ⟨rfl, k1, ⟨rfl, h4, h5, h6, fun e => absurd rfl e, h8⟩, Fr.of _ k2⟩
  | cons t l =>
    obtain ⟨q, o, rfl, g1, g2, g3⟩ := h7 (by simp)
    refine (xrow_of (ec_all H r mc md mb K) h g3 ⟨by omega, hh, .inl (by omega)⟩ hFi h3 h4 h5).mono ?_
    rintro e w' ⟨rfl, k1, k2, k3⟩
    refine ⟨rfl, k1, ⟨h3.trans (thr_len _ _).symm, h4, h5, h6, fun _ => ⟨q, o, rfl, g1, g2, k2⟩, fun e => ?_⟩, os_in k3 g1 g2⟩
    have := congrArg List.length e
    rw [thr_len] at this
    simp at this
theorem xund_os {H r mc md mb K lo hi n c : Nat} {a : Option Addr} {w : World} {z : RZ} {l : List Er} (s : ByteArray) (h : RSt H r mc md mb w z) (hx : OSp (OE w K) lo hi a n c l) (hh : hi ≤ H) (hFi : Fi (K + 1) z) : Calls Tryd.prog 59 #[.pointer (some ⟨r, 0, none⟩), .string s, .slice a n c] w (OsP H r mc md mb K lo hi a n c (undS (thr (rxE K)) s z l) w) := by
  obtain ⟨h3, h4, h5, h6, h7, h8⟩ := hx
  cases l with
  | nil =>
    obtain rfl : n = 0 := h3
    refine (under_gen (s := s) (z := z) (y := z.setB (z.depth + 1) s (z.depth + 1)) (R := fun w3 => Below H w w3) h (hFi.down (by omega)) rfl fun w1 hR1 hb1 => ?_).mono ?_
    · refine (exprs_nil hR1).mono ?_
      rintro e w' ⟨rfl, k1, k2⟩
      exact ⟨rfl, k1, hb1.trans k2⟩
    · rintro e w' ⟨rfl, k1, w3, k2, k3⟩
      exact ⟨rfl, k1, ⟨rfl, h4, h5, h6, fun e => absurd rfl e, h8⟩, Fr.of _ (k2.trans k3)⟩
  | cons t l =>
    obtain ⟨q, o, rfl, g1, g2, g3⟩ := h7 (by simp)
    refine (xund_any (ec_all H r mc md mb K) s h g3 ⟨by omega, hh, .inl (by omega)⟩ hFi h3 h4 h5 (fun _ => rfl)).mono ?_
    rintro e w' ⟨rfl, k1, k2, k3⟩
    have hl : (undS (thr (rxE K)) s z (t :: l)).1.length = (t :: l).length := thr_len (t :: l) _
    refine ⟨rfl, k1, ⟨h3.trans hl.symm, h4, h5, h6, fun _ => ⟨q, o, rfl, g1, g2, k2⟩, fun e => ?_⟩, os_in k3 g1 g2⟩
    have := congrArg List.length e
    rw [hl] at this
    simp at this
/-- A parameter whose row has been gone through. -/
theorem OPm.row {H K lo hi b o : Nat} {w w' : World} {p : Pr} {l' : List Er} {a : Option Addr} {n c : Nat} (hx : OPm w K lo hi b o p) (hA : Ap H lo hi b) (h3 : w.cell? ⟨b, o + 3, none⟩ = some (.slice a n c)) (hf : Fr H (Foot lo hi 0 0 0) w w') (h : OSp (OE w' K) lo hi a n c l') : OPm w' K lo hi b o (p.setR l') ∧ Fr H (Foot lo hi b o 6) w w' := by
  obtain ⟨a2, n2, c2, k1, k2⟩ := hx
  have e := k1 3 _ rfl
  rw [h3] at e
  obtain ⟨rfl, rfl, rfl⟩ : a = a2 ∧ n = n2 ∧ c = c2 := by simpa using e
  have ho := hA.o1
  refine ⟨⟨a, n, c, fun j v hv => (hf.cell b (o + j) hA.b1 fun hk => ?_).trans (k1 j v ?_), h⟩, hf.mono fun k j hk => ?_⟩
  · rcases hk with ⟨g1, g2⟩ | ⟨g1, g2, g3⟩ <;> omega
  · rcases j with _ | _ | _ | _ | _ | _ | j
    all_goals exact hv
  · rcases hk with ⟨g1, g2⟩ | ⟨g1, g2, g3⟩
    · exact .inl ⟨g1, g2⟩
    · omega
theorem OPm.low {H K lo hi b o : Nat} {w w' : World} {p : Pr} (hx : OPm w K lo hi b o p) (hA : Ap H lo hi b) (h : Below H w w') : OPm w' K lo hi b o p := hx.fr (Fr.of (fun _ _ => False) h) hA.b1 hA.h1 (fun _ _ _ h => h) fun _ _ _ _ h => h
def PaP (H r mc md mb K lo hi b o : Nat) (x : Pr × RZ) (w : World) (e : Ending) (w' : World) : Prop := e = .returned (.tuple #[]) ∧ RSt H r mc md mb w' x.2 ∧ OPm w' K lo hi b o x.1 ∧ Fr H (Foot lo hi b o 6) w w'
end Go.Proofs.YtljhpbjngbbjbaaDoor
