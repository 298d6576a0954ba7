/- The check of a term. -/
import Derived.Test.YtegmckpcchhmdaaDoorZAI
import Derived.Laws.MakeOwn
import Derived.Laws.OwnMore
set_option linter.unusedVariables false
set_option linter.unusedSimpArgs false

/- A TAll, checked. -/
namespace Go.Proofs.YtegmckpcchhmdaaDoor
open Go Go.RowKit
theorem infInt : (Tryd.prog.info? 3).map (fun i => (i.zero, i.size, i.bytes)) = some (some (.int .i64 0), 1, 8) := by kernel_rfl
theorem tInts : Tryd.prog.underlying 39 = some (.slice 3) := by kernel_rfl
set_option maxRecDepth 100000 in
theorem cut_last (g n cap : Nat) (h : n + 1 ≤ cap) (hm : cap ≤ 9223372036854775807) (w : World) : (Instr.slice 39 (.slice (some ⟨g, 0, none⟩) (n + 1) cap) none (some (.int .i64 (n : Int))) none).run Tryd.prog w = .ok (.slice (some ⟨g, 0, none⟩) n cap) w := by
  have h0 : (0 : Int) ≤ (n : Int) := by omega
  have h1 : (n : Int) ≤ (cap : Int) := by omega
  have hc : ¬ cap = 0 := by omega
  unfold Instr.slice
  simp [run_underlying tInts, Instr.sliceBounds, run_sliceBound _ _ _ _ _ h0 h1, hc]
  go_simp
def allP (e : Int) : Int × Int := if e ≠ 0 then (0, e) else (2, 0)
theorem KS.asked {w : World} {B r rf rb : Nat} {sig : List Fn} {env : ByteArray → List Int} (hK : KS w B r rf rb sig env) (k : ByteArray) : ∃ es v, NM w rb es ∧ v = (look k es).getD (.slice none 0 0) ∧ ∀ w', Below w.heap.size w w' → NM w' rb es ∧ (Instr.lookup 96 (.map (some rb)) (.string k) false).run Tryd.prog w' = .ok v w' := by
  obtain ⟨es, h1, h2⟩ := hK.bm
  refine ⟨es, _, h1, rfl, fun w' h => ?_⟩
  have h3 := h1.below h h1.lt
  exact ⟨h3, (nm_lookup (k := k) umB ukS (zB w') h3).2⟩
set_option maxRecDepth 1000000 in
set_option maxHeartbeats 16000000 in
theorem universal_any {rt : ByteArray → Bool} {sig : List Fn} {d : Nat} (ih : KTermC rt sig d) {B r rf rb : Nat} {env : ByteArray → List Int} {w : World} {b o : Nat} {t : Tm} (hT : TmAt w B (d + 1) b o t) (hO : OkT (PC rt) (d + 1) t) (hR : RL w) (hK : KS w B r rf rb sig env) (hE : ∀ k, (env k).length + t.wt ≤ 1000000) (h1 : t.l.length = 1) :
    Calls Tryd.prog 39 #[.pointer (some ⟨r, 0, none⟩), .agg #[.pointer (some ⟨b, o, none⟩)]] w (KPo (allP (t.under rt sig (bindV t.vars env))) B r rf rb sig env w) := by
  obtain ⟨i0, hi0, hz0, hz1, hz2⟩ := inf_of infInt
  have hBw : B ≤ w.heap.size := by have := hK.r_lt; have := hK.hr; omega
  have hrb := hK.rb_lt
  have HT := hide hT
  have HO := hide hO
  obtain ⟨hb, _, _, aL, aV, aP, cL, cV, cP, hrg, hL, hV, hP, _⟩ := hT
  have hbw : b < w.heap.size := by omega
  have hB0 : 0 < B := by omega
  have hvm : t.vars.length ≤ 281474976710656 := by have := hV.1; have := hV.2.1; omega
  obtain ⟨V, eV, hbV, hsV, hcV, hhV⟩ := box_new w #[.pointer (some ⟨b, o, none⟩)] 82
  have hKV := hK.below hbV (Nat.le_refl _)
  have v0 : V.cell? ⟨w.heap.size, 0, none⟩ = some (.pointer (some ⟨b, o, none⟩)) := hcV 0 _ rfl
  obtain ⟨nv, hnv⟩ : ∃ n, t.vars.length = n := ⟨_, rfl⟩
  have HNV := hide hnv
  have v5 : V.cell? ⟨b, o + 5, none⟩ = some (.slice aV nv cV) := by
    rw [← hnv]
    exact (hbV.cell (p := ⟨b, o + 5, none⟩) hbw).trans (hrg 5 _ rfl)
  rw [hnv] at hvm
  have hwt : ∀ k, (env k).length + t.vars.length + (lwt t.l + lwt t.pat) ≤ 1000000 := fun k => by
    have := hE k
    rw [t.wt_eq] at this
    unfold lwt
    omega
  have HVar := hide hV
  have HG := hide hrg
  have HE := hide hwt
  have HR := hide hR
  have HIH := hide ih
  have HK := hide hK
  have HV := hide (And.intro hKV (And.intro (CF.of hbV (Nat.le_refl _) hrb) hhV))
  have H1 := hide h1
  clear hO hrg hL hV hP hwt hR ih hK hE hbV hsV hcV hhV hKV hnv h1
  go_enter Tryd.func39, Tryd.ntmps39
  go_wp2
  go_loopw [18] (fun iv wr => ∃ i : Nat, i ≤ nv ∧ iv = .int .i64 (i : Int) ∧ KS wr B r rf rb sig (bindV (t.vars.take i) env) ∧ CF rb w wr ∧ wr.heap[w.heap.size]? = some (.cells #[.pointer (some ⟨b, o, none⟩)] 82)) (fun iv _ => (nv - (intOf iv).toNat))
  case atStart => exact ⟨0, Nat.zero_le _, rfl, (unhide HV)⟩
  case round =>
    obtain ⟨i, hi, rfl, hKi, hCi, hqi⟩ := hrel
    clear v0 v5 eV
    by_cases hlt : i < nv
    · have h1 : i < t.vars.length := by have := unhide HNV; omega
      have hd1 : decide ((i : Int) < (nv : Int)) = true := by simp; omega
      have hXi : (i : Int) < (nv : Int) := by omega
      have hcap : (i : Int) < 281474976710656 := by omega
      obtain ⟨bv, ov, rfl, hbvB, hjv⟩ := (unhide HVar).2.2 (by have := unhide HNV; omega)
      obtain ⟨rg, hfit⟩ := hjv i h1 _ (List.getElem?_eq_getElem h1)
      have hbeli : Below B w wr := (unhide HK).cf_below hCi
      have hsn : bindV (t.vars.take (i + 1)) env = bind1 t.vars[i].1 t.vars[i].2 (bindV (t.vars.take i) env) := by rw [take_more h1, bindV_snoc]
      have hlen : (bindV (t.vars.take i) env t.vars[i].1).length + 1 ≤ 1000001 := by
        have h2 := (bindV_len t.vars[i].1 (t.vars.take i) env).1
        have h3 := cnt_le t.vars[i].1 (t.vars.take i)
        rw [List.length_take] at h3
        have h4 := unhide HE t.vars[i].1
        omega
      generalize hu : t.vars[i] = u at *
      obtain ⟨u1, u2⟩ := u
      have p0 : wr.cell? ⟨bv, ov + i * 2, none⟩ = some (.string u1) := (hbeli.cell (p := ⟨bv, ov + i * 2, none⟩) hbvB).trans (rg 0 _ rfl)
      have p1 : wr.cell? ⟨bv, ov + i * 2 + 1, none⟩ = some (.int .i64 u2) := (hbeli.cell (p := ⟨bv, ov + i * 2 + 1, none⟩) hbvB).trans (rg 1 _ rfl)
      have hbvr : bv < wr.heap.size := by have := hKi.hr; have := hKi.r_lt; omega
      obtain ⟨V, eV, hbV, hsV, hcV, hhV⟩ := box_new wr #[.string u1, .int .i64 u2] 36
      have hKV := hKi.below hbV (Nat.le_refl _)
      have hrb2 := hKi.rb_lt
      have hCV : CF rb w V := hCi.trans (CF.of hbV (Nat.le_refl _) hrb2)
      have hqlt := (Array.getElem?_eq_some_iff.1 hqi).1
      have hqV := (hbV.block w.heap.size hqlt).trans hqi
      have hVlt : wr.heap.size < V.heap.size := by omega
      obtain ⟨es, v, hes, hv, hask⟩ := hKV.asked u1
      have hrow := hKV.row hes hv
      obtain ⟨va, vn, vc, rfl⟩ : ∃ va vn vc, v = .slice va vn vc := by
        rcases hrow.2 with ⟨h, _⟩ | ⟨g, cap, cur, h, _⟩
        · exact ⟨_, _, _, h⟩
        · exact ⟨_, _, _, h⟩
      have HSS : Hid (∀ w', Below V.heap.size V w' → (Below V.heap.size V w' ∧ w'.cell? ⟨r, 1, none⟩ = some (.map (some rb)) ∧ w'.cell? ⟨wr.heap.size, 0, none⟩ = some (.string u1) ∧ w'.cell? ⟨wr.heap.size, 1, none⟩ = some (.int .i64 u2) ∧ (Instr.lookup 96 (.map (some rb)) (.string u1) false).run Tryd.prog w' = .ok (.slice va vn vc) w')) := fun w' h => ⟨h, (hKV.below h (Nat.le_refl _)).cells.2, (h.cell (p := ⟨wr.heap.size, 0, none⟩) hVlt).trans ((blk hhV).2.1 0 _ rfl), (h.cell (p := ⟨wr.heap.size, 1, none⟩) hVlt).trans ((blk hhV).2.1 1 _ rfl), (hask w' h).2⟩
      obtain ⟨_, m1, n0, n1, _⟩ := unhide HSS V (Below.refl _ V)
      have HBx := hide hhV
      have HKV := hide (And.intro hKV (And.intro hCV (And.intro hqV (And.intro hes (And.intro hv (And.intro hask (And.intro hrow (And.intro hsn (And.intro hfit hlen)))))))))
      clear hjv rg hfit hbeli hsn hlen hu hbV hsV hcV hhV hKV hCV hqV hes hv hask hrow hKi hCi hqi hqlt hrb2 hVlt
      go_wp2
      clear eV
      have HA : Hid (∀ A : World, A.heap = (V.alloc (.cells #[.int .i64 u2] 3)).heap → A.os = V.os → A.tape = V.tape → A.output = V.output → KS A B r rf rb sig (bindV (t.vars.take i) env) ∧ A.ownsRow B 3 1 (.slice va vn vc) (bindV (t.vars.take i) env u1).length ((bindV (t.vars.take i) env u1).map (Value.int .i64)) ∧ (∀ j u, [Value.int .i64 u2][j]? = some u → A.cell? ((⟨V.heap.size, 0, none⟩ : Addr).add j) = some u) ∧ B ≤ A.heap.size ∧ A.heap.size = V.heap.size + 1 ∧ NM A rb es ∧ Below V.heap.size V A) := fun A hA h1 h2 h3 => by
        obtain ⟨hKV, hCV, hqV, hes, hv, hask, hrow, hsn, hfit, hlen⟩ := unhide HKV
        have hb0 := (Below.refl V.heap.size V).alloc (Nat.le_refl _) (.cells #[.int .i64 u2] 3)
        have hbA : Below V.heap.size V A := ⟨h1, h2, h3, by rw [hA]; exact hb0.size, fun k hk => by rw [hA]; exact hb0.block k hk⟩
        have hKA := hKV.below hbA (Nat.le_refl _)
        have hNA := (hask A hbA).1
        refine ⟨hKA, hKA.row hNA hv, ?_, by have := hKA.hr; have := hKA.r_lt; omega, by rw [hA]; simp, hNA, hbA⟩
        have hnb : A.heap[V.heap.size]? = some (.cells #[.int .i64 u2] 3) := by rw [hA]; exact new_block V _ _
        exact World.news_of_block hnb
      have HAft : Hid (∀ A : World, A.heap = (V.alloc (.cells #[.int .i64 u2] 3)).heap → A.os = V.os → A.tape = V.tape → A.output = V.output → ∀ (g cap : Nat) (w1 : World), w1.ownsRow B 3 1 (.slice (some ⟨g, 0, none⟩) ((bindV (t.vars.take i) env u1).length + 1) cap) ((bindV (t.vars.take i) env u1).length + 1) ((bindV (t.vars.take i) env u1).map (Value.int .i64) ++ [.int .i64 u2]) → A.grownBy w1 (Value.slice va vn vc).ownBlock → ((Value.slice va vn vc).ownBlock = some g ∨ g = V.heap.size + 1) →
          ∃ W9, (Instr.mapUpdate 96 (.map (some rb)) (.string u1) (.slice (some ⟨g, 0, none⟩) ((bindV (t.vars.take i) env u1).length + 1) cap)).run Tryd.prog w1 = .ok () W9 ∧ (w1.cell? ⟨r, 1, none⟩ = some (.map (some rb)) ∧ w1.cell? ⟨wr.heap.size, 0, none⟩ = some (.string u1) ∧ w1.cell? ⟨wr.heap.size, 1, none⟩ = some (.int .i64 u2)) ∧ (W9.cell? ⟨r, 1, none⟩ = some (.map (some rb)) ∧ W9.cell? ⟨wr.heap.size, 0, none⟩ = some (.string u1) ∧ W9.cell? ⟨wr.heap.size, 1, none⟩ = some (.int .i64 u2)) ∧ KS W9 B r rf rb sig (bindV (t.vars.take (i + 1)) env) ∧ CF rb w W9 ∧ W9.heap[w.heap.size]? = some (.cells #[.pointer (some ⟨b, o, none⟩)] 82)) := fun A hA h1 h2 h3 g cap w1 hown hgrow hat => by
        obtain ⟨hKA, hrowA, hnews, hBA, hsA, hNA, hbA⟩ := unhide HA A hA h1 h2 h3
        obtain ⟨hKV, hCV, hqV, hes, hv, hask, hrow, hsn, hfit, hlen⟩ := unhide HKV
        have hnown : ∀ q, ¬ OB A rb q → some q ≠ (Value.slice va vn vc).ownBlock := fun q ho e => ho (look_own hNA hv e.symm).2
        have hbox : ∀ (q : Nat) (cs : Array Value) (ty : TypeId), V.heap[q]? = some (.cells cs ty) → ty ≠ 3 → w1.heap[q]? = some (.cells cs ty) := fun q cs ty hq ht => by
          have hqA := (hbA.block q (Array.getElem?_eq_some_iff.1 hq).1).trans hq
          rw [hgrow.block q (Array.getElem?_eq_some_iff.1 hqA).1 (hnown q (type_free hKA hqA ht))]
          exact hqA
        have hrbo : some rb ≠ (Value.slice va vn vc).ownBlock := hnown rb (hKA.map_free hNA)
        have hN1 : NM w1 rb es := hNA.same (hgrow.block rb hKA.rb_lt hrbo)
        obtain ⟨W9, hrun, hput, hN9⟩ := nm_update (P := Tryd.prog) (k := u1) (v := .slice (some ⟨g, 0, none⟩) ((bindV (t.vars.take i) env u1).length + 1) cap) umB ukS hN1
        obtain ⟨hK9, hC9⟩ := hKA.bound hNA hv hfit rfl hown hgrow (by rw [hsA]; exact hat) hN9 hput
        have hhV : V.heap[wr.heap.size]? = some (.cells #[.string u1, .int .i64 u2] 36) := unhide HBx
        have hput9 : ∀ (q : Nat) (cs : Array Value) (ty : TypeId), V.heap[q]? = some (.cells cs ty) → ty ≠ 3 → W9.heap[q]? = some (.cells cs ty) := fun q cs ty hq ht => (hput.block q (cells_ne hKV hq)).trans (hbox q cs ty hq ht)
        have hCA : CF rb V A := CF.of hbA (Nat.le_refl _) hKV.rb_lt
        refine ⟨W9, hrun, ⟨(blk (hbox r _ _ hKV.blk (by decide))).2.1 1 _ rfl, (blk (hbox _ _ _ hhV (by decide))).2.1 0 _ rfl, (blk (hbox _ _ _ hhV (by decide))).2.1 1 _ rfl⟩, ⟨hK9.cells.2, (blk (hput9 _ _ _ hhV (by decide))).2.1 0 _ rfl, (blk (hput9 _ _ _ hhV (by decide))).2.1 1 _ rfl⟩, by rw [hsn]; exact hK9, hCV.trans (hCA.trans hC9), (hCA.trans hC9).blk hqV (cells_ne hKV hqV) (type_free hKV hqV (by decide))⟩
      have HSC : Hid (∀ w', Below V.heap.size V w' → (w'.cell? ⟨r, 1, none⟩ = some (.map (some rb)) ∧ w'.cell? ⟨wr.heap.size, 0, none⟩ = some (.string u1) ∧ w'.cell? ⟨wr.heap.size, 1, none⟩ = some (.int .i64 u2))) := fun w' h => ⟨(unhide HSS w' h).2.1, (unhide HSS w' h).2.2.1, (unhide HSS w' h).2.2.2.1⟩
      have hlk1 := (unhide HSS _ (keep0 V)).2.2.2.2
      have hlk2 := fun x => (unhide HSS _ (((Below.refl _ V).alloc (Nat.le_refl _) x).drew)).2.2.2.2
      have hone : ∀ u ∈ [Value.int .i64 u2], u.oneCell' = true := by intro u hu; simp at hu; subst hu; rfl
      have hlen := (unhide HKV).2.2.2.2.2.2.2.2.2
      have h63 : (bindV (t.vars.take i) env u1).length + 1 ≤ maxLen := by unfold maxLen; omega
      have hby : ((bindV (t.vars.take i) env u1).length + 1) * 8 ≤ 140737488355328 := by omega
      have HNum := hide (And.intro hone (And.intro h63 hby))
      clear hone h63 hby hlen
      go_region_held3 (fun w' => w'.cell? ⟨r, 1, none⟩ = some (.map (some rb)) ∧ w'.cell? ⟨wr.heap.size, 0, none⟩ = some (.string u1) ∧ w'.cell? ⟨wr.heap.size, 1, none⟩ = some (.int .i64 u2)) (first | assumption | exact (unhide HS10) | exact (unhide HS9) | exact unhide HSC _ (keep0 _) | exact unhide HSC _ ((keep0 _).alloc (keep0 _).size _) | exact unhide HSC _ (((Below.refl _ _).alloc (Nat.le_refl _) _).drew))
        ((refine step_append_lies _ (by rfl) _ _ _ (by rfl) B 3 i0 (.int .i64 0) 1 8 tInts hi0 hz0 hz1 hz2 rfl (by omega) (.slice va vn vc) _ _ (by rfl) (unhide HA _ rfl rfl rfl rfl).2.1 ⟨V.heap.size, 0, none⟩ 1 1 [.int .i64 u2] (by rfl) rfl (unhide HA _ rfl rfl rfl rfl).2.2.1 (unhide HNum).1 (by omega) (unhide HNum).2.1 (unhide HNum).2.2 (unhide HA _ rfl rfl rfl rfl).2.2.2.1 (V.heap.size + 1) (unhide HA _ rfl rfl rfl rfl).2.2.2.2.1 ?_; intro g cap w1 hown hgrow hat hlt1; obtain ⟨W9, hrun, hS9, hS10, h10⟩ := unhide HAft ((V.alloc (.cells #[.int .i64 u2] 3)).drew) rfl rfl rfl rfl g cap w1 hown hgrow hat; have HS9 := hide hS9; have HS10 := hide hS10; have H10 := hide h10; clear hown hgrow hat hlt1 hS9 hS10 h10))
      all_goals
        clear hrun hlk1 hlk2
        go_wp2
        obtain ⟨hK9, hC9, hq9⟩ := unhide H10
        exact ⟨⟨i + 1, by omega, rfl, hK9, hC9, hq9⟩, by simp only [intOf]; omega⟩
    · have hin : i = nv := by omega
      have hd1 : decide ((i : Int) < (nv : Int)) = false := by simp; omega
      have htake : t.vars.take i = t.vars := List.take_of_length_le (by have := unhide HNV; omega)
      rw [htake] at hKi
      have hbeli : Below B w wr := (unhide HK).cf_below hCi
      have q0 : wr.cell? ⟨w.heap.size, 0, none⟩ = some (.pointer (some ⟨b, o, none⟩)) := (blk hqi).2.1 0 _ rfl
      have HUn := hide (under_any (unhide HIH) ((unhide HT).more hbeli (Nat.le_refl _) (Nat.le_refl _)) (unhide HO) ((unhide HR).below hbeli hB0) hKi (fun k => by
        have h2 := (bindV_len k t.vars env).1
        have h3 := cnt_le k t.vars
        have h4 := unhide HE k
        omega) (unhide H1))
      have HI := hide (And.intro hKi (And.intro hCi hqi))
      clear htake hKi hCi hqi hin hbeli
      generalize hue : t.under rt sig (bindV t.vars env) = ue at *
      have HUe := hide hue
      clear hue
      go_wp2_with fail
      refine (unhide HUn).mono ?_
      rintro e w3 ⟨rfl, hK3, hC3⟩
      obtain ⟨hKi, hCi, hqi⟩ := unhide HI
      have hq3 := hC3.blk hqi (cells_ne hKi hqi) (type_free hKi hqi (by decide))
      have hC03 := hCi.trans hC3
      have hbel3 : Below B w w3 := (unhide HK).cf_below hC03
      have q3 : w3.cell? ⟨w.heap.size, 0, none⟩ = some (.pointer (some ⟨b, o, none⟩)) := (blk hq3).2.1 0 _ rfl
      have d5 : w3.cell? ⟨b, o + 5, none⟩ = some (.slice aV nv cV) := by
        rw [← unhide HNV]
        exact (hbel3.cell (p := ⟨b, o + 5, none⟩) hb).trans ((unhide HG) 5 _ rfl)
      have H3 := hide (And.intro hK3 hC03)
      clear hK3 hC3 hKi hCi hqi hq3 hC03 hbel3 q0 HUn HI
      go_wp2
      go_loopw [50] (fun iv ws => ∃ j : Nat, j ≤ nv ∧ iv = .int .i64 (j : Int) ∧ KS ws B r rf rb sig (unb (t.vars.take j) (bindV t.vars env)) ∧ CF rb w ws) (fun iv _ => (nv - (intOf iv).toNat))
      case atStart => exact ⟨0, Nat.zero_le _, rfl, unhide H3⟩
      case round =>
        obtain ⟨j, hj, rfl, hKj, hCj⟩ := hrel
        clear q3 d5
        by_cases hlt2 : j < nv
        · have h1 : j < t.vars.length := by have := unhide HNV; omega
          have hd2 : decide ((j : Int) < (nv : Int)) = true := by simp; omega
          have hXj : (j : Int) < (nv : Int) := by omega
          have hcapj : (j : Int) < 281474976710656 := by omega
          obtain ⟨bv, ov, rfl, hbvB, hjv⟩ := (unhide HVar).2.2 (by have := unhide HNV; omega)
          obtain ⟨rg, hfit⟩ := hjv j h1 _ (List.getElem?_eq_getElem h1)
          have hbelj : Below B w wr := (unhide HK).cf_below hCj
          have hsn : unb (t.vars.take (j + 1)) (bindV t.vars env) = drop1 t.vars[j].1 (unb (t.vars.take j) (bindV t.vars env)) := by rw [take_more h1, unb_snoc]
          obtain ⟨n, hn⟩ := unb_pos h1 env
          have hnle : n ≤ 1000000 := by
            have h2 := unb_le t.vars[j].1 (t.vars.take j) (bindV t.vars env)
            have h3 := (bindV_len t.vars[j].1 t.vars env).1
            have h4 := cnt_le t.vars[j].1 t.vars
            have h5 := unhide HE t.vars[j].1
            omega
          generalize hu : t.vars[j] = u at *
          obtain ⟨u1, u2⟩ := u
          have p0 : wr.cell? ⟨bv, ov + j * 2, none⟩ = some (.string u1) := (hbelj.cell (p := ⟨bv, ov + j * 2, none⟩) hbvB).trans (rg 0 _ rfl)
          have p1 : wr.cell? ⟨bv, ov + j * 2 + 1, none⟩ = some (.int .i64 u2) := (hbelj.cell (p := ⟨bv, ov + j * 2 + 1, none⟩) hbvB).trans (rg 1 _ rfl)
          have hbvr : bv < wr.heap.size := by have := hKj.hr; have := hKj.r_lt; omega
          obtain ⟨V, eV, hbV, hsV, hcV, hhV⟩ := box_new wr #[.string u1, .int .i64 u2] 36
          have hKV := hKj.below hbV (Nat.le_refl _)
          have hCV : CF rb w V := hCj.trans (CF.of hbV (Nat.le_refl _) hKj.rb_lt)
          have hVlt : wr.heap.size < V.heap.size := by omega
          obtain ⟨es, v, hes, hv, hask⟩ := hKV.asked u1
          have hrow := hKV.row hes hv
          rw [hn] at hrow
          obtain ⟨g, cap, cur, rfl, hgB, hg, hncap, hcapm, hcsz, htk⟩ : ∃ g cap cur, v = .slice (some ⟨g, 0, none⟩) (n + 1) cap ∧ B ≤ g ∧ V.heap[g]? = some (.cells cur 3 (0, 0)) ∧ n + 1 ≤ cap ∧ cap ≤ maxLen ∧ cur.size = cap * 1 ∧ cur.toList.take ((n + 1) * 1) = (unb (t.vars.take j) (bindV t.vars env) u1).map (Value.int .i64) := by
            rcases hrow.2 with ⟨_, h⟩ | ⟨g, cap, cur, h⟩
            · omega
            · exact ⟨g, cap, cur, h⟩
          have hlook : look u1 es = some (.slice (some ⟨g, 0, none⟩) (n + 1) cap) := (look_own hes hv (g := g) rfl).1
          have HSC : Hid (∀ w', Below V.heap.size V w' → (w'.cell? ⟨r, 1, none⟩ = some (.map (some rb)) ∧ w'.cell? ⟨wr.heap.size, 0, none⟩ = some (.string u1) ∧ w'.cell? ⟨wr.heap.size, 1, none⟩ = some (.int .i64 u2))) := fun w' h => ⟨(hKV.below h (Nat.le_refl _)).cells.2, (h.cell (p := ⟨wr.heap.size, 0, none⟩) hVlt).trans ((blk hhV).2.1 0 _ rfl), (h.cell (p := ⟨wr.heap.size, 1, none⟩) hVlt).trans ((blk hhV).2.1 1 _ rfl)⟩
          have hlk1 := (hask _ (keep0 V)).2
          have hKVd := hKV.below (keep0 V) (Nat.le_refl _)
          obtain ⟨W9, hrun, hput, hN9⟩ := nm_update (P := Tryd.prog) (k := u1) (v := .slice (some ⟨g, 0, none⟩) n cap) umB ukS (hask _ (keep0 V)).1
          obtain ⟨hK9, hC9⟩ := hKVd.unbound (hask _ (keep0 V)).1 hlook hn hN9 hput
          have HS10 : Hid (W9.cell? ⟨r, 1, none⟩ = some (.map (some rb)) ∧ W9.cell? ⟨wr.heap.size, 0, none⟩ = some (.string u1) ∧ W9.cell? ⟨wr.heap.size, 1, none⟩ = some (.int .i64 u2)) := by
            have hx : W9.heap[wr.heap.size]? = some (.cells #[.string u1, .int .i64 u2] 36) := (hput.block _ (cells_ne hKV hhV)).trans hhV
            exact ⟨hK9.cells.2, (blk hx).2.1 0 _ rfl, (blk hx).2.1 1 _ rfl⟩
          rw [← hsn] at hK9
          have H10 := hide (And.intro hK9 ((hCV.trans (CF.of (keep0 V) (Nat.le_refl _) hKV.rb_lt)).trans hC9))
          have hwr : IntKind.i64.wrap (((n + 1 : Nat) : Int) - 1) = (n : Int) := by simp only [IntKind.wrap_i64]; omega
          have hwr3 : IntKind.i64.wrap (n : Int) = (n : Int) := by simp only [IntKind.wrap_i64]; omega
          have HNle := hide hnle
          clear hnle
          have hsl := fun w => cut_last g n cap hncap (by unfold maxLen at hcapm; omega) w
          obtain ⟨m1, n0, n1⟩ := unhide HSC V (Below.refl _ V)
          clear hjv rg hfit hbelj hsn hn hu hbV hsV hcV hhV hKV hCV hVlt hes hv hask hrow hgB hg hncap hcapm hcsz htk hlook hKVd hput hN9 hK9 hC9 hKj hCj
          generalize n + 1 = N at *
          go_wp2
          clear eV
          go_region_held3 (fun w' => w'.cell? ⟨r, 1, none⟩ = some (.map (some rb)) ∧ w'.cell? ⟨wr.heap.size, 0, none⟩ = some (.string u1) ∧ w'.cell? ⟨wr.heap.size, 1, none⟩ = some (.int .i64 u2)) (first | assumption | exact (unhide HS10) | exact unhide HSC _ (keep0 _)) (fail)
          all_goals
            clear hrun hlk1 hsl
            go_wp2
            obtain ⟨hK9, hC9⟩ := unhide H10
            exact ⟨⟨j + 1, by omega, rfl, hK9, hC9⟩, by simp only [intOf]; omega⟩
        · have hjn : j = nv := by omega
          have hd2 : decide ((j : Int) < (nv : Int)) = false := by simp; omega
          have htake : t.vars.take j = t.vars := List.take_of_length_le (by have := unhide HNV; omega)
          rw [htake, unb_bindV] at hKj
          have HJ := hide (And.intro hKj hCj)
          clear htake hKj hCj hjn
          by_cases h0 : ue = 0
          · subst h0
            go_wp2
            go_ret2
            exact ⟨rfl, unhide HJ⟩
          · have e0 : (ue != 0) = true := by simp [h0]
            have H0 := hide h0
            clear h0
            go_wp2
            go_ret2
            refine ⟨?_, unhide HJ⟩
            unfold allP
            rw [if_pos (unhide H0)]
            rfl
end Go.Proofs.YtegmckpcchhmdaaDoor

/- The check of a term: plain facts; a slice that is filled. -/
namespace Go.Proofs.YtegmckpcchhmdaaDoor
open Go Go.RowKit
theorem Tm.chk_eq (rt : ByteArray → Bool) (sig : List Fn) (t : Tm) (env : ByteArray → List Int) : t.chk rt sig env =
    if shapeE rt sig t.op t.name t.num t.l.length (headOp t.l) t.vars t.pat.length ≠ 0 then (0, shapeE rt sig t.op t.name t.num t.l.length (headOp t.l) t.vars t.pat.length)
    else if t.op = 18 then varE t.name t.sort env
    else if t.op = 19 then allP (t.under rt sig (bindV t.vars env))
    else if (chkL (t.l.map (Tm.chk rt sig)) env).2 ≠ 0 then (0, (chkL (t.l.map (Tm.chk rt sig)) env).2)
    else match sortOfT sig t.op t.name (chkL (t.l.map (Tm.chk rt sig)) env).1 with
      | some s => (s, 0)
      | none => (0, 31) := by
  have hp : ∀ (l : List Tm) (e : ByteArray → List Int), patEs (l.map fun p => ((limE p, p.op, p.bare), Tm.chk rt sig p)) e = l.map (Tm.patE rt sig e) := fun l e => by
    unfold patEs
    rw [List.map_map]
    rfl
  cases t
  rw [Tm.chk]
  simp only [hp]
  rfl
theorem chkL_snoc (fs : List ((ByteArray → List Int) → Int × Int)) (f : (ByteArray → List Int) → Int × Int) (env : ByteArray → List Int) (h : (chkL fs env).2 = 0) : chkL (fs ++ [f]) env = if (f env).2 ≠ 0 then ((chkL fs env).1, (f env).2) else ((chkL fs env).1 ++ [(f env).1], 0) := by
  induction fs with
  | nil =>
    show (if (f env).2 ≠ 0 then ([], (f env).2) else ((f env).1 :: (chkL [] env).1, (chkL [] env).2)) = _
    rfl
  | cons g fs ih =>
    show (if (g env).2 ≠ 0 then ([], (g env).2) else ((g env).1 :: (chkL (fs ++ [f]) env).1, (chkL (fs ++ [f]) env).2)) = _
    have h' : (if (g env).2 ≠ 0 then (([] : List Int), (g env).2) else ((g env).1 :: (chkL fs env).1, (chkL fs env).2)).2 = 0 := h
    by_cases hg : (g env).2 = 0
    · rw [if_neg (by simp [hg])] at h' ⊢
      rw [ih h']
      have e : chkL (g :: fs) env = ((g env).1 :: (chkL fs env).1, (chkL fs env).2) := by
        show (if (g env).2 ≠ 0 then ([], (g env).2) else ((g env).1 :: (chkL fs env).1, (chkL fs env).2)) = _
        rw [if_neg (by simp [hg])]
      rw [e]
      by_cases hf : (f env).2 = 0
      · simp [hf]
      · simp [hf]
    · rw [if_pos hg] at h'
      exact absurd h' hg
theorem chkL_at {fs : List ((ByteArray → List Int) → Int × Int)} {env : ByteArray → List Int} {i : Nat} (h : i < fs.length) (h0 : (chkL (fs.take i) env).2 = 0) (he : (fs[i] env).2 ≠ 0) : (chkL fs env).2 = (fs[i] env).2 := by
  induction fs generalizing i with
  | nil => simp at h
  | cons g fs ih =>
    show (if (g env).2 ≠ 0 then (([] : List Int), (g env).2) else ((g env).1 :: (chkL fs env).1, (chkL fs env).2)).2 = _
    cases i with
    | zero =>
      have he' : (g env).2 ≠ 0 := he
      rw [if_pos he']
      rfl
    | succ i =>
      have h0' : (if (g env).2 ≠ 0 then (([] : List Int), (g env).2) else ((g env).1 :: (chkL (fs.take i) env).1, (chkL (fs.take i) env).2)).2 = 0 := h0
      by_cases hg : (g env).2 = 0
      · rw [if_neg (by simp [hg])] at h0' ⊢
        have h2 : i < fs.length := by simpa using h
        show (chkL fs env).2 = (fs[i] env).2
        exact ih h2 h0' he
      · rw [if_pos hg] at h0'
        exact absurd h0' hg
/-- A row of ints that is being filled. -/
def SB (w : World) (g n : Nat) (ss : List Int) : Prop := ∃ cur, w.heap[g]? = some (.cells cur 3) ∧ cur.size = n ∧ ss.length ≤ n ∧ cur.toList.take ss.length = ss.map (Value.int .i64)
theorem SB.put {w : World} {g n : Nat} {ss : List Int} (h : SB w g n ss) (hl : ss.length < n) (s : Int) : SB (w.setCell ⟨g, ss.length, none⟩ (.int .i64 s)) g n (ss ++ [s]) := by
  obtain ⟨cur, h1, h2, h3, h4⟩ := h
  refine ⟨_, set_block h1 _, by simpa using h2, by simp; omega, ?_⟩
  rw [Array.toList_setIfInBounds, List.length_append, List.length_singleton, List.take_succ_eq_append_getElem (by simp; omega), List.map_append, ← h4]
  congr 1
  · rw [List.take_set_of_le (Nat.le_refl _)]
  · simp
theorem SB.cell {w : World} {g n : Nat} {ss : List Int} (h : SB w g n ss) {i : Nat} (hi : i < n) : ∃ x, w.cell? ⟨g, i, none⟩ = some x ∧ w.frozen? ⟨g, i, none⟩ = false := by
  obtain ⟨cur, h1, h2, h3, h4⟩ := h
  exact ⟨_, (blk h1).2.1 i _ (Array.getElem?_eq_getElem (by omega)), (blk h1).2.2 i⟩
theorem SB.ints {w : World} {g n : Nat} {ss : List Int} (h : SB w g n ss) (hl : ss.length = n) (hm : n ≤ 65536) : Ints w (.slice (some ⟨g, 0, none⟩) n n) ss := by
  obtain ⟨cur, h1, h2, h3, h4⟩ := h
  refine ⟨_, n, by rw [hl], by omega, fun _ => ⟨g, 0, rfl, (Array.getElem?_eq_some_iff.1 h1).1, fun j x hx => ?_⟩⟩
  have hj : j < ss.length := (List.getElem?_eq_some_iff.1 hx).1
  have e5 : cur[j]? = some (.int .i64 x) := by
    have : (cur.toList.take ss.length)[j]? = some (.int .i64 x) := by rw [h4, List.getElem?_map, hx]; rfl
    rw [List.getElem?_take, if_pos hj] at this
    simpa using this
  simp only [Nat.zero_add]
  exact (blk h1).2.1 j _ e5
theorem mkInts (n : Nat) (w : World) (hn : n ≤ 65536) : (Instr.makeSlice 39 (.int .i64 (n : Int)) (.int .i64 (n : Int))).run Tryd.prog w = .ok (.slice (some ⟨w.heap.size, 0, none⟩) n n) (w.alloc (.cells (madeCells #[.int .i64 0] n) 3)) := by
  obtain ⟨i0, hi, hz0, hz1, hz2⟩ := inf_of infInt
  have hr := run_make (P := Tryd.prog) w 39 3 i0 (.int .i64 0) tInts hi hz0 .i64 .i64 n n (by omega) (Int.le_refl _) (by rw [hz2]; omega) (by omega)
  rw [hz1] at hr
  simp only [Int.toNat_natCast, Nat.mul_one] at hr
  exact hr
theorem SB.new (w : World) (n : Nat) : SB (w.alloc (.cells (madeCells #[.int .i64 0] n) 3)) w.heap.size n [] := by
  refine ⟨_, new_block w _ _, ?_, Nat.zero_le _, rfl⟩
  have : (madeCells #[Value.int .i64 0] n).toList = List.replicate n (.int .i64 0) := by rw [toList_madeCells_one]
  have h2 := congrArg List.length this
  simpa using h2
end Go.Proofs.YtegmckpcchhmdaaDoor

namespace Go.Proofs.YtegmckpcchhmdaaDoor
open Go Go.RowKit
theorem chk_shape {rt : ByteArray → Bool} {sig : List Fn} {t : Tm} {env : ByteArray → List Int} {e : Int} (h : shapeE rt sig t.op t.name t.num t.l.length (headOp t.l) t.vars t.pat.length = e) (he : e ≠ 0) : t.chk rt sig env = (0, e) := by
  rw [Tm.chk_eq, h, if_pos he]
theorem chk_var {rt : ByteArray → Bool} {sig : List Fn} {t : Tm} {env : ByteArray → List Int} (h : shapeE rt sig t.op t.name t.num t.l.length (headOp t.l) t.vars t.pat.length = 0) (h18 : t.op = 18) : t.chk rt sig env = varE t.name t.sort env := by
  rw [Tm.chk_eq, h, if_neg (by simp), if_pos h18]
theorem chk_all {rt : ByteArray → Bool} {sig : List Fn} {t : Tm} {env : ByteArray → List Int} (h : shapeE rt sig t.op t.name t.num t.l.length (headOp t.l) t.vars t.pat.length = 0) (h19 : t.op = 19) : t.chk rt sig env = allP (t.under rt sig (bindV t.vars env)) := by
  rw [Tm.chk_eq, h, if_neg (by simp), if_neg (by omega), if_pos h19]
theorem chk_bad {rt : ByteArray → Bool} {sig : List Fn} {t : Tm} {env : ByteArray → List Int} (h : shapeE rt sig t.op t.name t.num t.l.length (headOp t.l) t.vars t.pat.length = 0) (h18 : t.op ≠ 18) (h19 : t.op ≠ 19) {e : Int} (hc : (chkL (t.l.map (Tm.chk rt sig)) env).2 = e) (he : e ≠ 0) : t.chk rt sig env = (0, e) := by
  rw [Tm.chk_eq, h, if_neg (by simp), if_neg h18, if_neg h19, hc, if_pos he]
theorem chk_good {rt : ByteArray → Bool} {sig : List Fn} {t : Tm} {env : ByteArray → List Int} (h : shapeE rt sig t.op t.name t.num t.l.length (headOp t.l) t.vars t.pat.length = 0) (h18 : t.op ≠ 18) (h19 : t.op ≠ 19) (hc : (chkL (t.l.map (Tm.chk rt sig)) env).2 = 0) : t.chk rt sig env = match sortOfT sig t.op t.name (chkL (t.l.map (Tm.chk rt sig)) env).1 with
    | some s => (s, 0)
    | none => (0, 31) := by
  rw [Tm.chk_eq, h, if_neg (by simp), if_neg h18, if_neg h19, hc, if_neg (by simp)]
  all_goals rfl
theorem all_one {rt : ByteArray → Bool} {sig : List Fn} {t : Tm} (h : shapeE rt sig t.op t.name t.num t.l.length (headOp t.l) t.vars t.pat.length = 0) (h19 : t.op = 19) : t.l.length = 1 := by
  have hs := shapeE_zero (by omega) h
  unfold shapeB at hs
  rw [if_neg (by omega), if_neg (by omega), if_neg (by omega), if_neg (by omega), if_pos h19] at hs
  simp only [Bool.and_eq_true, beq_iff_eq] at hs
  exact hs.1.1
theorem len_size (t : Tm) : t.l.length ≤ t.size := by
  rw [Tm.size_eq]
  have : ∀ l : List Tm, l.length ≤ (l.map Tm.size).sum := by
    intro l
    induction l with
    | nil => simp
    | cons u l ih =>
      simp only [List.length_cons, List.map_cons, List.sum_cons]
      have : 1 ≤ u.size := by rw [Tm.size_eq]; omega
      omega
  have := this t.l
  omega
theorem CF.set {rb g o : Nat} {w w4 : World} {v : Value} (h : CF rb w w4) (hg : w.heap.size ≤ g) (hne : g ≠ rb) : CF rb w (w4.setCell ⟨g, o, none⟩ v) := by
  refine ⟨h.os, h.tape, h.output, by simpa using h.size, fun k hk h1 h2 => ?_, fun g' o' => ?_⟩
  · rw [Below.heap_setCell w4 ⟨g, o, none⟩ v k (by show k ≠ g; omega)]
    exact h.block k hk h1 h2
  · exact h.own g' (o'.same (Below.heap_setCell w4 ⟨g, o, none⟩ v rb (fun e => hne e.symm)))
theorem kind_var {op : Int} (h : op ≠ 18) : kindOf op ≠ 101 := kindOf_var h
set_option maxRecDepth 1000000 in
set_option maxHeartbeats 16000000 in
theorem kterm_of {rt : ByteArray → Bool} {sig : List Fn} {d : Nat} (ih : KTermC rt sig d) : KTermC rt sig (d + 1) := by
  intro B r rf rb env w b o t hT hO hR hK hE
  have HIH := hide ih
  have hBw : B ≤ w.heap.size := by have := hK.r_lt; have := hK.hr; omega
  have hrb := hK.rb_lt
  have HI := hide (And.intro hT (And.intro hO (And.intro hR (And.intro hK hE))))
  have hlm : t.l.length ≤ 65536 := Nat.le_trans (len_size t) hO.2.2.2.1
  obtain ⟨hb, _, _, aL, aV, aP, cL, cV, cP, hrg, hL, hV, hP, _⟩ := hT
  have hbw : b < w.heap.size := by omega
  have hB0 : 0 < B := by omega
  have c0 : w.cell? ⟨b, o, none⟩ = some (.int .i64 t.op) := hrg 0 _ rfl
  have HG := hide hrg
  have HRow := hide hL
  clear ih hrg hL hV hP hO hR hK hE
  go_enter Tryd.func28, Tryd.ntmps28
  go_wp2_with fail
  refine (view_any b o t.op w c0 hbw).mono ?_
  rintro e w1 ⟨rfl, hb1⟩
  have hb01 := hb1
  obtain ⟨hT, hO, hR, hK, hE⟩ := unhide HI
  have hSh := shape_any (rt := rt) (hK.below hb1 (Nat.le_refl _)) (hT.more (hb1.mono hBw) (Nat.le_refl _) (Nat.le_refl _)) hO (hR.below hb1 (by omega))
  generalize hse : shapeE rt sig t.op t.name t.num t.l.length (headOp t.l) t.vars t.pat.length = se at *
  have HSe := hide hse
  have HSh := hide hSh
  have HB1 := hide hb1
  clear hT hO hR hK hE hb1 hb01 hse hSh c0
  go_wp2_with fail
  refine (unhide HSh).mono ?_
  rintro e w2 ⟨rfl, hb2⟩
  have hb02 : Below w.heap.size w w2 := (unhide HB1).trans (hb2.mono (unhide HB1).size)
  have HB2 := hide hb02
  clear hb2 hb02 HB1 HSh
  by_cases hs0 : se = 0
  · subst hs0
    by_cases h18 : t.op = 18
    · have hkk : kindOf t.op = 101 := by rw [h18]; rfl
      rw [hkk]
      have ta0 := fun w => ta_yes (ty := 101) (v := .agg #[.pointer (some ⟨b, o, none⟩)]) (w := w) rfl rfl
      obtain ⟨hT, hO, hR, hK, hE⟩ := unhide HI
      have HVar := hide (fun (W : World) (hW : Below w.heap.size w W) => variable_any (sort := t.sort) (hK.below hW (Nat.le_refl _)) (Nat.lt_of_lt_of_le hbw hW.size) ((hW.cell (p := ⟨b, o + 1, none⟩) hbw).trans ((unhide HG) 1 _ rfl)) ((hW.cell (p := ⟨b, o + 2, none⟩) hbw).trans ((unhide HG) 2 _ rfl)) (by have := hE t.name; omega))
      obtain ⟨x, y, hxy⟩ : ∃ x y, varE t.name t.sort env = (x, y) := ⟨_, _, rfl⟩
      rw [hxy] at HVar
      have HXY : Hid (t.chk rt sig env = (x, y)) := (chk_var (unhide HSe) h18).trans hxy
      clear hT hO hR hK hE hkk h18 hxy
      go_wp2_with fail
      have hBV : ∀ x, Below w.heap.size w (w2.alloc x) := fun x => (unhide HB2).alloc (unhide HB2).size x
      refine (unhide HVar _ (hBV _)).mono ?_
      rintro e w3 ⟨rfl, hb3⟩
      have HB3 := hide (show Below w.heap.size w w3 from (hBV _).trans (hb3.mono (hBV _).size))
      clear hb3 hBV
      unfold pairV
      go_wp2
      go_ret2
      obtain ⟨hT, hO, hR, hK, hE⟩ := unhide HI
      exact ⟨by rw [unhide HXY]; rfl, hK.below (unhide HB3) (Nat.le_refl _), CF.of (unhide HB3) (Nat.le_refl _) hrb⟩
    by_cases h19 : t.op = 19
    · have hkk : kindOf t.op = 82 := by rw [h19]; rfl
      rw [hkk]
      have ta0 := fun w => ta_no (k := 82) (ty := 101) (v := .agg #[.pointer (some ⟨b, o, none⟩)]) (z := .agg #[.pointer none]) (w := w) (by decide) rfl rfl (by go_simp)
      have ta1 := fun w => ta_yes (ty := 82) (v := .agg #[.pointer (some ⟨b, o, none⟩)]) (w := w) rfl rfl
      obtain ⟨hT, hO, hR, hK, hE⟩ := unhide HI
      have HUni := hide (fun (W : World) (hW : Below w.heap.size w W) => universal_any (unhide HIH) (hT.more (hW.mono hBw) (Nat.le_refl _) (Nat.le_refl _)) hO (hR.below hW (by omega)) (hK.below hW (Nat.le_refl _)) hE (all_one (unhide HSe) h19))
      obtain ⟨x, y, hxy⟩ : ∃ x y, allP (t.under rt sig (bindV t.vars env)) = (x, y) := ⟨_, _, rfl⟩
      rw [hxy] at HUni
      have HXY : Hid (t.chk rt sig env = (x, y)) := (chk_all (unhide HSe) h19).trans hxy
      clear hT hO hR hK hE hkk h18 h19 hxy
      go_wp2_with fail
      have hBV : ∀ x y, Below w.heap.size w ((w2.alloc x).alloc y) := fun x y => ((unhide HB2).alloc (unhide HB2).size x).alloc (by have := (unhide HB2).size; simp; omega) y
      refine (unhide HUni _ (hBV _ _)).mono ?_
      rintro e w3 ⟨rfl, hK3, hC3⟩
      have H3 := hide (And.intro hK3 ((CF.of (hBV _ _) (Nat.le_refl _) hrb).trans hC3))
      clear hK3 hC3 hBV
      unfold pairV
      go_wp2
      go_ret2
      exact ⟨by rw [unhide HXY]; rfl, unhide H3⟩
    · have hk1 : kindOf t.op ≠ 101 := kind_var h18
      have hk2 : kindOf t.op ≠ 82 := kindOf_all h19
      have HSort := hide (fun (W : World) (vs : Value) (ss : List Int) hK hT hR hS hl => sortOf_any (rt := rt) (w := W) (B := B) (r := r) (rf := rf) (rb := rb) (d := d + 1) (b := b) (o := o) (t := t) (sig := sig) (env := env) (vs := vs) (ss := ss) hK hT hR hS hl (unhide HSe) h18 h19)
      have HNo := hide (And.intro h18 h19)
      generalize hkk : kindOf t.op = kk at *
      have ta0 := fun w => ta_no (ty := 101) (v := .agg #[.pointer (some ⟨b, o, none⟩)]) (z := .agg #[.pointer none]) (w := w) hk1 rfl rfl (by go_simp)
      have ta1 := fun w => ta_no (ty := 82) (v := .agg #[.pointer (some ⟨b, o, none⟩)]) (z := .agg #[.pointer none]) (w := w) hk2 rfl rfl (by go_simp)
      obtain ⟨n, hn⟩ : ∃ n, t.l.length = n := ⟨_, rfl⟩
      have HN := hide hn
      rw [hn] at hlm
      have e4 : ∀ x y, ((w2.alloc x).alloc y).cell? ⟨b, o + 4, none⟩ = some (.slice aL n cL) := fun x y => by
        rw [← hn]
        exact ((((unhide HB2).alloc (unhide HB2).size x).alloc (by have := (unhide HB2).size; simp; omega) y).cell (p := ⟨b, o + 4, none⟩) hbw).trans ((unhide HG) 4 _ rfl)
      have km := fun x y => mkInts n ((w2.alloc x).alloc y) hlm
      have e4' : ∀ x y z, (((w2.alloc x).alloc y).alloc z).cell? ⟨b, o + 4, none⟩ = some (.slice aL n cL) := fun x y z => by
        rw [← hn]
        exact ((((((unhide HB2).alloc (unhide HB2).size x).alloc (by have := (unhide HB2).size; simp; omega) y)).alloc (by have := (unhide HB2).size; simp; omega) z).cell (p := ⟨b, o + 4, none⟩) hbw).trans ((unhide HG) 4 _ rfl)
      clear h18 h19 hn hk1 hk2 hkk
      go_wp2
      obtain ⟨W0, eW0, hbW0, hSB0, hsz0⟩ : ∃ W0, (((w2.alloc (.cells #[.pointer none] 101)).alloc (.cells #[.pointer none] 82)).alloc (.cells (madeCells #[.int .i64 0] n) 3)) = W0 ∧ Below w.heap.size w W0 ∧ SB W0 (w2.heap.size + 1 + 1) n [] ∧ W0.heap.size = w2.heap.size + 1 + 1 + 1 := by
        refine ⟨_, rfl, three (unhide HB2) (unhide HB2).size _ _ _, ?_, by simp⟩
        have h := fun x y => SB.new ((w2.alloc x).alloc y) n
        simp only [asize] at h
        exact h _ _
      rw [eW0]
      obtain ⟨hT, hO, hR, hK, hE⟩ := unhide HI
      have hK0 := hK.below hbW0 (Nat.le_refl _)
      have hC0 : CF rb w W0 := CF.of hbW0 (Nat.le_refl _) hrb
      have hfree0 : ¬ OB W0 rb (w2.heap.size + 1 + 1) := fun ho => by
        have h2 := ho.same (w := w2) (by rw [← eW0]; exact (three (Below.refl _ w2) (Nat.le_refl _) _ _ _).block rb (Nat.lt_of_lt_of_le hrb (unhide HB2).size))
        have h3 := ((hK.below (unhide HB2) (Nat.le_refl _)).owned h2).2.1
        omega
      have hnerb : w2.heap.size + 1 + 1 ≠ rb := by have := (unhide HB2).size; omega
      have hge : w.heap.size ≤ w2.heap.size + 1 + 1 := by have := (unhide HB2).size; omega
      have HGe := hide hge
      generalize hsb : w2.heap.size + 1 + 1 = sb at *
      have H0 := hide (And.intro hSB0 (And.intro hfree0 (And.intro hK0 hC0)))
      have HNe := hide hnerb
      have f4 : W0.cell? ⟨b, o + 4, none⟩ = some (.slice aL n cL) := by
        rw [← unhide HN]
        exact (hbW0.cell (p := ⟨b, o + 4, none⟩) hbw).trans ((unhide HG) 4 _ rfl)
      clear hT hO hR hK hE hK0 hC0 hfree0 hSB0 eW0 hbW0 hsz0 e4 e4' km hnerb hsb hge
      go_loopw [59] (fun iv wr => ∃ i : Nat, i ≤ n ∧ iv = .int .i64 (i : Int) ∧ ∃ ss, chkL ((t.l.map (Tm.chk rt sig)).take i) env = (ss, 0) ∧ ss.length = i ∧ SB wr sb n ss ∧ ¬ OB wr rb sb ∧ KS wr B r rf rb sig env ∧ CF rb w wr) (fun iv _ => (n - (intOf iv).toNat))
      case atStart =>
        obtain ⟨hSB0, hfree0, hK0, hC0⟩ := unhide H0
        exact ⟨0, Nat.zero_le _, rfl, [], rfl, rfl, hSB0, hfree0, hK0, hC0⟩
      case round =>
        obtain ⟨i, hi, rfl, ss, hch, hssl, hSBi, hfri, hKi, hCi⟩ := hrel
        clear f4
        obtain ⟨hT, hO, hR, hK, hE⟩ := unhide HI
        have hbeli : Below B w wr := hK.cf_below hCi
        by_cases hlt : i < n
        · have h1 : i < t.l.length := by have := unhide HN; omega
          have hd1 : decide ((i : Int) < (n : Int)) = true := by simp; omega
          have hXi : (i : Int) < (n : Int) := by omega
          have hcap : (i : Int) < 281474976710656 := by omega
          have c4i : wr.cell? ⟨b, o + 4, none⟩ = some (.slice aL n cL) := by
            rw [← unhide HN]
            exact (hbeli.cell (p := ⟨b, o + 4, none⟩) hb).trans ((unhide HG) 4 _ rfl)
          obtain ⟨bl, ol, rfl, hblB, hj⟩ := (unhide HRow).2.2 (by omega)
          have hA := (hj i h1 _ (List.getElem?_eq_getElem h1)).more hbeli (Nat.le_refl _) (Nat.le_refl _)
          have hEi : ∀ k, (env k).length + t.l[i].wt ≤ 1000000 := fun k => by
            have h2 := hE k
            rw [t.wt_eq] at h2
            have h3 : t.l[i].wt ≤ lwt t.l := by
              have := lwt_more h1
              have := lwt_take t.l (i + 1)
              omega
            unfold lwt at h3
            omega
          have HCall := hide (unhide HIH B r rf rb env wr bl (ol + i * 7) t.l[i] hA (hO.2.2.2.2.2.1 _ (List.getElem_mem h1)) (hR.below hbeli hB0) hKi hEi)
          have hlen1 : i < (t.l.map (Tm.chk rt sig)).length := by simpa using h1
          have hget : (t.l.map (Tm.chk rt sig))[i] = Tm.chk rt sig t.l[i] := by simp
          have hsn : (t.l.map (Tm.chk rt sig)).take (i + 1) = (t.l.map (Tm.chk rt sig)).take i ++ [Tm.chk rt sig t.l[i]] := by rw [List.take_succ_eq_append_getElem hlen1, hget]
          have hbad : (t.l[i].chk rt sig env).2 ≠ 0 → (chkL (t.l.map (Tm.chk rt sig)) env).2 = (t.l[i].chk rt sig env).2 := fun h => by
            have := chkL_at hlen1 (by rw [hch]) (by rw [hget]; exact h)
            rw [hget] at this
            exact this
          obtain ⟨x, y, hxy⟩ : ∃ x y, t.l[i].chk rt sig env = (x, y) := ⟨_, _, rfl⟩
          rw [hxy] at HCall hbad
          have HP := hide (And.intro hch (And.intro hssl (And.intro hSBi (And.intro hfri (And.intro hKi (And.intro hCi (And.intro hsn (And.intro hbad hxy))))))))
          clear hT hO hR hK hE hbeli hj hA hEi hget hsn hbad hxy hch hssl hSBi hfri hKi hCi hlen1
          by_cases hy : y = 0
          · subst hy
            go_wp2_with fail
            refine (unhide HCall).mono ?_
            rintro e w4 ⟨rfl, hK4, hC4⟩
            obtain ⟨hch, hssl, hSBi, hfri, hKi, hCi, hsn, hbad, hxy⟩ := unhide HP
            have hSB4 : SB w4 sb n ss := by
              obtain ⟨cur, k1, k2⟩ := hSBi
              exact ⟨cur, hC4.blk k1 (unhide HNe) hfri, k2⟩
            have hfr4 : ¬ OB w4 rb sb := fun ho => by
              rcases hC4.own sb ho with h | h
              · exact hfri h
              · obtain ⟨cur, k1, _⟩ := hSBi
                have := (Array.getElem?_eq_some_iff.1 k1).1
                omega
            obtain ⟨x0, hx0, hfz0⟩ := hSB4.cell hlt
            have H4 := hide (And.intro hK4 (And.intro hC4 (And.intro hSB4 hfr4)))
            clear hK4 hC4 hSB4 hfr4 hch hssl hSBi hfri hKi hCi hsn hbad hxy
            unfold pairV
            go_wp2
            obtain ⟨hch, hssl, hSBi, hfri, hKi, hCi, hsn, hbad, hxy⟩ := unhide HP
            obtain ⟨hK4, hC4, hSB4, hfr4⟩ := unhide H4
            subst hssl
            have hput := hSB4.put hlt x
            obtain ⟨cur, hcur, hcsz⟩ := hSB4
            have hbut : But sb w4 (w4.setCell ⟨sb, ss.length, none⟩ (.int .i64 x)) := (But.refl sb w4).setCell (.inl rfl) _
            have hK5 := hK4.but hbut (by have := unhide HGe; omega) (fun e => by
              have h2 := hK4.blk
              rw [e, hcur] at h2
              injection h2 with h2
              injection h2 with _ h2
              exact absurd h2 (by decide)) (fun e => by
              obtain ⟨es, ⟨a, c, h2, _⟩, _⟩ := hK4.fm
              rw [e, hcur] at h2
              cases h2) (fun e => unhide HNe e.symm) hfr4
            refine ⟨⟨ss.length + 1, by omega, rfl, ss ++ [x], ?_, by simp, hput, fun ho => hfr4 (ho.same (Below.heap_setCell w4 ⟨sb, ss.length, none⟩ _ rb (fun e => unhide HNe e.symm))), hK5, (hCi.trans hC4).set (unhide HGe) (unhide HNe)⟩, by simp only [intOf]; omega⟩
            rw [hsn, chkL_snoc _ _ _ (by rw [hch]), hxy, hch]
            simp
          · have ey : (y != 0) = true := by simp [hy]
            have HY := hide hy
            clear hy
            go_wp2_with fail
            refine (unhide HCall).mono ?_
            rintro e w4 ⟨rfl, hK4, hC4⟩
            have H4 := hide (And.intro hK4 hC4)
            clear hK4 hC4
            unfold pairV
            go_wp2
            go_ret2
            obtain ⟨hch, hssl, hSBi, hfri, hKi, hCi, hsn, hbad, hxy⟩ := unhide HP
            obtain ⟨hK4, hC4⟩ := unhide H4
            refine ⟨?_, hK4, hCi.trans hC4⟩
            rw [chk_bad (unhide HSe) (unhide HNo).1 (unhide HNo).2 (hbad (unhide HY)) (unhide HY)]
            rfl
        · have hin : i = n := by omega
          have hd1 : decide ((i : Int) < (n : Int)) = false := by simp; omega
          have htake : (t.l.map (Tm.chk rt sig)).take i = t.l.map (Tm.chk rt sig) := List.take_of_length_le (by rw [List.length_map]; have := unhide HN; omega)
          rw [htake] at hch
          have hIn := hSBi.ints (by omega) hlm
          have HSo := hide (unhide HSort wr (.slice (some ⟨sb, 0, none⟩) n n) ss hKi (hT.more hbeli (Nat.le_refl _) (Nat.le_refl _)) (hR.below hbeli hB0) hIn (by have := unhide HN; omega))
          have hgood := chk_good (unhide HSe) (unhide HNo).1 (unhide HNo).2 (env := env) (by rw [hch])
          rw [hch] at hgood
          simp only at hgood
          have HF := hide (And.intro hgood (And.intro hKi hCi))
          clear htake hch hssl hSBi hfri hKi hCi hin hIn hT hO hR hK hE hbeli hgood
          cases hso : sortOfT sig t.op t.name ss with
          | some s =>
            rw [hso] at HSo
            have HS := hide hso
            clear hso
            unfold optV at HSo
            go_wp2_with fail
            refine (unhide HSo).mono ?_
            rintro e w5 ⟨rfl, hb5⟩
            have HB5 := hide hb5
            clear hb5
            go_wp2
            go_ret2
            obtain ⟨hgood, hKi, hCi⟩ := unhide HF
            refine ⟨?_, hKi.below (unhide HB5) (Nat.le_refl _), hCi.trans (CF.of (unhide HB5) (Nat.le_refl _) hKi.rb_lt)⟩
            rw [hgood, unhide HS]
            rfl
          | none =>
            rw [hso] at HSo
            have HS := hide hso
            clear hso
            unfold optV at HSo
            go_wp2_with fail
            refine (unhide HSo).mono ?_
            rintro e w5 ⟨rfl, hb5⟩
            have HB5 := hide hb5
            clear hb5
            go_wp2
            go_ret2
            obtain ⟨hgood, hKi, hCi⟩ := unhide HF
            refine ⟨?_, hKi.below (unhide HB5) (Nat.le_refl _), hCi.trans (CF.of (unhide HB5) (Nat.le_refl _) hKi.rb_lt)⟩
            rw [hgood, unhide HS]
            rfl
  · have es : (se != 0) = true := by simp [hs0]
    have HS0 := hide hs0
    clear hs0
    go_wp2
    go_ret2
    obtain ⟨hT, hO, hR, hK, hE⟩ := unhide HI
    refine ⟨?_, hK.below (unhide HB2) (Nat.le_refl _), CF.of (unhide HB2) (Nat.le_refl _) hrb⟩
    rw [chk_shape (unhide HSe) (unhide HS0)]
    rfl
theorem kterm_any (rt : ByteArray → Bool) (sig : List Fn) : ∀ d, KTermC rt sig d
  | 0 => fun _ _ _ _ _ _ _ _ _ h => h.elim
  | d + 1 => kterm_of (kterm_any rt sig d)
end Go.Proofs.YtegmckpcchhmdaaDoor
