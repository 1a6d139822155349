/- The nodes that can be come to, by the program; walked. -/
import Derived.Test.YtjnkcomedcbenaaPStack
namespace Go.Proofs.Ytjnkcomedcbenaa
open Go.RowKit Go.Maps
set_option linter.unusedVariables false

section
variable {w : World} {S R : Nat} {t : Nat → Tag} {rv sv : List Value} {N : Value} {g : Gr}
/-- The rows of roots and nodes, as they are at first. -/
theorem PM.rowsV (h : PM w S R t rv sv N g) : RowsV Any w rv g.roots := ⟨h.rl, fun j hj => (h.lists j hj).rowV.to fun _ _ _ => trivial⟩
theorem PM.ones (h : PM w S R t rv sv N g) : ∀ v ∈ rv, v.oneCell' = true := h.rowsV.one

/-- All that is left are nodes, or none. -/
def Rng (g : Gr) (Ps : List (List Int)) : Prop := ∀ l ∈ Ps, l.length ≤ 1000 ∧ ∀ x ∈ l, 0 ≤ x ∧ x ≤ (g.nodes.length : Int)
theorem Rng.start (hk : Ok g) (hmo : g.most ≤ 1000) : Rng g g.roots := fun l hl => by
  obtain ⟨m, hm, rfl⟩ := mem_row hl
  refine ⟨by have := hk.len m hm; omega, fun x hx => ?_⟩
  obtain ⟨a, ha, rfl⟩ := mem_num hx
  exact hk.r m a hm ha
theorem Rng.drop {Ps : List (List Int)} {l : List Int} (h : Rng g (Ps ++ [l])) : Rng g Ps := fun l' hl' => h l' (List.mem_append_left _ hl')
theorem Rng.come (hk : Ok g) {Ps : List (List Int)} {l : List Int} {i : Nat} {x : Int} (h : Rng g (Ps ++ [l])) (h0 : 0 < x) (h1 : x ≤ (g.nodes.length : Int)) : Rng g (Ps ++ [l.drop i] ++ [row g.nodes (x - 1).toNat]) := fun l' hl' => by
  rcases List.mem_append.1 hl' with h2 | h2
  · rcases List.mem_append.1 h2 with h3 | h3
    · exact h l' (List.mem_append_left _ h3)
    · have : l' = l.drop i := by simpa using h3
      subst this
      have h4 := h l (by simp)
      exact ⟨by rw [List.length_drop]; omega, fun y hy => h4.2 y (List.mem_of_mem_drop hy)⟩
  · have : l' = row g.nodes (x - 1).toNat := by simpa using h2
    subst this
    refine ⟨by have := hk.sz (x - 1).toNat (by omega); omega, fun y hy => ?_⟩
    obtain ⟨k, hk', rfl⟩ := mem_num hy
    exact hk.n _ k (by omega) hk'
/-- What holds at the head of the outer loop. -/
structure Head2 (g : Gr) (w : World) (V : List Int) (Ps : List (List Int)) (vs : List Value) (k : Nat) : Prop where
  dfs : Dfs g V Ps
  rng : Rng g Ps
  rows : RowsV Any w vs Ps
  many : 2 * (g.nodes.length - V.length) + Ps.length = k
  le : k ≤ 3000
theorem Head2.drop {Ps : List (List Int)} {l V : List Int} {vs : List Value} {k : Nat} (h : Head2 g w V (Ps ++ [l]) vs k) (hl : ∀ x ∈ l, x ≤ 0 ∨ x ∈ V) : Head2 g w V Ps vs.dropLast (k - 1) := by
  have hm := h.many
  simp only [List.length_append, List.length_singleton] at hm
  have := h.le
  exact ⟨h.dfs.drop hl, h.rng.drop, (rows_last h.rows).2, by omega, by omega⟩
theorem Head2.come (hk : Ok g) {Ps : List (List Int)} {l V : List Int} {vs : List Value} {k i : Nat} {u1 u2 : Value} (h : Head2 g w V (Ps ++ [l]) vs k) (hi : i < l.length) (h0 : 0 < num l i) (hn : num l i ∉ V) (hl : ∀ j, j < i → num l j ≤ 0 ∨ num l j ∈ V)
    (h1 : RowV Any w u1 (l.drop (i + 1))) (h2 : RowV Any w u2 (row g.nodes (num l i - 1).toNat)) : Head2 g w (V ++ [num l i]) (Ps ++ [l.drop (i + 1)] ++ [row g.nodes (num l i - 1).toNat]) (vs.set Ps.length u1 ++ [u2]) (k - 1) := by
  have hd := h.dfs.come hi h0 hn hl
  have hle := hd.le hk
  have hm := h.many
  have := h.le
  simp only [List.length_append, List.length_singleton] at hm hle
  have hx := (h.rng l (by simp)).2 _ (num_inl hi)
  exact ⟨hd, h.rng.come hk h0 hx.2, rows_come h.rows h1 h2, by simp only [List.length_append, List.length_singleton]; omega, by omega⟩
theorem Stk.cells {wr : World} {V : List Int} {vs : List Value} {L n c : Nat} (h : Stk w wr V (.slice (some ⟨L, 0, none⟩) n c) vs) (hn : n = vs.length) {j : Nat} (hj : j < n) : wr.cell? ⟨L, j, none⟩ = some (vs.getD j undef) ∧ wr.frozen? ⟨L, j, none⟩ = false := by
  obtain ⟨L', c', e, h1, h2, h3, h4, h5, h6⟩ := own_form h.own (by omega)
  injection e with e1
  injection e1 with e1
  injection e1 with e1
  subst e1
  exact ⟨h5 j (by omega), h6 j⟩
theorem cells_lit2 {W : World} {B : Nat} {v : Value} {T : TypeId} (hB : B = W.heap.size) : Cells Any (W.alloc (.cells #[v] T)) (some ⟨B, 0, none⟩) [v] := by
  subst hB; exact cells_lit _ _ _
theorem HS_next {l V : List Int} {i : Nat} (h : ∀ j, j < i → num l j ≤ 0 ∨ num l j ∈ V) (hi : num l i ≤ 0 ∨ num l i ∈ V) : ∀ j, j < i + 1 → num l j ≤ 0 ∨ num l j ∈ V := fun j hj => by
  by_cases e : j = i
  · subst e; exact hi
  · exact h j (by omega)
theorem und68 : Try.prog.underlying 68 = some (.map 3 4) := by kernel_rfl

set_option maxRecDepth 100000 in
set_option maxHeartbeats 8000000 in
theorem reachP (h : PM w S R t rv sv N g) (hk : Ok g) (hmo : g.most ≤ 1000) (hnn : g.nodes.length ≤ 1000) : Calls Try.prog 21 #[ptr S] w (SomeRowN (reachL g) w) := by
  have H := Lib.hid h; have HK := Lib.hid hk; have HNN := Lib.hid hnn; have HMO := Lib.hid hmo; have HMA := Lib.hid hk.many
  have c1 := (h.below (below_alloc0 (Below.refl _ _) (.map #[] 0))).c1
  have hcl := cloneRowsP R g.roots.length rv (w.alloc (.map #[] 0)) h.rl.symm (fun j hj => (h.below (below_alloc0 (Below.refl _ _) (.map #[] 0))).cR j hj) (by have := lt_of h.hR; simp; omega) h.ones (by have := hk.many; omega)
  have HCL := Lib.hid hcl
  have hmm := @run_makeMap Try.prog
  clear h hk hnn hcl hmo
  go_enter Try.func21, Try.ntmps21
  go_wp2_with (fail)
  go_step3
  go_wp2_with (first
    | (go_at_call 37; (with_reducible refine HCL.out.mono ?_); rintro r W1 ⟨v1, rfl, ho⟩; have HS : Hid (Stk w W1 [] v1 rv) := Lib.hid (Stk.start (n := 0) ho); clear ho)
    | fail)
  go_step3
  go_wp2_with (fail)
  clear hmm c1
  have HH0 : Hid (Head2 g w [] g.roots rv (2 * g.nodes.length + g.roots.length)) := Lib.hid ⟨Dfs.start g, Rng.start HK.out HMO.out, H.out.rowsV, by simp, by have := HNN.out; have := HMA.out; omega⟩
  go_loopg [4] (2 * g.nodes.length + g.roots.length) (fun k s4 wr => ∃ V Ps vs, Hid (Head2 g w V Ps vs k) ∧ Stk w wr V s4 vs)
  case atStart => exact ⟨[], g.roots, rv, HH0.out, HS.out⟩
  case round =>
    clear HH0 HS HCL
    obtain ⟨V, Ps, vs, HH, hst⟩ := hrel
    rename World => W
    have hvl := HH.out.rows.1
    rcases List.eq_nil_or_concat Ps with rfl | ⟨P0, l, hPs⟩
    · obtain ⟨A4, c4, rfl, -⟩ := hst.own.at'
      have hv0 : vs.length = 0 := hvl
      rw [hv0] at hst ⊢
      have HST := Lib.hid hst
      have HVL : Hid (V.length ≤ 1000) := Lib.hid (by have := HH.out.dfs.le HK.out; have := HNN.out; omega)
      clear hst hvl hv0
      go_wp2_with (first
        | (go_at_call 40; (with_reducible refine (keys_any w.heap.size _).mono ?_); rintro r w5 ⟨rfl, rfl⟩)
        | (go_at_call 39; (with_reducible refine (sorted_any w.heap.size V _ HST.out.seen HH.out.dfs.nd HVL.out _ rfl).mono ?_); rintro r w6 ⟨v6, rfl, ss, hp, ho⟩; have HP := Lib.hid hp; have HO := Lib.hid ho; clear hp ho)
        | fail)
      rw [Exit.noGoto_ret]
      go_ret
      have hb := below_step HST.out.bel HST.out.bel.size (below_alloc0 (Below.refl _ _) (.cells #[.map (some w.heap.size)] 68))
      have ho := HO.out
      rw [HH.out.dfs.reach HK.out HP.out] at ho
      exact ⟨v6, rfl, ho.rowV.to fun b _ hb' => Nat.le_trans hb.size hb', below_step hb hb.size ho.2⟩
    · rw [List.concat_eq_append] at hPs
      subst hPs
      obtain ⟨p, hp⟩ : ∃ p, p = P0.length := ⟨_, rfl⟩
      have hvp : vs.length = p + 1 := by rw [hvl, hp]; simp
      obtain ⟨L, c, rfl, hL, -, hpc, -, hcc, hff⟩ := own_form hst.own (by omega)
      rw [hvp] at hst hpc ⊢
      obtain ⟨hrow, hrows⟩ := rows_last HH.out.rows
      rw [← hp] at hrow
      obtain ⟨A, c2, hu, hrd, hn2, hcm2, hcn2⟩ := id hrow
      have hcell := hcc p (by omega)
      rw [hu] at hcell hrow
      obtain ⟨n, hn⟩ : ∃ n, n = l.length := ⟨_, rfl⟩
      rw [← hn] at hcell hn2 hrow
      have hp3 : p ≤ 3000 := by have h1 := HH.out.many; have h2 := HH.out.le; simp only [List.length_append, List.length_singleton] at h1; omega
      have HRD : Hid (0 < n → ∃ b off, A = some ⟨b, off, none⟩ ∧ b < w.heap.size ∧ ∀ j, j < n → W.cell? ⟨b, off + j, none⟩ = some (.int .i64 (num l j))) := Lib.hid fun h0 => by
        obtain ⟨b, off, e, hlt, hc⟩ := hrd (by omega)
        exact ⟨b, off, e, hlt.1, fun j hj => (hst.bel.cell (p := ⟨b, off + j, none⟩) hlt.1).trans (hc j (by omega))⟩
      have hsd := slice_drop26 L 0 p c hpc
      rw [← hn] at hu
      have HU := Lib.hid hu
      have HST := Lib.hid hst; have HP := Lib.hid hp; have HN := Lib.hid hn; have HVP := Lib.hid hvp; have HROW := Lib.hid hrow; have HN2 := Lib.hid hn2
      have HX : Hid (∀ j, j < n → 0 ≤ num l j ∧ num l j ≤ (g.nodes.length : Int)) := Lib.hid fun j hj => (HH.out.rng l (by simp)).2 _ (num_inl (by omega))
      have p0 : (0 : Int) ≤ (p : Int) := by omega
      have p1 : (p : Int) ≤ 3000 := by omega
      have p2 : decide ((0 : Int) < (p : Int) + 1) = true := decide_eq_true (by omega)
      have p3 : (p : Int) < (p : Int) + 1 := by omega
      have hws : IntKind.i64.wrap ((p : Int) + 1 - 1) = (p : Int) := by rw [IntWalk.i64_in _ (by omega)]; omega
      have n0 : (0 : Int) ≤ (n : Int) := by omega
      have n1 : (n : Int) ≤ 1000 := by have := (HH.out.rng l (by simp)).1; omega
      have hff := hff p
      clear hvl hst hp hvp hL hpc hcc hrow hrows hrd hn2 hcm2 hcn2 hu hn hp3
      go_wp2_with (fail)
      go_loopg [4, 27] n (fun k s4 s27 wy => ∃ i : Nat, i + k = n ∧ s4 = .slice (some ⟨L, 0, none⟩) (p + 1) c ∧ s27 = .int .i64 (i : Int) ∧ Hid (∀ j, j < i → num l j ≤ 0 ∨ num l j ∈ V) ∧ W = wy)
      case atStart => exact ⟨0, by omega, rfl, rfl, Lib.hid (fun j hj => by omega), rfl⟩
      case round =>
        obtain ⟨i, hik, rfl, rfl, HS, rfl⟩ := hrel
        have hgk : 0 < (2 * (g.nodes.length - V.length) + (P0 ++ [l]).length) := by simp only [List.length_append, List.length_singleton]; omega
        have HGK := Lib.hid hgk; clear hgk
        cases gk with
        | zero =>
          obtain rfl : i = n := by omega
          have hnl : ¬ (i : Int) < (i : Int) := by omega
          clear hik
          go_wp2_with (fail)
          go_roundg (2 * (g.nodes.length - V.length) + (P0 ++ [l]).length - 1)
          case measure => have h1 := HH.out.many; have h2 := HGK.out; omega
          case rel =>
            have hd := HH.out.drop fun x hx => by
              obtain ⟨j, hj, rfl⟩ := mem_num hx
              exact HS.out j (by have := HN.out; omega)
            exact ⟨V, P0, _, Lib.hid (by have h1 := HH.out.many; rw [h1]; exact hd), HST.out.drop HVP.out.symm⟩
        | succ k2 =>
          obtain ⟨x, hx⟩ : ∃ x, x = num l i := ⟨_, rfl⟩
          obtain ⟨b, off, rfl, hbl, hcx⟩ := HRD.out (by omega)
          have hci := hcx i (by omega)
          rw [← hx] at hci
          have hxr := HX.out i (by omega)
          rw [← hx] at hxr
          have i0 : (0 : Int) ≤ (i : Int) := by omega
          have i1 : (i : Int) < (n : Int) := by omega
          have i2 : (i : Int) ≤ 1000 := by omega
          have HXE := Lib.hid hx; have HIK := Lib.hid hik; have HXR := Lib.hid hxr; have HBL := Lib.hid hbl
          clear hcx hx hik hbl
          by_cases hx0 : x = 0
          · have e0 : (x == 0) = true := by simpa using hx0
            have HX0 := Lib.hid hx0; clear hx0 hxr
            go_wp2_with (fail)
            go_roundg k2
            case measure => omega
            case rel =>
              refine ⟨i + 1, by have := HIK.out; omega, rfl, by go_num, Lib.hid fun j hj => ?_, rfl⟩
              exact HS_next HS.out (.inl (by rw [← HXE.out, HX0.out]; exact Int.le_refl _)) j hj
          · have e0 : (x == 0) = false := by rw [beq_eq_false_iff_ne]; exact hx0
            have hlk := HST.out.seen.look (x := x) hxr.1 (by have := HNN.out; omega)
            by_cases hxV : x ∈ V
            · rw [decide_eq_true hxV] at hlk
              have HXV := Lib.hid hxV; clear hx0 hxr hxV
              go_wp2_with (fail)
              go_roundg k2
              case measure => omega
              case rel =>
                refine ⟨i + 1, by have := HIK.out; omega, rfl, by go_num, Lib.hid fun j hj => ?_, rfl⟩
                exact HS_next HS.out (.inr (by rw [← HXE.out]; exact HXV.out)) j hj
            · rw [decide_eq_false hxV] at hlk
              have HXV := Lib.hid hxV; have HXP : Hid (0 < x) := Lib.hid (by omega)
              clear hx0 hxr hxV
              obtain ⟨o, ho, hst2⟩ := slice_tail b off i n c2 (by omega) HN2.out
              have hrt := row_tail HROW.out HN.out (i := i) (by omega) ho
              have HRT := Lib.hid hrt
              have hxin : isIn g.nodes.length (x - 1) = true := isIn_iff.2 (by have := HXP.out; have := HXR.out.2; omega)
              have hr3 : RowV Any w (rvAt sv g.nodes.length (x - 1)) (row g.nodes (x - 1).toNat) := by
                have := (H.out.slotAt (x - 1)).to (Q := Any) fun _ _ _ => trivial
                rw [hxin, if_pos rfl] at this
                exact this
              obtain ⟨A3, c3, hv3, -⟩ := id hr3
              obtain ⟨m3, hm3⟩ : ∃ m3, m3 = (row g.nodes (x - 1).toNat).length := ⟨_, rfl⟩
              rw [← hm3] at hv3
              rw [hv3] at hr3
              have HU2 := Lib.hid hv3; have HR3 := Lib.hid hr3
              have HXB : Hid (0 ≤ x ∧ x ≤ 1000000) := Lib.hid ⟨by have := HXP.out; omega, by have := HXR.out.2; have := HNN.out; omega⟩
              have hsum : IntKind.i64.wrap ((i : Int) + 1) = (i : Int) + 1 := IntWalk.i64_in _ (by omega)
              have HVL : Hid (V.length < maxLen) := Lib.hid (by have := HH.out.dfs.le HK.out; have := HNN.out; unfold maxLen; omega)
              have HL1 : Hid ((vs.set p (Value.slice (some ⟨b, o, none⟩) (n - (i + 1)) (c2 - (i + 1)))).length + 1 ≤ 100000) := Lib.hid (by rw [List.length_set, HVP.out]; omega)
              have HO1 : Hid (∀ v ∈ [Value.slice A3 m3 c3], v.oneCell' = true) := Lib.hid fun v hv => by rw [List.mem_singleton.1 hv]; rfl
              clear ho hrt hv3 hr3 hxin hm3
              go_wp2_with (first
                | (at_mapUpdate; refine wpList_mapUpdate_own _ rfl _ _ _ 68 rfl 3 4 lawI und68 _ w.heap.size V.length _ rfl HST.out.seen.own HVL.out _ _ _ rfl rfl (keyOf_int_mk Try.underlying3 (WalkArith.wf_i64 (n := x) (by have := HXB.out; omega))) uB [] (plainElem_bool Try.underlying4 true) ?_
                   intro w1 hown1 hgrow1
                   have HS1 : Hid (Stk w w1 (V ++ [x]) (.slice (some ⟨L, 0, none⟩) (p + 1) c) vs) := Lib.hid (HST.out.put hgrow1 (seen_step hown1))
                   obtain ⟨k1, k2'⟩ := HS1.out.cells HVP.out.symm (j := p) (by omega)
                   rw [HU.out] at k1
                   clear hown1 hgrow1)
                | (go_at_call 38; (with_reducible refine (slotsOf_any (H.out.below (HS1.out.set (i := p) HVP.out.symm (Value.slice (some ⟨b, o, none⟩) (n - (i + 1)) (c2 - (i + 1)))).bel) x HXB.out.1 HXB.out.2).mono ?_); rintro r w5 ⟨rfl, rfl⟩; rw [HU2.out])
                | (at_builtin; refine append_more2 (P := Any) rfl _ _ 26 43 rfl Try.underlying26 info43 rfl (by decide) w.heap.size w (.slice (some ⟨L, 0, none⟩) (p + 1) c) (vs.set p (Value.slice (some ⟨b, o, none⟩) (n - (i + 1)) (c2 - (i + 1)))) ((HS1.out.set (i := p) HVP.out.symm (Value.slice (some ⟨b, o, none⟩) (n - (i + 1)) (c2 - (i + 1)))).step (below_alloc0 (Below.refl _ _) _)).own (Nat.le_refl _) _ 0 1 1 [Value.slice A3 m3 c3] rfl rfl rfl (by decide) HL1.out (cells_lit2 (by simp)) HO1.out ?_
                   rintro v9 w9 ho hk hl
                   have HS9 := Lib.hid (((HS1.out.set (i := p) HVP.out.symm (Value.slice (some ⟨b, o, none⟩) (n - (i + 1)) (c2 - (i + 1)))).step (below_alloc0 (Below.refl _ _) _)).app ho hk hl)
                   clear ho hk hl)
                | fail)
              go_roundg (2 * (g.nodes.length - V.length) + (P0 ++ [l]).length - 1)
              case measure => have h1 := HH.out.many; have h2 := HGK.out; omega
              case rel =>
                have hr1 := HRT.out
                have hr2 := HR3.out
                have hs := HS9.out
                have hxe := HXE.out
                have hn1 : num l i ∉ V := by rw [← hxe]; exact HXV.out
                rw [hxe] at hr2 hs
                have hc := HH.out.come HK.out (by have := HN.out; have := HIK.out; omega) (by rw [← hxe]; exact HXP.out) hn1 HS.out hr1 hr2
                rw [← HP.out] at hc
                exact ⟨_, _, _, Lib.hid (by have h1 := HH.out.many; rw [h1]; exact hc), hs⟩
end
end Go.Proofs.Ytjnkcomedcbenaa
