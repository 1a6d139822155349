/- The program's graph: a root more; walked. -/
import Derived.Test.YtjnkcomedcbenaaPPop
import Derived.Deep.RegionLaw
namespace Go.Proofs.Ytjnkcomedcbenaa
open Go.RowKit
set_option linter.unusedVariables false

theorem LList.below {w W : World} {t : Nat → Tag} {m : Nat} {u : Value} {zs : List Int} (h : LList w t m u zs) (hb : Below w.heap.size w W) : LList W t m u zs := h.kept fun k hk _ => ⟨hb.block k hk, rfl⟩

/-- An append to a mutator's roots, at a step of a region that draws. -/
theorem step_app {ops : Array Oper} {o : Oper} {a : Act} {K : Act → World → Prop} {Q : Exit → Act → World → Prop} {E : Prop} (hgd : o.guard = none) (s x : Operand)
    (ho : o.op = .call { callee := .builtin .append, args := #[s, x], argTypes := #[43, 43] })
    (w W : World) (hb : Below w.heap.size w W) (t : Nat → Tag) (m : Nat) (u : Value) (zs : List Int) (hs : a.eval s = u) (h : LList w t m u zs) (low : ∀ k, t k ≠ .out → k < w.heap.size)
    (y : Int) (b : Nat) (hx : a.eval x = .slice (some ⟨b, 0, none⟩) 1 1) (hsrc : W.cell? ⟨b, 0, none⟩ = some (.int .i64 y)) (hl : zs.length ≤ 1000)
    (hK : ∀ u' w' t', LList w' t' m u' (zs ++ [y]) → App t t' m W w' → Below w.heap.size w W → K (a.put o.dst u') w') :
    if Region.wanted o (yielded ops a.tmps) = true then Oper.wp Try.prog o a W K Q else E := by
  have hw : Region.wanted o (yielded ops a.tmps) = true := by simp [Region.wanted, hgd]
  rw [if_pos hw]
  obtain ⟨u', w', t', hr, h1, h2⟩ := app_list W t m u zs (h.below hb) (fun k hk => Nat.lt_of_lt_of_le (low k hk) hb.size) y ⟨b, 0, none⟩ 1 o.type (by rw [add_off]; exact hsrc) hl
  unfold Oper.wp execOp
  simp only [ho, resolve, invoke, builtin, Sem.run_bind, Sem.run_pure, Result.andThen_ok, List.map_toArray, List.map_cons, List.map_nil, hs, hx, hr]
  exact hK _ _ _ h1 h2 hb

/-- What a root more leaves: the nodes' slices are the same. -/
def SomeQ (S R : Nat) (t : Nat → Tag) (sv : List Value) (N : Value) (g' : Gr) (r : Value) (w : World) (e : Ending) (w' : World) : Prop :=
  ∃ t' rv', e = .returned r ∧ PM w' S R t' rv' sv N g' ∧ UpdF (fun k => t k ≠ .out) w w' ∧ (∀ k, t k ≠ .out → t' k = t k) ∧ ∀ k, t' k ≠ .out → t k ≠ .out ∨ w.heap.size ≤ k
theorem SomeQ.some {S R : Nat} {t : Nat → Tag} {sv : List Value} {N : Value} {g' : Gr} {r r' : Value} {w w' : World} {e e' : Ending} (h : SomeQ S R t sv N g' r w e w') (he : e' = .returned r') : SomeP S R t g' r' w e' w' := by
  obtain ⟨t', rv', _, h⟩ := h
  exact ⟨t', rv', sv, N, he, h⟩
section
variable {w w1 w' : World} {S R : Nat} {t : Nat → Tag} {rv sv : List Value} {N : Value} {g g' : Gr}
theorem PM.pcells (h : PM w S R t rv sv N g) {i : Nat} (hi : i < g.roots.length) {V : Value} (hV : V = rv.getD i undef) (hb : Below w.heap.size w w1) : w1.cell? ⟨S, 1, none⟩ = some (.slice (some ⟨R, 0, none⟩) g.roots.length g.roots.length) ∧ w1.cell? ⟨R, i, none⟩ = some V :=
  ⟨(h.below hb).c1, by rw [hV]; exact (h.below hb).cR i hi⟩
theorem PM.acells (h : PM w S R t rv sv N g) {i : Nat} (hi : i < g.roots.length) {V : Value} (hV : V = rv.getD i undef) {t' : Nat → Tag} (hb : Below w.heap.size w w1) (ha : App t t' i w1 w') : w'.cell? ⟨S, 1, none⟩ = some (.slice (some ⟨R, 0, none⟩) g.roots.length g.roots.length) ∧ w'.cell? ⟨R, i, none⟩ = some V := by
  have h1 := h.pcells hi hV hb
  have hS := Nat.lt_of_lt_of_le (lt_of h.hS) hb.size
  have hR := Nat.lt_of_lt_of_le (lt_of h.hR) hb.size
  exact ⟨(World.cell?_of_block (w := w1) (a := ⟨S, 1, none⟩) (ha.keep S hS (by rw [h.tS]; simp) (by rw [h.tS]; simp))).trans h1.1, (World.cell?_of_block (w := w1) (a := ⟨R, i, none⟩) (ha.keep R hR (by rw [h.tR]; simp) (by rw [h.tR]; simp))).trans h1.2⟩
theorem PM.afro (h : PM w S R t rv sv N g) {i : Nat} {t' : Nat → Tag} (hb : Below w.heap.size w w1) (ha : App t t' i w1 w') (j : Nat) : w'.frozen? ⟨R, j, none⟩ = false :=
  (World.frozen?_of_block (w := w1) (a := ⟨R, j, none⟩) (ha.keep R (Nat.lt_of_lt_of_le (lt_of h.hR) hb.size) (by rw [h.tR]; simp) (by rw [h.tR]; simp))).trans ((h.below hb).fR j)
theorem PM.pushed (h0 : PM w S R t rv sv N g) {i : Nat} (hi : i < g.roots.length) {x : Int} {u : Value} {t2 : Nat → Tag} {w2 : World} (hb : Below w.heap.size w w1) (ha : App t t2 i w1 w2) (hl : LList w2 t2 i u (row g.roots i ++ [x])) :
    SomeQ S R t sv N (gPush g i x) (.tuple #[]) w (.returned (.tuple #[])) (w2.setCell ⟨R, i, none⟩ u) := by
  have h := h0.below hb
  have hlt : ∀ k, t k ≠ .out → k < w1.heap.size := h.low
  have hsz : (w2.setCell ⟨R, i, none⟩ u).heap.size = w2.heap.size := by simp
  have told : ∀ k, t k ≠ .out → t2 k = t k := fun k hk => ha.old k (hlt k hk)
  have t2R : t2 R = .tab := (told R (by rw [h.tR]; simp)).trans h.tR
  have hb2 : ∀ k, k ≠ R → (w2.setCell ⟨R, i, none⟩ u).heap[k]? = w2.heap[k]? := fun k hk => heap_setCell_other w2 ⟨R, i, none⟩ k u hk
  have hkk : ∀ k, t k ≠ .out → t k ≠ .tab → t k ≠ .list i → t k ≠ .all → (w2.setCell ⟨R, i, none⟩ u).heap[k]? = w1.heap[k]? := fun k h1 h2 h3 h4 => (hb2 k fun e => h2 (e ▸ h.tR)).trans (ha.keep k (hlt k h1) h3 h4)
  have keepL : ∀ {m u' zs}, LList w2 t2 m u' zs → LList (w2.setCell ⟨R, i, none⟩ u) t2 m u' zs := fun hL => hL.kept fun k hk ht => ⟨hb2 k (fun e => by rw [e, t2R] at ht; rcases ht with ht | ht <;> cases ht), rfl⟩
  refine ⟨t2, rv.set i u, rfl, ⟨fun k hk => ?_, ?_, t2R, fun k e => ?_, ?_, ?_, by simp [gPush, h.rl], ⟨h.hN.1, ?_⟩, fun m hm => ?_, fun v hv => ?_⟩, ⟨?_, ?_, ?_, ?_, fun k hk hn => ?_⟩, told, fun k hk => ?_⟩
  · rw [hsz]
    by_cases e : t k = .out
    · exact (ha.new k e hk).2
    · exact Nat.lt_of_lt_of_le (hlt k e) ha.size
  · exact (told S (by rw [h.tS]; simp)).trans h.tS
  · exact (told k (by rw [h.tN k e]; simp)).trans (h.tN k e)
  · rw [hkk S (by rw [h.tS]; simp) (by rw [h.tS]; simp) (by rw [h.tS]; simp) (by rw [h.tS]; simp), h.hS]; simp [gPush]
  · have e : w2.heap[R]? = some (.cells rv.toArray 43 (0, 0)) := (ha.keep R (hlt R (by rw [h.tR]; simp)) (by rw [h.tR]; simp) (by rw [h.tR]; simp)).trans h.hR
    rw [heap_setCell_same _ _ _ _ _ _ e]
    simp
  · rcases h.hN.2 with h2 | ⟨b, cap, cur, rfl, h1, h2, h3⟩
    · exact .inl h2
    · have e := h.tN b rfl
      exact .inr ⟨b, cap, cur, rfl, h1, (hkk b (by rw [e]; simp) (by rw [e]; simp) (by rw [e]; simp) (by rw [e]; simp)).trans h2, h3⟩
  · simp only [gPush, List.length_set, Int.toNat_natCast] at hm ⊢
    rw [row_set]
    by_cases e : i = m
    · subst e
      rw [if_pos ⟨rfl, hm⟩, List.getD, List.getElem?_set, if_pos rfl, if_pos (by rw [h.rl]; exact hm)]
      exact keepL hl
    · rw [if_neg (fun h => e h.1), List.getD, List.getElem?_set, if_neg e]
      exact keepL (ha.oth m _ _ (fun h => e h.symm) (h.lists m hm))
  · refine (h.slots v hv).kept fun k hk ht => ⟨hkk k (by rw [ht]; simp) (by rw [ht]; simp) (by rw [ht]; simp) (by rw [ht]; simp), ha.old k hk⟩
  · exact ha.os.trans hb.os
  · exact ha.tape.trans hb.tape
  · exact ha.output.trans hb.output
  · rw [hsz]; exact Nat.le_trans hb.size ha.size
  · have hk1 := Nat.lt_of_lt_of_le hk hb.size
    have ho : t k = .out := Classical.byContradiction hn
    rw [hb2 k (fun e => by rw [e, h.tR] at ho; cases ho), ha.keep k hk1 (by rw [ho]; simp) (by rw [ho]; simp), hb.block k hk]
  · by_cases e : t k = .out
    · exact .inr (Nat.le_trans hb.size (ha.new k e hk).1)
    · exact .inl e
set_option maxRecDepth 100000 in
set_option maxHeartbeats 4000000 in
theorem pushP (h : PM w S R t rv sv N g) (i : Nat) (hil : i < g.roots.length) (hlen : (row g.roots i).length ≤ 1000) (x : Int) : Calls Try.prog 47 #[ptr S, .int .i64 (i : Int), .int .i64 x] w (SomeQ S R t sv N (gPush g i x) (.tuple #[]) w) := by
  have H := Lib.hid h
  have c1 := h.c1
  have cR := h.cR i hil
  have fR := h.fR i
  obtain ⟨V, hV⟩ : ∃ V, V = rv.getD i undef := ⟨_, rfl⟩
  have hL := h.lists i hil
  rw [← hV] at cR hL
  have HV := Lib.hid hV
  have i0 : (0 : Int) ≤ (i : Int) := by omega
  have i1 : (i : Int) < (g.roots.length : Int) := by omega
  have HL := Lib.hid hL; have HI := Lib.hid hil; have HN := Lib.hid hlen; have HLO := Lib.hid h.low
  obtain ⟨kS, kR⟩ := h.pcells hil hV (below_alloc0 (Below.refl _ _) (.cells #[.int .i64 x] 3)).drew
  obtain ⟨kS2, kR2⟩ := h.pcells hil hV (below_alloc0 (Below.refl _ _) (.cells #[.int .i64 x] 3))
  clear h hV hL hil hlen
  go_enter Try.func47, Try.ntmps47
  go_wp2_with (fail)
  go_region_law (first
      | (refine step_app rfl _ _ rfl w _ (by repeat (first | exact Below.refl _ _ | refine Below.drew ?_ | refine below_alloc0 ?_ _)) t i V (row g.roots i) rfl HL.out HLO.out x _ rfl (World.cell?_alloc_at _ _ _ _ rfl) HN.out ?_; intro u2 w2 t2 HL2 HAP hB2; obtain ⟨A2, d2, hv2, -⟩ := HL2.rowV; subst hv2; have fR2 := H.out.afro hB2 HAP i; have cR2 := (H.out.acells HI.out HV.out hB2 HAP).2; have cS2 := (H.out.acells HI.out HV.out hB2 HAP).1; have HB2 := Lib.hid hB2; have HA2 := Lib.hid HAP; clear hB2 HAP)
      | fail)
  all_goals
    go_returns
    rw [List.length_append] at HL2
    exact H.out.pushed HI.out HB2.out HA2.out HL2
end
end Go.Proofs.Ytjnkcomedcbenaa
