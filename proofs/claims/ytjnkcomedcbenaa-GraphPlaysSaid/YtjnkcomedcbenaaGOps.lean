/- The document's graph: whether a root has a slot; lists that are made of others; walked. -/
import Derived.Test.YtjnkcomedcbenaaGRoot
namespace Go.Proofs.Ytjnkcomedcbenaa
open Go.RowKit
set_option linter.unusedVariables false

set_option maxHeartbeats 2000000 in
theorem has_any {P : Nat → Prop} (A : Option Addr) (rn c : Nat) (B : Option Addr) (nn d : Nat) (mo : Int) (g : Gr) (m a i : Int) (w : World) (h : GM P w A rn c B nn d mo g) (hk : Ok g) (hnn : nn ≤ 100000) :
    Calls Try.prog 34 #[gV A rn c B nn d mo, .int .i64 m, .int .i64 a, .int .i64 i] w fun e w' => e = .returned (.bool (gHas g m a i)) ∧ Below w.heap.size w w' := by
  have H := Lib.hid (h.below (below_alloc0 (Below.refl _ _) (.cells #[.slice A rn c, .slice B nn d, .int .i64 mo] 28)))
  have hbd := root_bd hk m a
  have hnb := h.rb.1
  obtain ⟨v, hv⟩ : ∃ v, v = gRoot g m a := ⟨_, rfl⟩
  have e0 : gHas g m a i = (decide (0 < v) && isIn (row g.nodes (v - 1).toNat).length i) := by rw [hv]; rfl
  rw [e0]
  rw [← hv] at hbd
  have HV := Lib.hid hv.symm
  clear hv e0
  by_cases h0 : 0 < v
  · have hd0 : decide (0 < v) = true := by simpa using h0
    rw [hd0, Bool.true_and]
    obtain ⟨u, hu⟩ : ∃ u : Nat, v = (u : Int) + 1 := ⟨(v - 1).toNat, by omega⟩
    obtain ⟨b, off, R, q, rfl, hlt, hcell, hrd, hq, hqm, hqn⟩ := h.rb.get u (by omega)
    rw [show (v - 1).toNat = u by omega]
    subst hu
    obtain ⟨n, hn⟩ : ∃ n, n = (row g.nodes u).length := ⟨_, rfl⟩
    rw [← hn] at hcell hq ⊢
    have hcell' := (World.cell?_alloc_lt w (.cells #[.slice A rn c, .slice (some ⟨b, off, none⟩) nn d, .int .i64 mo] 28) ⟨b, off + u, none⟩ hlt).trans hcell
    have hu1 : (u : Int) < (nn : Int) := by omega
    have HC : Hid (∀ w1, Below (w.alloc (.cells #[.slice A rn c, .slice (some ⟨b, off, none⟩) nn d, .int .i64 mo] 28)).heap.size (w.alloc (.cells #[.slice A rn c, .slice (some ⟨b, off, none⟩) nn d, .int .i64 mo] 28)) w1 → w1.cell? ⟨b, off + u, none⟩ = some (.slice R n q) ∧ w1.cell? ⟨w.heap.size, 1, none⟩ = some (.slice (some ⟨b, off, none⟩) nn d)) :=
      Lib.hid fun w1 hb => ⟨(hb.cell (p := ⟨b, off + u, none⟩) (by simp; omega)).trans hcell', (hb.cell (p := ⟨w.heap.size, 1, none⟩) (by simp)).trans (by rw [World.cell?_alloc_at _ _ _ _ rfl]; rfl)⟩
    clear h hn hcell hcell' hrd hqn hnb hbd h0 hlt
    cases hi : isIn n i
    · have hno := isIn_no hi
      by_cases hz : i ≥ 0
      · have hz1 : decide (i ≥ 0) = true := by simpa using hz
        have ht : decide (i < (n : Int)) = false := by simp; omega
        clear hi hno
        go_enter Try.func34, Try.ntmps34
        go_wp2_with (first
          | (go_at_call 35; (with_reducible refine (root_any _ _ _ _ _ _ _ g _ _ _ H.out).mono ?_); rintro r w1 ⟨rfl, hb⟩; rw [HV.out]; obtain ⟨c1, c2⟩ := HC.out _ hb; have HB := Lib.hid hb; clear hb)
          | fail)
        go_ret
        exact ⟨rfl, below_then (below_alloc0 (Below.refl _ _) _) HB.out⟩
      · have hz1 : decide (i ≥ 0) = false := by simpa using hz
        clear hi hno
        go_enter Try.func34, Try.ntmps34
        go_wp2_with (first
          | (go_at_call 35; (with_reducible refine (root_any _ _ _ _ _ _ _ g _ _ _ H.out).mono ?_); rintro r w1 ⟨rfl, hb⟩; rw [HV.out]; obtain ⟨c1, c2⟩ := HC.out _ hb; have HB := Lib.hid hb; clear hb)
          | fail)
        go_ret
        exact ⟨rfl, below_then (below_alloc0 (Below.refl _ _) _) HB.out⟩
    · have hyes := isIn_iff.1 hi
      have hz1 : decide (i ≥ 0) = true := by simp; omega
      have ht : decide (i < (n : Int)) = true := by simp; omega
      clear hi hyes
      go_enter Try.func34, Try.ntmps34
      go_wp2_with (first
        | (go_at_call 35; (with_reducible refine (root_any _ _ _ _ _ _ _ g _ _ _ H.out).mono ?_); rintro r w1 ⟨rfl, hb⟩; rw [HV.out]; obtain ⟨c1, c2⟩ := HC.out _ hb; have HB := Lib.hid hb; clear hb)
        | fail)
      go_ret
      exact ⟨rfl, below_then (below_alloc0 (Below.refl _ _) _) HB.out⟩
  · have hd0 : decide (0 < v) = false := by simpa using h0
    rw [hd0, Bool.false_and]
    have h0' : v ≤ 0 := by omega
    clear h hbd hnb h0 hd0
    go_enter Try.func34, Try.ntmps34
    go_wp2_with (first
      | (go_at_call 35; (with_reducible refine (root_any _ _ _ _ _ _ _ g _ _ _ H.out).mono ?_); rintro r w1 ⟨rfl, hb⟩; rw [HV.out]; have HB := Lib.hid hb; clear hb)
      | fail)
    go_ret
    exact ⟨rfl, below_then (below_alloc0 (Below.refl _ _) _) HB.out⟩

/-- Values in a row of the call's own. -/
def OwnV (e : TypeId) (B : Nat) (w0 wr : World) (v : Value) (vs : List Value) : Prop := wr.ownsRow B e 1 v vs.length vs ∧ Below B w0 wr
theorem OwnV.nil {e : TypeId} {B : Nat} {w0 wr : World} (h : Below B w0 wr) : OwnV e B w0 wr (.slice none 0 0) [] := ⟨World.ownsRow_nil _ _ _ _, h⟩
theorem OwnV.step {e : TypeId} {B : Nat} {w0 wr w' : World} {v : Value} {vs : List Value} (h : OwnV e B w0 wr v vs) (hB : B ≤ w0.heap.size) (hb : Below wr.heap.size wr w') : OwnV e B w0 w' v vs :=
  ⟨h.1.kept (row := none) ⟨hb.os, hb.tape, hb.output, hb.size, fun i hi _ => hb.block i hi⟩ (by cases v.ownBlock <;> simp), below_step h.2 (Nat.le_trans hB h.2.size) hb⟩
theorem OwnV.at' {e : TypeId} {B : Nat} {w0 wr : World} {v : Value} {vs : List Value} (h : OwnV e B w0 wr v vs) : ∃ A c, v = .slice A vs.length c ∧ vs.length ≤ c ∧ c ≤ maxLen ∧ (A = none → c = 0) ∧ Cells (B ≤ ·) wr A vs ∧ (0 < vs.length → ∃ g, A = some ⟨g, 0, none⟩ ∧ B ≤ g ∧ g < wr.heap.size ∧ ∀ j, wr.frozen? ⟨g, j, none⟩ = false) := by
  obtain ⟨ho, hb⟩ := h
  have hlt := ho.lt
  obtain ⟨hl, ⟨h1, h2⟩ | ⟨g, cap, cur, h1, h2, h3, h4, h5, h6, h7⟩⟩ := id ho
  · exact ⟨none, 0, by rw [h1, h2], by omega, by unfold maxLen; omega, fun _ => rfl, fun h => by omega, fun h => by omega⟩
  · subst h1
    refine ⟨_, cap, rfl, h4, h5, (fun e => by cases e), fun _ => ⟨g, 0, rfl, ⟨(hlt g rfl).2, h2⟩, fun j hj => ?_⟩, fun _ => ⟨g, rfl, h2, (hlt g rfl).2, fun j => ho.frozenAt j⟩⟩
    rw [Nat.zero_add, ho.cellAt j (by omega), List.getD, List.getElem?_eq_getElem hj]; rfl

/-- An append of all of a slice to a row of the call's own, nil let in on both sides. -/
theorem append_more {P : Nat → Prop} {w : World} {ops : Array Oper} {rest : List Oper} {o : Oper} {a : Act} {Q : Exit → Act → World → Prop} (hg : o.guard = none) (s x : Operand) (t e : TypeId)
    (ho : o.op = .call { callee := .builtin .append, args := #[s, x], argTypes := #[t, t] }) (ht : Try.prog.underlying t = some (.slice e)) {z : Value} {by' : Nat}
    (hi : (Try.prog.info? e).map (fun i => (i.zero, i.size, i.bytes)) = some (some z, 1, by')) (hz : z.cells.size = 1) (hby : by' ≤ 24)
    (B : Nat) (w0 : World) (v : Value) (xs : List Value) (hown : OwnV e B w0 w v xs) (hB : B ≤ w0.heap.size)
    (A : Option Addr) (n cap : Nat) (vs : List Value) (hs : a.eval s = v) (hx : a.eval x = .slice A n cap) (hn : n = vs.length) (hl : xs.length + n ≤ 100000) (hle : n ≤ cap) (hcap : A = none → cap = 0) (hc : Cells P w A vs) (h1 : ∀ v ∈ vs, v.oneCell' = true)
    (h : ∀ v' w', OwnV e B w0 w' v' (xs ++ vs) → Kept (fun b => v.ownBlock ≠ some b) w w' → wpList Try.prog ops Q rest (a.put o.dst v') w') :
    wpList Try.prog ops Q (o :: rest) a w := by
  obtain ⟨i0, hi0, hz0, hz1, hz2⟩ := info_parts hi
  have hsz := hown.2.size
  cases A with
  | none =>
    have := hcap rfl
    subst this
    have hn0 : n = 0 := by omega
    subst hn0
    have hvs : vs = [] := List.eq_nil_of_length_eq_zero hn.symm
    subst hvs
    exact wpList_append_own_none hg s x t ho B e i0 1 ht hi0 v xs.length xs hs hown.1 hx (h _ _ (by rw [List.append_nil]; exact hown) (Kept.refl _ _))
  | some ad =>
    have hcells : ∀ j u, vs[j]? = some u → w.cell? (ad.add j) = some u := fun j u hj => by
      rcases Nat.lt_or_ge j vs.length with hj' | hj'
      · obtain ⟨b, off, e, _, hcc⟩ := hc (by omega)
        cases e
        rw [add_off, hcc j hj', List.getD, hj]; rfl
      · rw [List.getElem?_eq_none hj'] at hj; cases hj
    refine wpList_append_own _ hg s x t ho B e i0 _ 1 by' ht hi0 hz0 hz1 hz2 hz (by decide) v xs.length xs hs hown.1 ad n cap vs hx (by omega) hcells h1 (by unfold maxLen; omega) (by have := Nat.mul_le_mul hl hby; omega) (by omega) ?_
    intro v' w' h2 h3 _
    exact h v' w' ⟨by rw [List.length_append, ← hn]; exact h2, hown.2.grown h3 (by omega) (fun b hb => (hown.1.lt b hb).1)⟩ ⟨h3.size, fun k hk hp => h3.block k hk (fun e => hp e.symm)⟩

theorem map_one (zs : List Int) : ∀ v ∈ zs.map (Value.int .i64), v.oneCell' = true := fun v hv => by
  obtain ⟨x, _, rfl⟩ := List.mem_map.1 hv; rfl
theorem map_getD (zs : List Int) (j : Nat) (h : j < zs.length) : (zs.map (Value.int .i64)).getD j undef = .int .i64 (zs.getD j 0) := by
  have e := map_get .i64 zs j h
  rw [show (zs.map (Value.int .i64)).getD j undef = ((zs.map (Value.int .i64))[j]?).getD undef from rfl, e]; rfl
theorem Reads.cells {P : Nat → Prop} {w : World} {A : Option Addr} {zs : List Int} (h : Reads P w A zs) : Cells P w A (zs.map (Value.int .i64)) := fun h0 => by
  obtain ⟨b, off, e, hlt, hc⟩ := h (by simpa using h0)
  refine ⟨b, off, e, hlt, fun j hj => ?_⟩
  have hj' : j < zs.length := by simpa using hj
  rw [hc j hj', map_getD zs j hj']
theorem RowsV.one {P : Nat → Prop} {w : World} {vs : List Value} {ls : List (List Int)} (h : RowsV P w vs ls) : ∀ v ∈ vs, v.oneCell' = true := fun v hv => by
  obtain ⟨j, hj, rfl⟩ := List.getElem_of_mem hv
  have := (h.2 j (by rw [← h.1]; exact hj)).one
  rwa [List.getD, List.getElem?_eq_getElem hj] at this
theorem cells_lit (w : World) (v : Value) (T : TypeId) : Cells Any (w.alloc (.cells #[v] T)) (some ⟨w.heap.size, 0, none⟩) [v] := fun _ =>
  ⟨w.heap.size, 0, rfl, ⟨by simp, trivial⟩, fun j hj => by
    rw [Nat.zero_add, World.cell?_alloc_at _ _ _ _ rfl]
    match j, hj with
    | 0, _ => rfl⟩
/-- A row of the call's own of numbers, as a slice. -/
theorem OwnV.rowV {B : Nat} {w0 wr : World} {v : Value} {zs : List Int} (h : OwnV 3 B w0 wr v (zs.map (Value.int .i64))) : RowV (B ≤ ·) wr v zs := by
  obtain ⟨A, c, hv, h1, h2, h3, h4, _⟩ := h.at'
  rw [List.length_map] at hv h1
  refine ⟨A, c, hv, fun h0 => ?_, h1, h2, h3⟩
  obtain ⟨b, off, e, hlt, hc⟩ := h4 (by simpa using h0)
  refine ⟨b, off, e, hlt, fun j hj => ?_⟩
  rw [hc j (by simpa using hj), map_getD zs j hj]

/-- A row of the call's own of slices. -/
theorem RowsV.set {P : Nat → Prop} {w : World} {vs : List Value} {ls : List (List Int)} (h : RowsV P w vs ls) (i : Nat) {v : Value} {zs : List Int} (hv : RowV P w v zs) : RowsV P w (vs.set i v) (ls.set i zs) := by
  refine ⟨by simpa using h.1, fun j hj => ?_⟩
  have hj' : j < ls.length := by simpa using hj
  rw [row_set]
  by_cases e : i = j
  · subst e
    rw [if_pos ⟨rfl, hj'⟩, List.getD, List.getElem?_set, if_pos rfl, if_pos (by rw [h.1]; exact hj')]
    exact hv
  · rw [if_neg (fun h => e h.1), List.getD, List.getElem?_set, if_neg e]
    exact h.2 j hj'
theorem RowsV.app {P : Nat → Prop} {w : World} {vs : List Value} {ls : List (List Int)} (h : RowsV P w vs ls) {v : Value} {zs : List Int} (hv : RowV P w v zs) : RowsV P w (vs ++ [v]) (ls ++ [zs]) := by
  refine ⟨by simpa using h.1, fun j hj => ?_⟩
  rw [row_app]
  by_cases e : j = ls.length
  · subst e
    rw [if_pos rfl, List.getD, ← h.1]
    simpa using hv
  · have hj' : j < ls.length := by simp at hj; omega
    rw [if_neg e, List.getD, List.getElem?_append_left (by rw [h.1]; exact hj')]
    exact h.2 j hj'
theorem OwnV.rowsAt {P : Nat → Prop} {B : Nat} {w0 wr : World} {v : Value} {vs : List Value} {ls : List (List Int)} (h : OwnV 43 B w0 wr v vs) (hr : RowsV P wr vs ls) (hP : ∀ b, B ≤ b → P b) : ∃ A c, v = .slice A ls.length c ∧ RowsAt P wr A ls.length c ls := by
  obtain ⟨A, c, hv, h1, h2, h3, h4, _⟩ := h.at'
  rw [hr.1] at hv h1
  exact ⟨A, c, hv, rfl, h1, h2, h3, vs, hr, h4.to fun b _ h => hP b h⟩
theorem OwnV.set {e : TypeId} {B g n cap : Nat} {w0 wr : World} {vs : List Value} (h : OwnV e B w0 wr (.slice (some ⟨g, 0, none⟩) n cap) vs) (hn : n = vs.length) (i : Nat) (u : Value) : OwnV e B w0 (wr.setCell ⟨g, i, none⟩ u) (.slice (some ⟨g, 0, none⟩) n cap) (vs.set i u) := by
  subst hn
  have s := (h.1.stored i u).1
  exact ⟨by rw [List.length_set]; exact s, h.2.setCell (h.1.lt g rfl).1 _⟩

/-- What with answers: these lists in a new slice. -/
def SomeRows (P : Nat → Prop) (w : World) (n : Nat) (ls : List (List Int)) (e : Ending) (w' : World) : Prop := ∃ A c, e = .returned (.slice A n c) ∧ RowsAt P w' A n c ls ∧ Below w.heap.size w w'
theorem below_set {B : Nat} {w0 wr : World} {g i : Nat} {u : Value} (h : Below B w0 wr) (hg : B ≤ g) : Below B w0 (wr.setCell ⟨g, i, none⟩ u) := h.setCell hg _

set_option maxHeartbeats 2000000 in
theorem with_any {P : Nat → Prop} (A : Option Addr) (n c : Nat) (ls : List (List Int)) (i : Nat) (v : Value) (zs : List Int) (w : World) (h : RowsAt P w A n c ls) (hi : i < n) (hn1 : n ≤ 10000) (hv : RowV P w v zs) (hP : ∀ b, w.heap.size ≤ b → P b) :
    Calls Try.prog 36 #[.slice A n c, .int .i64 (i : Int), v] w (SomeRows P w n (ls.set i zs)) := by
  obtain ⟨hn, hnc, hcm, hcn, vs, hrv, hcl⟩ := h
  obtain ⟨R, q, rfl, hvr⟩ := hv
  have hvs : n = vs.length := by rw [hrv.1]; exact hn
  have H1 := Lib.hid hrv; have H2 := Lib.hid hcl; have H3 := Lib.hid hvs; have H4 := Lib.hid hn; have H5 := Lib.hid hcn; have H6 := Lib.hid hnc
  have H7 : Hid (RowV P w (.slice R zs.length q) zs) := Lib.hid ⟨R, q, rfl, hvr⟩
  obtain ⟨zn, hzn⟩ : ∃ zn, zn = zs.length := ⟨_, rfl⟩
  rw [← hzn] at H7 ⊢
  have HI := Lib.hid hi
  have hi0 : (0 : Int) ≤ (i : Int) := by omega
  have hi1 : (i : Int) < (n : Int) := by omega
  clear hn hnc hcm hcn hrv hcl hvr hvs hi hzn
  go_enter Try.func36, Try.ntmps36
  go_wp2_with (first
    | (at_builtin; refine append_more rfl _ _ 26 43 rfl Try.underlying26 info43 rfl (by decide) w.heap.size w (.slice none 0 0) [] (OwnV.nil (Below.refl _ _)) (Nat.le_refl _) A n c vs rfl rfl H3.out (by simp; omega) H6.out H5.out H2.out H1.out.one ?_
       rintro v' w1 ho -
       rw [List.nil_append] at ho
       obtain ⟨A1, c1, rfl, hv1, hv2, hv3, hv4, hv5⟩ := ho.at'
       obtain ⟨g, rfl, hg1, hg2, hfr⟩ := hv5 (by have := H3.out; have := HI.out; omega)
       obtain ⟨b, off, hbo, hbl, hcc⟩ := hv4 (by have := H3.out; have := HI.out; omega)
       cases hbo
       have hci := hcc i (by have := H3.out; have := HI.out; omega)
       rw [Nat.zero_add] at hci
       have hfi := hfr i
       have HO := Lib.hid (ho.set rfl i (.slice R zn q))
       rw [← H3.out] at HO ⊢
       clear hcc hfr hv4 hv5 hv3)
    | fail)
  go_ret
  have ho := HO.out
  obtain ⟨A2, c2, e2, hr2⟩ := ho.rowsAt ((H1.out.kept (Kept.below ho.2)).set i (H7.out.kept (Kept.below ho.2))) hP
  rw [List.length_set, ← H4.out] at e2 hr2
  exact ⟨A2, c2, by rw [← e2]; rfl, hr2, ho.2⟩
end Go.Proofs.Ytjnkcomedcbenaa
