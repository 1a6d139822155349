/- Many machines that try to mark, beside a store and a map; the slice that they stand in. -/
import Derived.Test.YtbjhciccpkbmoaaClSp
import Derived.Test.YtbjhciccpkbmoaaLwOpen
import Derived.Test.YtbjhciccpkbmoaaGrowV
namespace Go.Proofs.Ytbjhciccpkbmoaa
open Go.RowKit
set_option linter.unusedVariables false
set_option linter.unusedSimpArgs false
set_option maxRecDepth 100000
open Lay (plcc plc shOf packN nodesN OkC Cfg Norm firstV Rep lenL things)

/-- Machines at xs, a store and a map, all apart. -/
structure MS (w0 wr : World) (S D N : Nat) (c : Cfg) (xs : List Nat) (ms : List Cm) (L : List Int) (cc : Int) : Prop where
  st : St wr S D L cc
  c0 : 0 ≤ cc
  bel : Below w0.heap.size w0 wr
  mp : Lay.IsMap wr N c
  ok : OkC c
  lo : w0.heap.size ≤ S ∧ w0.heap.size ≤ D ∧ N ≠ S ∧ N ≠ D
  len : xs.length = ms.length
  cm : ∀ (j : Nat) (m : Cm) (x : Nat), ms[j]? = some m → xs[j]? = some x → CM wr x 1 m
  ge : ∀ x ∈ xs, w0.heap.size ≤ x ∧ x ≠ S ∧ x ≠ D ∧ x ≠ N
  inj : ∀ (i j x : Nat), xs[i]? = some x → xs[j]? = some x → i = j
section
variable {w0 wr w' : World} {S D N : Nat} {c : Cfg} {xs : List Nat} {ms : List Cm} {L L' : List Int} {cc cc' : Int} {x j : Nat} {m : Cm}
theorem MS.below (h : MS w0 wr S D N c xs ms L cc) (hb : Below wr.heap.size wr w') : MS w0 w' S D N c xs ms L cc :=
  ⟨h.st.below hb, h.c0, below_step h.bel h.bel.size hb, h.mp.below hb, h.ok, h.lo, h.len, fun j m x h1 h2 => (h.cm j m x h1 h2).below hb, h.ge, h.inj⟩
theorem MS.drew (h : MS w0 wr S D N c xs ms L cc) : MS w0 wr.drew S D N c xs ms L cc := h.below (Below.refl _ _).drew
theorem MS.drop (h : MS w0 wr S D N c xs ms L cc) : MS w0 wr S D N c [] [] L cc :=
  ⟨h.st, h.c0, h.bel, h.mp, h.ok, h.lo, rfl, (fun j m x h1 _ => by simp at h1), (fun x h => by simp at h), (fun i j x h1 _ => by simp at h1)⟩
/-- Behind an access. -/
theorem MS.left (h : MS w0 wr S D N c xs ms L cc) (k : Left S D L' cc' wr w') (hc : 0 ≤ cc') : MS w0 w' S D N c xs ms L' cc' :=
  ⟨k.1, hc, below_upd h.bel (Nat.le_refl _) k.2 h.lo.1 h.lo.2.1, IsMap_same h.mp k.2.size (k.2.block N h.mp.1 h.lo.2.2.1 h.lo.2.2.2), h.ok, h.lo, h.len, fun j m x h1 h2 => by
    have g := h.ge x (List.mem_of_getElem? h2)
    exact (h.cm j m x h1 h2).keep (k.2.block x (h.cm j m x h1 h2).lt g.2.1 g.2.2.1), h.ge, h.inj⟩
theorem MS.load (h : MS w0 wr S D N c xs ms L cc) (p : Int) (hc : cc ≤ 900000000) : Calls Try.prog 26 #[ptr S, .int .i64 p] wr fun e w' => e = .returned (.int .u64 (ldc L p)) ∧ MS w0 w' S D N c xs ms L (cc + 1) := by
  have h0 := h.c0
  refine (load_any p wr h.st h0 (by omega)).mono ?_
  rintro e w1 ⟨rfl, l⟩
  rw [ldv_eq]
  exact ⟨rfl, h.left l (by omega)⟩
theorem MS.put (h : MS w0 wr S D N c xs ms L cc) (p v : Int) (hc : cc ≤ 900000000) : Calls Try.prog 19 #[ptr S, .int .i64 p, .int .u64 v] wr fun e w' => e = .returned (.tuple #[]) ∧ MS w0 w' S D N c xs ms (ptc L p v) (cc + 1) := by
  have h0 := h.c0
  refine (put_any p v wr h.st h0 (by omega)).mono ?_
  rintro e w1 ⟨rfl, l⟩
  rw [ptv_eq] at l
  exact ⟨rfl, h.left l (by omega)⟩
/-- A step of one of them. -/
theorem MS.step (h : MS w0 wr S D N c xs ms L cc) (hj : ms[j]? = some m) (hx : xs[j]? = some x) (hc : cc ≤ 900000000) :
    Calls Try.prog 22 #[ptr x, ptr S] wr fun e w' => e = .returned (.bool (decide ((cstp 1 L m).2.pc = 0))) ∧ MS w0 w' S D N c xs (ms.set j (cstp 1 L m).2) (cstp 1 L m).1 (ccost m cc) ∧ UF (fun b => b = x ∨ b = S ∨ b = D) wr w' := by
  have h0 := h.c0
  have lo := h.lo
  have gx := h.ge x (List.mem_of_getElem? hx)
  refine (cstep_any wr (h.cm j m x hj hx) h.st ⟨gx.2.1, gx.2.2.1⟩ h0 (by omega)).mono ?_
  rintro e w1 ⟨rfl, hm, hs, u⟩
  refine ⟨rfl, ⟨hs, ?_, below_uf h.bel (Nat.le_refl _) u (fun b hb => by rcases hb with rfl | rfl | rfl; exact gx.1; exact lo.1; exact lo.2.1), IsMap_same h.mp u.size (u.block N h.mp.1 (by omega)), h.ok, lo, by simpa using h.len, fun i m' y h1 h2 => ?_, h.ge, h.inj⟩, u⟩
  · unfold ccost; split <;> omega
  · have hjl : j < ms.length := (List.getElem?_eq_some_iff.1 hj).1
    rw [List.getElem?_set] at h1
    by_cases hij : j = i
    · subst hij
      rw [if_pos rfl, if_pos hjl] at h1
      cases h1
      rw [hx] at h2; cases h2
      exact hm
    · rw [if_neg hij] at h1
      have gy := h.ge y (List.mem_of_getElem? h2)
      have k := h.cm i m' y h1 h2
      exact k.keep (u.block y k.lt (fun e => by
        rcases e with e | e | e
        · subst e; exact hij (h.inj j i _ hx h2)
        · exact gy.2.1 e
        · exact gy.2.2.1 e))
theorem MS.won (h : MS w0 wr S D N c xs ms L cc) (hj : ms[j]? = some m) (hx : xs[j]? = some x) : Calls Try.prog 24 #[ptr x] wr fun e w' => e = .returned (.bool m.won) ∧ wr = w' := (h.cm j m x hj hx).won
/-- A new one. -/
theorem MS.new (h : MS w0 wr S D N c xs ms L cc) (v cy : Int) (hv : (Lit.int .i64 v).wf = true) :
    Calls Try.prog 16 #[Lay.mapP N, .int .i64 v, .int .u64 cy] wr fun e w' => ∃ X, e = .returned (ptr X) ∧ MS w0 w' S D N c (xs ++ [X]) (ms ++ [cNew (plcc c 16 v 0) cy]) L cc ∧ wr.heap.size ≤ X ∧ X < w'.heap.size ∧ Below wr.heap.size wr w' := by
  refine (newm_any h.ok N v cy hv wr h.mp).mono ?_
  rintro e w1 ⟨X, rfl, hn⟩
  have e1 : plcc c 1 0 0 = 1 := Lay.single_pos c 1 (by omega) (by omega)
  rw [e1] at hn
  have h' := h.below hn.2.2
  have hS := h.st.ltS; have hD := h.st.row.lt; have hN := h.mp.1; have hz := h.bel.size; have hX := hn.2.1
  have old : ∀ (i : Nat) y, xs[i]? = some y → y < wr.heap.size := fun i y hy => by
    have hi := (List.getElem?_eq_some_iff.1 hy).1
    have hi2 : i < ms.length := by have := h.len; omega
    exact (h.cm i ms[i] y (List.getElem?_eq_getElem hi2) hy).lt
  refine ⟨X, rfl, ⟨h'.st, h'.c0, h'.bel, h'.mp, h'.ok, h'.lo, by simp [h.len], fun i m' y h1 h2 => ?_, fun y hy => ?_, fun i j y h1 h2 => ?_⟩, hX, hn.1.lt, hn.2.2⟩
  · rw [List.getElem?_append] at h1 h2
    by_cases hi : i < ms.length
    · rw [if_pos hi] at h1; rw [if_pos (by have := h.len; omega)] at h2
      exact h'.cm i m' y h1 h2
    · rw [if_neg hi] at h1; rw [if_neg (by have := h.len; omega)] at h2
      rw [List.getElem?_singleton] at h1 h2
      split at h1 <;> rename_i hi0
      · cases h1
        rw [if_pos (by have := h.len; omega)] at h2; cases h2
        exact CM.new hn
      · cases h1
  · rcases List.mem_append.1 hy with hy | hy
    · exact h.ge y hy
    · obtain rfl : y = X := by simpa using hy
      exact ⟨by omega, by omega, by omega, by omega⟩
  · rw [List.getElem?_append] at h1 h2
    by_cases hi : i < xs.length
    · rw [if_pos hi] at h1
      by_cases hj : j < xs.length
      · rw [if_pos hj] at h2; exact h.inj i j y h1 h2
      · rw [if_neg hj, List.getElem?_singleton] at h2
        split at h2
        · cases h2; have := old i _ h1; omega
        · cases h2
    · rw [if_neg hi, List.getElem?_singleton] at h1
      split at h1
      · cases h1
        by_cases hj : j < xs.length
        · rw [if_pos hj] at h2; have := old j _ h2; omega
        · rw [if_neg hj, List.getElem?_singleton] at h2
          split at h2
          · omega
          · cases h2
      · cases h1
/-- A store that has just been made. -/
theorem MS.start {w9 : World} {e : Ending} (hb : Below w0.heap.size w0 wr) (hm : Lay.IsMap wr N c) (ok : OkC c) (h : SomeNew wr L e w') : ∃ S D, e = .returned (ptr S) ∧ MS w0 w' S D N c [] [] L 0 := by
  obtain ⟨S, D, rfl, hS, hD, hst, hb2⟩ := h
  have hN := hm.1
  have hz := hb.size
  exact ⟨S, D, rfl, hst, by omega, below_step hb hz hb2, hm.below hb2, ok, ⟨by omega, by omega, by omega, by omega⟩, rfl, (fun j m x h1 _ => by simp at h1), (fun x h => by simp at h), (fun i j x h1 _ => by simp at h1)⟩
end

/-- The same, and the slice. -/
structure MR (w0 wr : World) (S D N : Nat) (c : Cfg) (o : Option Nat) (v : Value) (xs : List Nat) (ms : List Cm) (L : List Int) (cc : Int) : Prop where
  m : MS w0 wr S D N c xs ms L cc
  q : QVO 43 o wr v (xs.map ptr)
  a : ∀ b, o = some b → w0.heap.size ≤ b ∧ b ≠ S ∧ b ≠ D ∧ b ≠ N ∧ b ∉ xs
theorem elX : ElT 60 43 (.pointer none) 8 := ⟨Try.underlying60, by kernel_rfl, rfl, by decide⟩
section
variable {w0 wr w' : World} {S D N : Nat} {c : Cfg} {o : Option Nat} {v : Value} {xs : List Nat} {ms : List Cm} {L L' : List Int} {cc cc' : Int} {x j : Nat} {m : Cm}
theorem MR.start (h : MS w0 wr S D N c [] [] L cc) : MR w0 wr S D N c none (.slice none 0 0) [] [] L cc := ⟨h, ⟨rfl, rfl⟩, fun b e => by cases e⟩
theorem MR.below (h : MR w0 wr S D N c o v xs ms L cc) (hb : Below wr.heap.size wr w') : MR w0 w' S D N c o v xs ms L cc := ⟨h.m.below hb, h.q.below hb, h.a⟩
theorem MR.left (h : MR w0 wr S D N c o v xs ms L cc) (k : Left S D L' cc' wr w') (hc : 0 ≤ cc') : MR w0 w' S D N c o v xs ms L' cc' :=
  ⟨h.m.left k hc, h.q.same fun b e => k.2.block b (h.q.lt b e) (h.a b e).2.1 (h.a b e).2.2.1, h.a⟩
theorem MR.load (h : MR w0 wr S D N c o v xs ms L cc) (p : Int) (hc : cc ≤ 900000000) : Calls Try.prog 26 #[ptr S, .int .i64 p] wr fun e w' => e = .returned (.int .u64 (ldc L p)) ∧ MR w0 w' S D N c o v xs ms L (cc + 1) := by
  have h0 := h.m.c0
  refine (load_any p wr h.m.st h0 (by omega)).mono ?_
  rintro e w1 ⟨rfl, l⟩
  rw [ldv_eq]
  exact ⟨rfl, h.left l (by omega)⟩
theorem MR.step (h : MR w0 wr S D N c o v xs ms L cc) (hj : ms[j]? = some m) (hx : xs[j]? = some x) (hc : cc ≤ 900000000) :
    Calls Try.prog 22 #[ptr x, ptr S] wr fun e w' => e = .returned (.bool (decide ((cstp 1 L m).2.pc = 0))) ∧ MR w0 w' S D N c o v xs (ms.set j (cstp 1 L m).2) (cstp 1 L m).1 (ccost m cc) ∧ UF (fun b => b = x ∨ b = S ∨ b = D) wr w' := by
  refine (h.m.step hj hx hc).mono ?_
  rintro e w1 ⟨rfl, hm, u⟩
  refine ⟨rfl, ⟨hm, h.q.same fun b e => u.block b (h.q.lt b e) (fun k => ?_), h.a⟩, u⟩
  have := h.a b e
  rcases k with rfl | rfl | rfl
  · exact this.2.2.2.2 (List.mem_of_getElem? hx)
  · exact this.2.1 rfl
  · exact this.2.2.1 rfl
/-- A new one comes behind. -/
theorem MR.push {X : Nat} {m' : Cm} {v' : Value} {wa : World} (h : MR w0 wr S D N c o v xs ms L cc) (hm : MS w0 w' S D N c (xs ++ [X]) (ms ++ [m']) L cc) (hX : wr.heap.size ≤ X ∧ X < w'.heap.size) (hb : Below wr.heap.size wr w') (hb2 : Below w'.heap.size w' wa) {w2 : World} (g : GrewV 43 o wa w2 v' (xs.map ptr ++ [ptr X])) :
    ∃ o', MR w0 w2 S D N c o' v' (xs ++ [X]) (ms ++ [m']) L cc := by
  obtain ⟨b, hb3, hq, u⟩ := g
  have hm2 := hm.below hb2
  have hS := hm2.st.ltS; have hD := hm2.st.row.lt; have hN := hm2.mp.1; have hz := hm2.bel.size
  have old : ∀ y ∈ xs ++ [X], y < wa.heap.size := fun y hy => by
    obtain ⟨i, hi⟩ := List.getElem?_of_mem hy
    have hl := (List.getElem?_eq_some_iff.1 hi).1
    exact (hm2.cm i _ y (List.getElem?_eq_getElem (by have := hm2.len; omega)) hi).lt
  have ha : w0.heap.size ≤ b ∧ b ≠ S ∧ b ≠ D ∧ b ≠ N ∧ b ∉ xs ++ [X] := by
    rcases hb3 with e | e
    · obtain ⟨a1, a2, a3, a4, a5⟩ := h.a b e
      have hlt := h.q.lt b e
      refine ⟨a1, a2, a3, a4, fun k => ?_⟩
      rcases List.mem_append.1 k with k | k
      · exact a5 k
      · obtain rfl : b = X := by simpa using k
        omega
    · exact ⟨by omega, by omega, by omega, by omega, fun k => by have := old b k; omega⟩
  have uf : UF (fun k => k = b ∨ k = b) wa w2 := UF.of_upd u
  refine ⟨some b, ⟨St_same hm2.st (u.block S hS (Ne.symm ha.2.1) (Ne.symm ha.2.1)) (u.block D hD (Ne.symm ha.2.2.1) (Ne.symm ha.2.2.1)), hm2.c0, below_uf hm2.bel (Nat.le_refl _) uf (fun k e => by rcases e with rfl | rfl <;> exact ha.1), IsMap_same hm2.mp u.size (u.block N hN (Ne.symm ha.2.2.2.1) (Ne.symm ha.2.2.2.1)), hm2.ok, hm2.lo, hm2.len, fun i m'' y h1 h2 => ?_, hm2.ge, hm2.inj⟩, ?_, fun b' e => by cases e; exact ha⟩
  · have hy := List.mem_of_getElem? h2
    have hne : y ≠ b := fun e => ha.2.2.2.2 (e ▸ hy)
    exact (hm2.cm i m'' y h1 h2).keep (u.block y (old y hy) hne hne)
  · show QV 43 b w2 v' _
    rw [List.map_append]; exact hq
/-- The slice as a value, and its cells. -/
theorem MR.cell (h : MR w0 wr S D N c o v xs ms L cc) (hj : xs[j]? = some x) : ∃ b off cap, v = .slice (some ⟨b, off, none⟩) xs.length cap ∧ wr.cell? ⟨b, off + j, none⟩ = some (ptr x) := by
  have hl := (List.getElem?_eq_some_iff.1 hj).1
  cases o with
  | none => obtain ⟨_, e⟩ := h.q; rw [List.map_eq_nil_iff] at e; subst e; simp at hl
  | some b =>
    obtain ⟨off, cap, hv, _, _, hc⟩ := QV.cell h.q
    refine ⟨b, off, cap, by simpa using hv, ?_⟩
    rw [hc j (by simpa using hl)]
    simp [List.getD, List.getElem?_map, hj]
theorem MR.len (h : MR w0 wr S D N c o v xs ms L cc) : ∃ A cp, v = .slice A xs.length cp := by
  obtain ⟨A, cp, e⟩ := h.q.len
  exact ⟨A, cp, by simpa using e⟩
end
theorem new_cell (w : World) (v : Value) (t : TypeId) : (w.alloc (.cells #[v] t)).cell? ⟨w.heap.size, 0, none⟩ = some v := by
  rw [World.cell?_alloc_at _ _ _ _ rfl]; rfl

/-! The two configurations. -/
def c2 : Cfg := ⟨2, 0, 0, 0, 0, 1, 1, 2, 1, 1, 1, 1⟩
def c4 : Cfg := ⟨4, 0, 0, 0, 0, 1, 1, 2, 1, 1, 1, 1⟩
theorem okc2 : OkC c2 := by constructor <;> decide
theorem okc4 : OkC c4 := by constructor <;> decide
theorem new2 (w : World) : Calls Try.prog 10 #[.agg #[.int .i64 2, .int .i64 0, .int .i64 0, .int .i64 0, .int .i64 0, .int .i64 1, .int .i64 1, .int .i64 2, .int .i64 1, .int .i64 1, .int .i64 1, .int .i64 1]] w fun r w' => ∃ N, r = .returned (.tuple #[Lay.mapP N, .int .i64 0]) ∧ Lay.IsMap w' N c2 ∧ Below w.heap.size w w' := Lay.new_yes okc2 w
theorem new4 (w : World) : Calls Try.prog 10 #[.agg #[.int .i64 4, .int .i64 0, .int .i64 0, .int .i64 0, .int .i64 0, .int .i64 1, .int .i64 1, .int .i64 2, .int .i64 1, .int .i64 1, .int .i64 1, .int .i64 1]] w fun r w' => ∃ N, r = .returned (.tuple #[Lay.mapP N, .int .i64 0]) ∧ Lay.IsMap w' N c4 ∧ Below w.heap.size w w' := Lay.new_yes okc4 w
theorem p2_1 : plcc c2 16 1 0 = 60 := by decide
theorem p2_2 : plcc c2 16 2 0 = 65 := by decide
theorem p2_w : plcc c2 1 0 0 = 1 := by decide
theorem p4_w : plcc c4 1 0 0 = 1 := by decide
theorem p4 : plcc c4 16 1 0 = 84 ∧ plcc c4 16 2 0 = 89 ∧ plcc c4 16 3 0 = 94 ∧ plcc c4 16 4 0 = 99 := by decide
/-- The marks and the work at first. -/
theorem first2 {L : List Int} (h : Rep (shOf c2) L (firstV c2)) : L.length = 68 ∧ L.getD 1 0 = 0 ∧ L.getD 60 0 = 0 ∧ L.getD 65 0 = 0 := by
  have hl : lenL (shOf c2) = 68 := by decide
  have n1 : Norm ⟨1, 0, 0⟩ := nrm 1 0 0 (by omega) (by omega) (fun _ => rfl) (fun _ _ _ => rfl)
  have n16 : ∀ v, Norm ⟨16, v, 0⟩ := fun v => nrm 16 v 0 (by omega) (by omega) (fun h => by omega) (fun _ _ _ => rfl)
  refine ⟨by rw [h.1]; exact hl, ?_, ?_, ?_⟩
  · have := h.2 ⟨1, 0, 0⟩ n1 (by decide); rw [Lay.fv_rest _ (by decide)] at this; exact this
  · have := h.2 ⟨16, 1, 0⟩ (n16 1) (by decide); rw [Lay.fv_rest _ (by decide)] at this; exact this
  · have := h.2 ⟨16, 2, 0⟩ (n16 2) (by decide); rw [Lay.fv_rest _ (by decide)] at this; exact this
theorem first4 {L : List Int} (h : Rep (shOf c4) L (firstV c4)) : L.length = 102 ∧ L.getD 1 0 = 0 ∧ L.getD 84 0 = 0 ∧ L.getD 89 0 = 0 ∧ L.getD 94 0 = 0 ∧ L.getD 99 0 = 0 := by
  have hl : lenL (shOf c4) = 102 := by decide
  have n1 : Norm ⟨1, 0, 0⟩ := nrm 1 0 0 (by omega) (by omega) (fun _ => rfl) (fun _ _ _ => rfl)
  have n16 : ∀ v, Norm ⟨16, v, 0⟩ := fun v => nrm 16 v 0 (by omega) (by omega) (fun h => by omega) (fun _ _ _ => rfl)
  refine ⟨by rw [h.1]; exact hl, ?_, ?_, ?_, ?_, ?_⟩
  · have := h.2 ⟨1, 0, 0⟩ n1 (by decide); rw [Lay.fv_rest _ (by decide)] at this; exact this
  · have := h.2 ⟨16, 1, 0⟩ (n16 1) (by decide); rw [Lay.fv_rest _ (by decide)] at this; exact this
  · have := h.2 ⟨16, 2, 0⟩ (n16 2) (by decide); rw [Lay.fv_rest _ (by decide)] at this; exact this
  · have := h.2 ⟨16, 3, 0⟩ (n16 3) (by decide); rw [Lay.fv_rest _ (by decide)] at this; exact this
  · have := h.2 ⟨16, 4, 0⟩ (n16 4) (by decide); rw [Lay.fv_rest _ (by decide)] at this; exact this
end Go.Proofs.Ytbjhciccpkbmoaa
