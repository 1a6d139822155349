/- A stack that is used by one alone, beside a list and a row of bools: what holds while it goes on. -/
import Derived.Test.YtgnnhjadmepipaaGrow
import Derived.Test.YtgnnhjadmepipaaFirstLaw
namespace Go.Proofs.Ytgnnhjadmepipaa
open Go.RowKit
set_option linter.unusedVariables false
set_option linter.unusedSimpArgs false
attribute [local irreducible] sruns

theorem nodup_le : ∀ (n : Nat) (Q : List Int), Q.Nodup → (∀ q ∈ Q, 1 ≤ q ∧ q ≤ (n : Int)) → Q.length ≤ n
  | 0, Q, _, h => by
    cases Q with
    | nil => simp
    | cons q Q => have := h q (by simp); omega
  | n + 1, Q, hd, h => by
    have h2 := nodup_le n (Q.erase ((n + 1 : Nat) : Int)) (hd.erase _) (fun q hq => by
      have hm := (hd.mem_erase_iff).1 hq
      have := h q hm.2
      have hne := hm.1
      omega)
    rw [List.length_erase] at h2
    split at h2 <;> omega
theorem getD_rev (Q : List Int) (j : Nat) (h : j < Q.length) : Q.reverse.getD (Q.length - 1 - j) 0 = Q.getD j 0 := by
  simp only [List.getD]
  rw [List.getElem?_reverse (by omega)]
  congr 2; omega

theorem upd_set (w : World) (b i : Nat) (v : Value) : Upd b b w (w.setCell ⟨b, i, none⟩ v) := ⟨rfl, rfl, rfl, by simp, fun k hk h1 _ => heap_setCell_other w ⟨b, i, none⟩ k v h1⟩
/-- Qs is in the stack, Qb in the row, Ql in the list. -/
structure AL (S D Bx Ab IN : Nat) (w wr : World) (k T : Int) (L Qs Qb Ql : List Int) (v : Value) (o : Option Nat) : Prop where
  ok : Ok w.heap.size S D Bx Ab w wr (upto 9) L k
  stk : Stk 9 L T Qs
  q8 : ∀ q ∈ Qs, 1 ≤ q ∧ q ≤ 8
  br : ∃ bs, BR wr IN bs ∧ bs.length = 10 ∧ ∀ x : Nat, x < 10 → bs.getD x false = decide ((x : Int) ∈ Qb)
  ap : Ap w.heap.size S D Bx Ab IN
  l : QO o wr v Ql.reverse
  lo : ∀ b, o = some b → Ap w.heap.size S D Bx Ab b ∧ b ≠ IN
section
variable {S D Bx Ab IN M : Nat} {w wr w' : World} {k T : Int} {L Qs Qb Ql : List Int} {v : Value} {o : Option Nat} {m : Sm}
theorem AL.bel (h : AL S D Bx Ab IN w wr k T L Qs Qb Ql v o) : Below w.heap.size w wr := h.ok.bel
theorem AL.ltI (h : AL S D Bx Ab IN w wr k T L Qs Qb Ql v o) : IN < wr.heap.size := by obtain ⟨bs, hb, _⟩ := h.br; exact hb.lt
theorem AL.step (h : AL S D Bx Ab IN w wr k T L Qs Qb Ql v o) (hb : Below wr.heap.size wr w') : AL S D Bx Ab IN w w' k T L Qs Qb Ql v o := by
  obtain ⟨bs, h1, h2, h3⟩ := h.br
  exact ⟨h.ok.step hb, h.stk, h.q8, ⟨bs, h1.below hb, h2, h3⟩, h.ap, h.l.below hb, h.lo⟩
theorem AL.more (h : AL S D Bx Ab IN w wr k T L Qs Qb Ql v o) {j : Int} (hj : k ≤ j) : AL S D Bx Ab IN w wr j T L Qs Qb Ql v o := ⟨h.ok.more hj, h.stk, h.q8, h.br, h.ap, h.l, h.lo⟩
/-- A machine is begun. -/
structure AM (S D Bx Ab IN M : Nat) (w wr : World) (k T : Int) (L Qs Qb Ql : List Int) (v : Value) (o : Option Nat) (m : Sm) : Prop where
  a : AL S D Bx Ab IN w wr k T L Qs Qb Ql v o
  mm : MM wr M Bx m
  ap : Ap w.heap.size S D Bx Ab M
  n : IN ≠ M
  nl : ∀ b, o = some b → b ≠ M
theorem AL.begin (h : AL S D Bx Ab IN w wr k T L Qs Qb Ql v o) (hM : wr.heap.size ≤ M) (hm : MM w' M Bx m) (hb : Below wr.heap.size wr w') : AM S D Bx Ab IN M w w' k T L Qs Qb Ql v o m :=
  ⟨h.step hb, hm, h.ok.new hM, by have := h.ltI; omega, fun b e => by have := h.l.lt b e; omega⟩
theorem am_whole (h : AM S D Bx Ab IN M w wr k T L Qs Qb Ql v o m) (hz : m.k.links = upto 9) (wm : Wm 0 m) (hk : k ≤ 800000000) {T' : Int} {Q' : List Int} (x : Int) (hx : sItem (sruns 4 L m).2 = x) (hs : Stk 9 (sruns 4 L m).1 T' Q') (q8 : ∀ q ∈ Q', 1 ≤ q ∧ q ≤ 8) :
    Calls Try.prog 29 #[ptr M, ptr S] wr fun e w' => e = .returned (.int .i64 x) ∧ AL S D Bx Ab IN w w' (k + 4) T' (sruns 4 L m).1 Q' Qb Ql v o := by
  refine (whole_is h.a.ok h.mm h.ap hz wm hk (by decide) _ _ rfl x hx).mono ?_
  rintro e w1 ⟨rfl, ho, hm, _, u⟩
  obtain ⟨bs, h1, h2, h3⟩ := h.a.br
  refine ⟨rfl, ho, hs, q8, ⟨bs, h1.same (u.block IN h1.lt h.n h.a.ap.2.1 h.a.ap.2.2.1), h2, h3⟩, h.a.ap, h.a.l.same fun b e => ?_, h.a.lo⟩
  have := (h.a.lo b e).1
  exact u.block b (h.a.l.lt b e) (h.nl b e) this.2.1 this.2.2.1
theorem am_push {x : Int} (h : AM S D Bx Ab IN M w wr k T L Qs Qb Ql v o (mPush (sk 9) x)) (hk : k ≤ 800000000) (hT : T + 1 < 100000) (x0 : 1 ≤ x) (x1 : x ≤ 8) (hx : x ∉ Qs) :
    Calls Try.prog 29 #[ptr M, ptr S] wr fun e w' => e = .returned (.int .i64 x) ∧ ∃ L', AL S D Bx Ab IN w w' (k + 4) (T + 1) L' (x :: Qs) Qb Ql v o := by
  obtain ⟨s1, s2, s3⟩ := alone_push h.a.stk hT x0 (by omega) hx 1
  refine (am_whole h rfl (wm_push _ _) hk x (by unfold sItem; rw [if_pos s2]; exact s3) s1 (fun q hq => ?_)).mono fun e w' hh => ⟨hh.1, _, hh.2⟩
  rcases List.mem_cons.1 hq with rfl | hq
  · exact ⟨x0, x1⟩
  · exact h.a.q8 q hq
theorem am_none (h : AM S D Bx Ab IN M w wr k T L [] Qb Ql v o (mPop (sk 9))) (hk : k ≤ 800000000) :
    Calls Try.prog 29 #[ptr M, ptr S] wr fun e w' => e = .returned (.int .i64 0) ∧ ∃ L', AL S D Bx Ab IN w w' (k + 4) T L' [] Qb Ql v o := by
  have s := alone_none h.a.stk 3
  exact (am_whole h rfl (wm_pop _) hk 0 (by rw [s]; rfl) (by rw [s]; exact h.a.stk) (fun q hq => by simp at hq)).mono fun e w' hh => ⟨hh.1, _, hh.2⟩
theorem am_pop {q : Int} {Q : List Int} (h : AM S D Bx Ab IN M w wr k T L (q :: Q) Qb Ql v o (mPop (sk 9))) (hk : k ≤ 800000000) (hT : T + 1 < 100000) :
    Calls Try.prog 29 #[ptr M, ptr S] wr fun e w' => e = .returned (.int .i64 q) ∧ ∃ L', AL S D Bx Ab IN w w' (k + 4) (T + 1) L' Q Qb Ql v o := by
  obtain ⟨s1, s2, s3⟩ := alone_pop h.a.stk hT 1
  exact (am_whole h rfl (wm_pop _) hk q (by unfold sItem; rw [if_pos s2]; exact s3) s1 (fun x hx => h.a.q8 x (by simp [hx]))).mono fun e w' hh => ⟨hh.1, _, hh.2⟩

/-- A bool is stored. -/
theorem AL.setI (h : AL S D Bx Ab IN w wr k T L Qs Qb Ql v o) (x : Nat) (t : Bool) (Q' : List Int) (hx : x < 10) (hQ : ∀ y : Nat, y < 10 → decide ((y : Int) ∈ Q') = if y = x then t else decide ((y : Int) ∈ Qb)) :
    AL S D Bx Ab IN w (wr.setCell ⟨IN, x, none⟩ (.bool t)) k T L Qs Q' Ql v o := by
  obtain ⟨bs, h1, h2, h3⟩ := h.br
  refine ⟨h.ok.upd (upd_set _ _ _ _) h.ap, h.stk, h.q8, ⟨bs.set x t, h1.set x t, by simpa using h2, fun y hy => ?_⟩, h.ap, h.l.same fun b e => ?_, h.lo⟩
  · rw [hQ y hy]
    simp only [List.getD, List.getElem?_set]
    by_cases e : x = y
    · subst e; rw [if_pos rfl, if_pos (by omega), if_pos rfl]; rfl
    · rw [if_neg e, if_neg (Ne.symm e)]; exact h3 y hy
  · exact heap_setCell_other wr ⟨IN, x, none⟩ b _ (h.lo b e).2
theorem AL.cellI (h : AL S D Bx Ab IN w wr k T L Qs Qb Ql v o) (x : Nat) (hx : x < 10) (t : Bool) (ht : decide ((x : Int) ∈ Qb) = t) : wr.cell? ⟨IN, x, none⟩ = some (.bool t) ∧ wr.frozen? ⟨IN, x, none⟩ = false := by
  obtain ⟨bs, h1, h2, h3⟩ := h.br
  refine ⟨?_, h1.fro x⟩
  rw [h1.cell x (by omega), h3 x hx, ht]
/-- A number comes behind. -/
theorem AL.grew {v' : Value} {Q' : List Int} (h : AL S D Bx Ab IN w wr k T L Qs Qb Ql v o) (g : Grew o wr w' v' Q'.reverse) : ∃ o', AL S D Bx Ab IN w w' k T L Qs Qb Q' v' o' := by
  obtain ⟨b, hb, hq, u⟩ := g
  obtain ⟨bs, h1, h2, h3⟩ := h.br
  have hap : Ap w.heap.size S D Bx Ab b ∧ b ≠ IN := by
    rcases hb with e | e
    · exact h.lo b e
    · exact ⟨h.ok.new e, by have := h.ltI; omega⟩
  exact ⟨some b, h.ok.upd u hap.1, h.stk, h.q8, ⟨bs, h1.same (u.block IN h1.lt (Ne.symm hap.2) (Ne.symm hap.2)), h2, h3⟩, h.ap, hq, fun c e => by cases e; exact hap⟩
end
end Go.Proofs.Ytgnnhjadmepipaa
