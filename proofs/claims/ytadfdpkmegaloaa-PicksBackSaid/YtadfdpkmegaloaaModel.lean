/- Picks as the document has them, and who steps: model and Who, walked. -/
import Derived.Test.YtadfdpkmegaloaaSame
namespace Go.Proofs.Ytadfdpkmegaloaa
open Go.RowKit
set_option linter.unusedVariables false

/-- What a region loads of one pick. -/
theorem mcells {b off k : Nat} {x d : Int} {w w' : World} (h : b < w.heap.size ∧ w.cell? ⟨b, off + k * 2, none⟩ = some (.int .i64 x) ∧ w.cell? ⟨b, off + (k * 2 + 1), none⟩ = some (.int .i64 d)) (hb : Below w.heap.size w w') :
    w'.cell? ⟨b, off + k * 2, none⟩ = some (.int .i64 x) ∧ w'.cell? ⟨b, off + k * 2 + 1, none⟩ = some (.int .i64 d) :=
  ⟨(hb.cell (p := ⟨b, off + k * 2, none⟩) h.1).trans h.2.1, (hb.cell (p := ⟨b, off + (k * 2 + 1), none⟩) h.1).trans h.2.2⟩
theorem below_alloc0 {w w' : World} (h : Below w.heap.size w w') (o : Obj) : Below w.heap.size w (w'.alloc o) := h.alloc h.size o

/-- The same append, behind the draw. -/
theorem step_append_drew {wr : World} {T : TypeId} {x y : Int} {ops : Array Oper} {o : Oper} {a : Act} {K : Act → World → Prop} {Q : Exit → Act → World → Prop} {E : Prop} (hg : o.guard = none) (s c : Operand) (t e : TypeId)
    (ho : o.op = .call { callee := .builtin .append, args := #[s, c], argTypes := #[t, t] }) (ht : Try.prog.underlying t = some (.slice e))
    (hi : (Try.prog.info? e).map (fun i => (i.zero, i.size, i.bytes)) = some (some (.agg #[.int .i64 0, .int .i64 0]), 2, 16))
    (B : Nat) (w0 : World) (v : Value) (l : List Pk) (hs : a.eval s = v) (hown : OwnP e B w0 wr v l) (hx : a.eval c = .slice (some ⟨wr.heap.size, 0, none⟩) 1 1) (hl : l.length ≤ 100000) (hB : B ≤ w0.heap.size)
    (h : ∀ v' w', OwnP e B w0 w' v' (l ++ [(x, y)]) → K (a.put o.dst v') w') :
    if Region.wanted o (yielded ops a.tmps) = true then Oper.wp Try.prog o a (wr.alloc (.cells #[.int .i64 x, .int .i64 y] T)).drew K Q else E :=
  step_append_one (wr := wr.drew) hg s c t e ho ht hi B w0 v l hs hown.drew hx hl hB h

set_option maxHeartbeats 2000000 in
set_option maxRecDepth 100000 in
theorem model_any (A : Option Addr) (cap n : Nat) (l : List Pk) (w : World) (hn : n = l.length) (h : ReadsP w A l) (hb : n ≤ 1000) :
    Calls Try.prog 15 #[.slice A n cap] w (SomeP 47 l w) := by
  have HN := Lib.hid hn
  have HR := Lib.hid h
  clear h hn
  go_enter Try.func15, Try.ntmps15
  go_wp2
  go_loopw [3, 4] (fun v i wr => ∃ (k : Nat), k ≤ n ∧ i = .int .i64 (k : Int) ∧ OwnP 47 w.heap.size w wr v (l.take k)) (fun _ i _ => n - (intOf i).toNat)
  case atStart => exact ⟨0, Nat.zero_le _, rfl, OwnP.nil (Below.refl _ _)⟩
  case round =>
    obtain ⟨k, hk, rfl, hO⟩ := hrel
    by_cases hlt : k < n
    · obtain ⟨b, off, rfl, hbl, hcell⟩ := HR.out (by have := HN.out; omega)
      have hHC := And.intro hbl (hcell k (by have := HN.out; omega))
      have hst := take_snoc l k (by have := HN.out; omega)
      have hlen : (l.take k).length ≤ 1000 := by rw [List.length_take]; omega
      obtain ⟨p, hp⟩ : ∃ p, p = at_ l k := ⟨_, rfl⟩
      rw [← hp] at hHC hst
      obtain ⟨x, d⟩ := p
      have HC := Lib.hid hHC
      have HS := Lib.hid hst
      have HO := Lib.hid hO
      have HL := Lib.hid hlen
      have hbd : Below w.heap.size w wr := hO.2
      have hk0 : (0 : Int) ≤ (k : Int) := by omega
      have hk1 : (k : Int) < (n : Int) := by omega
      clear hst hO hlen hp hcell hbl hHC
      go_wp2_with (fail)
      go_region_held3 (fun w' => w'.cell? ⟨b, off + k * 2, none⟩ = some (.int .i64 x) ∧ w'.cell? ⟨b, off + k * 2 + 1, none⟩ = some (.int .i64 d))
        (first | (with_reducible exact mcells HC.out hbd.drew) | (with_reducible exact mcells HC.out (below_alloc0 hbd _).drew) | (with_reducible exact mcells HC.out hkd) | fail)
        (first
          | (refine step_append_drew rfl _ _ 27 47 rfl Try.underlying27 info47 _ _ _ _ rfl HO.out rfl ?_ ?_ ?_; (have := HL.out; omega); (exact Nat.le_refl _); intro v' w5 HO5; have hkd := HO5.2)
          | fail)
      go_wp2
      go_roundw
      case rel => exact ⟨k + 1, by omega, by go_num, by rw [HS.out]; exact HO5⟩
      case measure => simp [intOf]; omega
    · have hd : l.take k = l := List.take_of_length_le (by have := HN.out; omega)
      have HD := Lib.hid hd
      have HO := Lib.hid hO
      clear hd hO
      go_wp2
      go_ret
      exact ⟨_, rfl, by rw [← HD.out]; exact HO.out⟩

/-- The call's own row of numbers. -/
def RowB (w : World) (a : Nat) (wr : World) (B : List Int) : Prop :=
  wr.ownsRow w.heap.size 3 1 (.slice (some ⟨w.heap.size, 0, none⟩) a a) a (B.map (Value.int .i64)) ∧ Below w.heap.size w wr
theorem RowB.reads {w wr : World} {a : Nat} {B : List Int} (h : RowB w a wr B) (hB : B.length = a) : Reads .i64 wr (some ⟨w.heap.size, 0, none⟩) B := fun h0 => by
  refine ⟨_, _, rfl, (h.1.lt _ rfl).2, fun j hj => ?_⟩
  rw [Nat.zero_add, h.1.cellAt j (by omega)]
  exact map_get .i64 B j hj

def whos (l : List Pk) : List Int := l.map (·.1)
theorem whos_len (l : List Pk) : (whos l).length = l.length := by simp [whos]
theorem whos_get (l : List Pk) (j : Nat) (h : j < l.length) : (whos l).getD j 0 = (at_ l j).1 := by
  simp [whos, at_, List.getD, List.getElem?_eq_getElem h]
theorem ints_ext (xs ys : List Int) (h : xs.length = ys.length) (h2 : ∀ j, j < xs.length → xs.getD j 0 = ys.getD j 0) : xs = ys := by
  apply List.ext_getElem h
  intro i h3 h4
  have := h2 i h3
  simpa [List.getD, List.getElem?_eq_getElem h3, List.getElem?_eq_getElem h4] using this

/-- A slice of numbers that was made. -/
def SomeI (l : List Int) (w : World) (en : Ending) (w' : World) : Prop := ∃ A c, en = .returned (.slice A l.length c) ∧ Reads .i64 w' A l ∧ Below w.heap.size w w'

set_option maxHeartbeats 2000000 in
set_option maxRecDepth 100000 in
theorem who_any (A : Option Addr) (cap n : Nat) (l : List Pk) (w : World) (hn : n = l.length) (h : ReadsP w A l) (hb : n ≤ 10000) :
    Calls Try.prog 16 #[.slice A n cap] w (SomeI (whos l) w) := by
  have HN := Lib.hid hn
  have HR := Lib.hid h
  obtain ⟨i0, hi, hz0, hz1, hz2⟩ := info_parts info3
  clear h hn
  go_enter Try.func16, Try.ntmps16
  go_wp2_with (at_make; refine wpList_make_full w rfl _ _ 33 rfl w.heap.size 3 i0 (.int .i64 0) 1 Try.underlying33 hi hz0 hz1 .i64 .i64 _ _ n rfl rfl rfl rfl (by rw [hz2]; omega) (by unfold maxLen; omega) (Nat.le_refl _) ?_)
  intro w1 hown hgrow
  have hO : RowB w n w1 (List.replicate n 0) := ⟨by simpa [toList_madeCells_one, Value.cells] using hown, (Below.refl _ _).grown hgrow (Nat.le_refl _) (fun k hk => by cases hk)⟩
  clear hown hgrow hi hz0 hz1 hz2
  go_wp2
  go_loopw [11] (fun i wr => ∃ (k : Nat) (B : List Int), k ≤ n ∧ i = .int .i64 (k : Int) ∧ B.length = n ∧ (∀ j, j < k → B.getD j 0 = (at_ l j).1) ∧ RowB w n wr B) (fun i _ => n - (intOf i).toNat)
  case atStart => exact ⟨0, _, Nat.zero_le _, rfl, by simp, fun j hj => by omega, hO⟩
  case round =>
    clear hO
    obtain ⟨k, B, hk, rfl, hB, hg, hO⟩ := hrel
    by_cases hlt : k < n
    · obtain ⟨b, off, rfl, hbl, hcell⟩ := HR.out (by have := HN.out; omega)
      have c1 := (hO.2.cell (p := ⟨b, off + k * 2, none⟩) hbl).trans (hcell k (by have := HN.out; omega)).1
      have c2 : wr.cell? ⟨b, off + k * 2 + 1, none⟩ = _ := (hO.2.cell (p := ⟨b, off + (k * 2 + 1), none⟩) hbl).trans (hcell k (by have := HN.out; omega)).2
      obtain ⟨p, hp⟩ : ∃ p, p = at_ l k := ⟨_, rfl⟩
      rw [← hp] at c1 c2
      obtain ⟨x, d⟩ := p
      have hblk := hO.1.lt w.heap.size rfl
      have hcb := hO.1.cellAt k (by omega)
      rw [map_get .i64 B k (by omega)] at hcb
      have hfb : wr.frozen? ⟨w.heap.size, k, none⟩ = false := hO.1.frozenAt k
      have hst := (hO.1.stored k (.int .i64 x)).1
      rw [← List.map_set] at hst
      have hbe := hO.2.setCell (p := ⟨w.heap.size, k, none⟩) (Nat.le_refl _) (.int .i64 x)
      have HO : Hid (RowB w n ((wr.setCell ⟨w.heap.size, k, none⟩ (.int .i64 x)).alloc (.cells #[.int .i64 x, .int .i64 d] 36)) (B.set k x)) := Lib.hid ⟨hst.alloc _, below_alloc0 hbe _⟩
      have HP := Lib.hid hp
      have HG := Lib.hid hg
      have HBL := Lib.hid hB
      have hlt2 : w.heap.size < wr.heap.size := hblk.2
      clear hst hbe hO hp hg hB hcell hbl hblk
      go_wp2
      go_roundw
      case rel =>
        refine ⟨k + 1, _, by omega, by go_num, by rw [List.length_set]; exact HBL.out, fun j hj => ?_, HO.out⟩
        by_cases e : j = k
        · subst e; rw [← HP.out]; simp [List.getD, HBL.out, hlt]
        · rw [← HG.out j (by omega)]; simp [List.getD, List.getElem?_set_ne (Ne.symm e)]
      case measure => simp [intOf]; omega
    · obtain rfl : k = n := by omega
      have e : B = whos l := ints_ext _ _ (by rw [hB, whos_len]; exact HN.out) (fun j hj => by rw [hg j (by omega), whos_get l j (by have := HN.out; omega)])
      have HF := Lib.hid (And.intro (hO.reads hB) hO.2)
      have HW : Hid ((whos l).length = k) := Lib.hid (by rw [whos_len]; exact HN.out.symm)
      subst e
      clear hO hB hg
      go_wp2
      go_ret
      exact ⟨_, k, by rw [HW.out]; rfl, HF.out.1, HF.out.2⟩
end Go.Proofs.Ytadfdpkmegaloaa
