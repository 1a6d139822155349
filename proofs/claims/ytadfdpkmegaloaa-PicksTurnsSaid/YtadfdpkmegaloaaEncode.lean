/- Picks as bytes: Encode, walked. -/
import Derived.Test.YtadfdpkmegaloaaSame
namespace Go.Proofs.Ytadfdpkmegaloaa
open Go.RowKit
set_option linter.unusedVariables false

/-- An append of two bytes at a step of a region that draws its order. -/
theorem step_append_two {wr : World} {T : TypeId} {x y : Int} {ops : Array Oper} {o : Oper} {a : Act} {K : Act → World → Prop} {Q : Exit → Act → World → Prop} {E : Prop} (hg : o.guard = none) (s c : Operand)
    (ho : o.op = .call { callee := .builtin .append, args := #[s, c], argTypes := #[22, 22] })
    (B : Nat) (w0 : World) (v : Value) (l : List Int) (hs : a.eval s = v) (hown : OwnB B w0 wr v l) (hx : a.eval c = .slice (some ⟨wr.heap.size, 0, none⟩) 2 2) (hl : l.length ≤ 100000) (hB : B ≤ w0.heap.size)
    (h : ∀ v' w', OwnB B w0 w' v' (l ++ [x, y]) → (∀ b i, v.ownBlock ≠ some b → b < wr.heap.size → w'.cell? ⟨b, i, none⟩ = wr.cell? ⟨b, i, none⟩) → wr.heap.size ≤ w'.heap.size → K (a.put o.dst v') w') :
    if Region.wanted o (yielded ops a.tmps) = true then Oper.wp Try.prog o a (wr.alloc (.cells #[.int .u8 x, .int .u8 y] T)) K Q else E := by
  obtain ⟨i0, hi0, hz0, hz1, hz2⟩ := info_parts info5
  have hsz := hown.2.size
  have hn := hown.alloc hB (.cells #[.int .u8 x, .int .u8 y] T)
  refine step_append_lies _ hg s c 22 ho B 5 i0 _ 1 1 Try.underlying22 hi0 hz0 hz1 hz2 rfl (by decide) v l.length _ hs hn.1 ⟨wr.heap.size, 0, none⟩ 2 2 [.int .u8 x, .int .u8 y] hx rfl ?_ ?_ (by decide) (by unfold maxLen; omega) (by omega) (by simp; omega) _ rfl ?_
  · intro j u hj
    rw [add_off, World.cell?_alloc_at _ _ _ _ rfl]
    match j, hj with
    | 0, hj => simp at hj; subst hj; rfl
    | 1, hj => simp at hj; subst hj; rfl
  · intro u hu
    simp at hu
    rcases hu with rfl | rfl <;> rfl
  · intro g cap w' h1 h2 _ _
    refine h _ w' ⟨by simpa using h1, hn.2.grown h2 (by simp; omega) (fun b hb => (hn.1.lt b hb).1)⟩ (fun b i h3 h4 => ?_) (by have := h2.size; simp at this; omega)
    rw [World.cell?_of_block (h2.block b (by simp; omega) (Ne.symm h3))]
    exact World.cell?_alloc_past _ _ _ h4

theorem bxc {w w' : World} {x d : Int} (h : Bx w x d w') : w'.cell? ⟨w.heap.size, 0, none⟩ = some (.int .i64 x) ∧ w'.cell? ⟨w.heap.size, 1, none⟩ = some (.int .i64 d) ∧ w.heap.size < w'.heap.size :=
  ⟨h.cells.1, h.cells.2.1, by have := h.bel.size; simp at this; omega⟩

theorem Bx.alloc {w w' : World} {x d : Int} (h : Bx w x d w') (o : Obj) : Bx w x d (w'.alloc o) := ⟨h.bel.alloc (by have := h.bel.size; simpa using this) o⟩
theorem far_cells {w w' w5 : World} {x d : Int} {B : Nat} {w0 : World} {v : Value} {l : List Int} (h : Bx w x d w') (ho : OwnB B w0 w v l) (hfar : ∀ b i, v.ownBlock ≠ some b → b < w'.heap.size → w5.cell? ⟨b, i, none⟩ = w'.cell? ⟨b, i, none⟩) (hs : w'.heap.size ≤ w5.heap.size) :
    w5.cell? ⟨w.heap.size, 0, none⟩ = some (.int .i64 x) ∧ w5.cell? ⟨w.heap.size, 1, none⟩ = some (.int .i64 d) ∧ w.heap.size < w5.heap.size := by
  obtain ⟨c0, c1, hlt⟩ := bxc h
  have hne : v.ownBlock ≠ some w.heap.size := fun e => by have := (ho.1.lt _ e).2; omega
  exact ⟨(hfar _ 0 hne hlt).trans c0, (hfar _ 1 hne hlt).trans c1, by omega⟩

theorem wrapB (d : Int) : IntKind.u8.wrap d = d % 256 := by simp [IntKind.wrap, IntKind.bits, IntKind.signed]

/-- A result that is a row of bytes of the call's own. -/
def SomeB (l : List Int) (w : World) (en : Ending) (w' : World) : Prop := ∃ v, en = .returned v ∧ OwnB w.heap.size w w' v l

theorem encL_succ (l : List Pk) (k : Nat) (h : k < l.length) : encL (l.take (k + 1)) = encL (l.take k) ++ [whoB (at_ l k).1, (at_ l k).2 % 256] := by
  rw [take_snoc l k h, encL_app, encL_one]

set_option maxHeartbeats 2000000 in
set_option maxRecDepth 100000 in
theorem encode_any (A : Option Addr) (cap n : Nat) (l : List Pk) (w : World) (hn : n = l.length) (h : ReadsP w A l) (hb : n ≤ 1000) :
    Calls Try.prog 13 #[.slice A n cap] w (SomeB (encL l) w) := by
  have HN := Lib.hid hn
  have HR := Lib.hid h
  obtain ⟨c, hc⟩ : ∃ c : Nat, 2 * (n : Int) = (c : Int) := ⟨2 * n, by omega⟩
  have hcb : c ≤ 2000 := by omega
  obtain ⟨i0, hi, hz0, hz1, hz2⟩ := info_parts info5
  clear h hn
  go_enter Try.func13, Try.ntmps13
  go_wp2_with (at_make; refine wpList_make_own _ rfl _ _ 22 rfl w.heap.size 5 i0 (.int .u8 0) 1 Try.underlying22 hi hz0 hz1 .i64 .i64 _ c rfl rfl ?c1 (by rw [hz2]; omega) (by unfold maxLen; omega) (Nat.le_refl _) ?_)
  case c1 => first | rfl | exact hc | omega
  intro w1 hown hgrow
  have hO : OwnB w.heap.size w w1 (.slice (some ⟨w.heap.size, 0, none⟩) 0 c) (encL (l.take 0)) :=
    ⟨by simpa [encL] using hown, (Below.refl _ _).grown hgrow (Nat.le_refl _) (fun k hk => by cases hk)⟩
  clear hown hgrow hi hz0 hz1 hz2 hc
  go_wp2
  go_loopw [3, 12] (fun v i wr => ∃ (k : Nat), k ≤ n ∧ i = .int .i64 (k : Int) ∧ OwnB w.heap.size w wr v (encL (l.take k))) (fun _ i _ => n - (intOf i).toNat)
  case atStart => exact ⟨0, Nat.zero_le _, rfl, hO⟩
  case round =>
    clear hO
    obtain ⟨k, hk, rfl, hO⟩ := hrel
    by_cases hlt : k < n
    · obtain ⟨b, off, rfl, hbl, hcell⟩ := HR.out (by have := HN.out; omega)
      have c1 := (hO.2.cell (p := ⟨b, off + k * 2, none⟩) hbl).trans (hcell k (by have := HN.out; omega)).1
      have c2 : wr.cell? ⟨b, off + k * 2 + 1, none⟩ = _ := (hO.2.cell (p := ⟨b, off + (k * 2 + 1), none⟩) hbl).trans (hcell k (by have := HN.out; omega)).2
      have hst := encL_succ l k (by have := HN.out; omega)
      have hlen : (encL (l.take k)).length ≤ 2000 := by rw [encL_len, List.length_take]; omega
      obtain ⟨p, hp⟩ : ∃ p, p = at_ l k := ⟨_, rfl⟩
      rw [← hp] at c1 c2 hst
      obtain ⟨x, d⟩ := p
      have HS := Lib.hid hst
      have HO := Lib.hid hO
      have HL := Lib.hid hlen
      have hbx := Bx.start wr x d
      have hk0 : (0 : Int) ≤ (k : Int) := by omega
      have hk1 : (k : Int) < (n : Int) := by omega
      clear hst hO hlen hp hcell hbl
      go_wp2_with (fail)
      go_region_held3 (fun w' => w'.cell? ⟨wr.heap.size, 0, none⟩ = some (.int .i64 x) ∧ w'.cell? ⟨wr.heap.size, 1, none⟩ = some (.int .i64 d) ∧ wr.heap.size < w'.heap.size)
        (first | (with_reducible exact bxc hkd) | (with_reducible exact bxc (hkd.alloc _)) | (with_reducible exact bxc hbx.drew) | (with_reducible exact hk5) | fail)
        (first
          | (go_at_call 26; ((with_reducible refine (whosByte_any _ _ _).mono ?_); rintro e w4 ⟨rfl, hb4⟩; have hkd := hbx.drew.step hb4; have HO4 := ((HO.out.alloc (Nat.le_refl _) _).drewN 1).step (Nat.le_refl _) hb4))
          | (refine step_append_two rfl _ _ rfl _ _ _ _ rfl HO4 rfl ?_ ?_ ?_; (have := HL.out; omega); (exact Nat.le_refl _); intro v' w5 HO5 hfar hs5; have hk5 := far_cells hkd HO.out hfar hs5)
          | fail)
      go_wp2
      go_roundw
      case rel => exact ⟨k + 1, by omega, by go_num, by rw [HS.out, ← wrapB]; exact HO5⟩
      case measure => simp [intOf]; omega
    · have hd : encL (l.take k) = encL l := by rw [List.take_of_length_le (by have := HN.out; omega)]
      have HD := Lib.hid hd
      have HO := Lib.hid hO
      clear hd hO
      go_wp2
      go_ret
      exact ⟨_, rfl, by rw [← HD.out]; exact HO.out⟩
end Go.Proofs.Ytadfdpkmegaloaa
