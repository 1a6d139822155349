/- The steps of a deque's machine, walked: its end, and the steps that look at a word alone. -/
import Derived.Test.YtjnenpflpckimaaMach
namespace Go.Proofs.Ytjnenpflpckimaa
open Go.RowKit
set_option linter.unusedVariables false
variable {w0 : World} {M S D : Nat} {e : En} {nx : Value} {t b v r x : Int} {L : List Int} {c : Int}

theorem Mst.fin {w : World} (h : Mst w0 w M S D e nx t b v r x L c) (o y : Int) :
    Mst w0 (((w.setCell ⟨M, 4, none⟩ .nilFunc).setCell ⟨M, 8, none⟩ (.int .i64 o)).setCell ⟨M, 9, none⟩ (.int .u64 y)) M S D e .nilFunc t b v o y L c := ((h.p4 _).p8 _).p9 _
theorem Mst.hf {w : World} (h : Mst w0 w M S D e nx t b v r x L c) : (∀ j, w.frozen? ⟨M, j, none⟩ = false) := h.f

set_option maxHeartbeats 1000000 in
theorem finish_any (o y : Int) (w : World) (h : Mst w0 w M S D e nx t b v r x L c) :
    Calls Try.prog 39 #[ptr M, .int .i64 o, .int .u64 y] w fun a w' => a = .returned (.tuple #[]) ∧ Mst w0 w' M S D e .nilFunc t b v o y L c := by
  have HL := Lib.hid (h.fin o y)
  have c4 := h.c4; have f4 := h.f 4; have c8 := h.c8; have f8 := h.f 8; have c9 := h.c9; have f9 := h.f 9
  clear h
  go_enter Try.func39, Try.ntmps39
  go_wp2
  go_returns
  exact ⟨rfl, HL.out⟩

theorem Mst.see6 {w : World} (h : Mst w0 w M S D e nx t b v r x L c) (y : Int) (f : Value) : Mst w0 ((w.setCell ⟨M, 6, none⟩ (.int .u64 y)).setCell ⟨M, 4, none⟩ f) M S D e f t y v r x L c := (h.p6 y).p4 f
theorem Mst.see5 {w : World} (h : Mst w0 w M S D e nx t b v r x L c) (y : Int) (f : Value) : Mst w0 ((w.setCell ⟨M, 5, none⟩ (.int .u64 y)).setCell ⟨M, 4, none⟩ f) M S D e f y b v r x L c := (h.p5 y).p4 f

set_option maxHeartbeats 1000000 in
theorem seeBottom_any (w : World) (h : Mst w0 w M S D e nx t b v r x L c) (h0 : 0 ≤ c) (h1 : c ≤ 1000000000) :
    Calls Try.prog 30 #[ptr M, ptr S] w fun a w' => a = .returned (.tuple #[]) ∧ Mst w0 w' M S D e (fnv 35 M) t (ldv L e.bot) v r x L (c + 1) := by
  have hmf : ∀ (fn : Fn) (first cap : Array Value) (w : World), (Instr.makeFunc fn first cap).run Try.prog w = .ok (.func fn first cap) w := fun _ _ _ _ => rfl
  have c1 := h.c1
  have H := Lib.hid h; clear h
  go_enter Try.func30, Try.ntmps30
  go_wp2_with (first
    | (go_at_call 20; (with_reducible refine (load_any _ _ H.out.st h0 h1).mono ?_); rintro r w1 ⟨rfl, hk⟩; have HK := Lib.hid (H.out.left hk); have c4 := HK.out.c4; have f4 := HK.out.f 4; have c6 := HK.out.c6; have f6 := HK.out.f 6; have HL := Lib.hid (HK.out.see6 (ldv L e.bot) (fnv 35 M)); clear hk)
    | fail)
  go_returns
  exact ⟨rfl, HL.out⟩
set_option maxHeartbeats 1000000 in
theorem seeFirst_any (w : World) (h : Mst w0 w M S D e nx t b v r x L c) (h0 : 0 ≤ c) (h1 : c ≤ 1000000000) :
    Calls Try.prog 32 #[ptr M, ptr S] w fun a w' => a = .returned (.tuple #[]) ∧ Mst w0 w' M S D e (fnv 37 M) (ldv L e.top) b v r x L (c + 1) := by
  have hmf : ∀ (fn : Fn) (first cap : Array Value) (w : World), (Instr.makeFunc fn first cap).run Try.prog w = .ok (.func fn first cap) w := fun _ _ _ _ => rfl
  have c1 := h.c0
  have H := Lib.hid h; clear h
  go_enter Try.func32, Try.ntmps32
  go_wp2_with (first
    | (go_at_call 20; (with_reducible refine (load_any _ _ H.out.st h0 h1).mono ?_); rintro r w1 ⟨rfl, hk⟩; have HK := Lib.hid (H.out.left hk); have c4 := HK.out.c4; have f4 := HK.out.f 4; have c6 := HK.out.c5; have f6 := HK.out.f 5; have HL := Lib.hid (HK.out.see5 (ldv L e.top) (fnv 37 M)); clear hk)
    | fail)
  go_returns
  exact ⟨rfl, HL.out⟩
set_option maxHeartbeats 1000000 in
theorem seeLast_any (w : World) (h : Mst w0 w M S D e nx t b v r x L c) (h0 : 0 ≤ c) (h1 : c ≤ 1000000000) :
    Calls Try.prog 31 #[ptr M, ptr S] w fun a w' => a = .returned (.tuple #[]) ∧ Mst w0 w' M S D e (fnv 36 M) t (IntKind.u64.wrap (ldv L e.bot - 1)) v r x L (c + 1) := by
  have hmf : ∀ (fn : Fn) (first cap : Array Value) (w : World), (Instr.makeFunc fn first cap).run Try.prog w = .ok (.func fn first cap) w := fun _ _ _ _ => rfl
  have c1 := h.c1
  have H := Lib.hid h; clear h
  obtain ⟨y, hy⟩ : ∃ y, y = IntKind.u64.wrap (ldv L e.bot - 1) := ⟨_, rfl⟩
  rw [← hy]
  have hy' := hy.symm; clear hy
  go_enter Try.func31, Try.ntmps31
  go_wp2_with (first
    | (go_at_call 20; (with_reducible refine (load_any _ _ H.out.st h0 h1).mono ?_); rintro r w1 ⟨rfl, hk⟩; have HK := Lib.hid (H.out.left hk); have c4 := HK.out.c4; have f4 := HK.out.f 4; have c6 := HK.out.c6; have f6 := HK.out.f 6; have HL := Lib.hid (HK.out.see6 y (fnv 36 M)); clear hk)
    | fail)
  go_returns
  exact ⟨rfl, HL.out⟩
end Go.Proofs.Ytjnenpflpckimaa
