/- The steps of a stack's machine, walked. -/
import Derived.Test.YtgnnhjadmepipaaMach
namespace Go.Proofs.Ytgnnhjadmepipaa
open Go.RowKit
set_option linter.unusedVariables false
variable {w0 : World} {M S D Bx Ab : Nat} {zs : List Int} {hd : Int} {fs nx : Value} {se th li it tr : Int} {L : List Int} {c : Int}

/-- All words are words. -/
def WW (L : List Int) : Prop := ∀ x ∈ L, 0 ≤ x ∧ x ≤ 18446744073709551615
theorem WW.ld (h : WW L) (a : Int) : 0 ≤ ldv L a ∧ ldv L a ≤ 18446744073709551615 := by
  unfold ldv; split
  · rename_i hh
    have hl := in_yes hh
    have hl2 : a.toNat < L.length := by omega
    rw [List.getD, List.getElem?_eq_getElem hl2]
    exact h _ (List.getElem_mem hl2)
  · omega

theorem Mst.fin {w : World} (h : Mst w0 w M S D Bx Ab zs hd fs nx se th li it tr L c) (o : Int) :
    Mst w0 ((w.setCell ⟨M, 3, none⟩ .nilFunc).setCell ⟨M, 7, none⟩ (.int .u32 o)) M S D Bx Ab zs hd fs .nilFunc se th li o tr L c := (h.p3 _).p7 _
set_option maxHeartbeats 1000000 in
theorem finish_any (o : Int) (w : World) (h : Mst w0 w M S D Bx Ab zs hd fs nx se th li it tr L c) :
    Calls Try.prog 44 #[ptr M, .int .u32 o] w fun a w' => a = .returned (.tuple #[]) ∧ Mst w0 w' M S D Bx Ab zs hd fs .nilFunc se th li o tr L c := by
  have HL := Lib.hid (h.fin o)
  have c3 := h.c3; have f3 := h.f 3; have c7 := h.c7; have f7 := h.f 7
  clear h
  go_enter Try.func44, Try.ntmps44
  go_wp2
  go_returns
  exact ⟨rfl, HL.out⟩

set_option maxHeartbeats 1000000 in
theorem see_any (w : World) (h : Mst w0 w M S D Bx Ab zs hd fs nx se th li it tr L c) (h0 : 0 ≤ c) (h1 : c ≤ 1000000000) (t0 : 0 ≤ tr) (t1 : tr ≤ 1000000000) (ww : WW L) :
    Calls Try.prog 43 #[ptr M, ptr S] w fun a w' => a = .returned (.int .u32 (lowOf (ldv L hd))) ∧ Mst w0 w' M S D Bx Ab zs hd fs nx (ldv L hd) th li it (tr + 1) L (c + 1) := by
  have c8 := h.c8; have f8 := h.f 8
  have HK := Lib.hid (h.p8 (tr + 1)); clear h
  have c0 := HK.out.c0
  obtain ⟨y, hy⟩ : ∃ y, y = ldv L hd := ⟨_, rfl⟩
  rw [← hy]
  have HY := Lib.hid hy
  have y0 : 0 ≤ y := by rw [hy]; exact (ww.ld hd).1
  have y1 : y ≤ 18446744073709551615 := by rw [hy]; exact (ww.ld hd).2
  clear hy ww
  go_enter Try.func43, Try.ntmps43
  go_wp2_with (first
    | (go_at_call 30; (with_reducible refine (load_any _ _ HK.out.st h0 h1).mono ?_); rintro r w1 ⟨rfl, hk⟩; rw [← HY.out]; have HQ := Lib.hid (HK.out.left hk); have c4 := HQ.out.c4; have f4 := HQ.out.f 4; have HL := Lib.hid (HQ.out.p4 y); clear hk)
    | (go_at_call 52; (with_reducible refine (low_any _ y0 y1 _).mono ?_); rintro r w2 ⟨rfl, hb⟩; have HE := Lib.hid (HL.out.step hb); clear hb)
    | fail)
  go_ret
  exact ⟨rfl, HE.out⟩

set_option maxHeartbeats 1000000 in
theorem seeHead_any (w : World) (h : Mst w0 w M S D Bx Ab zs hd fs nx se th li it tr L c) (h0 : 0 ≤ c) (h1 : c ≤ 1000000000) (t0 : 0 ≤ tr) (t1 : tr ≤ 1000000000) (ww : WW L) :
    Calls Try.prog 34 #[ptr M, ptr S] w fun a w' => a = .returned (.tuple #[]) ∧ Mst w0 w' M S D Bx Ab zs hd fs (fnv 46 M) (ldv L hd) th (lowOf (ldv L hd)) it (tr + 1) L (c + 1) := by
  have hmf : ∀ (fn : Fn) (first cap : Array Value) (w : World), (Instr.makeFunc fn first cap).run Try.prog w = .ok (.func fn first cap) w := fun _ _ _ _ => rfl
  have H := Lib.hid h; clear h
  go_enter Try.func34, Try.ntmps34
  go_wp2_with (first
    | (go_at_call 43; (with_reducible refine (see_any _ H.out h0 h1 t0 t1 ww).mono ?_); rintro r w1 ⟨rfl, hk⟩; have HQ := Lib.hid hk; clear hk; have c6 := HQ.out.c6; have f6 := HQ.out.f 6; have HP := Lib.hid (HQ.out.p6 (lowOf (ldv L hd))); have c3 := HP.out.c3; have f3 := HP.out.f 3; have HL := Lib.hid (HP.out.p3 (fnv 46 M)))
    | fail)
  go_returns
  exact ⟨rfl, HL.out⟩

set_option maxHeartbeats 1000000 in
theorem seeThing_any (w : World) (h : Mst w0 w M S D Bx Ab zs hd fs nx se th li it tr L c) (h0 : 0 ≤ c) (h1 : c ≤ 1000000000) (t0 : 0 ≤ tr) (t1 : tr ≤ 1000000000) (ww : WW L) :
    Calls Try.prog 32 #[ptr M, ptr S] w fun a w' => a = .returned (.tuple #[]) ∧
      Mst w0 w' M S D Bx Ab zs hd fs (if lowOf (ldv L hd) = 0 then .nilFunc else fnv 45 M) (ldv L hd) (lowOf (ldv L hd)) li (if lowOf (ldv L hd) = 0 then 0 else it) (tr + 1) L (c + 1) := by
  have hmf : ∀ (fn : Fn) (first cap : Array Value) (w : World), (Instr.makeFunc fn first cap).run Try.prog w = .ok (.func fn first cap) w := fun _ _ _ _ => rfl
  have H := Lib.hid h; clear h
  obtain ⟨y, hy⟩ : ∃ y, y = lowOf (ldv L hd) := ⟨_, rfl⟩
  rw [← hy]
  have HY := Lib.hid hy; clear hy
  by_cases hz : y = 0
  · rw [if_pos hz, if_pos hz]
    have hz2 : (y == 0) = true := by simpa using hz
    subst hz
    go_enter Try.func32, Try.ntmps32
    go_wp2_with (first
      | (go_at_call 43; (with_reducible refine (see_any _ H.out h0 h1 t0 t1 ww).mono ?_); rintro r w1 ⟨rfl, hk⟩; rw [← HY.out]; have HQ := Lib.hid hk; clear hk; have c5 := HQ.out.c5; have f5 := HQ.out.f 5; have HP := Lib.hid (HQ.out.p5 0); have d5 := HP.out.c5)
      | (go_at_call 44; (with_reducible refine (finish_any 0 _ HP.out).mono ?_); rintro r w2 ⟨rfl, hk⟩; have HL := Lib.hid hk; clear hk)
      | fail)
    go_returns
    exact ⟨rfl, HL.out⟩
  · rw [if_neg hz, if_neg hz]
    have hz2 : (y == 0) = false := by simpa using hz
    go_enter Try.func32, Try.ntmps32
    go_wp2_with (first
      | (go_at_call 43; (with_reducible refine (see_any _ H.out h0 h1 t0 t1 ww).mono ?_); rintro r w1 ⟨rfl, hk⟩; rw [← HY.out]; have HQ := Lib.hid hk; clear hk; have c5 := HQ.out.c5; have f5 := HQ.out.f 5; have HP := Lib.hid (HQ.out.p5 y); have d5 := HP.out.c5; have c3 := HP.out.c3; have f3 := HP.out.f 3; have HL := Lib.hid (HP.out.p3 (fnv 45 M)))
      | fail)
    go_returns
    exact ⟨rfl, HL.out⟩
end Go.Proofs.Ytgnnhjadmepipaa
