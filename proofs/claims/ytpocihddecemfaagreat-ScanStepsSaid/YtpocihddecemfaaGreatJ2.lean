/-  -/
import Derived.Test.YtpocihddecemfaaGreatJ1
namespace Go.Proofs.YtpocihddecemfaaGreat
open Go.RowKit
set_option linter.unusedVariables false
abbrev ptr (S : Nat) : Value := .pointer (some ⟨S, 0, none⟩)
def inB (L : List Int) (at' : Int) : Bool := decide (0 ≤ at' ∧ at' < L.length)
theorem in_yes {L : List Int} {at' : Int} (h : inB L at' = true) : 0 ≤ at' ∧ at' < L.length := by simpa [inB] using h
theorem in_no {L : List Int} {at' : Int} (h : inB L at' = false) : ¬ (0 ≤ at' ∧ at' < L.length) := by
  intro h2
  have : inB L at' = true := by simp only [inB]; exact decide_eq_true h2
  rw [h] at this; cases this
def ldv (L : List Int) (at' : Int) : Int := if inB L at' = true then L.getD at'.toNat 0 else 0
def ptv (L : List Int) (at' v : Int) : List Int := if inB L at' = true then L.set at'.toNat v else L
def swB (L : List Int) (at' o : Int) : Bool := inB L at' && decide (L.getD at'.toNat 0 = o)
def swv (L : List Int) (at' o v : Int) : List Int := if swB L at' o = true then L.set at'.toNat v else L
def adv (L : List Int) (at' n : Int) : List Int := ptv L at' (IntKind.u64.wrap (ldv L at' + n))
def Left (S D : Nat) (L : List Int) (c : Int) (w w' : World) : Prop := St w' S D L c ∧ Upd S D w w'
set_option maxHeartbeats 1000000 in
theorem count_any {S D : Nat} {L : List Int} {c : Int} (w : World) (h : St w S D L c) (h0 : 0 ≤ c) (h1 : c ≤ 1000000000) :
    Calls Tryz.prog 95 #[ptr S] w fun e w' => e = .returned (.tuple #[]) ∧ Left S D L (c + 1) w w' := by
  have HL : Hid (Left S D L (c + 1) w (w.setCell ⟨S, 1, none⟩ (.int .i64 (c + 1)))) := Lib.hid ⟨h.count _, (Upd.refl _ _ _).setS _ _⟩
  have hc := h.many
  have hf := h.fro 1
  clear h
  go_enter Tryz.func95, Tryz.ntmps95
  go_wp2
  go_returns
  exact ⟨rfl, HL.out⟩
set_option maxHeartbeats 1000000 in
theorem counted_any {S D : Nat} {L : List Int} {c : Int} (n : Nat) (at' : Int) (w : World) (hn : n = L.length) (h : St w S D L c) (h0 : 0 ≤ c) (h1 : c ≤ 1000000000) :
    Calls Tryz.prog 94 #[.func (.func 95) #[ptr S] #[], .int .i64 (n : Int), .int .i64 at'] w fun e w' => e = .returned (.bool (inB L at')) ∧ Left S D L (c + 1) w w' := by
  obtain ⟨b, hb⟩ : ∃ b, b = inB L at' := ⟨_, rfl⟩
  rw [← hb]
  have H := Lib.hid h; clear h
  cases b
  · have hno := in_no hb.symm
    have HB := Lib.hid hb; clear hb
    by_cases hz : 0 ≤ at'
    · have hlt : decide (at' < (n : Int)) = false := by simp; omega
      clear hn hno
      go_enter Tryz.func94, Tryz.ntmps94
      go_wp2_with (first
        | (go_at_call 95; (with_reducible refine (count_any _ H.out h0 h1).mono ?_); rintro r w1 ⟨rfl, hk⟩)
        | fail)
      go_ret
      exact ⟨rfl, hk⟩
    · have hlt : decide (0 ≤ at') = false := by simp; omega
      clear hn hno
      go_enter Tryz.func94, Tryz.ntmps94
      go_wp2_with (first
        | (go_at_call 95; (with_reducible refine (count_any _ H.out h0 h1).mono ?_); rintro r w1 ⟨rfl, hk⟩)
        | fail)
      go_ret
      exact ⟨rfl, hk⟩
  · have hyes := in_yes hb.symm
    have HB := Lib.hid hb; clear hb
    have hlt : decide (at' < (n : Int)) = true := by simp; omega
    have hz : 0 ≤ at' := hyes.1
    clear hn hyes
    go_enter Tryz.func94, Tryz.ntmps94
    go_wp2_with (first
      | (go_at_call 95; (with_reducible refine (count_any _ H.out h0 h1).mono ?_); rintro r w1 ⟨rfl, hk⟩)
      | fail)
    go_ret
    exact ⟨rfl, hk⟩
set_option maxHeartbeats 1000000 in
theorem reaches_any {S D : Nat} {L : List Int} {c : Int} (at' : Int) (w : World) (h : St w S D L c) (h0 : 0 ≤ c) (h1 : c ≤ 1000000000) :
    Calls Tryz.prog 58 #[ptr S, .int .i64 at'] w fun e w' => e = .returned (.bool (inB L at')) ∧ Left S D L (c + 1) w w' := by
  have hmf : ∀ (fn : Fn) (first cap : Array Value) (w : World), (Instr.makeFunc fn first cap).run Tryz.prog w = .ok (.func fn first cap) w := fun _ _ _ _ => rfl
  have hc := h.head
  obtain ⟨n, hn⟩ : ∃ n, n = L.length := ⟨_, rfl⟩
  rw [← hn] at hc
  have HN := Lib.hid hn; clear hn
  have H := Lib.hid h; clear h
  go_enter Tryz.func58, Tryz.ntmps58
  go_wp2_with (first
    | (go_at_call 94; (with_reducible refine (counted_any (S := S) _ _ _ HN.out H.out h0 h1).mono ?_); rintro r w1 ⟨rfl, hk⟩)
    | fail)
  go_ret
  exact ⟨rfl, hk⟩
end Go.Proofs.YtpocihddecemfaaGreat

namespace Go.Proofs.YtpocihddecemfaaGreat
open Go.RowKit
set_option linter.unusedVariables false
theorem left_set {S D : Nat} {L : List Int} {c : Int} {w w1 : World} (h : Left S D L c w w1) (i : Nat) (v : Int) : Left S D (L.set i v) c w (w1.setCell ⟨D, i, none⟩ (.int .u64 v)) :=
  ⟨h.1.set i v, h.2.setD i _⟩
set_option maxHeartbeats 1000000 in
theorem load_any {S D : Nat} {L : List Int} {c : Int} (at' : Int) (w : World) (h : St w S D L c) (h0 : 0 ≤ c) (h1 : c ≤ 1000000000) :
    Calls Tryz.prog 27 #[ptr S, .int .i64 at'] w fun e w' => e = .returned (.int .u64 (ldv L at')) ∧ Left S D L (c + 1) w w' := by
  obtain ⟨b, hb⟩ : ∃ b, b = inB L at' := ⟨_, rfl⟩
  have H := Lib.hid h; clear h
  cases b
  · have e : ldv L at' = 0 := by unfold ldv; rw [if_neg (by rw [← hb]; simp)]
    rw [e]
    have HB := Lib.hid hb; clear hb e
    go_enter Tryz.func27, Tryz.ntmps27
    go_wp2_with (first
      | (go_at_call 58; (with_reducible refine (reaches_any _ _ H.out h0 h1).mono ?_); rintro r w1 ⟨rfl, hk⟩; rw [← HB.out])
      | fail)
    go_ret
    exact ⟨rfl, hk⟩
  · have hi := in_yes hb.symm
    obtain ⟨i, rfl⟩ : ∃ i : Nat, at' = (i : Int) := ⟨at'.toNat, by omega⟩
    have hil : i < L.length := by omega
    have e : ldv L i = L.getD i 0 := by unfold ldv; rw [if_pos hb.symm]; simp
    rw [e]
    obtain ⟨n, hn⟩ : ∃ n, n = L.length := ⟨_, rfl⟩
    rw [← hn] at hi hil
    have HN := Lib.hid hn
    have HB := Lib.hid hb
    have HI := Lib.hid hil
    obtain ⟨z, hz⟩ : ∃ z, z = L.getD i 0 := ⟨_, rfl⟩
    rw [← hz]
    have HZ := Lib.hid hz
    have hi0 : (0 : Int) ≤ (i : Int) := by omega
    have hi1 : (i : Int) < (n : Int) := by omega
    clear hb e hn hz hi hil
    go_enter Tryz.func27, Tryz.ntmps27
    go_wp2_with (first
      | (go_at_call 58; (with_reducible refine (reaches_any _ _ H.out h0 h1).mono ?_); rintro r w1 ⟨rfl, hk⟩; rw [← HB.out]; have hd := hk.1.head; rw [← HN.out] at hd; have hcl := hk.1.row.cell i (by have := HN.out; have := HI.out; omega); rw [← HZ.out] at hcl)
      | fail)
    go_ret
    exact ⟨rfl, hk⟩
set_option maxHeartbeats 1000000 in
theorem put_any {S D : Nat} {L : List Int} {c : Int} (at' v : Int) (w : World) (h : St w S D L c) (h0 : 0 ≤ c) (h1 : c ≤ 1000000000) :
    Calls Tryz.prog 21 #[ptr S, .int .i64 at', .int .u64 v] w fun e w' => e = .returned (.tuple #[]) ∧ Left S D (ptv L at' v) (c + 1) w w' := by
  obtain ⟨b, hb⟩ : ∃ b, b = inB L at' := ⟨_, rfl⟩
  have H := Lib.hid h; clear h
  cases b
  · have e : ptv L at' v = L := by unfold ptv; rw [if_neg (by rw [← hb]; simp)]
    rw [e]
    have HB := Lib.hid hb; clear hb e
    go_enter Tryz.func21, Tryz.ntmps21
    go_wp2_with (first
      | (go_at_call 58; (with_reducible refine (reaches_any _ _ H.out h0 h1).mono ?_); rintro r w1 ⟨rfl, hk⟩; rw [← HB.out])
      | fail)
    go_returns
    exact ⟨rfl, hk⟩
  · have hi := in_yes hb.symm
    obtain ⟨i, rfl⟩ : ∃ i : Nat, at' = (i : Int) := ⟨at'.toNat, by omega⟩
    have hil : i < L.length := by omega
    have e : ptv L i v = L.set i v := by unfold ptv; rw [if_pos hb.symm]; simp
    rw [e]
    obtain ⟨n, hn⟩ : ∃ n, n = L.length := ⟨_, rfl⟩
    rw [← hn] at hi hil
    have HN := Lib.hid hn
    have HB := Lib.hid hb
    have HI := Lib.hid hil
    have hi0 : (0 : Int) ≤ (i : Int) := by omega
    have hi1 : (i : Int) < (n : Int) := by omega
    clear hb e hn hi hil
    go_enter Tryz.func21, Tryz.ntmps21
    go_wp2_with (first
      | (go_at_call 58; (with_reducible refine (reaches_any _ _ H.out h0 h1).mono ?_); rintro r w1 ⟨rfl, hk⟩; rw [← HB.out]; have hd := hk.1.head; rw [← HN.out] at hd; have hcl := hk.1.row.cell i (by have := HN.out; have := HI.out; omega); have hfr := hk.1.row.frozen i; have HK := Lib.hid (left_set hk i v); clear hk)
      | fail)
    go_returns
    exact ⟨rfl, HK.out⟩
set_option maxHeartbeats 1000000 in
theorem swap_any {S D : Nat} {L : List Int} {c : Int} (at' o v : Int) (w : World) (h : St w S D L c) (h0 : 0 ≤ c) (h1 : c ≤ 1000000000) :
    Calls Tryz.prog 155 #[ptr S, .int .i64 at', .int .u64 o, .int .u64 v] w fun e w' => e = .returned (.bool (swB L at' o)) ∧ Left S D (swv L at' o v) (c + 1) w w' := by
  obtain ⟨b, hb⟩ : ∃ b, b = inB L at' := ⟨_, rfl⟩
  have H := Lib.hid h; clear h
  cases b
  · have e : swB L at' o = false := by unfold swB; rw [← hb]; rfl
    have e2 : swv L at' o v = L := by unfold swv; rw [e]; simp
    rw [e, e2]
    have HB := Lib.hid hb; clear hb e e2
    go_enter Tryz.func155, Tryz.ntmps155
    go_wp2_with (first
      | (go_at_call 58; (with_reducible refine (reaches_any _ _ H.out h0 h1).mono ?_); rintro r w1 ⟨rfl, hk⟩; rw [← HB.out])
      | fail)
    go_ret
    exact ⟨rfl, hk⟩
  · have hi := in_yes hb.symm
    obtain ⟨i, rfl⟩ : ∃ i : Nat, at' = (i : Int) := ⟨at'.toNat, by omega⟩
    have hil : i < L.length := by omega
    obtain ⟨n, hn⟩ : ∃ n, n = L.length := ⟨_, rfl⟩
    obtain ⟨z, hz⟩ : ∃ z, z = L.getD i 0 := ⟨_, rfl⟩
    have e0 : swB L i o = decide (z = o) := by unfold swB; rw [← hb, hz]; simp
    rw [← hn] at hi hil
    have hi0 : (0 : Int) ≤ (i : Int) := by omega
    have hi1 : (i : Int) < (n : Int) := by omega
    by_cases hzo : z = o
    · have e : swB L i o = true := by rw [e0]; simpa using hzo
      have e2 : swv L i o v = L.set i v := by unfold swv; rw [e]; simp
      rw [e, e2]
      have ht : (z != o) = false := by simp [hzo]
      have HN := Lib.hid hn
      have HB := Lib.hid hb
      have HI := Lib.hid hil
      have HZ := Lib.hid hz
      clear hb e e2 e0 hn hz hi hil hzo
      go_enter Tryz.func155, Tryz.ntmps155
      go_wp2_with (first
        | (go_at_call 58; (with_reducible refine (reaches_any _ _ H.out h0 h1).mono ?_); rintro r w1 ⟨rfl, hk⟩; rw [← HB.out]; have hd := hk.1.head; rw [← HN.out] at hd; have hcl := hk.1.row.cell i (by have := HN.out; have := HI.out; omega); rw [← HZ.out] at hcl; have hfr := hk.1.row.frozen i; have HK := Lib.hid (left_set hk i v); clear hk)
        | fail)
      go_ret
      exact ⟨rfl, HK.out⟩
    · have e : swB L i o = false := by rw [e0]; simpa using hzo
      have e2 : swv L i o v = L := by unfold swv; rw [e]; simp
      rw [e, e2]
      have ht : (z != o) = true := by simp [hzo]
      have HN := Lib.hid hn
      have HB := Lib.hid hb
      have HI := Lib.hid hil
      have HZ := Lib.hid hz
      clear hb e e2 e0 hn hz hi hil hzo
      go_enter Tryz.func155, Tryz.ntmps155
      go_wp2_with (first
        | (go_at_call 58; (with_reducible refine (reaches_any _ _ H.out h0 h1).mono ?_); rintro r w1 ⟨rfl, hk⟩; rw [← HB.out]; have hd := hk.1.head; rw [← HN.out] at hd; have hcl := hk.1.row.cell i (by have := HN.out; have := HI.out; omega); rw [← HZ.out] at hcl)
        | fail)
      go_ret
      exact ⟨rfl, hk⟩
end Go.Proofs.YtpocihddecemfaaGreat

namespace Go.Proofs.YtpocihddecemfaaGreat
open Go.RowKit
set_option linter.unusedVariables false
def Fresh (B g n cap : Nat) (w0 wr : World) (zs : List Int) : Prop := wr.ownsRow B 25 1 (.slice (some ⟨g, 0, none⟩) n cap) n (zs.map (Value.int .u64)) ∧ Below B w0 wr ∧ zs.length = n
theorem Fresh.cell {B g n cap : Nat} {w0 wr : World} {zs : List Int} (h : Fresh B g n cap w0 wr zs) (i : Nat) (hi : i < n) : wr.cell? ⟨g, i, none⟩ = some (.int .u64 (zs.getD i 0)) ∧ wr.frozen? ⟨g, i, none⟩ = false := by
  refine ⟨?_, h.1.frozenAt i⟩
  rw [h.1.cellAt i (by omega)]
  exact map_get .u64 zs i (by rw [h.2.2]; exact hi)
theorem Fresh.lt {B g n cap : Nat} {w0 wr : World} {zs : List Int} (h : Fresh B g n cap w0 wr zs) : B ≤ g ∧ g < wr.heap.size := h.1.lt g rfl
theorem Fresh.set {B g n cap : Nat} {w0 wr : World} {zs : List Int} (h : Fresh B g n cap w0 wr zs) (i : Nat) (v : Int) : Fresh B g n cap w0 (wr.setCell ⟨g, i, none⟩ (.int .u64 v)) (zs.set i v) := by
  have s := (h.1.stored i (.int .u64 v)).1
  rw [← List.map_set] at s
  exact ⟨s, h.2.1.setCell h.lt.1 _, by rw [List.length_set]; exact h.2.2⟩
def ReadsW (P : Nat → Prop) (w : World) (A : Option Addr) (zs : List Int) : Prop :=
  0 < zs.length → ∃ b off, A = some ⟨b, off, none⟩ ∧ b < w.heap.size ∧ P b ∧ ∀ j, j < zs.length → w.cell? ⟨b, off + j, none⟩ = some (.int .u64 (zs.getD j 0))
theorem ReadsW.reads {P : Nat → Prop} {w : World} {A : Option Addr} {zs : List Int} (h : ReadsW P w A zs) : Reads .u64 w A zs := fun h0 => by
  obtain ⟨b, off, e, hlt, _, hc⟩ := h h0
  exact ⟨b, off, e, hlt, hc⟩
theorem ReadsW.upd {P Q : Nat → Prop} {S D : Nat} {w w' : World} {A : Option Addr} {zs : List Int} (h : ReadsW P w A zs) (u : Upd S D w w') (hP : ∀ b, P b → b < w.heap.size → b ≠ S ∧ b ≠ D ∧ Q b) : ReadsW Q w' A zs := fun h0 => by
  obtain ⟨b, off, e, hlt, hp, hc⟩ := h h0
  obtain ⟨h1, h2, h3⟩ := hP b hp hlt
  exact ⟨b, off, e, Nat.lt_of_lt_of_le hlt u.size, h3, fun j hj => (World.cell?_of_block (w := w) (a := ⟨b, off + j, none⟩) (u.block b hlt h1 h2)).trans (hc j hj)⟩
theorem ReadsW.below {P : Nat → Prop} {w w' : World} {A : Option Addr} {zs : List Int} (h : ReadsW P w A zs) (hb : Below w.heap.size w w') : ReadsW P w' A zs := fun h0 => by
  obtain ⟨b, off, e, hlt, hp, hc⟩ := h h0
  exact ⟨b, off, e, Nat.lt_of_lt_of_le hlt hb.size, hp, fun j hj => (hb.cell (p := ⟨b, off + j, none⟩) hlt).trans (hc j hj)⟩
theorem Fresh.readsW {P : Nat → Prop} {B g n cap : Nat} {w0 wr : World} {zs : List Int} (h : Fresh B g n cap w0 wr zs) (hP : ∀ b, B ≤ b → P b) : ReadsW P wr (some ⟨g, 0, none⟩) zs := fun _ =>
  ⟨g, 0, rfl, h.lt.2, hP g h.lt.1, fun j hj => by rw [Nat.zero_add]; exact (h.cell j (by rw [← h.2.2]; exact hj)).1⟩
theorem append_words {w : World} {ops : Array Oper} {rest : List Oper} {o : Oper} {a : Act} {Q : Exit → Act → World → Prop} (hg : o.guard = none) (s x : Operand)
    (ho : o.op = .call { callee := .builtin .append, args := #[s, x], argTypes := #[26, 26] })
    (A : Option Addr) (n cap : Nat) (zs : List Int) (hs : a.eval s = .slice none 0 0) (hx : a.eval x = .slice A n cap) (hn : n = zs.length) (h0 : 0 < n) (hl : n ≤ 1000000) (hr : Reads .u64 w A zs)
    (h : ∀ g cap' w', Fresh w.heap.size g n cap' w w' zs → wpList Tryz.prog ops Q rest (a.put o.dst (.slice (some ⟨g, 0, none⟩) n cap')) w') :
    wpList Tryz.prog ops Q (o :: rest) a w := by
  obtain ⟨i0, hi0, hz0, hz1, hz2⟩ := info_parts info34
  obtain ⟨b, off, rfl, hlt, hc⟩ := hr (by omega)
  refine wpList_append_own _ hg s x 26 ho w.heap.size 25 i0 _ 1 8 Tryz.underlying26 hi0 hz0 hz1 hz2 rfl (by decide) _ 0 [] hs (World.ownsRow_nil _ _ _ _) ⟨b, off, none⟩ n cap (zs.map (Value.int .u64)) hx (by simp [hn]) ?_ ?_ (by unfold maxLen; omega) (by omega) (by omega) ?_
  · intro j u hj
    rcases Nat.lt_or_ge j zs.length with hj' | hj'
    · rw [map_get .u64 zs j hj'] at hj
      cases hj
      rw [add_off]; exact hc j hj'
    · rw [List.getElem?_eq_none (by simpa using hj')] at hj; cases hj
  · intro u hu
    obtain ⟨y, _, rfl⟩ := List.mem_map.1 hu
    rfl
  · intro v' w' h1 h2 _
    rw [Nat.zero_add, List.nil_append] at h1
    obtain ⟨g, cap', rfl⟩ : ∃ g cap', v' = .slice (some ⟨g, 0, none⟩) n cap' := by
      rcases h1.2 with ⟨_, e⟩ | ⟨g, cap', cur, e, _⟩
      · omega
      · exact ⟨g, cap', e⟩
    exact h g cap' w' ⟨h1, (Below.refl _ _).grown h2 (Nat.le_refl _) (fun k hk => by cases hk), hn.symm⟩
set_option maxHeartbeats 1000000 in
theorem rload_any (A : Option Addr) (n cap : Nat) (zs : List Int) (at' : Int) (w : World) (hn : n = zs.length) (h : Reads .u64 w A zs) :
    Calls Tryz.prog 53 #[.slice A n cap, .int .i64 at'] w fun e w' => e = .returned (.int .u64 (ldv zs at')) ∧ w = w' := by
  cases hb : inB zs at'
  · have e : ldv zs at' = 0 := by unfold ldv; rw [if_neg (by rw [hb]; simp)]
    have hno := in_no hb
    rw [e]
    by_cases hz : at' < 0
    · have ht : decide (at' < 0) = true := by simpa using hz
      clear hb e hno h hn
      go_enter Tryz.func53, Tryz.ntmps53
      go_wp2_with (fail)
      go_ret
      exact ⟨rfl, rfl⟩
    · have ht : decide (at' < 0) = false := by simpa using hz
      have ht2 : decide (at' ≥ (n : Int)) = true := by simp; omega
      have ht3 : (n : Int) ≤ at' := by omega
      clear hb e hno h hn
      go_enter Tryz.func53, Tryz.ntmps53
      go_wp2_with (fail)
      go_ret
      exact ⟨rfl, rfl⟩
  · have hi := in_yes hb
    obtain ⟨i, rfl⟩ : ∃ i : Nat, at' = (i : Int) := ⟨at'.toNat, by omega⟩
    have e : ldv zs i = zs.getD i 0 := by unfold ldv; rw [if_pos hb]; simp
    rw [e]
    obtain ⟨b, off, rfl, hlt, hc⟩ := h (by omega)
    have hcl := hc i (by omega)
    obtain ⟨z, hz⟩ : ∃ z, z = zs.getD i 0 := ⟨_, rfl⟩
    rw [← hz] at hcl ⊢
    have hi0 : (0 : Int) ≤ (i : Int) := by omega
    have hi1 : (i : Int) < (n : Int) := by omega
    clear hb e hn hz hi hc h hlt
    go_enter Tryz.func53, Tryz.ntmps53
    go_wp2_with (fail)
    go_ret
    exact ⟨rfl, rfl⟩
def SomeSl (P : Nat → Prop) (w : World) (n : Nat) (zs : List Int) (e : Ending) (w' : World) : Prop :=
  ∃ A cap, e = .returned (.slice A n cap) ∧ ReadsW P w' A zs ∧ Below w.heap.size w w'
set_option maxHeartbeats 2000000 in
theorem rput_any (P : Nat → Prop) (A : Option Addr) (n cap : Nat) (zs : List Int) (at' v : Int) (w : World) (hn : n = zs.length) (hl : n ≤ 1000000) (h : ReadsW P w A zs) (hP : ∀ b, w.heap.size ≤ b → P b) :
    Calls Tryz.prog 22 #[.slice A n cap, .int .i64 at', .int .u64 v] w (SomeSl P w n (ptv zs at' v)) := by
  cases hb : inB zs at'
  · have e : ptv zs at' v = zs := by unfold ptv; rw [if_neg (by rw [hb]; simp)]
    have hno := in_no hb
    rw [e]
    have H := Lib.hid h
    by_cases hz : at' < 0
    · have ht : decide (at' < 0) = true := by simpa using hz
      clear hb e hno h hn
      go_enter Tryz.func22, Tryz.ntmps22
      go_wp2_with (fail)
      go_ret
      exact ⟨A, cap, rfl, H.out, Below.refl _ _⟩
    · have ht : decide (at' < 0) = false := by simpa using hz
      have ht2 : decide (at' ≥ (n : Int)) = true := by simp; omega
      have ht3 : (n : Int) ≤ at' := by omega
      clear hb e hno h hn
      go_enter Tryz.func22, Tryz.ntmps22
      go_wp2_with (fail)
      go_ret
      exact ⟨A, cap, rfl, H.out, Below.refl _ _⟩
  · have hi := in_yes hb
    obtain ⟨i, rfl⟩ : ∃ i : Nat, at' = (i : Int) := ⟨at'.toNat, by omega⟩
    have e : ptv zs i v = zs.set i v := by unfold ptv; rw [if_pos hb]; simp
    rw [e]
    have H := Lib.hid h.reads
    have HI : Hid (i < n) := Lib.hid (by omega)
    have hi0 : (0 : Int) ≤ (i : Int) := by omega
    have hi1 : (i : Int) < (n : Int) := by omega
    have hn0 : 0 < n := by omega
    have HN := Lib.hid hn
    clear hb e hn hi h
    go_enter Tryz.func22, Tryz.ntmps22
    go_wp2_with (first
      | (at_builtin; refine append_words rfl _ _ rfl A n cap zs rfl rfl HN.out hn0 hl H.out ?_; intro g cap' w1 hf; obtain ⟨hcl, hfr⟩ := hf.cell i HI.out; have HF := Lib.hid (hf.set i v); clear hf)
      | fail)
    go_ret
    exact ⟨_, _, rfl, HF.out.readsW hP, HF.out.2.1⟩
def SomeSlB (P : Nat → Prop) (w : World) (n : Nat) (zs : List Int) (b : Bool) (e : Ending) (w' : World) : Prop :=
  ∃ A cap, e = .returned (.tuple #[.slice A n cap, .bool b]) ∧ ReadsW P w' A zs ∧ Below w.heap.size w w'
set_option maxHeartbeats 2000000 in
theorem rswap_any (P : Nat → Prop) (A : Option Addr) (n cap : Nat) (zs : List Int) (at' o v : Int) (w : World) (hn : n = zs.length) (hl : n ≤ 1000000) (h : ReadsW P w A zs) (hP : ∀ b, w.heap.size ≤ b → P b) :
    Calls Tryz.prog 93 #[.slice A n cap, .int .i64 at', .int .u64 o, .int .u64 v] w (SomeSlB P w n (swv zs at' o v) (swB zs at' o)) := by
  cases hb : inB zs at'
  · have e : swB zs at' o = false := by unfold swB; rw [hb]; rfl
    have e2 : swv zs at' o v = zs := by unfold swv; rw [e]; simp
    have hno := in_no hb
    rw [e, e2]
    have H := Lib.hid h
    by_cases hz : at' < 0
    · have ht : decide (at' < 0) = true := by simpa using hz
      clear hb e e2 hno h hn
      go_enter Tryz.func93, Tryz.ntmps93
      go_wp2_with (fail)
      go_ret2
      exact ⟨A, cap, rfl, H.out, Below.refl _ _⟩
    · have ht : decide (at' < 0) = false := by simpa using hz
      have ht2 : decide (at' ≥ (n : Int)) = true := by simp; omega
      have ht3 : (n : Int) ≤ at' := by omega
      clear hb e e2 hno h hn
      go_enter Tryz.func93, Tryz.ntmps93
      go_wp2_with (fail)
      go_ret2
      exact ⟨A, cap, rfl, H.out, Below.refl _ _⟩
  · have hi := in_yes hb
    obtain ⟨i, rfl⟩ : ∃ i : Nat, at' = (i : Int) := ⟨at'.toNat, by omega⟩
    obtain ⟨b, off, rfl, hlt, hc⟩ := h.reads (by omega)
    have hcl := hc i (by omega)
    obtain ⟨z, hz⟩ : ∃ z, z = zs.getD i 0 := ⟨_, rfl⟩
    rw [← hz] at hcl
    have e0 : swB zs i o = decide (z = o) := by unfold swB; rw [hb, hz]; simp
    have H := Lib.hid h; have HN := Lib.hid hn
    have hi0 : (0 : Int) ≤ (i : Int) := by omega
    have hi1 : (i : Int) < (n : Int) := by omega
    by_cases hzo : z = o
    · have e : swB zs i o = true := by rw [e0]; simpa using hzo
      have e2 : swv zs i o v = ptv zs i v := by unfold swv ptv; rw [e, hb]
      rw [e, e2]
      have ht : (z != o) = false := by simp [hzo]
      clear hb e e2 e0 hn hz hi hc h hlt hzo
      go_enter Tryz.func93, Tryz.ntmps93
      go_wp2_with (first
        | (go_at_call 22; (with_reducible refine (rput_any P _ n cap zs _ _ _ HN.out hl H.out hP).mono ?_); rintro r w1 ⟨A2, cap2, rfl, hk⟩; have HK := Lib.hid hk; clear hk)
        | fail)
      go_ret2
      exact ⟨A2, cap2, rfl, HK.out⟩
    · have e : swB zs i o = false := by rw [e0]; simpa using hzo
      have e2 : swv zs i o v = zs := by unfold swv; rw [e]; simp
      rw [e, e2]
      have ht : (z != o) = true := by simp [hzo]
      clear hb e e2 e0 hn hz hi hc h hlt hzo
      go_enter Tryz.func93, Tryz.ntmps93
      go_wp2_with (fail)
      go_ret2
      exact ⟨_, cap, rfl, H.out, Below.refl _ _⟩
end Go.Proofs.YtpocihddecemfaaGreat
