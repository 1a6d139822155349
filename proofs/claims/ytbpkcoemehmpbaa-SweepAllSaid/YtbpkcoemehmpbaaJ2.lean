/- A store and its methods, walked. A store's accesses, walked. A store that is made, and all its words in new memory, walked. -/
import Derived.Test.YtbpkcoemehmpbaaJ1
namespace Go.Proofs.Ytbpkcoemehmpbaa
open Go.RowKit
set_option linter.unusedVariables false

abbrev ptr (S : Nat) : Value := .pointer (some ⟨S, 0, none⟩)
/-- Is there a word at a place? -/
def inB (L : List Int) (at' : Int) : Bool := decide (0 ≤ at' ∧ at' < L.length)
theorem in_yes {L : List Int} {at' : Int} (h : inB L at' = true) : 0 ≤ at' ∧ at' < L.length := by simpa [inB] using h
theorem in_no {L : List Int} {at' : Int} (h : inB L at' = false) : ¬ (0 ≤ at' ∧ at' < L.length) := by
  intro h2
  have : inB L at' = true := by simp only [inB]; exact decide_eq_true h2
  rw [h] at this; cases this
/-- What a load is, what words there are behind a put, behind a swap, behind an addition. -/
def ldv (L : List Int) (at' : Int) : Int := if inB L at' = true then L.getD at'.toNat 0 else 0
def ptv (L : List Int) (at' v : Int) : List Int := if inB L at' = true then L.set at'.toNat v else L
def swB (L : List Int) (at' o : Int) : Bool := inB L at' && decide (L.getD at'.toNat 0 = o)
def swv (L : List Int) (at' o v : Int) : List Int := if swB L at' o = true then L.set at'.toNat v else L
def adv (L : List Int) (at' n : Int) : List Int := ptv L at' (IntKind.u64.wrap (ldv L at' + n))
theorem ptv_len (L : List Int) (at' v : Int) : (ptv L at' v).length = L.length := by unfold ptv; split <;> simp
theorem swv_len (L : List Int) (at' o v : Int) : (swv L at' o v).length = L.length := by unfold swv; split <;> simp
theorem adv_len (L : List Int) (at' n : Int) : (adv L at' n).length = L.length := ptv_len ..

/-- What a method leaves: the store with other words, and an access more; all else as it was. -/
def Left (S D : Nat) (L : List Int) (c : Int) (w w' : World) : Prop := St w' S D L c ∧ Upd S D w w'

set_option maxHeartbeats 1000000 in
theorem count_any {S D : Nat} {L : List Int} {c : Int} (w : World) (h : St w S D L c) (h0 : 0 ≤ c) (h1 : c ≤ 1000000000) :
    Calls Try.prog 63 #[ptr S] w fun e w' => e = .returned (.tuple #[]) ∧ Left S D L (c + 1) w w' := by
  have HL : Hid (Left S D L (c + 1) w (w.setCell ⟨S, 1, none⟩ (.int .i64 (c + 1)))) := Lib.hid ⟨h.count _, (Upd.refl _ _ _).setS _ _⟩
  have hc := h.many
  have hf := h.fro 1
  clear h
  go_enter Try.func63, Try.ntmps63
  go_wp2
  go_returns
  exact ⟨rfl, HL.out⟩

set_option maxHeartbeats 1000000 in
theorem counted_any {S D : Nat} {L : List Int} {c : Int} (n : Nat) (at' : Int) (w : World) (hn : n = L.length) (h : St w S D L c) (h0 : 0 ≤ c) (h1 : c ≤ 1000000000) :
    Calls Try.prog 62 #[.func (.func 63) #[ptr S] #[], .int .i64 (n : Int), .int .i64 at'] w fun e w' => e = .returned (.bool (inB L at')) ∧ Left S D L (c + 1) w w' := by
  obtain ⟨b, hb⟩ : ∃ b, b = inB L at' := ⟨_, rfl⟩
  rw [← hb]
  have H := Lib.hid h; clear h
  cases b
  · have hno := in_no hb.symm
    have HB := Lib.hid hb; clear hb
    by_cases hz : 0 ≤ at'
    · have hlt : decide (at' < (n : Int)) = false := by simp; omega
      clear hn hno
      go_enter Try.func62, Try.ntmps62
      go_wp2_with (first
        | (go_at_call 63; (with_reducible refine (count_any _ H.out h0 h1).mono ?_); rintro r w1 ⟨rfl, hk⟩)
        | fail)
      go_ret
      exact ⟨rfl, hk⟩
    · have hlt : decide (0 ≤ at') = false := by simp; omega
      clear hn hno
      go_enter Try.func62, Try.ntmps62
      go_wp2_with (first
        | (go_at_call 63; (with_reducible refine (count_any _ H.out h0 h1).mono ?_); rintro r w1 ⟨rfl, hk⟩)
        | fail)
      go_ret
      exact ⟨rfl, hk⟩
  · have hyes := in_yes hb.symm
    have HB := Lib.hid hb; clear hb
    have hlt : decide (at' < (n : Int)) = true := by simp; omega
    have hz : 0 ≤ at' := hyes.1
    clear hn hyes
    go_enter Try.func62, Try.ntmps62
    go_wp2_with (first
      | (go_at_call 63; (with_reducible refine (count_any _ H.out h0 h1).mono ?_); rintro r w1 ⟨rfl, hk⟩)
      | fail)
    go_ret
    exact ⟨rfl, hk⟩

set_option maxHeartbeats 1000000 in
theorem reaches_any {S D : Nat} {L : List Int} {c : Int} (at' : Int) (w : World) (h : St w S D L c) (h0 : 0 ≤ c) (h1 : c ≤ 1000000000) :
    Calls Try.prog 38 #[ptr S, .int .i64 at'] w fun e w' => e = .returned (.bool (inB L at')) ∧ Left S D L (c + 1) w w' := by
  have hmf : ∀ (fn : Fn) (first cap : Array Value) (w : World), (Instr.makeFunc fn first cap).run Try.prog w = .ok (.func fn first cap) w := fun _ _ _ _ => rfl
  have hc := h.head
  obtain ⟨n, hn⟩ : ∃ n, n = L.length := ⟨_, rfl⟩
  rw [← hn] at hc
  have HN := Lib.hid hn; clear hn
  have H := Lib.hid h; clear h
  go_enter Try.func38, Try.ntmps38
  go_wp2_with (first
    | (go_at_call 62; (with_reducible refine (counted_any (S := S) _ _ _ HN.out H.out h0 h1).mono ?_); rintro r w1 ⟨rfl, hk⟩)
    | fail)
  go_ret
  exact ⟨rfl, hk⟩
end Go.Proofs.Ytbpkcoemehmpbaa

namespace Go.Proofs.Ytbpkcoemehmpbaa
open Go.RowKit
set_option linter.unusedVariables false

theorem in_nat {L : List Int} {i : Nat} (h : i < L.length) : inB L i = true := by simp [inB]; exact h
theorem left_set {S D : Nat} {L : List Int} {c : Int} {w w1 : World} (h : Left S D L c w w1) (i : Nat) (v : Int) : Left S D (L.set i v) c w (w1.setCell ⟨D, i, none⟩ (.int .u64 v)) :=
  ⟨h.1.set i v, h.2.setD i _⟩

set_option maxHeartbeats 1000000 in
theorem load_any {S D : Nat} {L : List Int} {c : Int} (at' : Int) (w : World) (h : St w S D L c) (h0 : 0 ≤ c) (h1 : c ≤ 1000000000) :
    Calls Try.prog 23 #[ptr S, .int .i64 at'] w fun e w' => e = .returned (.int .u64 (ldv L at')) ∧ Left S D L (c + 1) w w' := by
  obtain ⟨b, hb⟩ : ∃ b, b = inB L at' := ⟨_, rfl⟩
  have H := Lib.hid h; clear h
  cases b
  · have e : ldv L at' = 0 := by unfold ldv; rw [if_neg (by rw [← hb]; simp)]
    rw [e]
    have HB := Lib.hid hb; clear hb e
    go_enter Try.func23, Try.ntmps23
    go_wp2_with (first
      | (go_at_call 38; (with_reducible refine (reaches_any _ _ H.out h0 h1).mono ?_); rintro r w1 ⟨rfl, hk⟩; rw [← HB.out])
      | fail)
    go_ret
    exact ⟨rfl, hk⟩
  · have hi := in_yes hb.symm
    obtain ⟨i, rfl⟩ : ∃ i : Nat, at' = (i : Int) := ⟨at'.toNat, by omega⟩
    have hil : i < L.length := by omega
    have e : ldv L i = L.getD i 0 := by unfold ldv; rw [if_pos hb.symm]; simp
    rw [e]
    obtain ⟨n, hn⟩ : ∃ n, n = L.length := ⟨_, rfl⟩
    rw [← hn] at hi hil
    have HN := Lib.hid hn
    have HB := Lib.hid hb
    have HI := Lib.hid hil
    obtain ⟨z, hz⟩ : ∃ z, z = L.getD i 0 := ⟨_, rfl⟩
    rw [← hz]
    have HZ := Lib.hid hz
    have hi0 : (0 : Int) ≤ (i : Int) := by omega
    have hi1 : (i : Int) < (n : Int) := by omega
    clear hb e hn hz hi hil
    go_enter Try.func23, Try.ntmps23
    go_wp2_with (first
      | (go_at_call 38; (with_reducible refine (reaches_any _ _ H.out h0 h1).mono ?_); rintro r w1 ⟨rfl, hk⟩; rw [← HB.out]; have hd := hk.1.head; rw [← HN.out] at hd; have hcl := hk.1.row.cell i (by have := HN.out; have := HI.out; omega); rw [← HZ.out] at hcl)
      | fail)
    go_ret
    exact ⟨rfl, hk⟩

set_option maxHeartbeats 1000000 in
theorem put_any {S D : Nat} {L : List Int} {c : Int} (at' v : Int) (w : World) (h : St w S D L c) (h0 : 0 ≤ c) (h1 : c ≤ 1000000000) :
    Calls Try.prog 10 #[ptr S, .int .i64 at', .int .u64 v] w fun e w' => e = .returned (.tuple #[]) ∧ Left S D (ptv L at' v) (c + 1) w w' := by
  obtain ⟨b, hb⟩ : ∃ b, b = inB L at' := ⟨_, rfl⟩
  have H := Lib.hid h; clear h
  cases b
  · have e : ptv L at' v = L := by unfold ptv; rw [if_neg (by rw [← hb]; simp)]
    rw [e]
    have HB := Lib.hid hb; clear hb e
    go_enter Try.func10, Try.ntmps10
    go_wp2_with (first
      | (go_at_call 38; (with_reducible refine (reaches_any _ _ H.out h0 h1).mono ?_); rintro r w1 ⟨rfl, hk⟩; rw [← HB.out])
      | fail)
    go_returns
    exact ⟨rfl, hk⟩
  · have hi := in_yes hb.symm
    obtain ⟨i, rfl⟩ : ∃ i : Nat, at' = (i : Int) := ⟨at'.toNat, by omega⟩
    have hil : i < L.length := by omega
    have e : ptv L i v = L.set i v := by unfold ptv; rw [if_pos hb.symm]; simp
    rw [e]
    obtain ⟨n, hn⟩ : ∃ n, n = L.length := ⟨_, rfl⟩
    rw [← hn] at hi hil
    have HN := Lib.hid hn
    have HB := Lib.hid hb
    have HI := Lib.hid hil
    have hi0 : (0 : Int) ≤ (i : Int) := by omega
    have hi1 : (i : Int) < (n : Int) := by omega
    clear hb e hn hi hil
    go_enter Try.func10, Try.ntmps10
    go_wp2_with (first
      | (go_at_call 38; (with_reducible refine (reaches_any _ _ H.out h0 h1).mono ?_); rintro r w1 ⟨rfl, hk⟩; rw [← HB.out]; have hd := hk.1.head; rw [← HN.out] at hd; have hcl := hk.1.row.cell i (by have := HN.out; have := HI.out; omega); have hfr := hk.1.row.frozen i; have HK := Lib.hid (left_set hk i v); clear hk)
      | fail)
    go_returns
    exact ⟨rfl, HK.out⟩

set_option maxHeartbeats 1000000 in
theorem swap_any {S D : Nat} {L : List Int} {c : Int} (at' o v : Int) (w : World) (h : St w S D L c) (h0 : 0 ≤ c) (h1 : c ≤ 1000000000) :
    Calls Try.prog 71 #[ptr S, .int .i64 at', .int .u64 o, .int .u64 v] w fun e w' => e = .returned (.bool (swB L at' o)) ∧ Left S D (swv L at' o v) (c + 1) w w' := by
  obtain ⟨b, hb⟩ : ∃ b, b = inB L at' := ⟨_, rfl⟩
  have H := Lib.hid h; clear h
  cases b
  · have e : swB L at' o = false := by unfold swB; rw [← hb]; rfl
    have e2 : swv L at' o v = L := by unfold swv; rw [e]; simp
    rw [e, e2]
    have HB := Lib.hid hb; clear hb e e2
    go_enter Try.func71, Try.ntmps71
    go_wp2_with (first
      | (go_at_call 38; (with_reducible refine (reaches_any _ _ H.out h0 h1).mono ?_); rintro r w1 ⟨rfl, hk⟩; rw [← HB.out])
      | fail)
    go_ret
    exact ⟨rfl, hk⟩
  · have hi := in_yes hb.symm
    obtain ⟨i, rfl⟩ : ∃ i : Nat, at' = (i : Int) := ⟨at'.toNat, by omega⟩
    have hil : i < L.length := by omega
    obtain ⟨n, hn⟩ : ∃ n, n = L.length := ⟨_, rfl⟩
    obtain ⟨z, hz⟩ : ∃ z, z = L.getD i 0 := ⟨_, rfl⟩
    have e0 : swB L i o = decide (z = o) := by unfold swB; rw [← hb, hz]; simp
    rw [← hn] at hi hil
    have hi0 : (0 : Int) ≤ (i : Int) := by omega
    have hi1 : (i : Int) < (n : Int) := by omega
    by_cases hzo : z = o
    · have e : swB L i o = true := by rw [e0]; simpa using hzo
      have e2 : swv L i o v = L.set i v := by unfold swv; rw [e]; simp
      rw [e, e2]
      have ht : (z != o) = false := by simp [hzo]
      have HN := Lib.hid hn
      have HB := Lib.hid hb
      have HI := Lib.hid hil
      have HZ := Lib.hid hz
      clear hb e e2 e0 hn hz hi hil hzo
      go_enter Try.func71, Try.ntmps71
      go_wp2_with (first
        | (go_at_call 38; (with_reducible refine (reaches_any _ _ H.out h0 h1).mono ?_); rintro r w1 ⟨rfl, hk⟩; rw [← HB.out]; have hd := hk.1.head; rw [← HN.out] at hd; have hcl := hk.1.row.cell i (by have := HN.out; have := HI.out; omega); rw [← HZ.out] at hcl; have hfr := hk.1.row.frozen i; have HK := Lib.hid (left_set hk i v); clear hk)
        | fail)
      go_ret
      exact ⟨rfl, HK.out⟩
    · have e : swB L i o = false := by rw [e0]; simpa using hzo
      have e2 : swv L i o v = L := by unfold swv; rw [e]; simp
      rw [e, e2]
      have ht : (z != o) = true := by simp [hzo]
      have HN := Lib.hid hn
      have HB := Lib.hid hb
      have HI := Lib.hid hil
      have HZ := Lib.hid hz
      clear hb e e2 e0 hn hz hi hil hzo
      go_enter Try.func71, Try.ntmps71
      go_wp2_with (first
        | (go_at_call 38; (with_reducible refine (reaches_any _ _ H.out h0 h1).mono ?_); rintro r w1 ⟨rfl, hk⟩; rw [← HB.out]; have hd := hk.1.head; rw [← HN.out] at hd; have hcl := hk.1.row.cell i (by have := HN.out; have := HI.out; omega); rw [← HZ.out] at hcl)
        | fail)
      go_ret
      exact ⟨rfl, hk⟩

end Go.Proofs.Ytbpkcoemehmpbaa

namespace Go.Proofs.Ytbpkcoemehmpbaa
open Go.RowKit
set_option linter.unusedVariables false
set_option maxRecDepth 100000

theorem made_words (n : Nat) : (madeCells (Value.int .u64 0).cells n).toList = List.replicate n (.int .u64 0) := by
  apply List.ext_getElem?
  intro j
  by_cases hj : j < n
  · simp [madeCells, hj, Value.cells, Nat.mod_one]
  · simp [madeCells, hj]
theorem make_words (n : Nat) (w : World) (hn : n ≤ 1000000) : (Instr.makeSlice 37 (.int .i64 (n : Int)) (.int .i64 (n : Int))).run Try.prog w = .ok (.slice (some ⟨w.heap.size, 0, none⟩) n n) (w.alloc (.cells ((List.replicate n (0 : Int)).map (Value.int .u64)).toArray 25)) := by
  obtain ⟨i0, hi, hz0, hz1, hz2⟩ := info_parts info34
  have := run_make w 37 25 i0 (.int .u64 0) Try.underlying37 hi hz0 .i64 .i64 n n (by omega) (Int.le_refl _) (by rw [hz2]; omega) (by omega)
  have e : madeCells (Value.int .u64 0).cells n = ((List.replicate n (0 : Int)).map (Value.int .u64)).toArray := by
    apply Array.ext'
    rw [made_words]; simp
  simpa [hz1, e] using this
theorem row_new (w : World) (L : List Int) : Row (w.alloc (.cells (L.map (Value.int .u64)).toArray 25)) w.heap.size L := by
  show (w.heap.push _)[w.heap.size]? = _
  simp
theorem splice_all {α : Type} (L cs : List α) (h : cs.length = L.length) : splice L 0 cs = cs := by
  simp [splice, h]

/-- Words in new memory. -/
def SomeRow (w : World) (L : List Int) (e : Ending) (w' : World) : Prop :=
  e = .returned (.slice (some ⟨w.heap.size, 0, none⟩) L.length L.length) ∧ Row w' w.heap.size L ∧ Below w.heap.size w w'

set_option maxHeartbeats 1000000 in
theorem copied_any (A : Option Addr) (n cap : Nat) (zs : List Int) (w : World) (hn : n = zs.length) (h : Reads .u64 w A zs) (hl : n ≤ 1000000) :
    Calls Try.prog 41 #[.slice A n cap] w (SomeRow w zs) := by
  have hmk := make_words n w hl
  have HRow := Lib.hid (row_new w (List.replicate n (0 : Int)))
  obtain ⟨V, hV⟩ : ∃ V, V = (List.replicate n (0 : Int)).map (Value.int .u64) := ⟨_, rfl⟩
  obtain ⟨X, hX⟩ : ∃ X, X = zs.map (Value.int .u64) := ⟨_, rfl⟩
  rw [← hV] at hmk
  obtain ⟨W1, hW1⟩ : ∃ W1, W1 = w.alloc (.cells V.toArray 25) := ⟨_, rfl⟩
  have hb1 : Below w.heap.size w W1 := by rw [hW1]; exact below_alloc0 (Below.refl _ _) _
  have hrow : W1.heap[w.heap.size]? = some (.cells V.toArray 25 (0, 0)) := by rw [hW1, hV]; exact HRow.out
  rw [← hW1] at hmk
  have hVl : V.length = n := by rw [hV]; simp
  have hXl : X.length = n := by rw [hX, hn]; simp
  have hXc : ∀ v ∈ X, v.oneCell' = true := by
    rw [hX]; intro v hv
    obtain ⟨x, _, rfl⟩ := List.mem_map.1 hv
    rfl
  have hsrc : 0 < X.length → (some (⟨w.heap.size, 0, none⟩ : Addr)) = some ⟨w.heap.size, 0, none⟩ ∧ ∃ ad, A = some ad ∧ ∀ j v, X[j]? = some v → W1.cell? (ad.add j) = some v := fun h0 => by
    refine ⟨rfl, ?_⟩
    obtain ⟨b, off, rfl, hlt, hc⟩ := (h.below hb1 (Nat.le_refl _)) (by omega)
    refine ⟨_, rfl, fun j v hj => ?_⟩
    have hjn : j < zs.length := by
      rcases Nat.lt_or_ge j zs.length with h' | h'
      · exact h'
      · rw [hX, List.getElem?_eq_none (by simpa using h')] at hj; cases hj
    rw [add_off, hc j hjn]
    rw [hX, map_get .u64 zs j hjn] at hj
    exact hj
  have HB1 := Lib.hid hb1; have HROW := Lib.hid hrow; have HVL := Lib.hid hVl; have HXL := Lib.hid hXl; have HXC := Lib.hid hXc; have HS := Lib.hid hsrc; have HN := Lib.hid hn; have HX := Lib.hid hX
  clear hb1 hrow hVl hXl hXc hsrc hn hX h hW1 hV
  go_enter Try.func41, Try.ntmps41
  go_wp2_with (first
    | (with_reducible refine wpList_copy_splice rfl _ _ 37 37 rfl 25 Try.underlying37 (by kernel_rfl) (some ⟨w.heap.size, 0, none⟩) A n n n cap rfl rfl w.heap.size 0 V 25 HROW.out X (by rw [HXL.out]; simp) HS.out (by have := HVL.out; have := HXL.out; omega) HXC.out w.heap.size w HB1.out (Nat.le_refl _) ?_; intro w2 hg2 hb2)
    | fail)
  go_ret
  refine ⟨?_, ?_, hb2⟩
  · rw [HN.out]; rfl
  · have := hg2.out
    rw [splice_all V X (by rw [HXL.out, HVL.out]), HX.out] at this
    exact this

/-- A store that has been made, of these words. -/
def SomeNew (w : World) (L : List Int) (e : Ending) (w' : World) : Prop :=
  ∃ S D, e = .returned (ptr S) ∧ w.heap.size ≤ S ∧ w.heap.size ≤ D ∧ St w' S D L 0 ∧ Below w.heap.size w w'
theorem new_st {w w1 : World} {L : List Int} {n : Nat} (hn : n = L.length) (hr : Row w1 w.heap.size L) (hb : Below w.heap.size w w1) :
    SomeNew w L (.returned (ptr w1.heap.size)) (w1.alloc (.cells #[.slice (some ⟨w.heap.size, 0, none⟩) n n, .int .i64 0] 72)) := by
  have hlt := hr.lt
  refine ⟨w1.heap.size, w.heap.size, rfl, hb.size, Nat.le_refl _, ⟨by omega, ?_, ?_⟩, below_alloc0 hb _⟩
  · rw [hn]
    show (w1.heap.push _)[w1.heap.size]? = _
    simp
  · exact (Below.heap_alloc _ _ _ hlt).trans hr

set_option maxHeartbeats 1000000 in
theorem new_any (A : Option Addr) (n cap : Nat) (zs : List Int) (w : World) (hn : n = zs.length) (h : Reads .u64 w A zs) (hl : n ≤ 1000000) :
    Calls Try.prog 29 #[.slice A n cap] w (SomeNew w zs) := by
  have H := Lib.hid h; have HN := Lib.hid hn
  clear h hn
  go_enter Try.func29, Try.ntmps29
  go_wp2_with (first
    | (go_at_call 41; (with_reducible refine (copied_any A n cap zs _ HN.out H.out hl).mono ?_); rintro r w1 ⟨rfl, hr, hb⟩; rw [← HN.out]; have HK := Lib.hid (new_st HN.out hr hb); clear hr hb)
    | fail)
  go_ret
  exact HK.out

set_option maxHeartbeats 1000000 in
theorem all_any {S D : Nat} {L : List Int} {c : Int} (w : World) (h : St w S D L c) (hl : L.length ≤ 1000000) :
    Calls Try.prog 12 #[ptr S] w (SomeRow w L) := by
  have hc := h.head
  have H := Lib.hid h.row.reads
  clear h
  obtain ⟨n, hn⟩ : ∃ n, n = L.length := ⟨_, rfl⟩
  rw [← hn] at hc hl
  have HN := Lib.hid hn; clear hn
  go_enter Try.func12, Try.ntmps12
  go_wp2_with (first
    | (go_at_call 41; (with_reducible refine (copied_any _ n _ L _ HN.out H.out hl).mono ?_); rintro r w1 ⟨rfl, hr⟩; rw [← HN.out]; have HK := Lib.hid hr; clear hr)
    | fail)
  go_ret
  exact ⟨by rw [HN.out]; rfl, HK.out⟩
end Go.Proofs.Ytbpkcoemehmpbaa
