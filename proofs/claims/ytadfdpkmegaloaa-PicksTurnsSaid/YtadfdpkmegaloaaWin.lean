/- Whether each stretch of turns has all: the program's Windows and the document's, walked. -/
import Derived.Test.YtadfdpkmegaloaaModel
import Derived.Test.YtadfdpkmegaloaaWinPure
namespace Go.Proofs.Ytadfdpkmegaloaa
open Go.RowKit
set_option linter.unusedVariables false

def SomeWin (l : List Int) (all wide : Int) (w : World) (e : Ending) (w' : World) : Prop := ∃ b : Bool, (b = true ↔ IsWin l all wide) ∧ e = .returned (.bool b) ∧ w = w'

/-- The stretch of W turns from i has who, as far as k. -/
def Has (l : List Int) (i k u : Nat) : Prop := ∃ j, i ≤ j ∧ j < k ∧ l.getD j 0 = (u : Int)
def HasAll (l : List Int) (W i a : Nat) : Prop := ∀ u, u < a → Has l i (i + W) u
def WinTo (l : List Int) (a W i : Nat) : Prop := ∀ i', i' < i → i' + W ≤ l.length → HasAll l W i' a
theorem winto_done {l : List Int} {a W i : Nat} (h : WinTo l a W i) (hi : l.length < i + W) (hW : 1 ≤ W) : IsWin l a W :=
  .inr ⟨by omega, fun i' W' hW' hl u hu => by
    obtain rfl : W' = W := by omega
    exact h i' (by omega) hl u (by omega)⟩
theorem win_not {l : List Int} {a W i u : Nat} (hu : u < a) (hi : i + W ≤ l.length) (h : ¬ Has l i (i + W) u) : ¬ IsWin l a W := by
  rintro (h1 | ⟨_, h1⟩)
  · omega
  · exact h (h1 i W rfl hi u (by omega))
theorem has_more {l : List Int} {i k u : Nat} {b : Bool} (hik : i ≤ k) (h : b = true ↔ Has l i k u) : ((b || (l.getD k 0 == (u : Int))) = true) ↔ Has l i (k + 1) u := by
  constructor
  · intro e
    rcases Bool.or_eq_true_iff.1 e with e | e
    · obtain ⟨j, h1, h2, h3⟩ := h.1 e
      exact ⟨j, h1, by omega, h3⟩
    · exact ⟨k, hik, by omega, by simpa using e⟩
  · rintro ⟨j, h1, h2, h3⟩
    by_cases e : j = k
    · subst e; exact Bool.or_eq_true_iff.2 (.inr (by rw [h3]; simp))
    · have := h.2 ⟨j, h1, by omega, h3⟩; simp [this]
theorem winto_step {l : List Int} {a W i : Nat} (h : WinTo l a W i) (h1 : HasAll l W i a) : WinTo l a W (i + 1) := fun i' hi hl => by
  by_cases e : i' = i
  · subst e; exact h1
  · exact h i' (by omega) hl
theorem hasall_step {l : List Int} {W i u : Nat} (h : HasAll l W i u) (h1 : Has l i (i + W) u) : HasAll l W i (u + 1) := fun v hv => by
  by_cases e : v = u
  · subst e; exact h1
  · exact h v (by omega)

set_option maxHeartbeats 1000000 in
theorem refwin_any (A : Option Addr) (cap : Nat) (zs : List Int) (all wide : Int) (w : World) (h : Reads .i64 w A zs) (hb : zs.length ≤ 100000) (ha : all ≤ 100000) (hw : wide ≤ 9223372036854775807) :
    Calls Try.prog 21 #[.slice A zs.length cap, .int .i64 all, .int .i64 wide] w (SomeWin zs all wide w) := by
  obtain ⟨n, hn⟩ : ∃ n, n = zs.length := ⟨_, rfl⟩
  rw [← hn] at hb ⊢
  have HN := Lib.hid hn; clear hn
  have HR := Lib.hid h; clear h
  by_cases a1 : all < 1
  · go_enter Try.func21, Try.ntmps21
    go_wp2
    go_ret
    exact ⟨true, ⟨fun _ => .inl a1, fun _ => rfl⟩, rfl, rfl⟩
  by_cases w1 : wide < 1
  · go_enter Try.func21, Try.ntmps21
    go_wp2
    go_ret
    exact ⟨false, ⟨fun h => by simp at h, fun h => by rcases h with h | ⟨h, _⟩ <;> omega⟩, rfl, rfl⟩
  obtain ⟨a, rfl⟩ : ∃ a : Nat, all = a := ⟨all.toNat, by omega⟩
  obtain ⟨W, rfl⟩ : ∃ a : Nat, wide = a := ⟨wide.toNat, by omega⟩
  have hW1 : 1 ≤ W := by omega
  have ha1 : 1 ≤ a := by omega
  go_enter Try.func21, Try.ntmps21
  go_wp2
  go_loop [7] (fun i => ∃ k : Nat, k ≤ n ∧ i = .int .i64 k ∧ WinTo zs a W k) (fun i => n - (intOf i).toNat)
  case atStart => exact ⟨0, Nat.zero_le _, rfl, fun i' h => by omega⟩
  case round =>
    obtain ⟨i, hi, rfl, hg⟩ := hrel
    by_cases hlt : i + W ≤ n
    · have hin : i < n := by omega
      have hwn : (W : Int) ≤ (n : Int) - (i : Int) := by omega
      have HG := Lib.hid hg; clear hg
      go_wp2
      go_loop [8] (fun b => ∃ u : Nat, u ≤ a ∧ b = .int .i64 u ∧ HasAll zs W i u) (fun b => a - (intOf b).toNat)
      case atStart => exact ⟨0, by omega, rfl, fun v h => by omega⟩
      case round =>
        obtain ⟨u, hu, rfl, hf⟩ := hrel
        by_cases hua : u < a
        · have HF := Lib.hid hf; clear hf
          go_wp2
          go_loop [9, 10] (fun s c => ∃ (b : Bool) (k : Nat), i ≤ k ∧ k ≤ i + W ∧ s = .bool b ∧ c = .int .i64 k ∧ (b = true ↔ Has zs i k u)) (fun _ c => i + W - (intOf c).toNat)
          case atStart => exact ⟨false, i, by omega, by omega, rfl, rfl, ⟨fun h => by simp at h, fun ⟨j, h1, h2, _⟩ => by omega⟩⟩
          case round =>
            obtain ⟨b, k, hik, hk, rfl, rfl, hs⟩ := hrel
            by_cases hkw : k < i + W
            · obtain ⟨bl, off, rfl, _, hc⟩ := HR.out (by have := HN.out; omega)
              have hcell := hc k (by have := HN.out; omega)
              have hkn : k < n := by omega
              have hm := has_more hik hs
              obtain ⟨x, hx⟩ : ∃ x, x = zs.getD k 0 := ⟨_, rfl⟩
              rw [← hx] at hcell hm
              have hkc : (k : Int) < (i : Int) + (W : Int) := by omega
              clear hx hc
              have HM := Lib.hid hm; clear hm
              have HS := Lib.hid hs; clear hs
              cases b
              · go_wp2
                go_round
                case rel => exact ⟨x == (u : Int), k + 1, by omega, by omega, rfl, by go_num, by simpa using HM.out⟩
                case measure => simp [intOf]; omega
              · go_wp2
                go_round
                case rel => exact ⟨true, k + 1, by omega, by omega, rfl, by go_num, by simpa using HM.out⟩
                case measure => simp [intOf]; omega
            · obtain rfl : k = i + W := by omega
              have hkc : ¬ ((i : Int) + (W : Int) < (i : Int) + (W : Int)) := by omega
              cases b
              · have hno : ¬ Has zs i (i + W) u := fun h => by simpa using hs.2 h
                have HS := Lib.hid hno; clear hs hno
                go_wp2
                go_ret
                exact ⟨false, ⟨fun h => by simp at h, fun h => absurd h (win_not hua (by have := HN.out; omega) HS.out)⟩, rfl, rfl⟩
              · have hyes := hs.1 rfl
                have HS := Lib.hid hyes; clear hs hyes
                go_wp2
                go_round
                case rel => exact ⟨u + 1, by omega, by go_num, hasall_step HF.out HS.out⟩
                case measure => simp [intOf]; omega
        · obtain rfl : u = a := by omega
          have HF := Lib.hid (winto_step HG.out hf); clear hf
          go_wp2
          go_round
          case rel => exact ⟨i + 1, by omega, by go_num, HF.out⟩
          case measure => simp [intOf]; omega
    · have HG := Lib.hid hg; clear hg
      by_cases hin : i < n
      · have hwn : (n : Int) - (i : Int) < (W : Int) := by omega
        go_wp2
        go_ret
        exact ⟨true, ⟨fun _ => winto_done HG.out (by have := HN.out; omega) hW1, fun _ => rfl⟩, rfl, rfl⟩
      · go_wp2
        go_ret
        exact ⟨true, ⟨fun _ => winto_done HG.out (by have := HN.out; omega) hW1, fun _ => rfl⟩, rfl, rfl⟩


def SomeWinB (l : List Int) (all wide : Int) (w : World) (e : Ending) (w' : World) : Prop := ∃ b : Bool, (b = true ↔ IsWin l all wide) ∧ e = .returned (.bool b) ∧ Below w.heap.size w w'
set_option maxHeartbeats 1000000 in
theorem win_any (A : Option Addr) (cap : Nat) (zs : List Int) (all wide : Int) (w : World) (h : Reads .i64 w A zs) (hb : zs.length ≤ 100000) (ha : all ≤ 100000) (hw : wide ≤ 9223372036854775807) :
    Calls Try.prog 22 #[.slice A zs.length cap, .int .i64 all, .int .i64 wide] w (SomeWinB zs all wide w) := by
  obtain ⟨n, hn⟩ : ∃ n, n = zs.length := ⟨_, rfl⟩
  rw [← hn] at hb ⊢
  have HN := Lib.hid hn; clear hn
  by_cases a1 : all < 1
  · go_enter Try.func22, Try.ntmps22
    go_wp2
    go_ret
    exact ⟨true, ⟨fun _ => .inl a1, fun _ => rfl⟩, rfl, Below.refl _ _⟩
  by_cases w1 : wide < 1
  · go_enter Try.func22, Try.ntmps22
    go_wp2
    go_ret
    exact ⟨false, ⟨fun h => by simp at h, fun h => by rcases h with h | ⟨h, _⟩ <;> omega⟩, rfl, Below.refl _ _⟩
  obtain ⟨a, rfl⟩ : ∃ a : Nat, all = a := ⟨all.toNat, by omega⟩
  obtain ⟨W, rfl⟩ : ∃ a : Nat, wide = a := ⟨wide.toNat, by omega⟩
  have hW1 : 1 ≤ W := by omega
  have ha1 : 1 ≤ a := by omega
  by_cases hnw : n < W
  · go_enter Try.func22, Try.ntmps22
    go_wp2
    go_ret
    exact ⟨true, ⟨fun _ => win_few rfl (by omega) (by have := HN.out; omega), fun _ => rfl⟩, rfl, Below.refl _ _⟩
  by_cases haw : W < a
  · go_enter Try.func22, Try.ntmps22
    go_wp2
    go_ret
    exact ⟨false, ⟨fun h => by simp at h, fun h => absurd h (win_many rfl (by have := HN.out; omega) (by omega) (by omega))⟩, rfl, Below.refl _ _⟩
  have hc0 : ∀ j, j < n → ∃ b off, A = some ⟨b, off, none⟩ ∧ b < w.heap.size ∧ w.cell? ⟨b, off + j, none⟩ = some (.int .i64 (zs.getD j 0)) := fun j hj => by
    obtain ⟨b, off, e, h1, h2⟩ := h (by have := HN.out; omega)
    exact ⟨b, off, e, h1, h2 j (by have := HN.out; omega)⟩
  have HR := Lib.hid hc0; clear h hc0
  obtain ⟨i0, hi, hz0, hz1, hz2⟩ := info_parts info3
  go_enter Try.func22, Try.ntmps22
  go_wp2_with (refine wpList_make_full w rfl _ _ 33 rfl w.heap.size 3 i0 (.int .i64 0) 1 Try.underlying33 hi hz0 hz1 .i64 .i64 _ _ a rfl rfl rfl rfl (by rw [hz2]; omega) (by unfold maxLen; omega) (Nat.le_refl _) ?_)
  intro w1 hown hgrow
  have hO : RowB w a w1 (List.replicate a 0) := ⟨by simpa [toList_madeCells_one, Value.cells] using hown, (Below.refl _ _).grown hgrow (Nat.le_refl _) (fun k hk => by cases hk)⟩
  clear hown hgrow hi hz0 hz1 hz2
  go_wp2
  go_loopw [27] (fun i wr => ∃ (k : Nat) (B : List Int), k ≤ n ∧ i = .int .i64 k ∧ Behind zs a W k B ∧ RowB w a wr B) (fun i _ => n - (intOf i).toNat)
  case atStart => exact ⟨0, _, Nat.zero_le _, rfl, behind_start _ _ _ (by omega), hO⟩
  case round =>
    clear hO
    obtain ⟨k, B, hk, rfl, hB, hO⟩ := hrel
    by_cases hkn : k < n
    · obtain ⟨b, off, rfl, hlt, hc⟩ := HR.out k hkn
      have hcell := (hO.2.cell (p := ⟨b, off + k, none⟩) hlt).trans hc
      obtain ⟨x, hx⟩ : ∃ x, x = zs.getD k 0 := ⟨_, rfl⟩
      rw [← hx] at hcell
      have HX := Lib.hid hx; clear hx hc
      have HB := Lib.hid hB; clear hB
      by_cases x0 : x < 0
      · have HO := Lib.hid hO; clear hO
        go_wp2
        go_roundw
        case rel => exact ⟨k + 1, B, by omega, by go_num, behind_other HB.out (.inl (by rw [← HX.out]; exact x0)), HO.out⟩
        case measure => simp [intOf]; omega
      by_cases xa : (a : Int) ≤ x
      · have HO := Lib.hid hO; clear hO
        go_wp2
        go_roundw
        case rel => exact ⟨k + 1, B, by omega, by go_num, behind_other HB.out (.inr (by rw [← HX.out]; exact xa)), HO.out⟩
        case measure => simp [intOf]; omega
      obtain ⟨u, hu⟩ : ∃ u : Nat, x = u := ⟨x.toNat, by omega⟩
      subst hu
      have hua : u < a := by omega
      obtain ⟨p, hp, hpk, _⟩ := HB.out.2 u hua
      have hcb : wr.cell? ⟨w.heap.size, u, none⟩ = some (.int .i64 (p : Int)) := (hO.1.cellAt u (by omega)).trans (by rw [map_get _ _ _ (by rw [HB.out.1]; exact hua), hp])
      have hfb : wr.frozen? ⟨w.heap.size, u, none⟩ = false := hO.1.frozenAt u
      have HP := Lib.hid hp; clear hp
      have hst := (hO.1.stored u (.int .i64 ((k : Int) + 1))).1
      have hbe := hO.2.setCell (p := ⟨w.heap.size, u, none⟩) (Nat.le_refl _) (.int .i64 ((k : Int) + 1))
      have HO : Hid (RowB w a (wr.setCell ⟨w.heap.size, u, none⟩ (.int .i64 ((k : Int) + 1))) (B.set u ((k : Int) + 1))) := Lib.hid ⟨by rw [List.map_set]; exact hst, hbe⟩
      have HE := Lib.hid hO.2
      clear hst hbe hO
      by_cases hlate : p + W ≤ k
      · have hl2 : (W : Int) ≤ (k : Int) - (p : Int) := by omega
        go_wp2
        go_ret
        exact ⟨false, ⟨fun h => by simp at h, fun h => absurd h (behind_late HB.out (by have := HN.out; omega) hua HP.out hlate _ rfl)⟩, rfl, HE.out⟩
      · have hl2 : (k : Int) - (p : Int) < (W : Int) := by omega
        go_wp2
        go_roundw
        case rel => exact ⟨k + 1, _, by omega, by go_num, behind_step HB.out HX.out.symm hua HP.out (by omega), HO.out⟩
        case measure => simp [intOf]; omega
    · obtain rfl : k = n := by omega
      have HB := Lib.hid hB; clear hB
      have hcB : ∀ u, u < a → ∃ p : Nat, B.getD u 0 = (p : Int) ∧ p ≤ k ∧ wr.cell? ⟨w.heap.size, u, none⟩ = some (.int .i64 (p : Int)) := fun u hua => by
        obtain ⟨p, hp, hpk, _⟩ := HB.out.2 u hua
        exact ⟨p, hp, hpk, (hO.1.cellAt u (by omega)).trans (by rw [map_get _ _ _ (by rw [HB.out.1]; exact hua), hp])⟩
      have HC := Lib.hid hcB
      have HE := Lib.hid hO.2
      clear hcB hO
      go_wp2
      go_loop [55] (fun i => ∃ (v : Nat), v ≤ a ∧ i = .int .i64 v ∧ ∀ u, u < v → ∀ p : Nat, B.getD u 0 = (p : Int) → k < p + W) (fun i => a - (intOf i).toNat)
      case atStart => exact ⟨0, Nat.zero_le _, rfl, fun u h => by omega⟩
      case round =>
        obtain ⟨v, hv, rfl, hall⟩ := hrel
        have HA := Lib.hid hall; clear hall
        by_cases hva : v < a
        · obtain ⟨p, hp, hpk, hcell⟩ := HC.out v hva
          have HP := Lib.hid hp; clear hp
          by_cases hlate : p + W ≤ k
          · have hl2 : (W : Int) ≤ (k : Int) - (p : Int) := by omega
            go_wp2
            go_ret
            exact ⟨false, ⟨fun h => by simp at h, fun h => absurd h (behind_late HB.out (by have := HN.out; omega) hva HP.out hlate _ rfl)⟩, rfl, HE.out⟩
          · have hl2 : (k : Int) - (p : Int) < (W : Int) := by omega
            go_wp2
            go_round
            case rel =>
              refine ⟨v + 1, by omega, by go_num, fun u hu q hq => ?_⟩
              by_cases e : u = v
              · subst e; have := HP.out; omega
              · exact HA.out u (by omega) q hq
            case measure => simp [intOf]; omega
        · obtain rfl : v = a := by omega
          go_wp2
          go_ret
          exact ⟨true, ⟨fun _ => behind_end (by rw [← HN.out]; exact HB.out) (fun u hu p hp => by rw [← HN.out]; exact HA.out u hu p hp) _ rfl (by omega), fun _ => rfl⟩, rfl, HE.out⟩
end Go.Proofs.Ytadfdpkmegaloaa
