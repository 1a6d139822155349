/- The functions over lists of turns, walked: gaps, windows, two lists held against each other. -/
import Derived.Test.YtmeiohmdiklepaaRows
import Derived.Test.YtmeiohmdiklepaaPure
import Derived.WalkKit
import Derived.WalkSpells
import Derived.WalkLawsBesides
import Derived.WalkSmall
import Derived.BigQuiet
import Derived.BigRegion
import Derived.Deep.QuietTactic
import Derived.Deep.RegionWith
import Derived.Lib.Hide
import Derived.Handy
import Derived.Laws.ResultCell
import Derived.LoopN
import Derived.OwnWalk
import Derived.Laws.AppendOwn

namespace Go.Proofs.Ytmeiohmdiklepaa
open Go.RowKit
set_option linter.unusedVariables false

theorem ret_int {k : IntKind} {a b : Int} (h : a = b) : Ending.returned (.int k a) = .returned (.int k b) := by rw [h]
theorem ret_bool {a b : Bool} (h : a = b) : Ending.returned (.bool a) = .returned (.bool b) := by rw [h]
/-- Below a block's number, through a callee's own. -/
theorem below_step {B : Nat} {a w w' : World} (h : Below B a w) (hB : B ≤ w.heap.size) (k : Below w.heap.size w w') : Below B a w' := h.trans (k.mono hB)

/-- A slice that reads as these numbers, nil let in. -/
def Reads (w : World) (A : Option Addr) (zs : List Int) : Prop :=
  0 < zs.length → ∃ b off, A = some ⟨b, off, none⟩ ∧ b < w.heap.size ∧ ∀ j, j < zs.length → w.cell? ⟨b, off + j, none⟩ = some (.int .i64 (zs.getD j 0))

theorem Reads.keep {w w' : World} {A : Option Addr} {zs : List Int} {B : Nat} (h : Reads w A zs) (hb : Below B w w') (hB : w.heap.size ≤ B) : Reads w' A zs := fun h0 => by
  obtain ⟨b, off, e, hlt, hc⟩ := h h0
  exact ⟨b, off, e, Nat.lt_of_lt_of_le hlt hb.size, fun j hj => (hb.cell (p := ⟨b, off + j, none⟩) (Nat.lt_of_lt_of_le hlt hB)).trans (hc j hj)⟩

def imax (x y : Int) : Int := if y > x then y else x
def imin (x y : Int) : Int := if y < x then y else x
@[go_sem ↓ high] theorem run_imax {P : Program} {w : World} (ts : Array TypeId) (t : TypeId) (k k' : IntKind) (x y : Int) : (Builtin.max_ ts t #[.int k x, .int k' y]).run P w = .ok (.int k (imax x y)) w := run_max_int2 ..
@[go_sem ↓ high] theorem run_imin {P : Program} {w : World} (ts : Array TypeId) (t : TypeId) (k k' : IntKind) (x y : Int) : (Builtin.min_ ts t #[.int k x, .int k' y]).run P w = .ok (.int k (imin x y)) w := run_min_int2 ..

def SomeGap (l : List Int) (who : Int) (w : World) (e : Ending) (w' : World) : Prop := ∃ g : Nat, IsGap l who g ∧ e = .returned (.int .i64 g) ∧ w = w'

set_option maxHeartbeats 1000000 in
theorem gap_any (A : Option Addr) (cap : Nat) (zs : List Int) (who : Int) (w : World) (h : Reads w A zs) (hb : zs.length ≤ 100000) :
    Calls Try.prog 15 #[.slice A zs.length cap, .int .i64 who] w (SomeGap zs who w) := by
  obtain ⟨n, hn⟩ : ∃ n, n = zs.length := ⟨_, rfl⟩
  rw [← hn] at hb ⊢
  have HN := Lib.hid hn; clear hn
  have HR := Lib.hid h; clear h
  go_enter Try.func15, Try.ntmps15
  go_wp2
  go_loop [5, 6, 11] (fun a b i => ∃ k g u : Nat, k ≤ n ∧ i = .int .i64 k ∧ a = .int .i64 g ∧ b = .int .i64 u ∧ GapAt zs who k g u) (fun _ _ i => n - (intOf i).toNat)
  case atStart => exact ⟨0, 0, 0, Nat.zero_le _, rfl, rfl, rfl, gap_start _ _⟩
  case round =>
    obtain ⟨k, g, u, hk, rfl, rfl, rfl, hg⟩ := hrel
    by_cases hlt : k < n
    · obtain ⟨b, off, rfl, _, hc⟩ := HR.out (by have := HN.out; omega)
      have hcell := hc k (by have := HN.out; omega)
      obtain ⟨x, hx⟩ : ∃ x, x = zs.getD k 0 := ⟨_, rfl⟩
      rw [← hx] at hcell
      have HX := Lib.hid hx; clear hx hc
      have hgu := hg.1; have hgg := hg.2.2.1
      have HG := Lib.hid hg; clear hg
      by_cases e : x = who
      · have ht : (x == who) = true := by simp [e]
        have HE := Lib.hid e; clear e
        go_wp2
        go_round
        case rel => exact ⟨k + 1, g, 0, by omega, by go_num, rfl, rfl, gap_hit HG.out (by have := HN.out; omega) (by rw [← HX.out]; exact HE.out)⟩
        case measure => simp [intOf]; omega
      · have ht : (x == who) = false := by simp [e]
        have HE := Lib.hid e; clear e
        go_wp2
        go_round
        case rel => exact ⟨k + 1, if u + 1 > g then u + 1 else g, u + 1, by omega, by go_num, by unfold imax; congr 1; split <;> split <;> omega, by go_num, gap_miss HG.out (by have := HN.out; omega) (by rw [← HX.out]; exact HE.out)⟩
        case measure => simp [intOf]; omega
    · have hkn : k = n := by omega
      subst hkn
      go_wp2
      go_ret
      exact ⟨g, gap_done (by rw [← HN.out]; exact hg), rfl, rfl⟩

theorem free_more {l : List Int} {who : Int} {i k : Nat} (h : Free l who i k) (hk : k < l.length) (e : l.getD k 0 ≠ who) : Free l who i (k + 1) :=
  ⟨by have := h.1; omega, by omega, fun j hj hj2 => by
    by_cases e2 : j = k
    · subst e2; exact e
    · exact h.2.2 j hj (by omega)⟩

set_option maxHeartbeats 1000000 in
theorem refgap_any (A : Option Addr) (cap : Nat) (zs : List Int) (who : Int) (w : World) (h : Reads w A zs) (hb : zs.length ≤ 100000) :
    Calls Try.prog 16 #[.slice A zs.length cap, .int .i64 who] w (SomeGap zs who w) := by
  obtain ⟨n, hn⟩ : ∃ n, n = zs.length := ⟨_, rfl⟩
  rw [← hn] at hb ⊢
  have HN := Lib.hid hn; clear hn
  have HR := Lib.hid h; clear h
  go_enter Try.func16, Try.ntmps16
  go_wp2
  go_loop [5, 6] (fun a i => ∃ k g : Nat, k ≤ n ∧ g ≤ n ∧ i = .int .i64 k ∧ a = .int .i64 g ∧ GapTo zs who k g) (fun _ i => n - (intOf i).toNat)
  case atStart => exact ⟨0, 0, Nat.zero_le _, Nat.zero_le _, rfl, rfl, gapto_start _ _⟩
  case round =>
    obtain ⟨i, g, hi, hgn, rfl, rfl, hg⟩ := hrel
    by_cases hlt : i < n
    · have HG := Lib.hid hg; clear hg
      go_wp2
      go_loop [7] (fun b => ∃ k : Nat, i ≤ k ∧ k ≤ n ∧ b = .int .i64 k ∧ Free zs who i k) (fun b => n - (intOf b).toNat)
      case atStart => exact ⟨i, Nat.le_refl _, hi, rfl, Nat.le_refl _, by rw [← HN.out]; exact hi, fun j _ h => by omega⟩
      case round =>
        obtain ⟨k, hik, hk, rfl, hf⟩ := hrel
        by_cases hkn : k < n
        · obtain ⟨b, off, rfl, _, hc⟩ := HR.out (by have := HN.out; omega)
          have hcell := hc k (by have := HN.out; omega)
          obtain ⟨x, hx⟩ : ∃ x, x = zs.getD k 0 := ⟨_, rfl⟩
          rw [← hx] at hcell
          have HX := Lib.hid hx; clear hx hc
          have HF := Lib.hid hf; clear hf
          by_cases e : x = who
          · have ht : (x != who) = false := by simp [e]
            have HE := Lib.hid e; clear e
            have HZ := Lib.hid (gapto_step HG.out HF.out (.inr ⟨by have := HN.out; omega, by rw [← HX.out]; exact HE.out⟩))
            by_cases hbig : (g : Int) < (k : Int) - (i : Int)
            · go_wp2
              go_round
              case rel => exact ⟨i + 1, k - i, by omega, by omega, by go_num, by congr 1; omega, by have := HZ.out; rw [if_pos (by omega)] at this; exact this⟩
              case measure => simp [intOf]; omega
            · go_wp2
              go_round
              case rel => exact ⟨i + 1, g, by omega, by omega, by go_num, rfl, by have := HZ.out; rw [if_neg (by omega)] at this; exact this⟩
              case measure => simp [intOf]; omega
          · have ht : (x != who) = true := by simp [e]
            have HE := Lib.hid e; clear e
            go_wp2
            go_round
            case rel => exact ⟨k + 1, by omega, by omega, by go_num, free_more HF.out (by have := HN.out; omega) (by rw [← HX.out]; exact HE.out)⟩
            case measure => simp [intOf]; omega
        · have hkn2 : k = n := by omega
          subst hkn2
          have HZ := Lib.hid (gapto_step HG.out hf (.inl HN.out))
          clear hf
          by_cases hbig : (g : Int) < (k : Int) - (i : Int)
          · go_wp2
            go_round
            case rel => exact ⟨i + 1, k - i, by omega, by omega, by go_num, by congr 1; omega, by have := HZ.out; rw [if_pos (by omega)] at this; exact this⟩
            case measure => simp [intOf]; omega
          · go_wp2
            go_round
            case rel => exact ⟨i + 1, g, by omega, by omega, by go_num, rfl, by have := HZ.out; rw [if_neg (by omega)] at this; exact this⟩
            case measure => simp [intOf]; omega
    · have hin : i = n := by omega
      subst hin
      go_wp2
      go_ret
      exact ⟨g, gapto_done (by rw [← HN.out]; exact hg), rfl, rfl⟩

def SomeWin (l : List Int) (all wide : Int) (w : World) (e : Ending) (w' : World) : Prop := ∃ b : Bool, (b = true ↔ IsWin l all wide) ∧ e = .returned (.bool b) ∧ w = w'

/-- The stretch of W turns from i has who, as far as k. -/
def Has (l : List Int) (i k u : Nat) : Prop := ∃ j, i ≤ j ∧ j < k ∧ l.getD j 0 = (u : Int)
def HasAll (l : List Int) (W i a : Nat) : Prop := ∀ u, u < a → Has l i (i + W) u
def WinTo (l : List Int) (a W i : Nat) : Prop := ∀ i', i' < i → i' + W ≤ l.length → HasAll l W i' a
theorem winto_done {l : List Int} {a W i : Nat} (h : WinTo l a W i) (hi : l.length < i + W) (hW : 1 ≤ W) : IsWin l a W :=
  .inr ⟨by omega, fun i' W' hW' hl u hu => by
    obtain rfl : W' = W := by omega
    exact h i' (by omega) hl u (by omega)⟩
theorem win_not {l : List Int} {a W i u : Nat} (hu : u < a) (hi : i + W ≤ l.length) (h : ¬ Has l i (i + W) u) : ¬ IsWin l a W := by
  rintro (h1 | ⟨_, h1⟩)
  · omega
  · exact h (h1 i W rfl hi u (by omega))
theorem has_more {l : List Int} {i k u : Nat} {b : Bool} (hik : i ≤ k) (h : b = true ↔ Has l i k u) : ((b || (l.getD k 0 == (u : Int))) = true) ↔ Has l i (k + 1) u := by
  constructor
  · intro e
    rcases Bool.or_eq_true_iff.1 e with e | e
    · obtain ⟨j, h1, h2, h3⟩ := h.1 e
      exact ⟨j, h1, by omega, h3⟩
    · exact ⟨k, hik, by omega, by simpa using e⟩
  · rintro ⟨j, h1, h2, h3⟩
    by_cases e : j = k
    · subst e; exact Bool.or_eq_true_iff.2 (.inr (by rw [h3]; simp))
    · have := h.2 ⟨j, h1, by omega, h3⟩; simp [this]
theorem winto_step {l : List Int} {a W i : Nat} (h : WinTo l a W i) (h1 : HasAll l W i a) : WinTo l a W (i + 1) := fun i' hi hl => by
  by_cases e : i' = i
  · subst e; exact h1
  · exact h i' (by omega) hl
theorem hasall_step {l : List Int} {W i u : Nat} (h : HasAll l W i u) (h1 : Has l i (i + W) u) : HasAll l W i (u + 1) := fun v hv => by
  by_cases e : v = u
  · subst e; exact h1
  · exact h v (by omega)

set_option maxHeartbeats 1000000 in
theorem refwin_any (A : Option Addr) (cap : Nat) (zs : List Int) (all wide : Int) (w : World) (h : Reads w A zs) (hb : zs.length ≤ 100000) (ha : all ≤ 100000) (hw : wide ≤ 9223372036854775807) :
    Calls Try.prog 14 #[.slice A zs.length cap, .int .i64 all, .int .i64 wide] w (SomeWin zs all wide w) := by
  obtain ⟨n, hn⟩ : ∃ n, n = zs.length := ⟨_, rfl⟩
  rw [← hn] at hb ⊢
  have HN := Lib.hid hn; clear hn
  have HR := Lib.hid h; clear h
  by_cases a1 : all < 1
  · go_enter Try.func14, Try.ntmps14
    go_wp2
    go_ret
    exact ⟨true, ⟨fun _ => .inl a1, fun _ => rfl⟩, rfl, rfl⟩
  by_cases w1 : wide < 1
  · go_enter Try.func14, Try.ntmps14
    go_wp2
    go_ret
    exact ⟨false, ⟨fun h => by simp at h, fun h => by rcases h with h | ⟨h, _⟩ <;> omega⟩, rfl, rfl⟩
  obtain ⟨a, rfl⟩ : ∃ a : Nat, all = a := ⟨all.toNat, by omega⟩
  obtain ⟨W, rfl⟩ : ∃ a : Nat, wide = a := ⟨wide.toNat, by omega⟩
  have hW1 : 1 ≤ W := by omega
  have ha1 : 1 ≤ a := by omega
  go_enter Try.func14, Try.ntmps14
  go_wp2
  go_loop [7] (fun i => ∃ k : Nat, k ≤ n ∧ i = .int .i64 k ∧ WinTo zs a W k) (fun i => n - (intOf i).toNat)
  case atStart => exact ⟨0, Nat.zero_le _, rfl, fun i' h => by omega⟩
  case round =>
    obtain ⟨i, hi, rfl, hg⟩ := hrel
    by_cases hlt : i + W ≤ n
    · have hin : i < n := by omega
      have hwn : (W : Int) ≤ (n : Int) - (i : Int) := by omega
      have HG := Lib.hid hg; clear hg
      go_wp2
      go_loop [8] (fun b => ∃ u : Nat, u ≤ a ∧ b = .int .i64 u ∧ HasAll zs W i u) (fun b => a - (intOf b).toNat)
      case atStart => exact ⟨0, by omega, rfl, fun v h => by omega⟩
      case round =>
        obtain ⟨u, hu, rfl, hf⟩ := hrel
        by_cases hua : u < a
        · have HF := Lib.hid hf; clear hf
          go_wp2
          go_loop [9, 10] (fun s c => ∃ (b : Bool) (k : Nat), i ≤ k ∧ k ≤ i + W ∧ s = .bool b ∧ c = .int .i64 k ∧ (b = true ↔ Has zs i k u)) (fun _ c => i + W - (intOf c).toNat)
          case atStart => exact ⟨false, i, by omega, by omega, rfl, rfl, ⟨fun h => by simp at h, fun ⟨j, h1, h2, _⟩ => by omega⟩⟩
          case round =>
            obtain ⟨b, k, hik, hk, rfl, rfl, hs⟩ := hrel
            by_cases hkw : k < i + W
            · obtain ⟨bl, off, rfl, _, hc⟩ := HR.out (by have := HN.out; omega)
              have hcell := hc k (by have := HN.out; omega)
              have hkn : k < n := by omega
              have hm := has_more hik hs
              obtain ⟨x, hx⟩ : ∃ x, x = zs.getD k 0 := ⟨_, rfl⟩
              rw [← hx] at hcell hm
              have hkc : (k : Int) < (i : Int) + (W : Int) := by omega
              clear hx hc
              have HM := Lib.hid hm; clear hm
              have HS := Lib.hid hs; clear hs
              cases b
              · go_wp2
                go_round
                case rel => exact ⟨x == (u : Int), k + 1, by omega, by omega, rfl, by go_num, by simpa using HM.out⟩
                case measure => simp [intOf]; omega
              · go_wp2
                go_round
                case rel => exact ⟨true, k + 1, by omega, by omega, rfl, by go_num, by simpa using HM.out⟩
                case measure => simp [intOf]; omega
            · obtain rfl : k = i + W := by omega
              have hkc : ¬ ((i : Int) + (W : Int) < (i : Int) + (W : Int)) := by omega
              cases b
              · have hno : ¬ Has zs i (i + W) u := fun h => by simpa using hs.2 h
                have HS := Lib.hid hno; clear hs hno
                go_wp2
                go_ret
                exact ⟨false, ⟨fun h => by simp at h, fun h => absurd h (win_not hua (by have := HN.out; omega) HS.out)⟩, rfl, rfl⟩
              · have hyes := hs.1 rfl
                have HS := Lib.hid hyes; clear hs hyes
                go_wp2
                go_round
                case rel => exact ⟨u + 1, by omega, by go_num, hasall_step HF.out HS.out⟩
                case measure => simp [intOf]; omega
        · obtain rfl : u = a := by omega
          have HF := Lib.hid (winto_step HG.out hf); clear hf
          go_wp2
          go_round
          case rel => exact ⟨i + 1, by omega, by go_num, HF.out⟩
          case measure => simp [intOf]; omega
    · have HG := Lib.hid hg; clear hg
      by_cases hin : i < n
      · have hwn : (n : Int) - (i : Int) < (W : Int) := by omega
        go_wp2
        go_ret
        exact ⟨true, ⟨fun _ => winto_done HG.out (by have := HN.out; omega) hW1, fun _ => rfl⟩, rfl, rfl⟩
      · go_wp2
        go_ret
        exact ⟨true, ⟨fun _ => winto_done HG.out (by have := HN.out; omega) hW1, fun _ => rfl⟩, rfl, rfl⟩
end Go.Proofs.Ytmeiohmdiklepaa
