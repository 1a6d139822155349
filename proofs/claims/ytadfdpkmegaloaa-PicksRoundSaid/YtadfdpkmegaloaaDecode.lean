/- The picks of bytes: Decode, walked. -/
import Derived.Test.YtadfdpkmegaloaaSmall
namespace Go.Proofs.Ytadfdpkmegaloaa
open Go.RowKit
set_option linter.unusedVariables false

/-- A result that is a row of picks of the call's own. -/
def SomeP (e : TypeId) (l : List Pk) (w : World) (en : Ending) (w' : World) : Prop := ∃ v, en = .returned v ∧ OwnP e w.heap.size w w' v l
/-- All numbers are bytes. -/
def Byt (zs : List Int) : Prop := ∀ i, 0 ≤ zs.getD i 0 ∧ zs.getD i 0 ≤ 255
theorem OwnP.under {e : TypeId} {w w' : World} {o : Obj} {v : Value} {l : List Pk} (h : OwnP e (w.heap.size + 1) (w.alloc o) w' v l) : OwnP e w.heap.size w w' v l :=
  ⟨h.1.mono (Nat.le_succ _), ((Below.refl _ _).alloc (Nat.le_refl _) o).trans (h.2.mono (Nat.le_succ _))⟩
theorem OwnP.box {e : TypeId} {w w' : World} {x : Value} {T : TypeId} {v : Value} {l : List Pk} (h : OwnP e (w.heap.size + 1) (w.alloc (.cells #[x] T)) w' v l) : w'.cell? ⟨w.heap.size, 0, none⟩ = some x := by
  rw [h.2.cell (p := ⟨w.heap.size, 0, none⟩) (Nat.lt_succ_self _), World.cell?_alloc_at _ _ _ _ rfl]; rfl

theorem below_alloc1 {w w' : World} {o : Obj} (h : Below (w.heap.size + 1) (w.alloc o) w') (o2 : Obj) : Below (w.heap.size + 1) (w.alloc o) (w'.alloc o2) := h.alloc (by have := h.size; simp at this; omega) o2
theorem size1 {w : World} {o : Obj} : w.heap.size + 1 ≤ (w.alloc o).heap.size := by simp

/-- What the region of Decode loads. -/
theorem dcells {b off j : Nat} {x y all : Int} {w w' : World} (h : b < w.heap.size ∧ w.cell? ⟨b, off + j, none⟩ = some (.int .u8 x) ∧ w.cell? ⟨b, off + (j + 1), none⟩ = some (.int .u8 y))
    (hb : Below (w.heap.size + 1) (w.alloc (.cells #[.int .i64 all] 3)) w') :
    w'.cell? ⟨b, off + j, none⟩ = some (.int .u8 x) ∧ w'.cell? ⟨b, off + (j + 1), none⟩ = some (.int .u8 y) ∧ w'.cell? ⟨w.heap.size, 0, none⟩ = some (.int .i64 all) ∧ w.heap.size < w'.heap.size := by
  have h1 : Below w.heap.size w w' := ((Below.refl _ _).alloc (Nat.le_refl _) _).trans (hb.mono (Nat.le_succ _))
  refine ⟨(h1.cell (p := ⟨b, off + j, none⟩) h.1).trans h.2.1, (h1.cell (p := ⟨b, off + (j + 1), none⟩) h.1).trans h.2.2, ?_, by have := hb.size; simp at this; omega⟩
  rw [hb.cell (p := ⟨w.heap.size, 0, none⟩) (Nat.lt_succ_self _), World.cell?_alloc_at _ _ _ _ rfl]; rfl

set_option maxHeartbeats 2000000 in
set_option maxRecDepth 100000 in
theorem decode_any (A : Option Addr) (cap : Nat) (zs : List Int) (all : Int) (w : World) (h : Reads .u8 w A zs) (hz : Byt zs) (hb : zs.length ≤ 1000) :
    Calls Try.prog 11 #[.slice A zs.length cap, .int .i64 all] w (SomeP 36 (decL zs all) w) := by
  obtain ⟨n, hn⟩ : ∃ n, n = zs.length := ⟨_, rfl⟩
  rw [← hn] at hb ⊢
  have HN := Lib.hid hn
  have hc0 : ∀ j, j < n → ∃ b off, A = some ⟨b, off, none⟩ ∧ b < w.heap.size ∧ w.cell? ⟨b, off + j, none⟩ = some (.int .u8 (zs.getD j 0)) := fun j hj => by
    obtain ⟨b, off, e, h1, h2⟩ := h (by have := HN.out; omega)
    exact ⟨b, off, e, h1, h2 j (by have := HN.out; omega)⟩
  have HR := Lib.hid hc0
  have HZ := Lib.hid hz
  obtain ⟨c, hc⟩ : ∃ c : Nat, (n : Int) / 2 + (n : Int) % 2 = (c : Int) := ⟨n / 2 + n % 2, by omega⟩
  have hcb : c ≤ 1000 := by omega
  obtain ⟨i0, hi, hz0, hz1, hz2⟩ := info_parts info36
  clear h hc0 hz hn
  go_enter Try.func11, Try.ntmps11
  go_wp2_with (at_make; refine wpList_make_own _ rfl _ _ 23 rfl (w.heap.size + 1) 36 i0 (.agg #[.int .i64 0, .int .i64 0]) 2 Try.underlying23 hi hz0 hz1 .i64 .i64 _ c rfl rfl ?c1 (by rw [hz2]; omega) (by unfold maxLen; omega) (by simp) ?_)
  case c1 => first | rfl | exact hc | omega
  intro w1 hown hgrow
  have hO : OwnP 36 (w.heap.size + 1) (w.alloc (.cells #[.int .i64 all] 3)) w1 (.slice (some ⟨w.heap.size + 1, 0, none⟩) 0 c) (decTo zs all 0) :=
    ⟨by simpa [flat, decTo] using hown, (Below.refl _ _).grown hgrow (by simp) (fun k hk => by cases hk)⟩
  clear hown hgrow hi hz0 hz1 hz2 hc
  go_wp2
  go_loopw [6, 7] (fun v i wr => ∃ (k j : Nat), j = 2 * k ∧ j ≤ n ∧ i = .int .i64 ((j : Int) + 1) ∧ OwnP 36 (w.heap.size + 1) (w.alloc (.cells #[.int .i64 all] 3)) wr v (decTo zs all k)) (fun _ i _ => n + 1 - (intOf i).toNat)
  case atStart => exact ⟨0, 0, rfl, Nat.zero_le _, rfl, hO⟩
  case round =>
    clear hO
    obtain ⟨k, j, hj, hjn, rfl, hO⟩ := hrel
    by_cases hlt : j + 1 < n
    · obtain ⟨b, off, rfl, hbl, hcell⟩ := HR.out j (by omega)
      obtain ⟨b', off', e, _, hcell'⟩ := HR.out (j + 1) hlt
      simp only [Option.some.injEq, Addr.mk.injEq, and_true] at e
      obtain ⟨rfl, rfl⟩ := e
      have hsz := hO.2.size
      have hsz2 : w.heap.size + 1 ≤ wr.heap.size := by simpa using hsz
      have hHC := And.intro hbl (And.intro hcell hcell')
      have hx := HZ.out j
      have hy := HZ.out (j + 1)
      have hst := decTo_succ zs all k
      rw [← hj] at hst
      obtain ⟨x, hxe⟩ : ∃ x, x = zs.getD j 0 := ⟨_, rfl⟩
      obtain ⟨y, hye⟩ : ∃ y, y = zs.getD (j + 1) 0 := ⟨_, rfl⟩
      rw [← hxe, ← hye] at hst
      rw [← hxe] at hx
      rw [← hye] at hy
      rw [← hxe, ← hye] at hHC
      have HC := Lib.hid hHC
      have HS := Lib.hid hst
      have HJ := Lib.hid hj
      have HO := Lib.hid hO
      have hbd := hO.2.drew
      have hlen := decTo_len zs all k
      have HL : Hid ((decTo zs all k).length ≤ 1000) := Lib.hid (by omega)
      have hj0 : (0 : Int) ≤ (j : Int) := by omega
      have hj1 : (j : Int) < (n : Int) := by omega
      have hj2 : (0 : Int) ≤ (j : Int) + 1 := by omega
      have hj3 : (j : Int) + 1 < (n : Int) := by omega
      have hs1 : IntKind.i64.wrap ((j : Int) + 1 - 1) = (j : Int) := by rw [Int.add_sub_cancel]; exact IntWalk.i64_in _ (by omega)
      have hs2 : IntKind.i64.wrap (j : Int) = (j : Int) := IntWalk.i64_in _ (by omega)
      have hs3 : ((j : Int) + 1).toNat = j + 1 := by omega
      clear hst hj hO hlen hxe hye hcell hcell' hsz hHC hbl
      go_wp2_with (fail)
      go_region_held3 (fun w' => w'.cell? ⟨b, off + j, none⟩ = some (.int .u8 x) ∧ w'.cell? ⟨b, off + (j + 1), none⟩ = some (.int .u8 y) ∧ w'.cell? ⟨w.heap.size, 0, none⟩ = some (.int .i64 all) ∧ w.heap.size < w'.heap.size)
        (first | (with_reducible exact dcells HC.out hkd) | (with_reducible exact dcells HC.out (below_alloc1 hkd _)) | exact dcells HC.out hbd | fail)
        (first
          | (go_at_call 23; (with_reducible refine (told_any x y all w.heap.size _ (dcells HC.out hbd).2.2.2 (dcells HC.out hbd).2.2.1 hx.1 hx.2 hy.1 hy.2).mono ?_); rintro e w4 ⟨rfl, hb4⟩; have HO4 := HO.out.drew.step size1 hb4; have hkd := HO4.2)
          | (refine step_append_one rfl _ _ 23 36 rfl Try.underlying23 info36 _ _ _ _ rfl HO4 rfl ?_ ?_ ?_; (have := HL.out; omega); simp; intro v' w5 HO5; have hkd := HO5.2)
          | fail)
      go_wp2
      go_roundw
      case rel => exact ⟨k + 1, j + 2, by have := HJ.out; omega, by omega, by go_num, by rw [HS.out]; exact HO5⟩
      case measure => simp [intOf]; omega
    · by_cases hodd : n % 2 = 1
      · have hk : k = n / 2 := by omega
        have hd : decTo zs all k ++ [(-1, 0)] = decL zs all := by unfold decL; rw [if_pos (by rw [← HN.out]; exact hodd), hk, ← HN.out]
        have h1 : (n : Int) % 2 = 1 := by omega
        have HD := Lib.hid hd
        have hlen : (decTo zs all k).length ≤ 1000 := by rw [decTo_len]; omega
        have HL := Lib.hid hlen
        have HO := Lib.hid hO
        clear hd hlen hO hk hodd
        go_wp2_with (first
          | (go_at_call 25; (with_reducible refine (nobody_any _ _).mono ?_); rintro e w4 ⟨rfl, hb4⟩; have HO4 := Lib.hid (HO.out.step (by simp) hb4))
          | (at_builtin; refine append_one rfl _ _ 23 36 rfl Try.underlying23 info36 _ _ _ _ rfl HO4.out rfl ?_ ?_ ?_; (have := HL.out; omega); simp; intro v' w5 HO5))
        go_ret
        exact ⟨_, rfl, by rw [← HD.out]; exact HO5.under⟩
      · have hk : k = n / 2 := by omega
        have hd : decTo zs all k = decL zs all := by unfold decL; rw [if_neg (by rw [← HN.out]; exact hodd), hk, ← HN.out, List.append_nil]
        have h1 : (n : Int) % 2 = 0 := by omega
        have HD := Lib.hid hd
        have HO := Lib.hid hO
        clear hd hO hk hodd
        go_wp2
        go_ret
        exact ⟨_, rfl, by rw [← HD.out]; exact HO.out.under⟩
end Go.Proofs.Ytadfdpkmegaloaa
