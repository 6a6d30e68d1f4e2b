/- What the laws on directories ask first. -/
import Derived.Test.YtafbkagoajcmeaaDirAll
namespace Go.Proofs.Ytafbkagoajcmeaa.Dir
open Go.RowKit
attribute [local go_sem] Oper.semAt_some
set_option linter.unusedVariables false
set_option linter.unusedSimpArgs false
def ab : ByteArray := ⟨#[97, 98]⟩
def abB : ByteArray := ⟨#[7, 0, 0, 0, 2, 0, 97, 98]⟩
def abL : List N := [⟨ab, 7⟩]
theorem ab_name : nameP ab := by decide
theorem ab_bytes : bytesL abL = abB := by decide
theorem ab_dir : DirP abB abL := by
  have h := DirP.nil.add (e := ⟨ab, 7⟩) ⟨ab_name, by decide, by decide⟩ (by decide) (by decide)
  have e : (⟨#[]⟩ : ByteArray) ++ ent ⟨ab, 7⟩ = abB := by decide
  rw [e] at h
  exact h
def cutB (s : ByteArray) : ByteArray := s.extract 0 (min s.size 21000)
theorem cutB_size (s : ByteArray) : (cutB s).size ≤ 21000 := by unfold cutB; rw [ByteArray.size_extract]; omega
section
set_option maxRecDepth 100000
set_option maxHeartbeats 4000000
theorem shown_any (w : World) : Calls Try.prog 9 #[] w (Ans w (.bool true)) := by
  have h1 : ∀ W, Calls Try.prog 20 #[.string ⟨#[]⟩, .string ⟨#[97, 98]⟩, .int .u32 7] W fun e w' => e = .returned (.tuple #[.string ⟨#[7, 0, 0, 0, 2, 0, 97, 98]⟩, .int .i64 0]) ∧ Below W.heap.size W w' := fun W => by
    have := add_any ⟨#[]⟩ ab 7 (some []) W (by decide) (by decide) (by decide) DirP.nil
    rw [show addVo (some []) ab 7 = abB by decide, show addEo (some []) ab 7 = 0 by decide] at this
    exact this
  have h2 : ∀ W, Calls Try.prog 20 #[.string ⟨#[7, 0, 0, 0, 2, 0, 97, 98]⟩, .string ⟨#[97, 98]⟩, .int .u32 8] W fun e w' => e = .returned (.tuple #[.string ⟨#[]⟩, .int .i64 113]) ∧ Below W.heap.size W w' := fun W => by
    have := add_any abB ab 8 (some abL) W (by decide) (by decide) (by decide) ab_dir
    rw [show addVo (some abL) ab 8 = ⟨#[]⟩ by decide, show addEo (some abL) ab 8 = 113 by decide] at this
    exact this
  have h3 : ∀ W, Calls Try.prog 20 #[.string ⟨#[7, 0, 0, 0, 2, 0, 97, 98]⟩, .string ⟨#[46]⟩, .int .u32 8] W fun e w' => e = .returned (.tuple #[.string ⟨#[]⟩, .int .i64 111]) ∧ Below W.heap.size W w' := fun W => by
    have := add_any abB ⟨#[46]⟩ 8 (some abL) W (by decide) (by decide) (by decide) ab_dir
    rw [show addVo (some abL) ⟨#[46]⟩ 8 = ⟨#[]⟩ by decide, show addEo (some abL) ⟨#[46]⟩ 8 = 111 by decide] at this
    exact this
  have h4 : ∀ W, Calls Try.prog 18 #[.string ⟨#[7, 0, 0, 0, 2, 0, 97, 98]⟩, .string ⟨#[97, 98]⟩] W fun e w' => e = .returned (.tuple #[.int .u32 7, .int .i64 0]) ∧ Below W.heap.size W w' := fun W => by
    have := find_any abB ab (some abL) W (by decide) (by decide) ab_dir
    rw [show findVo (some abL) ab = 7 by decide, show findEo (some abL) ab = 0 by decide] at this
    exact this
  have H1 := Lib.hid h1
  have H2 := Lib.hid h2
  have H3 := Lib.hid h3
  have H4 := Lib.hid h4
  clear h1 h2 h3 h4
  go_enter Try.func9, Try.ntmps9
  go_wp2_with (first
    | (go_at_call 20; (with_reducible refine Calls.mono (H1.out _) ?_); rintro e w1 ⟨rfl, hB1⟩)
    | (go_at_call 20; (with_reducible refine Calls.mono (H2.out _) ?_); rintro e w2 ⟨rfl, hB2⟩)
    | (go_at_call 20; (with_reducible refine Calls.mono (H3.out _) ?_); rintro e w3 ⟨rfl, hB3⟩)
    | (go_at_call 18; (with_reducible refine Calls.mono (H4.out _) ?_); rintro e w4 ⟨rfl, hB4⟩))
  go_ret
  exact ⟨rfl, below_th (below_th (below_th hB1 hB2) hB3) hB4⟩
theorem cut_any (s : ByteArray) (w : World) (hs : s.size ≤ 281474976710656) : Calls Try.prog 10 #[.string s] w fun e w' => e = .returned (.string (cutB s)) ∧ w = w' := by
  obtain ⟨K, hK⟩ : ∃ K, min s.size 21000 = K := ⟨_, rfl⟩
  have hc : cutB s = s.extract 0 K := by unfold cutB; rw [hK]
  have hk1 : (min (s.size : Int) 21000) = (K : Int) := by omega
  have hk2 : (K : Int) ≤ (s.size : Int) := by omega
  have hk3 : K ≤ s.size := by omega
  rw [hc]
  clear hc hK
  go_enter Try.func10, Try.ntmps10
  go_wp2
  go_ret
  exact ⟨rfl, rfl⟩
theorem u32_nat {n : Int} (h : (Lit.int .u32 n).wf = true) : ∃ m : Nat, n = (m : Int) ∧ m < 4294967296 := by
  have e1 : IntKind.u32.min = 0 := rfl
  have e2 : IntKind.u32.max = 4294967295 := rfl
  simp only [Lit.wf, Bool.and_eq_true, decide_eq_true_eq] at h
  exact ⟨n.toNat, by omega, by omega⟩
end
end Go.Proofs.Ytafbkagoajcmeaa.Dir
