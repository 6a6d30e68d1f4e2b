/- What the document's Decode reads, as far as there are numbers, and that it is what stands there. -/
import Derived.Test.YtdniakoedgohkaaRootRefN
namespace Go.Proofs.Ytdniakoedgohkaa.Root
set_option linter.unusedVariables false
/-- what is read, as far as there are numbers -/
def rr (s : ByteArray) : Q := ⟨takeN s 0 6, takeN s 6 6, nAt s 14 (fitN s 14 (sb s 12)), nAt s (14 + 4 * sb s 12) (fitN s (14 + 4 * sb s 12) (sb s 13))⟩
theorem rr_small {s : ByteArray} (h : s.size = 508) (hn : sb s 12 ≤ 60) (hm : sb s 13 ≤ 12) : rr s = rd s := by
  unfold rr rd
  rw [fitN_all (by omega), fitN_all (by omega)]
theorem rr_right {s : ByteArray} (h : s.size = 508) (hr : RightP (rr s)) : rr s = rd s := by
  obtain ⟨_, _, _, ⟨_, h4⟩, _, h6⟩ := hr.1
  have e1 : (rr s).dats.length = fitN s 14 (sb s 12) := nAt_length _ _ _
  have e2 : (rr s).cps.length = fitN s (14 + 4 * sb s 12) (sb s 13) := nAt_length _ _ _
  rw [e1] at h4
  rw [e2] at h6
  have hn : sb s 12 ≤ 60 := by unfold fitN at h4; omega
  have hm : sb s 13 ≤ 12 := by unfold fitN at h6; omega
  exact rr_small h hn hm
theorem rr_dec {s : ByteArray} (h : DecP s) : rr s = rd s := by
  obtain ⟨hs, hr, _⟩ := h
  obtain ⟨_, _, _, ⟨_, h4⟩, _, h6⟩ := hr.1
  have e1 : (rd s).dats.length = sb s 12 := nAt_length _ _ _
  have e2 : (rd s).cps.length = sb s 13 := nAt_length _ _ _
  exact rr_small hs (by omega) (by omega)
/-- what the document asks of it -/
theorem rr_yes {s : ByteArray} (h : s.size = 508) (h0 : encE (rr s) = 0) (h1 : encS (rr s) = s) : DecP s ∧ rr s = decV s := by
  have hr : RightP (rr s) := by
    by_cases hr : RightP (rr s)
    · exact hr
    · rw [encE_no hr] at h0; cases h0
  have e := rr_right h hr
  rw [encS_yes hr] at h1
  have hd : DecP s := ⟨h, by rw [← e]; exact hr, by rw [← e]; exact h1⟩
  exact ⟨hd, by rw [decV_yes hd, e]⟩
theorem rr_no {s : ByteArray} (h : ¬ (encE (rr s) = 0 ∧ encS (rr s) = s)) : ¬ DecP s := fun hd => by
  have e := rr_dec hd
  apply h
  rw [e, encE_yes hd.2.1, encS_yes hd.2.1]
  exact ⟨rfl, hd.2.2⟩
end Go.Proofs.Ytdniakoedgohkaa.Root
