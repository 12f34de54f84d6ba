/- The answer's Text of any number; a task's number, the answer's. -/
import Derived.Test.YtdneicbbnbbffaaDoorText
import Derived.Test.YtdneicbbnbbffaaDoorScL
import Derived.Test.YtdneicbbnbbffaaDoorBytesW
import Derived.Test.YtdneicbbnbbffaaDoorStrEq
import Derived.IntWalk
namespace Go.Proofs.YtdneicbbnbbffaaDoor
open Go.RowKit
set_option linter.unusedVariables false
set_option linter.unusedSimpArgs false
theorem oneB_bs (d : Nat) : oneB (48 + (d : Int)) = bs [UInt8.ofNat (48 + d)] := by
  simp only [oneB, strOfNums, bs, List.map_cons, List.map_nil]
  rw [show (48 + (d : Int)).toNat = 48 + d by omega]
set_option maxRecDepth 100000 in
theorem text_bs (i : Nat) (w : World) (hi : i < 1000) :
    Calls Tryd.prog 28 #[.int .i64 i] w fun e w' => e = .returned (.string (bs (Lib.decDigits i))) ∧ Only Nil w w' := by
  have h0 : (0 : Int) ≤ (i : Int) := by omega
  have h1 : (i : Int) < 1000 := by omega
  have hc := conv_one
  have hs := oneB_size
  have HLEN := Lib.hid (dec_len (u := i) (k := 3) (by omega) (by omega))
  have HOB := Lib.hid oneB_bs
  go_enter Tryd.func28, Tryd.ntmps28
  go_wp2
  go_loopw [0, 3] (fun n s wr => ∃ (m : Nat) (suf : Bs), n = .int .i64 m ∧ s = .string (bs suf) ∧ m < 1000 ∧ Hid (Lib.decDigits i = Lib.decDigits m ++ suf) ∧ Hid (Only Nil w wr)) (fun n _ _ => (intOf n).toNat)
  case atStart => exact ⟨i, [], rfl, rfl, hi, Lib.hid (List.append_nil _).symm, Lib.hid (Only.refl _ _)⟩
  case round =>
    obtain ⟨m, suf, rfl, rfl, hm, HD, HO⟩ := hrel
    have hsl : (bs suf).size ≤ 3 := by
      have := HLEN.out
      rw [HD.out, List.length_append] at this
      rw [bs_size]; omega
    by_cases hlt : m < 10
    · have hlt' : (m : Int) < 10 := by omega
      have HE := Lib.hid (show oneB (48 + (m : Int)) ++ bs suf = bs (Lib.decDigits i) by rw [HOB.out m, bs_app, HD.out, Lib.decDigits_one hlt])
      clear HD
      generalize bs suf = S at *
      go_wp2
      go_ret
      exact ⟨by rw [← HE.out]; rfl, HO.out.alloc _⟩
    · have hge' : ¬ (m : Int) < 10 := by omega
      have HE := Lib.hid (show oneB (48 + ((m % 10 : Nat) : Int)) ++ bs suf = bs (UInt8.ofNat (48 + m % 10) :: suf) by rw [HOB.out (m % 10), bs_app]; rfl)
      have HN := Lib.hid (show Lib.decDigits i = Lib.decDigits (m / 10) ++ (UInt8.ofNat (48 + m % 10) :: suf) by rw [HD.out, dec_big hlt, List.append_assoc]; rfl)
      clear HD
      generalize UInt8.ofNat (48 + m % 10) :: suf = nx at *
      generalize bs suf = S at *
      go_wp2
      have e1 : (m : Int) / 10 = ((m / 10 : Nat) : Int) := by omega
      have e2 : (m : Int) % 10 = ((m % 10 : Nat) : Int) := by omega
      refine ⟨⟨m / 10, nx, by rw [e1], ?_, by omega, HN, Lib.hid (HO.out.alloc _)⟩, by simp [intOf]; omega⟩
      rw [e2, ← HE.out]
/-- A task's number, or less than none. -/
def taskI (l : Bs) : Int := match taskN l with
  | none => -1
  | some t => t
theorem taskN_iff {l : Bs} : taskN l = none ↔ ¬ (l.length ≤ 3 ∧ Lib.decDigits (dval l) = l) := by
  unfold taskN; split <;> simp_all
theorem taskI_none {l : Bs} (h : ¬ (l.length ≤ 3 ∧ Lib.decDigits (dval l) = l)) : taskI l = -1 := by unfold taskI; rw [taskN_iff.2 h]
theorem taskI_some {l : Bs} (h : l.length ≤ 3 ∧ Lib.decDigits (dval l) = l) : taskI l = dval l := by unfold taskI taskN; rw [if_pos h]
set_option maxHeartbeats 1000000 in
theorem task_s (s : ByteArray) (w : World) : Calls Tryd.prog 20 #[.string s] w fun e w' => e = .returned (.int .i64 (taskI s.data.toList)) ∧ Only Nil w w' := by
  by_cases h3 : s.size ≤ 3
  · have h3' : (s.size : Int) ≤ 3 := by omega
    have HD3 : Hid (∀ n : Nat, n < 1000 → ∀ W, Calls Tryd.prog 28 #[.int .i64 n] W fun e w' => e = .returned (.string (bs (Lib.decDigits n))) ∧ Only Nil W w') := Lib.hid fun n hn W => text_bs n W (by omega)
    have HNO := Lib.hid (fun h => taskI_none (l := s.data.toList) h)
    have HYES := Lib.hid (fun h => taskI_some (l := s.data.toList) h)
    have HLT : Hid (∀ k, k ≤ 3 → (∀ c ∈ s.data.toList.take k, 48 ≤ c.toNat ∧ c.toNat ≤ 57) → dval (s.data.toList.take k) < 1000) := Lib.hid fun k hk h => by
      have h1 := digs_lt _ (s.data.toList.take k) rfl h
      have h2 : (s.data.toList.take k).length ≤ 3 := by rw [List.length_take]; omega
      have h4 : 10 ^ (s.data.toList.take k).length ≤ 10 ^ 3 := Nat.pow_le_pow_right (by omega) h2
      omega
    generalize taskI s.data.toList = R at *
    go_enter Tryd.func20, Tryd.ntmps20
    go_wp2
    go_loopw [3, 4] (fun n i wr => ∃ k : Nat, k ≤ s.size ∧ i = .int .i64 k ∧ n = .int .i64 (dval (s.data.toList.take k) : Nat) ∧ Hid (∀ c ∈ s.data.toList.take k, 48 ≤ c.toNat ∧ c.toNat ≤ 57) ∧ Hid (Only Nil w wr)) (fun _ i _ => s.size - (intOf i).toNat)
    case atStart => exact ⟨0, Nat.zero_le _, rfl, rfl, Lib.hid (by simp), Lib.hid (Only.refl _ _)⟩
    case round =>
      obtain ⟨k, hk, rfl, rfl, HM, HO⟩ := hrel
      have hv := HLT.out k (by omega) HM.out
      by_cases hlt : k < s.size
      · have HT := Lib.hid (take_byte s k hlt)
        by_cases hd : 48 ≤ s[k].toNat ∧ s[k].toNat ≤ 57
        · have hd1 : ¬ (s[k].toNat : Int) < 48 := by omega
          have hd2 : ¬ (57 : Int) < (s[k].toNat : Int) := by omega
          have HV := Lib.hid (show dval (s.data.toList.take (k + 1)) = dval (s.data.toList.take k) * 10 + (s[k].toNat - 48) by rw [HT.out, dval_snoc])
          have HM2 := Lib.hid (show ∀ c ∈ s.data.toList.take (k + 1), 48 ≤ c.toNat ∧ c.toNat ≤ 57 by
            rw [HT.out]; intro c hc
            rcases List.mem_append.1 hc with h | h
            · exact HM.out c h
            · rw [List.mem_singleton.1 h]; exact hd)
          generalize dval (s.data.toList.take k) = v at *
          go_wp2
          refine ⟨⟨k + 1, by omega, by go_num, ?_, HM2, HO⟩, by simp [intOf]; omega⟩
          rw [HV.out]
          exact congrArg _ (by omega)
        · have HNN := Lib.hid (HNO.out (fun h => hd (by
            have := dec_mem (dval s.data.toList)
            rw [h.2] at this
            exact this _ (mem_byte s k hlt))))
          generalize dval (s.data.toList.take k) = v at *
          by_cases hl : s[k].toNat < 48
          · have hl' : (s[k].toNat : Int) < 48 := by omega
            go_wp2
            go_ret
            exact ⟨by rw [HNN.out]; rfl, HO.out⟩
          · have hl1 : ¬ (s[k].toNat : Int) < 48 := by omega
            have hl2 : (57 : Int) < (s[k].toNat : Int) := by omega
            go_wp2
            go_ret
            exact ⟨by rw [HNN.out]; rfl, HO.out⟩
      · have hkk : k = s.size := by omega
        have htk : s.data.toList.take k = s.data.toList := List.take_of_length_le (by rw [size_list]; omega)
        rw [htk] at hv
        rw [htk]
        clear htk HM
        have HT := Lib.hid (HD3.out (dval s.data.toList) hv)
        have HL3 : Hid (s.data.toList.length ≤ 3) := Lib.hid (by rw [size_list]; exact h3)
        subst hkk
        have hq := beq_str (bs (Lib.decDigits (dval s.data.toList))) s
        by_cases he : bs (Lib.decDigits (dval s.data.toList)) = s
        · rw [decide_eq_true he] at hq
          have HY := Lib.hid (HYES.out ⟨HL3.out, congrArg (fun x : ByteArray => x.data.toList) he⟩)
          clear he HNO HYES
          generalize dval s.data.toList = v at *
          go_wp2_with fail
          refine (HT.out _).mono ?_
          rintro e w2 ⟨rfl, hO⟩
          have HO2 := Lib.hid (HO.out.trans hO)
          clear hO HT
          go_wp2
          go_ret
          exact ⟨by rw [HY.out]; rfl, HO2.out⟩
        · rw [decide_eq_false he] at hq
          have HY := Lib.hid (HNO.out (fun h => he (by rw [h.2]; exact bs_data s)))
          clear he HNO HYES
          generalize dval s.data.toList = v at *
          go_wp2_with fail
          refine (HT.out _).mono ?_
          rintro e w2 ⟨rfl, hO⟩
          have HO2 := Lib.hid (HO.out.trans hO)
          clear hO HT
          go_wp2
          go_ret
          exact ⟨by rw [HY.out]; rfl, HO2.out⟩
  · have h3' : ¬ (s.size : Int) ≤ 3 := by omega
    have HY := Lib.hid (taskI_none (l := s.data.toList) (fun h => h3 (by have := h.1; rw [size_list] at this; exact this)))
    rw [HY.out]
    clear HY
    go_enter Tryd.func20, Tryd.ntmps20
    go_wp2
    go_ret
    exact ⟨rfl, Only.refl _ _⟩
end Go.Proofs.YtdneicbbnbbffaaDoor
