import Derived.Test.YtgfippbcgneegaaK14
import Derived.Test.YtgfippbcgneegaaK15
import Derived.Test.YtgfippbcgneegaaK8
import Derived.Test.YtgfippbcgneegaaK11
set_option linter.unusedVariables false
set_option linter.unusedSimpArgs false
namespace Go.Proofs.Ytgfippbcgneegaa
open Go.RowKit
set_option maxRecDepth 100000 in
theorem neq_nilC (w : World) : (binOp .neq 1 .nilFunc .nilFunc).run Try.prog w = .ok (.bool false) w := by
  first | rfl | kernel_rfl
set_option maxRecDepth 100000 in
theorem neq_fnC (f : Fn) (first cap : Array Value) (w : World) : (binOp .neq 1 (.func f first cap) .nilFunc).run Try.prog w = .ok (.bool true) w := by
  first | rfl | kernel_rfl
theorem runs_FAR1 (B : Nat) (p A : Option Addr) (cp : Nat) (r' : LS) (w : World) (hs : Calls Try.prog 59 #[Value.pointer (some ⟨B, 0, none⟩)] w (Clo 108 B p A cp r' w)) : Calls Try.prog 36 #[Value.pointer (some ⟨B, 0, none⟩)] w (Done B p A cp w (.tuple #[]) r') := by
  have HS := Lib.hid hs
  clear hs
  have hn := neq_fnC
  go_enter Try.func36, Try.ntmps36
  go_wp2_with fail
  refine HS.out.mono ?_
  rintro e w1 ⟨caps, rfl, hO, hC⟩
  have HO := Lib.hid hO
  have HC := Lib.hid hC
  clear hO hC HS
  go_wp2_with fail
  refine HC.out.mono ?_
  rintro e w2 ⟨rfl, hO, nv2, hP⟩
  have HO2 := Lib.hid ((HO.out.mono (T := TurnB B A) (fun _ _ h => h.elim)).trans hO)
  have HP2 := Lib.hid hP
  clear hO hP HO HC
  go_wp2
  go_returns
  exact ⟨rfl, HO2.out, nv2, HP2.out⟩
theorem runs_FAW1 (B : Nat) (p A : Option Addr) (cp : Nat) (r' : LS) (w : World) (hs : Calls Try.prog 59 #[Value.pointer (some ⟨B, 0, none⟩)] w (Clo 111 B p A cp r' w)) : Calls Try.prog 36 #[Value.pointer (some ⟨B, 0, none⟩)] w (Done B p A cp w (.tuple #[]) r') := by
  have HS := Lib.hid hs
  clear hs
  have hn := neq_fnC
  go_enter Try.func36, Try.ntmps36
  go_wp2_with fail
  refine HS.out.mono ?_
  rintro e w1 ⟨caps, rfl, hO, hC⟩
  have HO := Lib.hid hO
  have HC := Lib.hid hC
  clear hO hC HS
  go_wp2_with fail
  refine HC.out.mono ?_
  rintro e w2 ⟨rfl, hO, nv2, hP⟩
  have HO2 := Lib.hid ((HO.out.mono (T := TurnB B A) (fun _ _ h => h.elim)).trans hO)
  have HP2 := Lib.hid hP
  clear hO hP HO HC
  go_wp2
  go_returns
  exact ⟨rfl, HO2.out, nv2, HP2.out⟩
theorem runs_FBACK1 (B : Nat) (p A : Option Addr) (cp : Nat) (r' : LS) (w : World) (hs : Calls Try.prog 59 #[Value.pointer (some ⟨B, 0, none⟩)] w (Clo 116 B p A cp r' w)) : Calls Try.prog 36 #[Value.pointer (some ⟨B, 0, none⟩)] w (Done B p A cp w (.tuple #[]) r') := by
  have HS := Lib.hid hs
  clear hs
  have hn := neq_fnC
  go_enter Try.func36, Try.ntmps36
  go_wp2_with fail
  refine HS.out.mono ?_
  rintro e w1 ⟨caps, rfl, hO, hC⟩
  have HO := Lib.hid hO
  have HC := Lib.hid hC
  clear hO hC HS
  go_wp2_with fail
  refine HC.out.mono ?_
  rintro e w2 ⟨rfl, hO, nv2, hP⟩
  have HO2 := Lib.hid ((HO.out.mono (T := TurnB B A) (fun _ _ h => h.elim)).trans hO)
  have HP2 := Lib.hid hP
  clear hO hP HO HC
  go_wp2
  go_returns
  exact ⟨rfl, HO2.out, nv2, HP2.out⟩
theorem runs_FCLAIM1 (B : Nat) (p A : Option Addr) (cp : Nat) (r' : LS) (w : World) (hs : Calls Try.prog 59 #[Value.pointer (some ⟨B, 0, none⟩)] w (Clo 115 B p A cp r' w)) : Calls Try.prog 36 #[Value.pointer (some ⟨B, 0, none⟩)] w (Done B p A cp w (.tuple #[]) r') := by
  have HS := Lib.hid hs
  clear hs
  have hn := neq_fnC
  go_enter Try.func36, Try.ntmps36
  go_wp2_with fail
  refine HS.out.mono ?_
  rintro e w1 ⟨caps, rfl, hO, hC⟩
  have HO := Lib.hid hO
  have HC := Lib.hid hC
  clear hO hC HS
  go_wp2_with fail
  refine HC.out.mono ?_
  rintro e w2 ⟨rfl, hO, nv2, hP⟩
  have HO2 := Lib.hid ((HO.out.mono (T := TurnB B A) (fun _ _ h => h.elim)).trans hO)
  have HP2 := Lib.hid hP
  clear hO hP HO HC
  go_wp2
  go_returns
  exact ⟨rfl, HO2.out, nv2, HP2.out⟩
theorem runs_FDRAW1 (B : Nat) (p A : Option Addr) (cp : Nat) (r' : LS) (w : World) (hs : Calls Try.prog 59 #[Value.pointer (some ⟨B, 0, none⟩)] w (Clo 107 B p A cp r' w)) : Calls Try.prog 36 #[Value.pointer (some ⟨B, 0, none⟩)] w (Done B p A cp w (.tuple #[]) r') := by
  have HS := Lib.hid hs
  clear hs
  have hn := neq_fnC
  go_enter Try.func36, Try.ntmps36
  go_wp2_with fail
  refine HS.out.mono ?_
  rintro e w1 ⟨caps, rfl, hO, hC⟩
  have HO := Lib.hid hO
  have HC := Lib.hid hC
  clear hO hC HS
  go_wp2_with fail
  refine HC.out.mono ?_
  rintro e w2 ⟨rfl, hO, nv2, hP⟩
  have HO2 := Lib.hid ((HO.out.mono (T := TurnB B A) (fun _ _ h => h.elim)).trans hO)
  have HP2 := Lib.hid hP
  clear hO hP HO HC
  go_wp2
  go_returns
  exact ⟨rfl, HO2.out, nv2, HP2.out⟩
theorem runs_FLEAVE1 (B : Nat) (p A : Option Addr) (cp : Nat) (r' : LS) (w : World) (hs : Calls Try.prog 59 #[Value.pointer (some ⟨B, 0, none⟩)] w (Clo 112 B p A cp r' w)) : Calls Try.prog 36 #[Value.pointer (some ⟨B, 0, none⟩)] w (Done B p A cp w (.tuple #[]) r') := by
  have HS := Lib.hid hs
  clear hs
  have hn := neq_fnC
  go_enter Try.func36, Try.ntmps36
  go_wp2_with fail
  refine HS.out.mono ?_
  rintro e w1 ⟨caps, rfl, hO, hC⟩
  have HO := Lib.hid hO
  have HC := Lib.hid hC
  clear hO hC HS
  go_wp2_with fail
  refine HC.out.mono ?_
  rintro e w2 ⟨rfl, hO, nv2, hP⟩
  have HO2 := Lib.hid ((HO.out.mono (T := TurnB B A) (fun _ _ h => h.elim)).trans hO)
  have HP2 := Lib.hid hP
  clear hO hP HO HC
  go_wp2
  go_returns
  exact ⟨rfl, HO2.out, nv2, HP2.out⟩
theorem runs_FLOOK1 (B : Nat) (p A : Option Addr) (cp : Nat) (r' : LS) (w : World) (hs : Calls Try.prog 59 #[Value.pointer (some ⟨B, 0, none⟩)] w (Clo 113 B p A cp r' w)) : Calls Try.prog 36 #[Value.pointer (some ⟨B, 0, none⟩)] w (Done B p A cp w (.tuple #[]) r') := by
  have HS := Lib.hid hs
  clear hs
  have hn := neq_fnC
  go_enter Try.func36, Try.ntmps36
  go_wp2_with fail
  refine HS.out.mono ?_
  rintro e w1 ⟨caps, rfl, hO, hC⟩
  have HO := Lib.hid hO
  have HC := Lib.hid hC
  clear hO hC HS
  go_wp2_with fail
  refine HC.out.mono ?_
  rintro e w2 ⟨rfl, hO, nv2, hP⟩
  have HO2 := Lib.hid ((HO.out.mono (T := TurnB B A) (fun _ _ h => h.elim)).trans hO)
  have HP2 := Lib.hid hP
  clear hO hP HO HC
  go_wp2
  go_returns
  exact ⟨rfl, HO2.out, nv2, HP2.out⟩
theorem runs_FTURN1 (B : Nat) (p A : Option Addr) (cp : Nat) (r' : LS) (w : World) (hs : Calls Try.prog 59 #[Value.pointer (some ⟨B, 0, none⟩)] w (Clo 110 B p A cp r' w)) : Calls Try.prog 36 #[Value.pointer (some ⟨B, 0, none⟩)] w (Done B p A cp w (.tuple #[]) r') := by
  have HS := Lib.hid hs
  clear hs
  have hn := neq_fnC
  go_enter Try.func36, Try.ntmps36
  go_wp2_with fail
  refine HS.out.mono ?_
  rintro e w1 ⟨caps, rfl, hO, hC⟩
  have HO := Lib.hid hO
  have HC := Lib.hid hC
  clear hO hC HS
  go_wp2_with fail
  refine HC.out.mono ?_
  rintro e w2 ⟨rfl, hO, nv2, hP⟩
  have HO2 := Lib.hid ((HO.out.mono (T := TurnB B A) (fun _ _ h => h.elim)).trans hO)
  have HP2 := Lib.hid hP
  clear hO hP HO HC
  go_wp2
  go_returns
  exact ⟨rfl, HO2.out, nv2, HP2.out⟩
theorem runs_FWEIGH1 (B : Nat) (p A : Option Addr) (cp : Nat) (r' : LS) (w : World) (hs : Calls Try.prog 59 #[Value.pointer (some ⟨B, 0, none⟩)] w (Clo 114 B p A cp r' w)) : Calls Try.prog 36 #[Value.pointer (some ⟨B, 0, none⟩)] w (Done B p A cp w (.tuple #[]) r') := by
  have HS := Lib.hid hs
  clear hs
  have hn := neq_fnC
  go_enter Try.func36, Try.ntmps36
  go_wp2_with fail
  refine HS.out.mono ?_
  rintro e w1 ⟨caps, rfl, hO, hC⟩
  have HO := Lib.hid hO
  have HC := Lib.hid hC
  clear hO hC HS
  go_wp2_with fail
  refine HC.out.mono ?_
  rintro e w2 ⟨rfl, hO, nv2, hP⟩
  have HO2 := Lib.hid ((HO.out.mono (T := TurnB B A) (fun _ _ h => h.elim)).trans hO)
  have HP2 := Lib.hid hP
  clear hO hP HO HC
  go_wp2
  go_returns
  exact ⟨rfl, HO2.out, nv2, HP2.out⟩
theorem runs_no (B : Nat) (p A : Option Addr) (cp : Nat) (nv : Value) (r : LS) (w : World) (h : RunP w B p A cp nv r) (hs : Calls Try.prog 59 #[Value.pointer (some ⟨B, 0, none⟩)] w fun e w' => e = .returned .nilFunc ∧ Only Nil w w') : Calls Try.prog 36 #[Value.pointer (some ⟨B, 0, none⟩)] w (Done B p A cp w (.tuple #[]) r) := by
  have HS := Lib.hid hs
  have HP := Lib.hid h
  clear hs h
  have hn := neq_nilC
  go_enter Try.func36, Try.ntmps36
  go_wp2_with fail
  refine HS.out.mono ?_
  rintro e w1 ⟨rfl, hO⟩
  have HO := Lib.hid hO
  clear hO HS
  go_wp2
  go_returns
  exact ⟨rfl, HO.out.mono (fun _ _ h => h.elim), nv, HP.out.keep HO.out⟩
theorem tf_none {r : LS} (h : tfCase r.op r.line = 0) : r.tf = r := by unfold LS.tf; rw [h]; rfl
theorem tf_lines (B : Nat) (p A : Option Addr) (cp : Nat) (nv : Value) (r : LS) (w : World) (h : RunP w B p A cp nv r) (hl : r.ns.length ≤ 900) (hx : Words r.xs) : Calls Try.prog 36 #[Value.pointer (some ⟨B, 0, none⟩)] w (Done B p A cp w (.tuple #[]) r.tf) := by
  have none : ∀ op line, r.op = op → r.line = line → tfCase op line = 0 → Calls Try.prog 59 #[Value.pointer (some ⟨B, 0, none⟩)] w (fun e w' => e = .returned .nilFunc ∧ Only Nil w w') → Calls Try.prog 36 #[Value.pointer (some ⟨B, 0, none⟩)] w (Done B p A cp w (.tuple #[]) r.tf) := fun op line h1 h2 h0 hs => by
    rw [tf_none (by rw [h1, h2]; exact h0)]
    exact runs_no B p A cp nv r w h hs
  by_cases o1 : r.op = 1
  · by_cases l0 : r.line = 0
    · exact runs_FDRAW1 B p A cp _ w (stepOf_1_0 B p A cp nv r w h hl hx o1 l0)
    by_cases l1 : r.line = 1
    · exact runs_FAR1 B p A cp _ w (stepOf_1_1 B p A cp nv r w h hl hx o1 l1)
    by_cases l2 : r.line = 2
    · exact runs_FTURN1 B p A cp _ w (stepOf_1_2 B p A cp nv r w h hl hx o1 l2)
    exact none _ _ rfl rfl (by simp [tfCase, o1, l0, l1, l2]) (stepOf_no1 B p A cp nv r w h hl hx o1 l0 l1 l2)
  by_cases o2 : r.op = 2
  · by_cases l0 : r.line = 0
    · exact runs_FTURN1 B p A cp _ w (stepOf_2_0 B p A cp nv r w h hl hx o2 l0)
    exact none _ _ rfl rfl (by simp [tfCase, o2, l0]) (stepOf_no2 B p A cp nv r w h hl hx o2 l0)
  by_cases o3 : r.op = 3
  · by_cases l0 : r.line = 0
    · exact runs_FDRAW1 B p A cp _ w (stepOf_3_0 B p A cp nv r w h hl hx o3 l0)
    by_cases l1 : r.line = 1
    · exact runs_FAW1 B p A cp _ w (stepOf_3_1 B p A cp nv r w h hl hx o3 l1)
    exact none _ _ rfl rfl (by simp [tfCase, o3, l0, l1]) (stepOf_no3 B p A cp nv r w h hl hx o3 l0 l1)
  by_cases o4 : r.op = 4
  · by_cases l0 : r.line = 0
    · exact runs_FLEAVE1 B p A cp _ w (stepOf_4_0 B p A cp nv r w h hl hx o4 l0)
    by_cases l1 : r.line = 1
    · exact runs_FTURN1 B p A cp _ w (stepOf_4_1 B p A cp nv r w h hl hx o4 l1)
    exact none _ _ rfl rfl (by simp [tfCase, o4, l0, l1]) (stepOf_no4 B p A cp nv r w h hl hx o4 l0 l1)
  by_cases o5 : r.op = 5
  · by_cases l0 : r.line = 0
    · exact runs_FLOOK1 B p A cp _ w (stepOf_5_0 B p A cp nv r w h hl hx o5 l0)
    by_cases l1 : r.line = 1
    · exact runs_FWEIGH1 B p A cp _ w (stepOf_5_1 B p A cp nv r w h hl hx o5 l1)
    by_cases l2 : r.line = 2
    · exact runs_FCLAIM1 B p A cp _ w (stepOf_5_2 B p A cp nv r w h hl hx o5 l2)
    by_cases l3 : r.line = 3
    · exact runs_FTURN1 B p A cp _ w (stepOf_5_3 B p A cp nv r w h hl hx o5 l3)
    exact none _ _ rfl rfl (by simp [tfCase, o5, l0, l1, l2, l3]) (stepOf_no5 B p A cp nv r w h hl hx o5 l0 l1 l2 l3)
  by_cases o6 : r.op = 6
  · by_cases l0 : r.line = 0
    · exact runs_FLOOK1 B p A cp _ w (stepOf_6_0 B p A cp nv r w h hl hx o6 l0)
    by_cases l1 : r.line = 1
    · exact runs_FWEIGH1 B p A cp _ w (stepOf_6_1 B p A cp nv r w h hl hx o6 l1)
    by_cases l2 : r.line = 2
    · exact runs_FCLAIM1 B p A cp _ w (stepOf_6_2 B p A cp nv r w h hl hx o6 l2)
    exact none _ _ rfl rfl (by simp [tfCase, o6, l0, l1, l2]) (stepOf_no6 B p A cp nv r w h hl hx o6 l0 l1 l2)
  by_cases o7 : r.op = 7
  · by_cases l0 : r.line = 0
    · exact runs_FLOOK1 B p A cp _ w (stepOf_7_0 B p A cp nv r w h hl hx o7 l0)
    by_cases l1 : r.line = 1
    · exact runs_FWEIGH1 B p A cp _ w (stepOf_7_1 B p A cp nv r w h hl hx o7 l1)
    by_cases l2 : r.line = 2
    · exact runs_FCLAIM1 B p A cp _ w (stepOf_7_2 B p A cp nv r w h hl hx o7 l2)
    by_cases l3 : r.line = 3
    · exact runs_FBACK1 B p A cp _ w (stepOf_7_3 B p A cp nv r w h hl hx o7 l3)
    exact none _ _ rfl rfl (by simp [tfCase, o7, l0, l1, l2, l3]) (stepOf_no7 B p A cp nv r w h hl hx o7 l0 l1 l2 l3)
  by_cases o8 : r.op = 8
  · by_cases l0 : r.line = 0
    · exact runs_FTURN1 B p A cp _ w (stepOf_8_0 B p A cp nv r w h hl hx o8 l0)
    exact none _ _ rfl rfl (by simp [tfCase, o8, l0]) (stepOf_no8 B p A cp nv r w h hl hx o8 l0)
  exact none _ _ rfl rfl (by simp [tfCase, o1, o2, o3, o4, o5, o6, o7, o8]) (stepOf_no9 B p A cp nv r w h hl hx o1 o2 o3 o4 o5 o6 o7 o8)
theorem tf_lined (B : Nat) (p A : Option Addr) (cp : Nat) (r : LS) (hl : r.ns.length ≤ 900) (hx : Words r.xs) : Lined B p A cp (.func (.func 36) #[] #[]) r r.tf (TurnB B A) (fun _ => True) (fun _ => True) := by
  intro w nv _ h
  have HT := Lib.hid (tf_lines B p A cp nv r w h hl hx)
  have hn := neq_fnL
  clear h hl hx
  go_enter_defers Try.func41, Try.ntmps41
  go_wp2_with fail
  refine HT.out.mono ?_
  rintro e w1 ⟨rfl, hO, nv1, hP⟩
  have HO := Lib.hid hO
  have HP := Lib.hid hP
  clear hO hP HT
  go_wp2
  refine leaves_cons (f := 61) (args := #[]) (by simp) (by simp [go_sem]) ?_
  refine (rec_run _).mono ?_
  rintro e u' w'' ⟨rfl, rfl, rfl⟩
  exact ⟨_, by simp [results, Try.results41, go_sem], rfl, HO.out, trivial, nv1, HP.out⟩
theorem tf_step (B : Nat) (p A : Option Addr) (cp : Nat) (nv : Value) (r : LS) (w : World) (h : RunQ w B p A cp nv r) (hx : Words r.xs) :
    Calls Try.prog 26 #[Value.pointer (some ⟨B, 0, none⟩), .func (.func 36) #[] #[]] w (Stepd B p A cp (r.next LS.tf) (TurnB B A) (fun _ => True) w) := by
  unfold LS.next
  cases hon : r.k.on
  · rw [if_neg Bool.false_ne_true]
    exact step_lines B p A cp nv _ r _ _ _ _ w h hon (tf_lined B p A cp r.fresh (Nat.zero_le _) hx) (.inl rfl) (fun _ _ => trivial)
  · rw [if_pos rfl]
    exact step_wake B p A cp nv _ r w h hon
end Go.Proofs.Ytgfippbcgneegaa
set_option linter.unusedVariables false
set_option linter.unusedSimpArgs false
namespace Go.Proofs.Ytgfippbcgneegaa
open Go.RowKit
theorem word_bd {xs : List Int} (h : Words xs) (c : Int) : 0 ≤ wordAt xs c ∧ wordAt xs c < 4294967296 := word_wf h c
theorem doNew_wordsK {xs : List Int} (h : Words xs) (k c x y : Int) (hl : 0 ≤ leftOf k x y (wordAt xs c) ∧ leftOf k x y (wordAt xs c) < 4294967296) : Words (doNew xs k c x y) := by
  unfold doNew
  split
  · intro n hn
    rcases List.mem_or_eq_of_mem_set hn with hn | rfl
    · exact h n hn
    · exact wf_mk hl.1 hl.2
  · exact h
theorem wake_wordsK {xs : List Int} (h : Words xs) (n : Int) (on : Bool) (c i : Int) (hit : Bool) : Words (wakeI xs n on c i hit).xs := by
  unfold wakeI giveI lookI restI
  repeat' split
  all_goals first | exact h | exact h.st _ (by omega) (by omega)
theorem wake_lenK (xs : List Int) (n : Int) (on : Bool) (c i : Int) (hit : Bool) : (wakeI xs n on c i hit).xs.length = xs.length := by
  unfold wakeI giveI lookI restI
  repeat' split
  all_goals first | rfl | exact st_len _ _ _
structure LS.Good (r r' : LS) (m : Nat) : Prop where
  n : r'.n = r.n
  mode : r'.mode = r.mode
  task : r'.task = r.task
  op : r'.op = r.op
  len : r'.xs.length = r.xs.length
  words : Words r.xs → Words r'.xs
  notes : r'.ns.length ≤ r.ns.length + m
section
variable {r : LS}
theorem good_refl (r : LS) : r.Good r 0 := ⟨rfl, rfl, rfl, rfl, rfl, id, Nat.le_refl _⟩
theorem LS.Good.trans {r r' r'' : LS} {m m' : Nat} (h : r.Good r' m) (k : r'.Good r'' m') : r.Good r'' (m + m') :=
  ⟨k.n.trans h.n, k.mode.trans h.mode, k.task.trans h.task, k.op.trans h.op, k.len.trans h.len, k.words ∘ h.words, by have := h.notes; have := k.notes; omega⟩
theorem LS.Good.le {r r' : LS} {m m' : Nat} (h : r.Good r' m) (hm : m ≤ m') : r.Good r' m' := ⟨h.n, h.mode, h.task, h.op, h.len, h.words, by have := h.notes; omega⟩
theorem good_do {k c x y : Int} (hl : Words r.xs → 0 ≤ leftOf k x y (wordAt r.xs c) ∧ leftOf k x y (wordAt r.xs c) < 4294967296) : r.Good (r.doA k c x y) 0 := ⟨rfl, rfl, rfl, rfl, doNew_len _ _ _ _ _, fun h => doNew_wordsK h _ _ _ _ (hl h), Nat.le_refl _⟩
theorem good_load (c : Int) : r.Good (r.doA 1 c 0 0) 0 := good_do (fun h => word_bd h c)
theorem good_add (c x : Int) : r.Good (r.doA 3 c x 0) 0 := good_do (fun h => by show 0 ≤ (x + wordAt r.xs c) % 4294967296 ∧ (x + wordAt r.xs c) % 4294967296 < 4294967296; omega)
theorem good_cas (c x y : Int) (hy : 0 ≤ y ∧ y < 4294967296) : r.Good (r.doA 5 c x y) 0 := good_do (fun h => by
  show 0 ≤ (if wordAt r.xs c = x then y else wordAt r.xs c) ∧ (if wordAt r.xs c = x then y else wordAt r.xs c) < 4294967296
  split
  · exact hy
  · exact word_bd h c)
theorem good_note (what arg : Int) : r.Good (r.note what arg) 1 := ⟨rfl, rfl, rfl, rfl, rfl, id, by simp [LS.note]⟩
theorem good_go (l : Int) : r.Good (r.go l) 0 := ⟨rfl, rfl, rfl, rfl, rfl, id, Nat.le_refl _⟩
theorem good_fin (b : Bool) : r.Good (r.fin b) 0 := ⟨rfl, rfl, rfl, rfl, rfl, id, Nat.le_refl _⟩
theorem good_wake (c : Int) : r.Good (r.wake c) 0 := ⟨rfl, rfl, rfl, rfl, rfl, id, Nat.le_refl _⟩
theorem good_keepA (v : Int) : r.Good (r.keepA v) 0 := ⟨rfl, rfl, rfl, rfl, rfl, id, Nat.le_refl _⟩
theorem good_keepB (v : Int) : r.Good (r.keepB v) 0 := ⟨rfl, rfl, rfl, rfl, rfl, id, Nat.le_refl _⟩
theorem good_wait (c : Int) (q : Int → Bool) : r.Good (r.wait c q) 0 := ⟨rfl, rfl, rfl, rfl, step_len _ _ _ _ _ _ _, fun h => Words.step h _ _ _ _ _ _, Nat.le_refl _⟩
theorem good_fresh : r.Good r.fresh 0 := ⟨rfl, rfl, rfl, rfl, rfl, id, Nat.zero_le _⟩
theorem good_waking : r.Good r.waking 0 := ⟨rfl, rfl, rfl, rfl, wake_lenK _ _ _ _ _ _, fun h => wake_wordsK h _ _ _ _ _, Nat.zero_le _⟩
theorem good_noteIf (b : Bool) (what : Int) : r.Good (r.noteIf b what) 1 := by
  cases b
  · exact (good_refl r).le (by decide)
  · exact good_note _ _
theorem good_next {L : LS → LS} (hL : ∀ r : LS, r.Good (L r) 2) (r : LS) : r.Good (r.next L) 2 ∧ (r.next L).ns.length ≤ 2 := by
  unfold LS.next
  split
  · exact ⟨good_waking.le (by decide), Nat.zero_le _⟩
  · exact ⟨(good_fresh.trans (hL r.fresh)).le (by decide), Nat.le_trans (hL r.fresh).notes (by simp [LS.fresh])⟩
end
end Go.Proofs.Ytgfippbcgneegaa
set_option linter.unusedVariables false
set_option linter.unusedSimpArgs false
namespace Go.Proofs.Ytgfippbcgneegaa
open Go.RowKit
section
variable {r : LS}
theorem good_draw (cl : Int) : r.Good (r.draw cl) 2 := ((((good_add 0 1).trans (good_keepA _)).trans (good_note 2 cl)).trans (good_go 1)).le (by decide)
theorem good_turn (c what : Int) : r.Good (r.turn c what) 2 := ((((good_add c 1).trans (good_note what 0)).trans (good_wake c)).trans (good_fin true)).le (by decide)
theorem good_leave : r.Good r.leave 2 := ((((good_add 1 1).trans (good_note 7 0)).trans (good_wake 1)).trans (good_go 1)).le (by decide)
theorem good_look : r.Good r.look 2 := (((good_load 0).trans (good_keepA _)).trans (good_go 1)).le (by decide)
theorem good_weigh (c own : Int) : r.Good (r.weigh c own) 2 := by
  unfold LS.weigh
  split
  · exact ((((good_load c).trans (good_keepB _)).trans (good_note 5 0)).trans (good_fin false)).le (by decide)
  split
  · exact (((good_load c).trans (good_keepB _)).trans (good_go 0)).le (by decide)
  · exact (((good_load c).trans (good_keepB _)).trans (good_go 2)).le (by decide)
theorem good_claim : r.Good r.claim 0 := good_cas _ _ _ (by omega)
theorem good_back : r.Good r.giveBack 2 := ((good_add 2 1).trans (good_fin true)).le (by decide)
theorem good_awaitR : r.Good r.awaitR 2 := by
  unfold LS.awaitR
  split
  · exact ((good_wait _ _).trans (good_go 2)).le (by decide)
  · exact (good_wait _ _).le (by decide)
theorem good_awaitW : r.Good r.awaitW 2 := by
  unfold LS.awaitW
  split
  · exact (((good_wait _ _).trans (good_noteIf _ _)).trans (good_fin true)).le (by decide)
  · exact ((good_wait _ _).trans (good_noteIf _ _)).le (by decide)
theorem good_tf : r.Good r.tf 2 := by
  unfold LS.tf
  split
  · exact good_draw _
  · exact good_awaitR
  · exact good_turn _ _
  · exact good_turn _ _
  · exact good_draw _
  · exact good_awaitW
  · exact good_leave
  · exact good_turn _ _
  · exact good_look
  · exact good_weigh _ _
  · split
    · exact ((good_claim.trans (good_note 2 1)).trans (good_go 3)).le (by decide)
    · exact (good_claim.trans (good_go 0)).le (by decide)
  · exact good_turn _ _
  · exact good_look
  · exact good_weigh _ _
  · split
    · exact (((good_claim.trans (good_note 2 2)).trans (good_note 4 0)).trans (good_fin true)).le (by decide)
    · exact (good_claim.trans (good_go 0)).le (by decide)
  · exact good_look
  · exact good_weigh _ _
  · split
    · exact ((good_claim.trans (good_note 9 0)).trans (good_go 3)).le (by decide)
    · exact (good_claim.trans (good_go 0)).le (by decide)
  · exact good_back
  · exact good_turn _ _
  · exact (good_refl r).le (by decide)
end
end Go.Proofs.Ytgfippbcgneegaa
