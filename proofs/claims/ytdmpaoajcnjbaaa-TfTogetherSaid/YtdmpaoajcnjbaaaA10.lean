/- TfL, TfK, AppNs, TfAl, From, OpLoad, TfAw, TfAlone, All, TfTries, MatchM, Stuck, LineStk, MatchP. -/
import Derived.Laws.AppendOwnNone
import Derived.Test.YtdmpaoajcnjbaaaA6
import Derived.Test.YtdmpaoajcnjbaaaA7
import Derived.Test.YtdmpaoajcnjbaaaA9
import Derived.Test.YtdmpaoajcnjbaaaA2
import Derived.Test.YtdmpaoajcnjbaaaA1
import Derived.Test.YtdmpaoajcnjbaaaA3
import Derived.Test.YtdmpaoajcnjbaaaA4
/- tf.Lines, the program's: a line of the task-fair lock. -/
set_option linter.unusedVariables false
set_option linter.unusedSimpArgs false
namespace Go.Proofs.Ytdmpaoajcnjbaaa
open Go.RowKit

set_option maxRecDepth 100000 in
theorem neq_nilC (w : World) : (binOp .neq 1 .nilFunc .nilFunc).run Try.prog w = .ok (.bool false) w := by
  first | rfl | kernel_rfl
set_option maxRecDepth 100000 in
theorem neq_fnC (f : Fn) (first cap : Array Value) (w : World) : (binOp .neq 1 (.func f first cap) .nilFunc).run Try.prog w = .ok (.bool true) w := by
  first | rfl | kernel_rfl

theorem runs_FAR1 (B : Nat) (p A : Option Addr) (cp : Nat) (r' : LS) (w : World) (hs : Calls Try.prog 34 #[Value.pointer (some ⟨B, 0, none⟩)] w (Clo 61 B p A cp r' w)) : Calls Try.prog 24 #[Value.pointer (some ⟨B, 0, none⟩)] w (Done B p A cp w (.tuple #[]) r') := by
  have HS := Lib.hid hs
  clear hs
  have hn := neq_fnC
  go_enter Try.func24, Try.ntmps24
  go_wp2_with fail
  refine HS.out.mono ?_
  rintro e w1 ⟨caps, rfl, hO, hC⟩
  have HO := Lib.hid hO
  have HC := Lib.hid hC
  clear hO hC HS
  go_wp2_with fail
  refine HC.out.mono ?_
  rintro e w2 ⟨rfl, hO, nv2, hP⟩
  have HO2 := Lib.hid ((HO.out.mono (T := TurnB B A) (fun _ _ h => h.elim)).trans hO)
  have HP2 := Lib.hid hP
  clear hO hP HO HC
  go_wp2
  go_returns
  exact ⟨rfl, HO2.out, nv2, HP2.out⟩
theorem runs_FAW1 (B : Nat) (p A : Option Addr) (cp : Nat) (r' : LS) (w : World) (hs : Calls Try.prog 34 #[Value.pointer (some ⟨B, 0, none⟩)] w (Clo 66 B p A cp r' w)) : Calls Try.prog 24 #[Value.pointer (some ⟨B, 0, none⟩)] w (Done B p A cp w (.tuple #[]) r') := by
  have HS := Lib.hid hs
  clear hs
  have hn := neq_fnC
  go_enter Try.func24, Try.ntmps24
  go_wp2_with fail
  refine HS.out.mono ?_
  rintro e w1 ⟨caps, rfl, hO, hC⟩
  have HO := Lib.hid hO
  have HC := Lib.hid hC
  clear hO hC HS
  go_wp2_with fail
  refine HC.out.mono ?_
  rintro e w2 ⟨rfl, hO, nv2, hP⟩
  have HO2 := Lib.hid ((HO.out.mono (T := TurnB B A) (fun _ _ h => h.elim)).trans hO)
  have HP2 := Lib.hid hP
  clear hO hP HO HC
  go_wp2
  go_returns
  exact ⟨rfl, HO2.out, nv2, HP2.out⟩
theorem runs_FBACK1 (B : Nat) (p A : Option Addr) (cp : Nat) (r' : LS) (w : World) (hs : Calls Try.prog 34 #[Value.pointer (some ⟨B, 0, none⟩)] w (Clo 75 B p A cp r' w)) : Calls Try.prog 24 #[Value.pointer (some ⟨B, 0, none⟩)] w (Done B p A cp w (.tuple #[]) r') := by
  have HS := Lib.hid hs
  clear hs
  have hn := neq_fnC
  go_enter Try.func24, Try.ntmps24
  go_wp2_with fail
  refine HS.out.mono ?_
  rintro e w1 ⟨caps, rfl, hO, hC⟩
  have HO := Lib.hid hO
  have HC := Lib.hid hC
  clear hO hC HS
  go_wp2_with fail
  refine HC.out.mono ?_
  rintro e w2 ⟨rfl, hO, nv2, hP⟩
  have HO2 := Lib.hid ((HO.out.mono (T := TurnB B A) (fun _ _ h => h.elim)).trans hO)
  have HP2 := Lib.hid hP
  clear hO hP HO HC
  go_wp2
  go_returns
  exact ⟨rfl, HO2.out, nv2, HP2.out⟩
theorem runs_FCLAIM1 (B : Nat) (p A : Option Addr) (cp : Nat) (r' : LS) (w : World) (hs : Calls Try.prog 34 #[Value.pointer (some ⟨B, 0, none⟩)] w (Clo 72 B p A cp r' w)) : Calls Try.prog 24 #[Value.pointer (some ⟨B, 0, none⟩)] w (Done B p A cp w (.tuple #[]) r') := by
  have HS := Lib.hid hs
  clear hs
  have hn := neq_fnC
  go_enter Try.func24, Try.ntmps24
  go_wp2_with fail
  refine HS.out.mono ?_
  rintro e w1 ⟨caps, rfl, hO, hC⟩
  have HO := Lib.hid hO
  have HC := Lib.hid hC
  clear hO hC HS
  go_wp2_with fail
  refine HC.out.mono ?_
  rintro e w2 ⟨rfl, hO, nv2, hP⟩
  have HO2 := Lib.hid ((HO.out.mono (T := TurnB B A) (fun _ _ h => h.elim)).trans hO)
  have HP2 := Lib.hid hP
  clear hO hP HO HC
  go_wp2
  go_returns
  exact ⟨rfl, HO2.out, nv2, HP2.out⟩
theorem runs_FDRAW1 (B : Nat) (p A : Option Addr) (cp : Nat) (r' : LS) (w : World) (hs : Calls Try.prog 34 #[Value.pointer (some ⟨B, 0, none⟩)] w (Clo 59 B p A cp r' w)) : Calls Try.prog 24 #[Value.pointer (some ⟨B, 0, none⟩)] w (Done B p A cp w (.tuple #[]) r') := by
  have HS := Lib.hid hs
  clear hs
  have hn := neq_fnC
  go_enter Try.func24, Try.ntmps24
  go_wp2_with fail
  refine HS.out.mono ?_
  rintro e w1 ⟨caps, rfl, hO, hC⟩
  have HO := Lib.hid hO
  have HC := Lib.hid hC
  clear hO hC HS
  go_wp2_with fail
  refine HC.out.mono ?_
  rintro e w2 ⟨rfl, hO, nv2, hP⟩
  have HO2 := Lib.hid ((HO.out.mono (T := TurnB B A) (fun _ _ h => h.elim)).trans hO)
  have HP2 := Lib.hid hP
  clear hO hP HO HC
  go_wp2
  go_returns
  exact ⟨rfl, HO2.out, nv2, HP2.out⟩
theorem runs_FLEAVE1 (B : Nat) (p A : Option Addr) (cp : Nat) (r' : LS) (w : World) (hs : Calls Try.prog 34 #[Value.pointer (some ⟨B, 0, none⟩)] w (Clo 67 B p A cp r' w)) : Calls Try.prog 24 #[Value.pointer (some ⟨B, 0, none⟩)] w (Done B p A cp w (.tuple #[]) r') := by
  have HS := Lib.hid hs
  clear hs
  have hn := neq_fnC
  go_enter Try.func24, Try.ntmps24
  go_wp2_with fail
  refine HS.out.mono ?_
  rintro e w1 ⟨caps, rfl, hO, hC⟩
  have HO := Lib.hid hO
  have HC := Lib.hid hC
  clear hO hC HS
  go_wp2_with fail
  refine HC.out.mono ?_
  rintro e w2 ⟨rfl, hO, nv2, hP⟩
  have HO2 := Lib.hid ((HO.out.mono (T := TurnB B A) (fun _ _ h => h.elim)).trans hO)
  have HP2 := Lib.hid hP
  clear hO hP HO HC
  go_wp2
  go_returns
  exact ⟨rfl, HO2.out, nv2, HP2.out⟩
theorem runs_FLOOK1 (B : Nat) (p A : Option Addr) (cp : Nat) (r' : LS) (w : World) (hs : Calls Try.prog 34 #[Value.pointer (some ⟨B, 0, none⟩)] w (Clo 68 B p A cp r' w)) : Calls Try.prog 24 #[Value.pointer (some ⟨B, 0, none⟩)] w (Done B p A cp w (.tuple #[]) r') := by
  have HS := Lib.hid hs
  clear hs
  have hn := neq_fnC
  go_enter Try.func24, Try.ntmps24
  go_wp2_with fail
  refine HS.out.mono ?_
  rintro e w1 ⟨caps, rfl, hO, hC⟩
  have HO := Lib.hid hO
  have HC := Lib.hid hC
  clear hO hC HS
  go_wp2_with fail
  refine HC.out.mono ?_
  rintro e w2 ⟨rfl, hO, nv2, hP⟩
  have HO2 := Lib.hid ((HO.out.mono (T := TurnB B A) (fun _ _ h => h.elim)).trans hO)
  have HP2 := Lib.hid hP
  clear hO hP HO HC
  go_wp2
  go_returns
  exact ⟨rfl, HO2.out, nv2, HP2.out⟩
theorem runs_FTURN1 (B : Nat) (p A : Option Addr) (cp : Nat) (r' : LS) (w : World) (hs : Calls Try.prog 34 #[Value.pointer (some ⟨B, 0, none⟩)] w (Clo 64 B p A cp r' w)) : Calls Try.prog 24 #[Value.pointer (some ⟨B, 0, none⟩)] w (Done B p A cp w (.tuple #[]) r') := by
  have HS := Lib.hid hs
  clear hs
  have hn := neq_fnC
  go_enter Try.func24, Try.ntmps24
  go_wp2_with fail
  refine HS.out.mono ?_
  rintro e w1 ⟨caps, rfl, hO, hC⟩
  have HO := Lib.hid hO
  have HC := Lib.hid hC
  clear hO hC HS
  go_wp2_with fail
  refine HC.out.mono ?_
  rintro e w2 ⟨rfl, hO, nv2, hP⟩
  have HO2 := Lib.hid ((HO.out.mono (T := TurnB B A) (fun _ _ h => h.elim)).trans hO)
  have HP2 := Lib.hid hP
  clear hO hP HO HC
  go_wp2
  go_returns
  exact ⟨rfl, HO2.out, nv2, HP2.out⟩
theorem runs_FWEIGH1 (B : Nat) (p A : Option Addr) (cp : Nat) (r' : LS) (w : World) (hs : Calls Try.prog 34 #[Value.pointer (some ⟨B, 0, none⟩)] w (Clo 70 B p A cp r' w)) : Calls Try.prog 24 #[Value.pointer (some ⟨B, 0, none⟩)] w (Done B p A cp w (.tuple #[]) r') := by
  have HS := Lib.hid hs
  clear hs
  have hn := neq_fnC
  go_enter Try.func24, Try.ntmps24
  go_wp2_with fail
  refine HS.out.mono ?_
  rintro e w1 ⟨caps, rfl, hO, hC⟩
  have HO := Lib.hid hO
  have HC := Lib.hid hC
  clear hO hC HS
  go_wp2_with fail
  refine HC.out.mono ?_
  rintro e w2 ⟨rfl, hO, nv2, hP⟩
  have HO2 := Lib.hid ((HO.out.mono (T := TurnB B A) (fun _ _ h => h.elim)).trans hO)
  have HP2 := Lib.hid hP
  clear hO hP HO HC
  go_wp2
  go_returns
  exact ⟨rfl, HO2.out, nv2, HP2.out⟩

theorem runs_no (B : Nat) (p A : Option Addr) (cp : Nat) (nv : Value) (r : LS) (w : World) (h : RunP w B p A cp nv r) (hs : Calls Try.prog 34 #[Value.pointer (some ⟨B, 0, none⟩)] w fun e w' => e = .returned .nilFunc ∧ Only Nil w w') : Calls Try.prog 24 #[Value.pointer (some ⟨B, 0, none⟩)] w (Done B p A cp w (.tuple #[]) r) := by
  have HS := Lib.hid hs
  have HP := Lib.hid h
  clear hs h
  have hn := neq_nilC
  go_enter Try.func24, Try.ntmps24
  go_wp2_with fail
  refine HS.out.mono ?_
  rintro e w1 ⟨rfl, hO⟩
  have HO := Lib.hid hO
  clear hO HS
  go_wp2
  go_returns
  exact ⟨rfl, HO.out.mono (fun _ _ h => h.elim), nv, HP.out.keep HO.out⟩
theorem lines_nil (w : World) : Calls Try.prog 24 #[.pointer none] w fun e w' => e = .returned (.tuple #[]) ∧ w = w' := by
  go_enter Try.func24, Try.ntmps24
  go_wp2
  go_returns
  exact ⟨rfl, rfl⟩

theorem tf_none {r : LS} (h : tfCase r.op r.line = 0) : r.tf = r := by unfold LS.tf; rw [h]; rfl
/-- Lines, of any run. -/
theorem tf_lines (B : Nat) (p A : Option Addr) (cp : Nat) (nv : Value) (r : LS) (w : World) (h : RunP w B p A cp nv r) (hl : r.ns.length ≤ 900) (hx : Words r.xs) : Calls Try.prog 24 #[Value.pointer (some ⟨B, 0, none⟩)] w (Done B p A cp w (.tuple #[]) r.tf) := by
  have none : ∀ op line, r.op = op → r.line = line → tfCase op line = 0 → Calls Try.prog 34 #[Value.pointer (some ⟨B, 0, none⟩)] w (fun e w' => e = .returned .nilFunc ∧ Only Nil w w') → Calls Try.prog 24 #[Value.pointer (some ⟨B, 0, none⟩)] w (Done B p A cp w (.tuple #[]) r.tf) := fun op line h1 h2 h0 hs => by
    rw [tf_none (by rw [h1, h2]; exact h0)]
    exact runs_no B p A cp nv r w h hs
  by_cases o1 : r.op = 1
  · by_cases l0 : r.line = 0
    · exact runs_FDRAW1 B p A cp _ w (stepOf_1_0 B p A cp nv r w h hl hx o1 l0)
    by_cases l1 : r.line = 1
    · exact runs_FAR1 B p A cp _ w (stepOf_1_1 B p A cp nv r w h hl hx o1 l1)
    by_cases l2 : r.line = 2
    · exact runs_FTURN1 B p A cp _ w (stepOf_1_2 B p A cp nv r w h hl hx o1 l2)
    exact none _ _ rfl rfl (by simp [tfCase, o1, l0, l1, l2]) (stepOf_no1 B p A cp nv r w h hl hx o1 l0 l1 l2)
  by_cases o2 : r.op = 2
  · by_cases l0 : r.line = 0
    · exact runs_FTURN1 B p A cp _ w (stepOf_2_0 B p A cp nv r w h hl hx o2 l0)
    exact none _ _ rfl rfl (by simp [tfCase, o2, l0]) (stepOf_no2 B p A cp nv r w h hl hx o2 l0)
  by_cases o3 : r.op = 3
  · by_cases l0 : r.line = 0
    · exact runs_FDRAW1 B p A cp _ w (stepOf_3_0 B p A cp nv r w h hl hx o3 l0)
    by_cases l1 : r.line = 1
    · exact runs_FAW1 B p A cp _ w (stepOf_3_1 B p A cp nv r w h hl hx o3 l1)
    exact none _ _ rfl rfl (by simp [tfCase, o3, l0, l1]) (stepOf_no3 B p A cp nv r w h hl hx o3 l0 l1)
  by_cases o4 : r.op = 4
  · by_cases l0 : r.line = 0
    · exact runs_FLEAVE1 B p A cp _ w (stepOf_4_0 B p A cp nv r w h hl hx o4 l0)
    by_cases l1 : r.line = 1
    · exact runs_FTURN1 B p A cp _ w (stepOf_4_1 B p A cp nv r w h hl hx o4 l1)
    exact none _ _ rfl rfl (by simp [tfCase, o4, l0, l1]) (stepOf_no4 B p A cp nv r w h hl hx o4 l0 l1)
  by_cases o5 : r.op = 5
  · by_cases l0 : r.line = 0
    · exact runs_FLOOK1 B p A cp _ w (stepOf_5_0 B p A cp nv r w h hl hx o5 l0)
    by_cases l1 : r.line = 1
    · exact runs_FWEIGH1 B p A cp _ w (stepOf_5_1 B p A cp nv r w h hl hx o5 l1)
    by_cases l2 : r.line = 2
    · exact runs_FCLAIM1 B p A cp _ w (stepOf_5_2 B p A cp nv r w h hl hx o5 l2)
    by_cases l3 : r.line = 3
    · exact runs_FTURN1 B p A cp _ w (stepOf_5_3 B p A cp nv r w h hl hx o5 l3)
    exact none _ _ rfl rfl (by simp [tfCase, o5, l0, l1, l2, l3]) (stepOf_no5 B p A cp nv r w h hl hx o5 l0 l1 l2 l3)
  by_cases o6 : r.op = 6
  · by_cases l0 : r.line = 0
    · exact runs_FLOOK1 B p A cp _ w (stepOf_6_0 B p A cp nv r w h hl hx o6 l0)
    by_cases l1 : r.line = 1
    · exact runs_FWEIGH1 B p A cp _ w (stepOf_6_1 B p A cp nv r w h hl hx o6 l1)
    by_cases l2 : r.line = 2
    · exact runs_FCLAIM1 B p A cp _ w (stepOf_6_2 B p A cp nv r w h hl hx o6 l2)
    exact none _ _ rfl rfl (by simp [tfCase, o6, l0, l1, l2]) (stepOf_no6 B p A cp nv r w h hl hx o6 l0 l1 l2)
  by_cases o7 : r.op = 7
  · by_cases l0 : r.line = 0
    · exact runs_FLOOK1 B p A cp _ w (stepOf_7_0 B p A cp nv r w h hl hx o7 l0)
    by_cases l1 : r.line = 1
    · exact runs_FWEIGH1 B p A cp _ w (stepOf_7_1 B p A cp nv r w h hl hx o7 l1)
    by_cases l2 : r.line = 2
    · exact runs_FCLAIM1 B p A cp _ w (stepOf_7_2 B p A cp nv r w h hl hx o7 l2)
    by_cases l3 : r.line = 3
    · exact runs_FBACK1 B p A cp _ w (stepOf_7_3 B p A cp nv r w h hl hx o7 l3)
    exact none _ _ rfl rfl (by simp [tfCase, o7, l0, l1, l2, l3]) (stepOf_no7 B p A cp nv r w h hl hx o7 l0 l1 l2 l3)
  by_cases o8 : r.op = 8
  · by_cases l0 : r.line = 0
    · exact runs_FTURN1 B p A cp _ w (stepOf_8_0 B p A cp nv r w h hl hx o8 l0)
    exact none _ _ rfl rfl (by simp [tfCase, o8, l0]) (stepOf_no8 B p A cp nv r w h hl hx o8 l0)
  exact none _ _ rfl rfl (by simp [tfCase, o1, o2, o3, o4, o5, o6, o7, o8]) (stepOf_no9 B p A cp nv r w h hl hx o1 o2 o3 o4 o5 o6 o7 o8)

/-- Lines as what a step does. -/
theorem tf_lined (B : Nat) (p A : Option Addr) (cp : Nat) (r : LS) (hl : r.ns.length ≤ 900) (hx : Words r.xs) : Lined B p A cp (.func (.func 24) #[] #[]) r r.tf (TurnB B A) (fun _ => True) (fun _ => True) := by
  intro w nv _ h
  have HT := Lib.hid (tf_lines B p A cp nv r w h hl hx)
  have hn := neq_fnL
  clear h hl hx
  go_enter_defers Try.func33, Try.ntmps33
  go_wp2_with fail
  refine HT.out.mono ?_
  rintro e w1 ⟨rfl, hO, nv1, hP⟩
  have HO := Lib.hid hO
  have HP := Lib.hid hP
  clear hO hP HT
  go_wp2
  refine leaves_cons (f := 39) (args := #[]) (by simp) (by simp [go_sem]) ?_
  refine (rec_run _).mono ?_
  rintro e u' w'' ⟨rfl, rfl, rfl⟩
  exact ⟨_, by simp [results, Try.results33, go_sem], rfl, HO.out, trivial, nv1, HP.out⟩

/-- A step of a run, whole. -/
theorem tf_step (B : Nat) (p A : Option Addr) (cp : Nat) (nv : Value) (r : LS) (w : World) (h : RunQ w B p A cp nv r) (hx : Words r.xs) :
    Calls Try.prog 23 #[Value.pointer (some ⟨B, 0, none⟩), .func (.func 24) #[] #[]] w (Stepd B p A cp (r.next LS.tf) (TurnB B A) (fun _ => True) w) := by
  unfold LS.next
  cases hon : r.k.on
  · rw [if_neg Bool.false_ne_true]
    exact step_lines B p A cp nv _ r _ _ _ _ w h hon (tf_lined B p A cp r.fresh (Nat.zero_le _) hx) (.inl rfl) (fun _ _ => trivial)
  · rw [if_pos rfl]
    exact step_wake B p A cp nv _ r w h hon
end Go.Proofs.Ytdmpaoajcnjbaaa
/- The task-fair lock's lines: the words stay words; what never changes; at most two notes a step. -/
set_option linter.unusedVariables false
set_option linter.unusedSimpArgs false
namespace Go.Proofs.Ytdmpaoajcnjbaaa
open Go.RowKit

theorem word_bd {xs : List Int} (h : Words xs) (c : Int) : 0 ≤ wordAt xs c ∧ wordAt xs c < 4294967296 := word_wf h c
/-- What an access leaves: words, as many as they were. -/
theorem doNew_wordsK {xs : List Int} (h : Words xs) (k c x y : Int) (hl : 0 ≤ leftOf k x y (wordAt xs c) ∧ leftOf k x y (wordAt xs c) < 4294967296) : Words (doNew xs k c x y) := by
  unfold doNew
  split
  · intro n hn
    rcases List.mem_or_eq_of_mem_set hn with hn | rfl
    · exact h n hn
    · exact wf_mk hl.1 hl.2
  · exact h
theorem wake_wordsK {xs : List Int} (h : Words xs) (n : Int) (on : Bool) (c i : Int) (hit : Bool) : Words (wakeI xs n on c i hit).xs := by
  unfold wakeI giveI lookI restI
  repeat' split
  all_goals first | exact h | exact h.st _ (by omega) (by omega)
theorem wake_lenK (xs : List Int) (n : Int) (on : Bool) (c i : Int) (hit : Bool) : (wakeI xs n on c i hit).xs.length = xs.length := by
  unfold wakeI giveI lookI restI
  repeat' split
  all_goals first | rfl | exact st_len _ _ _

/-- What a step may leave of a run: its constants are as they were, its words are words, and so is what it keeps. -/
structure LS.Good (r r' : LS) (m : Nat) : Prop where
  n : r'.n = r.n
  mode : r'.mode = r.mode
  task : r'.task = r.task
  op : r'.op = r.op
  len : r'.xs.length = r.xs.length
  words : Words r.xs → Words r'.xs
  notes : r'.ns.length ≤ r.ns.length + m
section
variable {r : LS}
theorem good_refl (r : LS) : r.Good r 0 := ⟨rfl, rfl, rfl, rfl, rfl, id, Nat.le_refl _⟩
theorem LS.Good.trans {r r' r'' : LS} {m m' : Nat} (h : r.Good r' m) (k : r'.Good r'' m') : r.Good r'' (m + m') :=
  ⟨k.n.trans h.n, k.mode.trans h.mode, k.task.trans h.task, k.op.trans h.op, k.len.trans h.len, k.words ∘ h.words, by have := h.notes; have := k.notes; omega⟩
theorem LS.Good.le {r r' : LS} {m m' : Nat} (h : r.Good r' m) (hm : m ≤ m') : r.Good r' m' := ⟨h.n, h.mode, h.task, h.op, h.len, h.words, by have := h.notes; omega⟩
theorem good_do {k c x y : Int} (hl : Words r.xs → 0 ≤ leftOf k x y (wordAt r.xs c) ∧ leftOf k x y (wordAt r.xs c) < 4294967296) : r.Good (r.doA k c x y) 0 := ⟨rfl, rfl, rfl, rfl, doNew_len _ _ _ _ _, fun h => doNew_wordsK h _ _ _ _ (hl h), Nat.le_refl _⟩
theorem good_load (c : Int) : r.Good (r.doA 1 c 0 0) 0 := good_do (fun h => word_bd h c)
theorem good_add (c x : Int) : r.Good (r.doA 3 c x 0) 0 := good_do (fun h => by show 0 ≤ (x + wordAt r.xs c) % 4294967296 ∧ (x + wordAt r.xs c) % 4294967296 < 4294967296; omega)
theorem good_cas (c x y : Int) (hy : 0 ≤ y ∧ y < 4294967296) : r.Good (r.doA 5 c x y) 0 := good_do (fun h => by
  show 0 ≤ (if wordAt r.xs c = x then y else wordAt r.xs c) ∧ (if wordAt r.xs c = x then y else wordAt r.xs c) < 4294967296
  split
  · exact hy
  · exact word_bd h c)
theorem good_note (what arg : Int) : r.Good (r.note what arg) 1 := ⟨rfl, rfl, rfl, rfl, rfl, id, by simp [LS.note]⟩
theorem good_go (l : Int) : r.Good (r.go l) 0 := ⟨rfl, rfl, rfl, rfl, rfl, id, Nat.le_refl _⟩
theorem good_fin (b : Bool) : r.Good (r.fin b) 0 := ⟨rfl, rfl, rfl, rfl, rfl, id, Nat.le_refl _⟩
theorem good_wake (c : Int) : r.Good (r.wake c) 0 := ⟨rfl, rfl, rfl, rfl, rfl, id, Nat.le_refl _⟩
theorem good_keepA (v : Int) : r.Good (r.keepA v) 0 := ⟨rfl, rfl, rfl, rfl, rfl, id, Nat.le_refl _⟩
theorem good_keepB (v : Int) : r.Good (r.keepB v) 0 := ⟨rfl, rfl, rfl, rfl, rfl, id, Nat.le_refl _⟩
theorem good_wait (c : Int) (q : Int → Bool) : r.Good (r.wait c q) 0 := ⟨rfl, rfl, rfl, rfl, step_len _ _ _ _ _ _ _, fun h => Words.step h _ _ _ _ _ _, Nat.le_refl _⟩
theorem good_fresh : r.Good r.fresh 0 := ⟨rfl, rfl, rfl, rfl, rfl, id, Nat.zero_le _⟩
theorem good_waking : r.Good r.waking 0 := ⟨rfl, rfl, rfl, rfl, wake_lenK _ _ _ _ _ _, fun h => wake_wordsK h _ _ _ _ _, Nat.zero_le _⟩

theorem good_draw (cl : Int) : r.Good (r.draw cl) 2 := ((((good_add 0 1).trans (good_keepA _)).trans (good_note 2 cl)).trans (good_go 1)).le (by decide)
theorem good_turn (c what : Int) : r.Good (r.turn c what) 2 := ((((good_add c 1).trans (good_note what 0)).trans (good_wake c)).trans (good_fin true)).le (by decide)
theorem good_leave : r.Good r.leave 2 := ((((good_add 1 1).trans (good_note 7 0)).trans (good_wake 1)).trans (good_go 1)).le (by decide)
theorem good_look : r.Good r.look 2 := (((good_load 0).trans (good_keepA _)).trans (good_go 1)).le (by decide)
theorem good_weigh (c own : Int) : r.Good (r.weigh c own) 2 := by
  unfold LS.weigh
  split
  · exact ((((good_load c).trans (good_keepB _)).trans (good_note 5 0)).trans (good_fin false)).le (by decide)
  split
  · exact (((good_load c).trans (good_keepB _)).trans (good_go 0)).le (by decide)
  · exact (((good_load c).trans (good_keepB _)).trans (good_go 2)).le (by decide)
theorem good_claim : r.Good r.claim 0 := good_cas _ _ _ (by omega)
theorem good_back : r.Good r.giveBack 2 := ((good_add 2 1).trans (good_fin true)).le (by decide)
theorem good_awaitR : r.Good r.awaitR 2 := by
  unfold LS.awaitR
  split
  · exact ((good_wait _ _).trans (good_go 2)).le (by decide)
  · exact (good_wait _ _).le (by decide)
theorem good_noteIf (b : Bool) (what : Int) : r.Good (r.noteIf b what) 1 := by
  cases b
  · exact (good_refl r).le (by decide)
  · exact good_note _ _
theorem good_awaitW : r.Good r.awaitW 2 := by
  unfold LS.awaitW
  split
  · exact (((good_wait _ _).trans (good_noteIf _ _)).trans (good_fin true)).le (by decide)
  · exact ((good_wait _ _).trans (good_noteIf _ _)).le (by decide)
theorem good_tf : r.Good r.tf 2 := by
  unfold LS.tf
  split
  · exact good_draw _
  · exact good_awaitR
  · exact good_turn _ _
  · exact good_turn _ _
  · exact good_draw _
  · exact good_awaitW
  · exact good_leave
  · exact good_turn _ _
  · exact good_look
  · exact good_weigh _ _
  · split
    · exact ((good_claim.trans (good_note 2 1)).trans (good_go 3)).le (by decide)
    · exact (good_claim.trans (good_go 0)).le (by decide)
  · exact good_turn _ _
  · exact good_look
  · exact good_weigh _ _
  · split
    · exact (((good_claim.trans (good_note 2 2)).trans (good_note 4 0)).trans (good_fin true)).le (by decide)
    · exact (good_claim.trans (good_go 0)).le (by decide)
  · exact good_look
  · exact good_weigh _ _
  · split
    · exact ((good_claim.trans (good_note 9 0)).trans (good_go 3)).le (by decide)
    · exact (good_claim.trans (good_go 0)).le (by decide)
  · exact good_back
  · exact good_turn _ _
  · exact (good_refl r).le (by decide)
/-- What a step leaves, of any lines that do so. -/
theorem good_next {L : LS → LS} (hL : ∀ r : LS, r.Good (L r) 2) (r : LS) : r.Good (r.next L) 2 ∧ (r.next L).ns.length ≤ 2 := by
  unfold LS.next
  split
  · exact ⟨good_waking.le (by decide), Nat.zero_le _⟩
  · exact ⟨(good_fresh.trans (hL r.fresh)).le (by decide), Nat.le_trans (hL r.fresh).notes (by simp [LS.fresh])⟩
end
end Go.Proofs.Ytdmpaoajcnjbaaa
/- append of notes to a list of notes that the call made. -/
set_option linter.unusedVariables false
set_option linter.unusedSimpArgs false
namespace Go.Proofs.Ytdmpaoajcnjbaaa
open Go.RowKit

theorem flat_cells : ∀ (zs : List Nt) (u : Value), u ∈ flat zs → u.oneCell' = true
  | [], u, h => by simp [flat] at h
  | n :: r, u, h => by
    rw [flat, List.mem_append] at h
    rcases h with h | h
    · unfold flat1 at h
      simp only [List.mem_cons, List.not_mem_nil, or_false] at h
      rcases h with rfl | rfl | rfl | rfl <;> rfl
    · exact flat_cells r u h

theorem wp_appNs {w : World} {ops : Array Oper} {rest : List Oper} {o : Oper} {a : Act} {Q : Exit → Act → World → Prop} (hgd : o.guard = none) (s x : Operand)
    (ho : o.op = .call { callee := .builtin .append, args := #[s, x], argTypes := #[32, 32] })
    (base : Nat) (v : Value) (zs : List Nt) (hs : a.eval s = v) (hown : OwnN base w v zs)
    (u : Value) (ys : List Nt) (hx : a.eval x = u) (hu : OwnN 0 w u ys)
    (h1 : zs.length ≤ 4000) (h2 : ys.length ≤ 1000) (hbase : base ≤ w.heap.size)
    (h : ∀ v' w', OwnN base w' v' (zs ++ ys) → Only (fun k => v.ownBlock = some k) w w' → wpList Try.prog ops Q rest (a.put o.dst v') w') : wpList Try.prog ops Q (o :: rest) a w := by
  obtain ⟨i0, hi, hz0, hz1, hz2⟩ := info_parts infoN
  rcases hu.2 with ⟨rfl, hn⟩ | ⟨g, cap, cur, rfl, _, hg, hc, hm, hsz, ht⟩
  · obtain rfl := List.eq_nil_of_length_eq_zero hn
    refine wpList_append_own_none hgd s x 32 ho base 117 i0 4 Try.underlying32 hi v zs.length (flat zs) hs hown hx ?_
    exact h v w (by rw [List.append_nil]; exact hown) (Only.refl _ _)
  · refine wpList_append_own w hgd s x 32 ho base 117 i0 (.agg #[.int .i64 0, .int .i64 0, .int .i64 0, .int .i64 0]) 4 32 Try.underlying32 hi hz0 hz1 hz2 rfl (by decide) v zs.length (flat zs) hs hown ⟨g, 0, none⟩ ys.length cap (flat ys) hx (flat_len ys) (fun j u hj => World.ownsRow.cells hu (g := g) rfl j u hj) (fun u hu => flat_cells ys u hu) (by unfold maxLen; omega) (by omega) hbase (fun v' w' hO hG _ => ?_)
    refine h v' w' ?_ ((Only.refl _ w).grown hG (fun k hk => .inr hk))
    have e : (zs ++ ys).length = zs.length + ys.length := List.length_append
    unfold OwnN
    rw [e, flat_app]
    exact hO
end Go.Proofs.Ytdmpaoajcnjbaaa
/- The law's alone: an operation by itself. -/
set_option linter.unusedVariables false
set_option linter.unusedSimpArgs false
namespace Go.Proofs.Ytdmpaoajcnjbaaa
open Go.RowKit

/-- What is between its steps. -/
structure AloneI (w0 : World) (B : Nat) (p A : Option Addr) (cp : Nat) (r0 : LS) (most j : Nat) (v : Value) (wr : World) : Prop where
  run : ∃ nv r, RunQ wr B p A cp nv r ∧ Words r.xs ∧ aloneL LS.tf most r0 = aloneL LS.tf (most - j) r
  notes : ∃ zs, OwnN w0.heap.size wr v zs ∧ zs.length ≤ 2 * j
  only : Only (At A) w0 wr
  new : w0.heap.size ≤ B
  old : ∀ j, At p j ∨ At A j → j < w0.heap.size

/-- What it tells, and leaves. -/
def AloneP (p A : Option Addr) (cp : Nat) (w : World) (t : Int × List Int) (e : Ending) (w' : World) : Prop := ∃ nv, e = .returned (.tuple #[.int .i64 t.1, nv]) ∧ Only (At A) w w' ∧ Memo w' p A cp t.2 ∧ Words t.2

theorem ownN_form {base : Nat} {w : World} {v : Value} {zs : List Nt} (h : OwnN base w v zs) : ∃ A n c, v = .slice A n c := by
  rcases h.2 with ⟨rfl, _⟩ | ⟨g, cap, cur, rfl, _⟩
  · exact ⟨none, 0, 0, rfl⟩
  · exact ⟨_, _, _, rfl⟩

set_option maxRecDepth 100000 in
set_option maxHeartbeats 2000000 in
theorem alone_any (p A : Option Addr) (cp : Nat) (k mode op : Int) (most : Nat) (xs : List Int) (w : World) (h : Memo w p A cp xs) (hx : Words xs) (hmost : most ≤ 1000) :
    Calls Try.prog 9 #[.pointer p, .int .i64 k, .int .i64 mode, .int .i64 op, .int .i64 most] w (AloneP p A cp w (aloneL LS.tf most (newR k mode 0 op xs))) := by
  have e0 := (Only.refl Nil w).alloc (.cells ((newR k mode 0 op xs).cells (.pointer p) (.slice none 0 0)) 63)
  have HI0 : Hid (AloneI w w.heap.size p A cp (newR k mode 0 op xs) most 0 (.slice none 0 0) (w.alloc (.cells ((newR k mode 0 op xs).cells (.pointer p) (.slice none 0 0)) 63))) :=
    Lib.hid ⟨⟨_, _, ⟨Row.new w _ _, h.keep e0⟩, hx, rfl⟩, ⟨[], ownN_nil _ _, Nat.zero_le _⟩, e0.mono (fun _ _ h => h.elim), Nat.le_refl _, h.lt⟩
  rw [show (newR k mode 0 op xs).cells (.pointer p) (.slice none 0 0) = newCells p k mode 0 op from rfl] at HI0
  unfold newCells at HI0
  clear e0 h hx
  generalize hr0 : newR k mode 0 op xs = r0 at *
  clear hr0
  go_enter Try.func9, Try.ntmps9
  go_upto_region 2 with (fail)
  generalize w.alloc (.cells #[.pointer p, .int .i64 k, .int .i64 mode, .int .i64 0, .int .i64 op, .int .i64 0, .int .u32 0, .int .u32 0, .int .i64 0, .bool false, .int .i64 0, .int .i64 0, .bool false, .int .i64 0, .int .i64 0, .int .i64 0, .int .u32 0, .int .u32 0, .int .u32 0, .slice none 0 0] 63) = w1 at *
  generalize hB : w.heap.size = B at *
  have HB := Lib.hid hB
  clear hB
  go_wp2_with fail
  go_loopw [13, 14] (fun nv i wr => ∃ j : Nat, j ≤ most ∧ i = .int .i64 j ∧ AloneI w B p A cp r0 most j nv wr) (fun _ i _ => most - (intOf i).toNat)
  case atStart => exact ⟨0, Nat.zero_le _, rfl, HI0.out⟩
  case round =>
    obtain ⟨j, hj, rfl, hI⟩ := hrel
    clear HI0
    obtain ⟨nvr, r, hQ, hW, hA⟩ := hI.run
    have HI := Lib.hid hI
    have HQ := Lib.hid hQ
    have HW := Lib.hid hW
    have HA := Lib.hid hA
    clear hI hQ hW hA
    by_cases hlt : j < most
    · go_wp2_with fail
      refine (tf_step B p A cp nvr r _ HQ.out HW.out).mono ?_
      obtain ⟨hg, hn2⟩ := good_next (L := LS.tf) (fun r => good_tf) r
      have HG := Lib.hid hg
      have HN2 := Lib.hid hn2
      clear hg hn2
      rintro e w2 ⟨rfl, hO, _, nv2, hP⟩
      have HO := Lib.hid hO
      have HP := Lib.hid hP
      clear hO hP
      obtain ⟨zs, hzs, hzl⟩ := HI.out.notes
      have HZ := Lib.hid (show OwnN w.heap.size w2 _ zs from own_only hzs HO.out (fun i hi e => by
        obtain ⟨cur, hc⟩ := ownN_tag hzs hi
        rcases e with e | e
        · exact row_ne hc HQ.out.row (by decide) e
        · exact memo_not HQ.out.memo hc (by decide) (by decide) (.inr e)))
      have HZL := Lib.hid hzl
      clear hzs hzl
      have HSTEP : Hid (aloneL LS.tf most r0 = if (r.next LS.tf).over then ((r.next LS.tf).ret, (r.next LS.tf).xs) else aloneL LS.tf (most - (j + 1)) (r.next LS.tf)) := Lib.hid (by
        rw [HA.out, show most - j = (most - (j + 1)) + 1 by omega]
        rfl)
      generalize r.next LS.tf = r2 at *
      have c19 : w2.cell? ⟨B, 19, none⟩ = some nv2 := HP.out.row.cell_ (i := 19) rfl
      have hbase : w.heap.size ≤ w2.heap.size := Nat.le_trans HI.out.only.size HO.out.size
      have HBA := Lib.hid hbase
      clear hbase
      go_wp2_with (at_builtin; refine wp_appNs rfl (.tmp 31) (.tmp 35) rfl w.heap.size _ _ (by rfl) HZ.out nv2 r2.ns (by rfl) HP.out.notes (by have := HZL.out; omega) (by have := HN2.out; omega) HBA.out ?_)
      intro v' w3 hown hO3
      clear c19
      have HRQ : Hid (RunQ w3 B p A cp nv2 r2) := Lib.hid ⟨HP.out.row.only hO3 (fun e => by
          obtain ⟨cur, hc⟩ := ownN_tag HZ.out e
          exact absurd (HP.out.row.same hc).1 (by decide)), HP.out.memo.far hO3 (fun j hj e => by
          obtain ⟨cur, hc⟩ := ownN_tag HZ.out e
          exact memo_not HP.out.memo hc (by decide) (by decide) hj)⟩
      have HO3 : Hid (Only (At A) w w3) := Lib.hid ((HI.out.only.step HO.out (fun i hi e => by
          rcases e with e | e
          · have := HI.out.new; omega
          · exact e)).step hO3 (fun i hi e => by
          have := (World.ownsRow.lt HZ.out i e).1
          omega))
      have HOW := Lib.hid hown
      obtain ⟨A9, n9, c9, rfl⟩ := ownN_form hown
      clear hown hO3
      have HNW := Lib.hid (HG.out.words HW.out)
      cases hov : r2.over
      · have HSTEP2 := Lib.hid (HSTEP.out.trans (by rw [hov, if_neg Bool.false_ne_true]))
        clear hov
        go_wp2
        go_roundw
        case rel => exact ⟨j + 1, by omega, by go_num, ⟨⟨nv2, r2, HRQ.out, HNW.out, HSTEP2.out⟩, ⟨_, HOW.out, by rw [List.length_append]; have := HZL.out; have := HN2.out; omega⟩, HO3.out, HI.out.new, HI.out.old⟩⟩
        case measure => simp [intOf]; omega
      · have HSTEP2 := Lib.hid (HSTEP.out.trans (by rw [hov, if_pos rfl]))
        clear hov
        have c13 : w3.cell? ⟨B, 13, none⟩ = some (.int .i64 r2.ret) := HRQ.out.row.cell_ (i := 13) rfl
        go_wp2
        go_ret2
        rw [HSTEP2.out]
        exact ⟨_, rfl, HO3.out, HRQ.out.memo, HNW.out⟩
    · obtain rfl : j = most := by omega
      have HE := Lib.hid (show aloneL LS.tf j r0 = (0, r.xs) by rw [HA.out, Nat.sub_self]; rfl)
      go_wp2
      go_ret2
      rw [HE.out]
      exact ⟨_, rfl, HI.out.only, HQ.out.memo, HW.out⟩
end Go.Proofs.Ytdmpaoajcnjbaaa
/- cells.From. -/
set_option linter.unusedVariables false
set_option linter.unusedSimpArgs false
namespace Go.Proofs.Ytdmpaoajcnjbaaa
open Go.RowKit

/-- A new memory is handed back. -/
def Fresh (w : World) (xs : List Int) (e : Ending) (w' : World) : Prop := ∃ b A' c', e = .returned (.tuple #[.pointer (some ⟨b, 0, none⟩), .int .i64 0]) ∧ w.heap.size ≤ b ∧ (∀ i, At A' i → w.heap.size ≤ i) ∧ Mem w' b A' c' xs ∧ Only Nil w w'

theorem from_ok (A : Option Addr) (n cap : Nat) (xs : List Int) (w : World) (hm : n ≤ 1024) (h : Held w A n cap xs) :
    Calls Try.prog 8 #[.slice A n cap] w (Fresh w xs) := by
  have hl := h.1
  have hm' : (n : Int) ≤ 1024 := by omega
  have HH := Lib.hid h
  have HL := Lib.hid hl
  clear h hl
  go_enter Try.func8, Try.ntmps8
  go_wp2_with (go_at_call 22; refine (clone_held A n cap xs _ (by omega) HH.out).mono ?_; rintro e w1 ⟨A', c', rfl, ho, hO⟩)
  have HO := Lib.hid ho
  have HW := Lib.hid hO
  clear ho hO
  go_ret2
  refine ⟨w1.heap.size, A', c', rfl, HW.out.size, HO.out.base, ⟨Row.new w1 _ _, ?_, ?_⟩, HW.out.alloc _⟩
  · exact ⟨own_base (own_only HO.out.own ((Only.refl Nil w1).alloc _) (fun _ _ h => h)) (Nat.zero_le _), HO.out.nil, fun _ _ => Nat.zero_le _⟩
  · rw [HL.out]; exact hm

theorem from_not (A : Option Addr) (n cap : Nat) (w : World) (hm : 1024 < n) :
    Calls Try.prog 8 #[.slice A n cap] w fun e w' => e = .returned (.tuple #[.pointer none, .int .i64 2]) ∧ w' = w := by
  have hm' : 1024 < (n : Int) := by omega
  go_enter Try.func8, Try.ntmps8
  go_wp2
  go_ret2
  exact ⟨rfl, rfl⟩
end Go.Proofs.Ytdmpaoajcnjbaaa
/- (*Memory).Load. -/
set_option linter.unusedVariables false
set_option linter.unusedSimpArgs false
namespace Go.Proofs.Ytdmpaoajcnjbaaa
open Go.RowKit

theorem load_raw (b : Nat) (A : Option Addr) (cp : Nat) (xs : List Int) (c : Int) (w : World) (h : Mem w b A cp xs) :
    Calls Try.prog 10 #[.pointer (some ⟨b, 0, none⟩), .int .i64 c] w fun e w' => e = .returned (.int .u32 (wordAt xs c)) ∧ Only (At A) w w' ∧ Mem w' b A cp (doNew xs 1 c 0 0) := by
  have HH := Lib.hid h
  clear h
  go_enter Try.func10, Try.ntmps10
  go_wp2_with fail
  refine (do_any b A cp xs 1 c 0 0 0 _ HH.out).mono ?_
  obtain ⟨k', c', x', y', hv⟩ := doVal_form xs 1 c 0 0
  rw [oldAt xs 1 c rfl] at hv
  rintro e w1 ⟨rfl, hO, hM⟩
  rw [hv]
  have HO := Lib.hid hO
  have HM := Lib.hid hM
  clear hO hM hv
  go_wp2
  go_ret
  exact ⟨rfl, HO.out.alloc _, HM.out.only ((Only.refl Nil w1).alloc _) id (fun _ _ => id)⟩

theorem load_any (b : Nat) (A : Option Addr) (cp : Nat) (xs : List Int) (c : Int) (w : World) (h : Mem w b A cp xs) :
    Calls Try.prog 10 #[.pointer (some ⟨b, 0, none⟩), .int .i64 c] w fun e w' => e = .returned (.int .u32 (wordAt xs c)) ∧ Only (At A) w w' ∧ Mem w' b A cp xs :=
  (load_raw b A cp xs c w h).mono fun _ _ ⟨h1, h2, h3⟩ => ⟨h1, h2, by rw [doNew_load] at h3; exact h3⟩
end Go.Proofs.Ytdmpaoajcnjbaaa
/- The law's example. -/
set_option linter.unusedVariables false
set_option linter.unusedSimpArgs false
namespace Go.Proofs.Ytdmpaoajcnjbaaa
open Go.RowKit

/-- A lock's memory that a call made. -/
structure Made (w0 : World) (b : Nat) (A : Option Addr) (cp : Nat) (xs : List Int) (W : World) : Prop where
  mem : Mem W b A cp xs
  new : ∀ j, At A j → w0.heap.size ≤ j
  only : Only Nil w0 W
theorem Made.call {w0 W W' : World} {b : Nat} {A : Option Addr} {cp : Nat} {xs ys : List Int} (h : Made w0 b A cp xs W) (ho : Only (At A) W W') (hm : Mem W' b A cp ys) : Made w0 b A cp ys W' :=
  ⟨hm, h.new, h.only.step ho (fun i hi e => by have := h.new i e; omega)⟩

theorem aw_alone {m : Nat} (h : m = 3) : aloneL LS.tf m (newR (1 : Nat) 1 0 1 ((⟨0, 0, 0⟩ : T3).xs 1)) = (2, (⟨1, 1, 0⟩ : T3).xs 1) := by
  subst h
  decide
set_option maxHeartbeats 1000000 in
theorem awake_any (w : World) : Calls Try.prog 11 #[] w fun e w' => e = .returned (.bool true) ∧ Only Nil w w' := by
  go_enter Try.func11, Try.ntmps11
  go_wp2_with fail
  refine (first_tf 1 0 _ (by decide) (by decide)).mono ?_
  rintro e w1 ⟨g, rfl, hg, hH, hO⟩
  have HH := Lib.hid hH
  have HO := Lib.hid hO
  clear hg hH hO
  go_wp2_with fail
  refine (from_ok _ _ _ _ _ (by decide) HH.out).mono ?_
  rintro e w2 ⟨b, A', c', rfl, hb, hA, hM, hO⟩
  have HM : Hid (Made w b A' c' _ w2) := Lib.hid ⟨hM, fun j hj => Nat.le_trans HO.out.size (hA j hj), HO.out.trans hO⟩
  clear hb hA hM hO HO HH
  go_wp2_with fail
  refine (alone_any (some ⟨b, 0, none⟩) A' c' 1 1 1 3 _ _ (Memo.of HM.out.mem) (T3.words (by decide) (by decide) (by decide)) (by decide)).mono ?_
  rw [show aloneL LS.tf 3 (newR 1 1 0 1 ((⟨0, 0, 0⟩ : T3).xs 1)) = (2, (⟨1, 1, 0⟩ : T3).xs 1) from aw_alone rfl]
  rintro e w3 ⟨nv, rfl, hO, hM, _⟩
  have HM3 := Lib.hid (HM.out.call hO hM.mem)
  clear hO hM HM
  go_wp2_with fail
  refine (load_any b A' c' _ 0 _ HM3.out.mem).mono ?_
  rw [show wordAt ((⟨1, 1, 0⟩ : T3).xs 1) 0 = 1 from rfl]
  rintro e w4 ⟨rfl, hO, hM⟩
  have HM4 := Lib.hid (HM3.out.call hO hM)
  clear hO hM HM3
  go_wp2_with fail
  refine (load_any b A' c' _ 1 _ HM4.out.mem).mono ?_
  rw [show wordAt ((⟨1, 1, 0⟩ : T3).xs 1) 1 = 1 from rfl]
  rintro e w5 ⟨rfl, hO, hM⟩
  have HM5 := Lib.hid (HM4.out.call hO hM)
  clear hO hM HM4
  go_wp2_with fail
  refine (load_any b A' c' _ 2 _ HM5.out.mem).mono ?_
  rw [show wordAt ((⟨1, 1, 0⟩ : T3).xs 1) 2 = 0 from rfl]
  rintro e w6 ⟨rfl, hO, hM⟩
  have HM6 := Lib.hid (HM5.out.call hO hM)
  clear hO hM HM5
  go_wp2
  go_ret
  exact ⟨rfl, HM6.out.only⟩
end Go.Proofs.Ytdmpaoajcnjbaaa
/- TfAlone: the walk. -/
set_option linter.unusedVariables false
set_option linter.unusedSimpArgs false
namespace Go.Proofs.Ytdmpaoajcnjbaaa
open Go.RowKit

/-- The lists of operations, in memory. -/
def ListsAt (W : World) (gL : Nat) (ls : List (List Int)) : Prop := ∀ (i : Nat) (l : List Int), ls[i]? = some l → ∃ g, W.cell? ⟨gL, i, none⟩ = some (.slice (some ⟨g, 0, none⟩) l.length l.length) ∧ ∀ (j : Nat) (op : Int), l[j]? = some op → W.cell? ⟨g, j, none⟩ = some (.int .i64 op)
theorem cell_keep {W W' : World} {p : Addr} {v : Value} (h : W.cell? p = some v) (ho : Only Nil W W') : W'.cell? p = some v := (ho.cell (World.block_lt_of_cell? W p h) id).trans h
theorem ListsAt.only {W W' : World} {gL : Nat} {ls : List (List Int)} (h : ListsAt W gL ls) (ho : Only Nil W W') : ListsAt W' gL ls := fun i l hi => by
  obtain ⟨g, hc, hj⟩ := h i l hi
  exact ⟨g, cell_keep hc ho, fun j op e => cell_keep (hj j op e) ho⟩
theorem Row.op {W : World} {g : Nat} {t : TypeId} {l : List Int} (h : Row W g t ((l.map (Value.int .i64)).toArray)) : ∀ (j : Nat) (op : Int), l[j]? = some op → W.cell? ⟨g, j, none⟩ = some (.int .i64 op) := fun j op e => h.cell_ (by simp [e])

/-- Between the operations. -/
structure AloneT (W0 : World) (b : Nat) (A : Option Addr) (cp : Nat) (k : Nat) (s : T3) (W : World) : Prop where
  made : Made W0 b A cp (s.xs k) W
  words : Words (s.xs k)

theorem lists_made (w : World) : ListsAt (((((((w.alloc (.cells #[.int .i64 1, .int .i64 2] 3)).alloc (.cells #[.int .i64 3, .int .i64 4] 3)).alloc (.cells #[.int .i64 5, .int .i64 2] 3)).alloc (.cells #[.int .i64 6, .int .i64 4] 3)).alloc (.cells #[.int .i64 3, .int .i64 8, .int .i64 2] 3)).alloc (.cells #[.int .i64 1, .int .i64 7, .int .i64 4] 3)).alloc (.cells #[.slice (some ⟨w.heap.size, 0, none⟩) 2 2, .slice (some ⟨w.heap.size + 1, 0, none⟩) 2 2, .slice (some ⟨w.heap.size + 1 + 1, 0, none⟩) 2 2, .slice (some ⟨w.heap.size + 1 + 1 + 1, 0, none⟩) 2 2, .slice (some ⟨w.heap.size + 1 + 1 + 1 + 1, 0, none⟩) 3 3, .slice (some ⟨w.heap.size + 1 + 1 + 1 + 1 + 1, 0, none⟩) 3 3] 23)) (w.heap.size + 1 + 1 + 1 + 1 + 1 + 1) opsT := by
  have r0 : Row (((((((w.alloc (.cells #[.int .i64 1, .int .i64 2] 3)).alloc (.cells #[.int .i64 3, .int .i64 4] 3)).alloc (.cells #[.int .i64 5, .int .i64 2] 3)).alloc (.cells #[.int .i64 6, .int .i64 4] 3)).alloc (.cells #[.int .i64 3, .int .i64 8, .int .i64 2] 3)).alloc (.cells #[.int .i64 1, .int .i64 7, .int .i64 4] 3)).alloc (.cells #[.slice (some ⟨w.heap.size, 0, none⟩) 2 2, .slice (some ⟨w.heap.size + 1, 0, none⟩) 2 2, .slice (some ⟨w.heap.size + 1 + 1, 0, none⟩) 2 2, .slice (some ⟨w.heap.size + 1 + 1 + 1, 0, none⟩) 2 2, .slice (some ⟨w.heap.size + 1 + 1 + 1 + 1, 0, none⟩) 3 3, .slice (some ⟨w.heap.size + 1 + 1 + 1 + 1 + 1, 0, none⟩) 3 3] 23)) w.heap.size 3 #[.int .i64 1, .int .i64 2] := ((((((Row.new w 3 _).alloc _).alloc _).alloc _).alloc _).alloc _).alloc _
  have r1 : Row (((((((w.alloc (.cells #[.int .i64 1, .int .i64 2] 3)).alloc (.cells #[.int .i64 3, .int .i64 4] 3)).alloc (.cells #[.int .i64 5, .int .i64 2] 3)).alloc (.cells #[.int .i64 6, .int .i64 4] 3)).alloc (.cells #[.int .i64 3, .int .i64 8, .int .i64 2] 3)).alloc (.cells #[.int .i64 1, .int .i64 7, .int .i64 4] 3)).alloc (.cells #[.slice (some ⟨w.heap.size, 0, none⟩) 2 2, .slice (some ⟨w.heap.size + 1, 0, none⟩) 2 2, .slice (some ⟨w.heap.size + 1 + 1, 0, none⟩) 2 2, .slice (some ⟨w.heap.size + 1 + 1 + 1, 0, none⟩) 2 2, .slice (some ⟨w.heap.size + 1 + 1 + 1 + 1, 0, none⟩) 3 3, .slice (some ⟨w.heap.size + 1 + 1 + 1 + 1 + 1, 0, none⟩) 3 3] 23)) (w.heap.size + 1) 3 #[.int .i64 3, .int .i64 4] := (((((Row.at (by simp)).alloc _).alloc _).alloc _).alloc _).alloc _
  have r2 : Row (((((((w.alloc (.cells #[.int .i64 1, .int .i64 2] 3)).alloc (.cells #[.int .i64 3, .int .i64 4] 3)).alloc (.cells #[.int .i64 5, .int .i64 2] 3)).alloc (.cells #[.int .i64 6, .int .i64 4] 3)).alloc (.cells #[.int .i64 3, .int .i64 8, .int .i64 2] 3)).alloc (.cells #[.int .i64 1, .int .i64 7, .int .i64 4] 3)).alloc (.cells #[.slice (some ⟨w.heap.size, 0, none⟩) 2 2, .slice (some ⟨w.heap.size + 1, 0, none⟩) 2 2, .slice (some ⟨w.heap.size + 1 + 1, 0, none⟩) 2 2, .slice (some ⟨w.heap.size + 1 + 1 + 1, 0, none⟩) 2 2, .slice (some ⟨w.heap.size + 1 + 1 + 1 + 1, 0, none⟩) 3 3, .slice (some ⟨w.heap.size + 1 + 1 + 1 + 1 + 1, 0, none⟩) 3 3] 23)) (w.heap.size + 1 + 1) 3 #[.int .i64 5, .int .i64 2] := ((((Row.at (by simp)).alloc _).alloc _).alloc _).alloc _
  have r3 : Row (((((((w.alloc (.cells #[.int .i64 1, .int .i64 2] 3)).alloc (.cells #[.int .i64 3, .int .i64 4] 3)).alloc (.cells #[.int .i64 5, .int .i64 2] 3)).alloc (.cells #[.int .i64 6, .int .i64 4] 3)).alloc (.cells #[.int .i64 3, .int .i64 8, .int .i64 2] 3)).alloc (.cells #[.int .i64 1, .int .i64 7, .int .i64 4] 3)).alloc (.cells #[.slice (some ⟨w.heap.size, 0, none⟩) 2 2, .slice (some ⟨w.heap.size + 1, 0, none⟩) 2 2, .slice (some ⟨w.heap.size + 1 + 1, 0, none⟩) 2 2, .slice (some ⟨w.heap.size + 1 + 1 + 1, 0, none⟩) 2 2, .slice (some ⟨w.heap.size + 1 + 1 + 1 + 1, 0, none⟩) 3 3, .slice (some ⟨w.heap.size + 1 + 1 + 1 + 1 + 1, 0, none⟩) 3 3] 23)) (w.heap.size + 1 + 1 + 1) 3 #[.int .i64 6, .int .i64 4] := (((Row.at (by simp)).alloc _).alloc _).alloc _
  have r4 : Row (((((((w.alloc (.cells #[.int .i64 1, .int .i64 2] 3)).alloc (.cells #[.int .i64 3, .int .i64 4] 3)).alloc (.cells #[.int .i64 5, .int .i64 2] 3)).alloc (.cells #[.int .i64 6, .int .i64 4] 3)).alloc (.cells #[.int .i64 3, .int .i64 8, .int .i64 2] 3)).alloc (.cells #[.int .i64 1, .int .i64 7, .int .i64 4] 3)).alloc (.cells #[.slice (some ⟨w.heap.size, 0, none⟩) 2 2, .slice (some ⟨w.heap.size + 1, 0, none⟩) 2 2, .slice (some ⟨w.heap.size + 1 + 1, 0, none⟩) 2 2, .slice (some ⟨w.heap.size + 1 + 1 + 1, 0, none⟩) 2 2, .slice (some ⟨w.heap.size + 1 + 1 + 1 + 1, 0, none⟩) 3 3, .slice (some ⟨w.heap.size + 1 + 1 + 1 + 1 + 1, 0, none⟩) 3 3] 23)) (w.heap.size + 1 + 1 + 1 + 1) 3 #[.int .i64 3, .int .i64 8, .int .i64 2] := ((Row.at (by simp)).alloc _).alloc _
  have r5 : Row (((((((w.alloc (.cells #[.int .i64 1, .int .i64 2] 3)).alloc (.cells #[.int .i64 3, .int .i64 4] 3)).alloc (.cells #[.int .i64 5, .int .i64 2] 3)).alloc (.cells #[.int .i64 6, .int .i64 4] 3)).alloc (.cells #[.int .i64 3, .int .i64 8, .int .i64 2] 3)).alloc (.cells #[.int .i64 1, .int .i64 7, .int .i64 4] 3)).alloc (.cells #[.slice (some ⟨w.heap.size, 0, none⟩) 2 2, .slice (some ⟨w.heap.size + 1, 0, none⟩) 2 2, .slice (some ⟨w.heap.size + 1 + 1, 0, none⟩) 2 2, .slice (some ⟨w.heap.size + 1 + 1 + 1, 0, none⟩) 2 2, .slice (some ⟨w.heap.size + 1 + 1 + 1 + 1, 0, none⟩) 3 3, .slice (some ⟨w.heap.size + 1 + 1 + 1 + 1 + 1, 0, none⟩) 3 3] 23)) (w.heap.size + 1 + 1 + 1 + 1 + 1) 3 #[.int .i64 1, .int .i64 7, .int .i64 4] := (Row.at (by simp)).alloc _
  have r6 : Row (((((((w.alloc (.cells #[.int .i64 1, .int .i64 2] 3)).alloc (.cells #[.int .i64 3, .int .i64 4] 3)).alloc (.cells #[.int .i64 5, .int .i64 2] 3)).alloc (.cells #[.int .i64 6, .int .i64 4] 3)).alloc (.cells #[.int .i64 3, .int .i64 8, .int .i64 2] 3)).alloc (.cells #[.int .i64 1, .int .i64 7, .int .i64 4] 3)).alloc (.cells #[.slice (some ⟨w.heap.size, 0, none⟩) 2 2, .slice (some ⟨w.heap.size + 1, 0, none⟩) 2 2, .slice (some ⟨w.heap.size + 1 + 1, 0, none⟩) 2 2, .slice (some ⟨w.heap.size + 1 + 1 + 1, 0, none⟩) 2 2, .slice (some ⟨w.heap.size + 1 + 1 + 1 + 1, 0, none⟩) 3 3, .slice (some ⟨w.heap.size + 1 + 1 + 1 + 1 + 1, 0, none⟩) 3 3] 23)) (w.heap.size + 1 + 1 + 1 + 1 + 1 + 1) 23 #[.slice (some ⟨w.heap.size, 0, none⟩) 2 2, .slice (some ⟨w.heap.size + 1, 0, none⟩) 2 2, .slice (some ⟨w.heap.size + 1 + 1, 0, none⟩) 2 2, .slice (some ⟨w.heap.size + 1 + 1 + 1, 0, none⟩) 2 2, .slice (some ⟨w.heap.size + 1 + 1 + 1 + 1, 0, none⟩) 3 3, .slice (some ⟨w.heap.size + 1 + 1 + 1 + 1 + 1, 0, none⟩) 3 3] := Row.at (by simp)
  intro i l hi
  match i, hi with
  | 0, hi => obtain rfl := Option.some.inj hi; exact ⟨_, r6.cell_ (i := 0) rfl, Row.op (l := [1, 2]) r0⟩
  | 1, hi => obtain rfl := Option.some.inj hi; exact ⟨_, r6.cell_ (i := 1) rfl, Row.op (l := [3, 4]) r1⟩
  | 2, hi => obtain rfl := Option.some.inj hi; exact ⟨_, r6.cell_ (i := 2) rfl, Row.op (l := [5, 2]) r2⟩
  | 3, hi => obtain rfl := Option.some.inj hi; exact ⟨_, r6.cell_ (i := 3) rfl, Row.op (l := [6, 4]) r3⟩
  | 4, hi => obtain rfl := Option.some.inj hi; exact ⟨_, r6.cell_ (i := 4) rfl, Row.op (l := [3, 8, 2]) r4⟩
  | 5, hi => obtain rfl := Option.some.inj hi; exact ⟨_, r6.cell_ (i := 5) rfl, Row.op (l := [1, 7, 4]) r5⟩
  | i + 6, hi => simp [opsT] at hi

theorem foldT_words {l : List Int} {b : Int} {k : Nat} (hb : 0 ≤ b ∧ b < 4294967296) : Words ((foldT l b).xs k) := by
  have h : ∀ (l : List Int) (s : T3), (0 ≤ s.u ∧ s.u < 4294967296) ∧ (0 ≤ s.r ∧ s.r < 4294967296) ∧ (0 ≤ s.w ∧ s.w < 4294967296) → (0 ≤ (l.foldl (fun s op => opT op s) s).u ∧ (l.foldl (fun s op => opT op s) s).u < 4294967296) ∧ (0 ≤ (l.foldl (fun s op => opT op s) s).r ∧ (l.foldl (fun s op => opT op s) s).r < 4294967296) ∧ (0 ≤ (l.foldl (fun s op => opT op s) s).w ∧ (l.foldl (fun s op => opT op s) s).w < 4294967296) := by
    intro l
    induction l with
    | nil => exact fun s h => h
    | cons op l ih =>
      intro s h
      refine ih (opT op s) ?_
      have h1 := up_bd s.u
      have h2 := up_bd s.r
      have h3 := up_bd s.w
      obtain ⟨h4, h5, h6⟩ := h
      unfold opT
      repeat' split
      all_goals exact ⟨by assumption, by assumption, by assumption⟩
  obtain ⟨h1, h2, h3⟩ := h l ⟨b, b, b⟩ ⟨hb, hb, hb⟩
  exact T3.words h1 h2 h3

set_option maxHeartbeats 2000000 in
theorem walk_tfAlone (a0 a1 a2 : Int) (w : World) (h0 : (Lit.int .u32 a0).wf = true) (h1 : (Lit.int .u8 a1).wf = true) (h2 : (Lit.int .i64 a2).wf = true) :
    Calls Try.prog 3 #[.int .u32 a0, .int .u8 a1, .int .i64 a2] w fun e w' => e = .returned (.bool true) ∧ Only Nil w w' := by
  have HBD := Lib.hid (wf_u32 h0)
  obtain ⟨n0, n1⟩ := wf_u8 h1
  obtain ⟨k, hkk⟩ : ∃ k : Nat, 1 + a1 % 64 = (k : Int) := ⟨(1 + a1 % 64).toNat, by omega⟩
  have HK := Lib.hid (show 1 ≤ k ∧ k ≤ 64 by omega)
  have HKK := Lib.hid hkk
  have HLS := Lib.hid (lists_made w)
  have HO := Lib.hid ((((((((Only.refl Nil w).alloc (.cells #[.int .i64 1, .int .i64 2] 3)).alloc (.cells #[.int .i64 3, .int .i64 4] 3)).alloc (.cells #[.int .i64 5, .int .i64 2] 3)).alloc (.cells #[.int .i64 6, .int .i64 4] 3)).alloc (.cells #[.int .i64 3, .int .i64 8, .int .i64 2] 3)).alloc (.cells #[.int .i64 1, .int .i64 7, .int .i64 4] 3)).alloc (.cells #[.slice (some ⟨w.heap.size, 0, none⟩) 2 2, .slice (some ⟨w.heap.size + 1, 0, none⟩) 2 2, .slice (some ⟨w.heap.size + 1 + 1, 0, none⟩) 2 2, .slice (some ⟨w.heap.size + 1 + 1 + 1, 0, none⟩) 2 2, .slice (some ⟨w.heap.size + 1 + 1 + 1 + 1, 0, none⟩) 3 3, .slice (some ⟨w.heap.size + 1 + 1 + 1 + 1 + 1, 0, none⟩) 3 3] 23))
  clear h0 h1 h2 hkk
  go_enter Try.func3, Try.ntmps3
  go_upto_region 3 with (fail)
  rw [HKK.out]
  generalize (((((((w.alloc (.cells #[.int .i64 1, .int .i64 2] 3)).alloc (.cells #[.int .i64 3, .int .i64 4] 3)).alloc (.cells #[.int .i64 5, .int .i64 2] 3)).alloc (.cells #[.int .i64 6, .int .i64 4] 3)).alloc (.cells #[.int .i64 3, .int .i64 8, .int .i64 2] 3)).alloc (.cells #[.int .i64 1, .int .i64 7, .int .i64 4] 3)).alloc (.cells #[.slice (some ⟨w.heap.size, 0, none⟩) 2 2, .slice (some ⟨w.heap.size + 1, 0, none⟩) 2 2, .slice (some ⟨w.heap.size + 1 + 1, 0, none⟩) 2 2, .slice (some ⟨w.heap.size + 1 + 1 + 1, 0, none⟩) 2 2, .slice (some ⟨w.heap.size + 1 + 1 + 1 + 1, 0, none⟩) 3 3, .slice (some ⟨w.heap.size + 1 + 1 + 1 + 1 + 1, 0, none⟩) 3 3] 23)) = w1 at *
  generalize w.heap.size + 1 + 1 + 1 + 1 + 1 + 1 = gL at *
  clear HKK n0 n1
  have hk1 : (1 : Int) ≤ k := by have := HK.out; omega
  have hk2 : (k : Int) ≤ 64 := by have := HK.out; omega
  go_loopw [29] (fun iv wr => ∃ i : Nat, i ≤ 6 ∧ iv = .int .i64 i ∧ Only Nil w1 wr) (fun iv _ => 6 - (intOf iv).toNat)
  case atStart => exact ⟨0, Nat.zero_le _, rfl, Only.refl _ _⟩
  case round =>
    obtain ⟨i, hi, rfl, hOr⟩ := hrel
    have HOR := Lib.hid hOr
    clear hOr
    by_cases hlt : i < 6
    · obtain ⟨l, hl⟩ : ∃ l, opsT[i]? = some l := ⟨_, List.getElem?_eq_getElem (show i < opsT.length from hlt)⟩
      obtain ⟨g, hc1, hops⟩ := HLS.out i l hl
      have hc := cell_keep hc1 HOR.out
      clear hc1
      have HL := Lib.hid (List.mem_of_getElem? hl)
      have HOPS := Lib.hid hops
      clear hops hl
      generalize hlen : l.length = m at *
      have HLEN := Lib.hid hlen
      have hm9 : m ≤ 3 := by
        have h := HL.out
        simp only [opsT, List.mem_cons, List.not_mem_nil, or_false] at h
        rcases h with rfl | rfl | rfl | rfl | rfl | rfl <;> simp at hlen <;> omega
      clear hlen
      go_wp2_with fail
      clear hc
      refine (first_tf k a0 _ HK.out HBD.out).mono ?_
      rintro e w2 ⟨gf, rfl, hg, hH, hO⟩
      have HH := Lib.hid hH
      have HO2 := Lib.hid hO
      clear hg hH hO
      go_wp2_with fail
      refine (from_ok _ _ _ _ _ (by omega) HH.out).mono ?_
      rintro e w3 ⟨b, A', c', rfl, hb, hA, hM, hO⟩
      have HM0 : Hid (Made w1 b A' c' ((foldT (l.take 0) a0).xs k) w3) := Lib.hid ⟨hM, fun j hj => Nat.le_trans (HOR.out.trans HO2.out).size (hA j hj), (HOR.out.trans HO2.out).trans hO⟩
      clear hb hA hM hO HO2 HH
      go_wp2_with fail
      go_loopw [14] (fun jv wq => ∃ j : Nat, j ≤ m ∧ jv = .int .i64 j ∧ Made w1 b A' c' ((foldT (l.take j) a0).xs k) wq) (fun jv _ => m - (intOf jv).toNat)
      case atStart => exact ⟨0, Nat.zero_le _, rfl, HM0.out⟩
      case round =>
        obtain ⟨j, hj, rfl, hM⟩ := hrel
        clear HM0
        have HM := Lib.hid hM
        clear hM
        by_cases hjm : j < m
        · obtain ⟨op, hop⟩ : ∃ op, l[j]? = some op := ⟨_, List.getElem?_eq_getElem (by rw [HLEN.out]; exact hjm)⟩
          have c63 : wr.cell? ⟨g, j, none⟩ = some (.int .i64 op) := cell_keep (HOPS.out j op hop) HM.out.only
          have HAL := Lib.hid (alone_op (m := 20 + 4 * k) (mode := a2) HK.out (by omega) (ok_all HBD.out l HL.out j op hop))
          have HNX := Lib.hid (foldT_next (b := a0) hop)
          clear hop
          go_wp2_with fail
          clear c63
          rw [show (20 : Int) + 4 * (k : Int) = ((20 + 4 * k : Nat) : Int) by push_cast; rfl]
          refine (alone_any (some ⟨b, 0, none⟩) A' c' k a2 op (20 + 4 * k) _ _ (Memo.of HM.out.mem) (foldT_words HBD.out) (by omega)).mono ?_
          rw [HAL.out]
          rintro e w5 ⟨nv, rfl, hO, hM, _⟩
          have HM5 := Lib.hid (HM.out.call hO hM.mem)
          clear hO hM HM
          go_wp2
          go_roundw
          case rel => exact ⟨j + 1, by omega, by go_num, by rw [HNX.out]; exact HM5.out⟩
          case measure => simp [intOf]; omega
        · obtain rfl : j = m := by omega
          obtain ⟨x, hx, hxb⟩ := end_all HBD.out l HL.out
          have HXS := Lib.hid (show (foldT (l.take j) a0).xs k = (⟨x, x, x⟩ : T3).xs k by rw [← HLEN.out, List.take_length, hx])
          have HM4 : Hid (Made w1 b A' c' ((⟨x, x, x⟩ : T3).xs k) wr) := Lib.hid (by rw [← HXS.out]; exact HM.out)
          have HXB := Lib.hid hxb
          have hxb' : (x == a0) = false := beq_eq_false_iff_ne.2 hxb
          clear hx hxb HM
          go_wp2_with fail
          refine (load_any b A' c' _ 0 _ HM4.out.mem).mono ?_
          rw [show wordAt ((⟨x, x, x⟩ : T3).xs k) 0 = x from os3_0]
          rintro e w5 ⟨rfl, hO, hM⟩
          have HM5 := Lib.hid (HM4.out.call hO hM)
          clear hO hM HM4
          go_wp2_with fail
          refine (load_any b A' c' _ 1 _ HM5.out.mem).mono ?_
          rw [show wordAt ((⟨x, x, x⟩ : T3).xs k) 1 = x from os3_1]
          rintro e w6 ⟨rfl, hO, hM⟩
          have HM6 := Lib.hid (HM5.out.call hO hM)
          clear hO hM HM5
          go_wp2_with fail
          refine (load_any b A' c' _ 0 _ HM6.out.mem).mono ?_
          rw [show wordAt ((⟨x, x, x⟩ : T3).xs k) 0 = x from os3_0]
          rintro e w7 ⟨rfl, hO, hM⟩
          have HM7 := Lib.hid (HM6.out.call hO hM)
          clear hO hM HM6
          go_wp2_with fail
          refine (load_any b A' c' _ 2 _ HM7.out.mem).mono ?_
          rw [show wordAt ((⟨x, x, x⟩ : T3).xs k) 2 = x from os3_2]
          rintro e w8 ⟨rfl, hO, hM⟩
          have HM8 := Lib.hid (HM7.out.call hO hM)
          clear hO hM HM7
          go_wp2_with fail
          refine (load_any b A' c' _ 0 _ HM8.out.mem).mono ?_
          rw [show wordAt ((⟨x, x, x⟩ : T3).xs k) 0 = x from os3_0]
          rintro e w9 ⟨rfl, hO, hM⟩
          have HM9 := Lib.hid (HM8.out.call hO hM)
          clear hO hM HM8
          go_wp2
          go_roundw
          case rel => exact ⟨i + 1, by omega, by go_num, HM9.out.only⟩
          case measure => simp [intOf]; omega
    · obtain rfl : i = 6 := by omega
      go_wp2_with fail
      refine (awake_any _).mono ?_
      rintro e w9 ⟨rfl, hO⟩
      have HO9 := Lib.hid ((HO.out.trans HOR.out).trans hO)
      clear hO
      go_wp2
      go_ret
      exact ⟨rfl, HO9.out⟩
end Go.Proofs.Ytdmpaoajcnjbaaa
/- (*Memory).All. -/
set_option linter.unusedVariables false
set_option linter.unusedSimpArgs false
namespace Go.Proofs.Ytdmpaoajcnjbaaa
open Go.RowKit

theorem all_any (b : Nat) (A : Option Addr) (c : Nat) (xs : List Int) (w : World) (h : Mem w b A c xs) :
    Calls Try.prog 12 #[.pointer (some ⟨b, 0, none⟩)] w fun e w' => ∃ A' c', e = .returned (.slice A' xs.length c') ∧ Own w' w.heap.size A' c' xs ∧ Only Nil w w' := by
  have hl := h.len
  have hc : w.cell? ⟨b, 0, none⟩ = some (.slice A xs.length c) := h.hdr.cell_ (i := 0) rfl
  have HH := Lib.hid h
  clear h
  go_enter Try.func12, Try.ntmps12
  go_wp2_with (go_at_call 22; refine (clone_held A xs.length c xs _ (by omega) HH.out.own.held).mono ?_; rintro e w1 ⟨A', c', rfl, ho, hO⟩)
  have HO := Lib.hid ho
  have HW := Lib.hid hO
  clear ho hO
  go_ret
  exact ⟨A', c', rfl, HO.out, HW.out⟩

theorem all_nil (w : World) : Calls Try.prog 12 #[.pointer none] w fun e w' => e = .returned (.slice none 0 0) ∧ w' = w := by
  go_enter Try.func12, Try.ntmps12
  go_wp2
  go_ret
  exact ⟨rfl, rfl⟩

/-- The same, with the length by its own name. -/
theorem all_n (b : Nat) (A : Option Addr) (c n : Nat) (xs : List Int) (w : World) (h : Mem w b A c xs) (hn : xs.length = n) :
    Calls Try.prog 12 #[.pointer (some ⟨b, 0, none⟩)] w fun e w' => ∃ A' c', e = .returned (.slice A' n c') ∧ Own w' w.heap.size A' c' xs ∧ Only Nil w w' := by
  subst hn; exact all_any b A c xs w h
end Go.Proofs.Ytdmpaoajcnjbaaa
/- TfTries: the walk. -/
set_option linter.unusedVariables false
set_option linter.unusedSimpArgs false
namespace Go.Proofs.Ytdmpaoajcnjbaaa
open Go.RowKit

theorem tries_ok {k m : Nat} {mode b : Int} (hk : 1 ≤ k ∧ k ≤ 64) (hm : 2 * k + 8 ≤ m) (hb : 0 ≤ b ∧ b < 4294967296) :
    (aloneL LS.tf m (newR k mode 0 3 ((⟨b, b, b⟩ : T3).xs k)) = (2, (⟨up b, b, b⟩ : T3).xs k)) ∧ (aloneL LS.tf m (newR k mode 0 1 ((⟨b, b, b⟩ : T3).xs k)) = (2, (⟨up b, up b, b⟩ : T3).xs k)) ∧
    (aloneL LS.tf m (newR k mode 0 5 ((⟨up b, b, b⟩ : T3).xs k)) = (1, (⟨up b, b, b⟩ : T3).xs k)) ∧ (aloneL LS.tf m (newR k mode 0 6 ((⟨up b, b, b⟩ : T3).xs k)) = (1, (⟨up b, b, b⟩ : T3).xs k)) ∧
    (aloneL LS.tf m (newR k mode 0 6 ((⟨up b, up b, b⟩ : T3).xs k)) = (1, (⟨up b, up b, b⟩ : T3).xs k)) ∧ (aloneL LS.tf m (newR k mode 0 5 ((⟨up b, up b, b⟩ : T3).xs k)) = (2, (⟨up (up b), up (up b), b⟩ : T3).xs k)) := by
  have h1 : 0 < aheadI (up b) b := by rw [ahead_up hb]; decide
  exact ⟨alone_op (s := ⟨b, b, b⟩) hk hm (.inr (.inr (.inl ⟨rfl, rfl⟩))), alone_op (s := ⟨b, b, b⟩) hk hm (.inl ⟨rfl, rfl⟩), alone_r_no (s := ⟨up b, b, b⟩) hk hm h1, alone_w_no (s := ⟨up b, b, b⟩) hk hm h1, alone_w_no (s := ⟨up b, up b, b⟩) hk hm h1, alone_op (s := ⟨up b, up b, b⟩) hk hm (.inr (.inr (.inr (.inr (.inl ⟨rfl, rfl⟩)))))⟩

set_option maxRecDepth 100000 in
set_option maxHeartbeats 2000000 in
theorem walk_tfTries (a0 a1 a2 : Int) (w : World) (h0 : (Lit.int .u32 a0).wf = true) (h1 : (Lit.int .u8 a1).wf = true) (h2 : (Lit.int .i64 a2).wf = true) :
    Calls Try.prog 4 #[.int .u32 a0, .int .u8 a1, .int .i64 a2] w fun e w' => e = .returned (.bool true) ∧ Only Nil w w' := by
  have HBD := Lib.hid (wf_u32 h0)
  obtain ⟨n0, n1⟩ := wf_u8 h1
  obtain ⟨k, hkk⟩ : ∃ k : Nat, 1 + a1 % 64 = (k : Int) := ⟨(1 + a1 % 64).toNat, by omega⟩
  have HK := Lib.hid (show 1 ≤ k ∧ k ≤ 64 by omega)
  have HKK := Lib.hid hkk
  have HR := Lib.hid (Row.new w 38 #[.int .i64 3, .int .i64 5, .int .i64 1, .int .i64 3, .int .i64 6, .int .i64 1, .int .i64 1, .int .i64 6, .int .i64 1, .int .i64 1, .int .i64 5, .int .i64 2])
  have HO := Lib.hid ((Only.refl Nil w).alloc (.cells #[.int .i64 3, .int .i64 5, .int .i64 1, .int .i64 3, .int .i64 6, .int .i64 1, .int .i64 1, .int .i64 6, .int .i64 1, .int .i64 1, .int .i64 5, .int .i64 2] 38))
  clear h0 h1 h2 hkk
  go_enter Try.func4, Try.ntmps4
  go_upto_region 3 with (fail)
  rw [HKK.out]
  generalize w.alloc (.cells #[.int .i64 3, .int .i64 5, .int .i64 1, .int .i64 3, .int .i64 6, .int .i64 1, .int .i64 1, .int .i64 6, .int .i64 1, .int .i64 1, .int .i64 5, .int .i64 2] 38) = w1 at *
  generalize w.heap.size = gL at *
  clear HKK n0 n1
  have hk1 : (1 : Int) ≤ k := by have := HK.out; omega
  have hk2 : (k : Int) ≤ 64 := by have := HK.out; omega
  go_loopw [29] (fun iv wr => ∃ i : Nat, i ≤ 4 ∧ iv = .int .i64 i ∧ Only Nil w1 wr) (fun iv _ => 4 - (intOf iv).toNat)
  case atStart => exact ⟨0, Nat.zero_le _, rfl, Only.refl _ _⟩
  case round =>
    obtain ⟨i, hi, rfl, hOr⟩ := hrel
    have HOR := Lib.hid hOr
    clear hOr
    by_cases hlt : i < 4
    · have h4 : i = 0 ∨ i = 1 ∨ i = 2 ∨ i = 3 := by omega
      have HRR := Lib.hid (HR.out.only HOR.out id)
      have hbT := tries_ok (k := k) (m := 20 + 4 * k) (mode := a2) HK.out (by have := HK.out; omega) HBD.out
      obtain ⟨t1, t2, t3, t4, t5, t6⟩ := hbT
      have T1 := Lib.hid t1
      have T2 := Lib.hid t2
      have T3' := Lib.hid t3
      have T4 := Lib.hid t4
      have T5 := Lib.hid t5
      have T6 := Lib.hid t6
      clear t1 t2 t3 t4 t5 t6
      rcases h4 with rfl | rfl | rfl | rfl
      · have HT1 := T1
        have HT2 := T3'
        have HLN := Lib.hid (show ((⟨up a0, a0, a0⟩ : T3).xs k).length = 8 + 4 * k from clean_len os3_len)
        rw [show (((0 : Nat) : Int)) = 0 from rfl]
        have c0 : wr.cell? ⟨gL, 0, none⟩ = some (.int .i64 3) := HRR.out.cell_ (i := 0) rfl
        have c1 : wr.cell? ⟨gL, 1, none⟩ = some (.int .i64 5) := HRR.out.cell_ (i := 1) rfl
        have c2 : wr.cell? ⟨gL, 2, none⟩ = some (.int .i64 1) := HRR.out.cell_ (i := 2) rfl
        have HX0 := Lib.hid (Row.new wr 38 #[.int .i64 3, .int .i64 5, .int .i64 1])
        have HO0 := Lib.hid ((Only.refl Nil wr).alloc (.cells #[.int .i64 3, .int .i64 5, .int .i64 1] 38))
        go_upto_region 5 with (fail)
        clear c0 c1 c2
        generalize wr.alloc (.cells #[.int .i64 3, .int .i64 5, .int .i64 1] 38) = w2 at *
        generalize wr.heap.size = gx at *
        go_wp2_with fail
        refine (first_tf k a0 _ HK.out HBD.out).mono ?_
        rintro e w3 ⟨gf, rfl, hg, hH, hO⟩
        have HH := Lib.hid hH
        have HO3 := Lib.hid hO
        clear hg hH hO
        go_wp2_with fail
        refine (from_ok _ _ _ _ _ (by omega) HH.out).mono ?_
        rintro e w4 ⟨b, A', c', rfl, hb, hA, hM, hO⟩
        have HM0 : Hid (Made w2 b A' c' ((⟨a0, a0, a0⟩ : T3).xs k) w4) := Lib.hid ⟨hM, fun j hj => Nat.le_trans HO3.out.size (hA j hj), HO3.out.trans hO⟩
        clear hb hA hM hO HO3 HH
        have d0 : w4.cell? ⟨gx, 0, none⟩ = some (.int .i64 3) := (HX0.out.only HM0.out.only id).cell_ (i := 0) rfl
        go_wp2_with fail
        clear d0
        rw [show (20 : Int) + 4 * (k : Int) = ((20 + 4 * k : Nat) : Int) by push_cast; rfl]
        refine (alone_any (some ⟨b, 0, none⟩) A' c' k a2 3 (20 + 4 * k) _ _ (Memo.of HM0.out.mem) (T3.words HBD.out HBD.out HBD.out) (by omega)).mono ?_
        rw [show aloneL LS.tf (20 + 4 * k) (newR k a2 0 3 ((⟨a0, a0, a0⟩ : T3).xs k)) = (2, (⟨up a0, a0, a0⟩ : T3).xs k) from HT1.out]
        rintro e w5 ⟨nv, rfl, hO, hM, hW⟩
        have HM1 : Hid (Made w2 b A' c' ((⟨up a0, a0, a0⟩ : T3).xs k) w5) := Lib.hid (HM0.out.call hO hM.mem)
        have HW1 := Lib.hid hW
        clear hO hM hW HM0
        go_wp2_with fail
        refine (all_n b A' c' (8 + 4 * k) _ _ HM1.out.mem HLN.out).mono ?_
        rintro e w6 ⟨A9, c9, rfl, hOw, hO⟩
        have HMB : Hid (Made w2 b A' c' ((⟨up a0, a0, a0⟩ : T3).xs k) w6) := Lib.hid ⟨HM1.out.mem.only hO id (fun _ _ => id), HM1.out.new, HM1.out.only.trans hO⟩
        have HOW := Lib.hid hOw
        have HFAR := Lib.hid (show ∀ i, At A9 i → ¬ At A' i from fun i h1 h2 => by
          have := hOw.base i h1
          have := HM1.out.mem.own.lt i h2
          omega)
        clear hOw hO HM1
        have d1 : w6.cell? ⟨gx, 1, none⟩ = some (.int .i64 5) := (HX0.out.only HMB.out.only id).cell_ (i := 1) rfl
        go_wp2_with fail
        clear d1
        rw [show (20 : Int) + 4 * (k : Int) = ((20 + 4 * k : Nat) : Int) by push_cast; rfl]
        refine (alone_any (some ⟨b, 0, none⟩) A' c' k a2 5 (20 + 4 * k) _ _ (Memo.of HMB.out.mem) HW1.out (by omega)).mono ?_
        rw [show aloneL LS.tf (20 + 4 * k) (newR k a2 0 5 ((⟨up a0, a0, a0⟩ : T3).xs k)) = (1, (⟨up a0, a0, a0⟩ : T3).xs k) from HT2.out]
        rintro e w7 ⟨nv2, rfl, hO, hM, hW⟩
        have HM2 : Hid (Made w2 b A' c' ((⟨up a0, a0, a0⟩ : T3).xs k) w7) := Lib.hid (HMB.out.call hO hM.mem)
        have HOW2 := Lib.hid (HOW.out.only hO HFAR.out)
        clear hO hM hW HMB HOW HFAR
        have d2 : w7.cell? ⟨gx, 2, none⟩ = some (.int .i64 1) := (HX0.out.only HM2.out.only id).cell_ (i := 2) rfl
        go_wp2_with fail
        clear d2
        have d2 := True.intro
        refine (all_n b A' c' (8 + 4 * k) _ _ HM2.out.mem HLN.out).mono ?_
        rintro e w8 ⟨A8, c8, rfl, hOw, hO⟩
        have HM3 : Hid (Made w2 b A' c' ((⟨up a0, a0, a0⟩ : T3).xs k) w8) := Lib.hid ⟨HM2.out.mem.only hO id (fun _ _ => id), HM2.out.new, HM2.out.only.trans hO⟩
        have HOW8 := Lib.hid hOw
        have HOW3 := Lib.hid (HOW2.out.only hO (fun _ _ => id))
        clear hOw hO HM2 HOW2
        go_wp2_with fail
        refine (sameI_any A8 A9 (8 + 4 * k) (8 + 4 * k) c8 c9 _ _ _ HLN.out HLN.out HOW8.out.held.2.2 HOW3.out.held.2.2 (by omega)).mono ?_
        rw [decide_eq_true rfl]
        rintro e w9 ⟨rfl, hD⟩
        have HOF := Lib.hid ((HOR.out.trans HO0.out).trans (HM3.out.only.trans hD.only))
        clear hD
        go_wp2
        clear d2
        go_roundw
        case rel => exact ⟨0 + 1, by omega, rfl, HOF.out⟩
        case measure => simp [intOf]
      · have HT1 := T1
        have HT2 := T4
        have HLN := Lib.hid (show ((⟨up a0, a0, a0⟩ : T3).xs k).length = 8 + 4 * k from clean_len os3_len)
        rw [show (((1 : Nat) : Int)) = 1 from rfl]
        have c3 : wr.cell? ⟨gL, 3, none⟩ = some (.int .i64 3) := HRR.out.cell_ (i := 3) rfl
        have c4 : wr.cell? ⟨gL, 4, none⟩ = some (.int .i64 6) := HRR.out.cell_ (i := 4) rfl
        have c5 : wr.cell? ⟨gL, 5, none⟩ = some (.int .i64 1) := HRR.out.cell_ (i := 5) rfl
        have HX0 := Lib.hid (Row.new wr 38 #[.int .i64 3, .int .i64 6, .int .i64 1])
        have HO0 := Lib.hid ((Only.refl Nil wr).alloc (.cells #[.int .i64 3, .int .i64 6, .int .i64 1] 38))
        go_upto_region 5 with (fail)
        clear c3 c4 c5
        generalize wr.alloc (.cells #[.int .i64 3, .int .i64 6, .int .i64 1] 38) = w2 at *
        generalize wr.heap.size = gx at *
        go_wp2_with fail
        refine (first_tf k a0 _ HK.out HBD.out).mono ?_
        rintro e w3 ⟨gf, rfl, hg, hH, hO⟩
        have HH := Lib.hid hH
        have HO3 := Lib.hid hO
        clear hg hH hO
        go_wp2_with fail
        refine (from_ok _ _ _ _ _ (by omega) HH.out).mono ?_
        rintro e w4 ⟨b, A', c', rfl, hb, hA, hM, hO⟩
        have HM0 : Hid (Made w2 b A' c' ((⟨a0, a0, a0⟩ : T3).xs k) w4) := Lib.hid ⟨hM, fun j hj => Nat.le_trans HO3.out.size (hA j hj), HO3.out.trans hO⟩
        clear hb hA hM hO HO3 HH
        have d0 : w4.cell? ⟨gx, 0, none⟩ = some (.int .i64 3) := (HX0.out.only HM0.out.only id).cell_ (i := 0) rfl
        go_wp2_with fail
        clear d0
        rw [show (20 : Int) + 4 * (k : Int) = ((20 + 4 * k : Nat) : Int) by push_cast; rfl]
        refine (alone_any (some ⟨b, 0, none⟩) A' c' k a2 3 (20 + 4 * k) _ _ (Memo.of HM0.out.mem) (T3.words HBD.out HBD.out HBD.out) (by omega)).mono ?_
        rw [show aloneL LS.tf (20 + 4 * k) (newR k a2 0 3 ((⟨a0, a0, a0⟩ : T3).xs k)) = (2, (⟨up a0, a0, a0⟩ : T3).xs k) from HT1.out]
        rintro e w5 ⟨nv, rfl, hO, hM, hW⟩
        have HM1 : Hid (Made w2 b A' c' ((⟨up a0, a0, a0⟩ : T3).xs k) w5) := Lib.hid (HM0.out.call hO hM.mem)
        have HW1 := Lib.hid hW
        clear hO hM hW HM0
        go_wp2_with fail
        refine (all_n b A' c' (8 + 4 * k) _ _ HM1.out.mem HLN.out).mono ?_
        rintro e w6 ⟨A9, c9, rfl, hOw, hO⟩
        have HMB : Hid (Made w2 b A' c' ((⟨up a0, a0, a0⟩ : T3).xs k) w6) := Lib.hid ⟨HM1.out.mem.only hO id (fun _ _ => id), HM1.out.new, HM1.out.only.trans hO⟩
        have HOW := Lib.hid hOw
        have HFAR := Lib.hid (show ∀ i, At A9 i → ¬ At A' i from fun i h1 h2 => by
          have := hOw.base i h1
          have := HM1.out.mem.own.lt i h2
          omega)
        clear hOw hO HM1
        have d1 : w6.cell? ⟨gx, 1, none⟩ = some (.int .i64 6) := (HX0.out.only HMB.out.only id).cell_ (i := 1) rfl
        go_wp2_with fail
        clear d1
        rw [show (20 : Int) + 4 * (k : Int) = ((20 + 4 * k : Nat) : Int) by push_cast; rfl]
        refine (alone_any (some ⟨b, 0, none⟩) A' c' k a2 6 (20 + 4 * k) _ _ (Memo.of HMB.out.mem) HW1.out (by omega)).mono ?_
        rw [show aloneL LS.tf (20 + 4 * k) (newR k a2 0 6 ((⟨up a0, a0, a0⟩ : T3).xs k)) = (1, (⟨up a0, a0, a0⟩ : T3).xs k) from HT2.out]
        rintro e w7 ⟨nv2, rfl, hO, hM, hW⟩
        have HM2 : Hid (Made w2 b A' c' ((⟨up a0, a0, a0⟩ : T3).xs k) w7) := Lib.hid (HMB.out.call hO hM.mem)
        have HOW2 := Lib.hid (HOW.out.only hO HFAR.out)
        clear hO hM hW HMB HOW HFAR
        have d2 : w7.cell? ⟨gx, 2, none⟩ = some (.int .i64 1) := (HX0.out.only HM2.out.only id).cell_ (i := 2) rfl
        go_wp2_with fail
        clear d2
        have d2 := True.intro
        refine (all_n b A' c' (8 + 4 * k) _ _ HM2.out.mem HLN.out).mono ?_
        rintro e w8 ⟨A8, c8, rfl, hOw, hO⟩
        have HM3 : Hid (Made w2 b A' c' ((⟨up a0, a0, a0⟩ : T3).xs k) w8) := Lib.hid ⟨HM2.out.mem.only hO id (fun _ _ => id), HM2.out.new, HM2.out.only.trans hO⟩
        have HOW8 := Lib.hid hOw
        have HOW3 := Lib.hid (HOW2.out.only hO (fun _ _ => id))
        clear hOw hO HM2 HOW2
        go_wp2_with fail
        refine (sameI_any A8 A9 (8 + 4 * k) (8 + 4 * k) c8 c9 _ _ _ HLN.out HLN.out HOW8.out.held.2.2 HOW3.out.held.2.2 (by omega)).mono ?_
        rw [decide_eq_true rfl]
        rintro e w9 ⟨rfl, hD⟩
        have HOF := Lib.hid ((HOR.out.trans HO0.out).trans (HM3.out.only.trans hD.only))
        clear hD
        go_wp2
        clear d2
        go_roundw
        case rel => exact ⟨1 + 1, by omega, rfl, HOF.out⟩
        case measure => simp [intOf]
      · have HT1 := T2
        have HT2 := T5
        have HLN := Lib.hid (show ((⟨up a0, up a0, a0⟩ : T3).xs k).length = 8 + 4 * k from clean_len os3_len)
        rw [show (((2 : Nat) : Int)) = 2 from rfl]
        have c6 : wr.cell? ⟨gL, 6, none⟩ = some (.int .i64 1) := HRR.out.cell_ (i := 6) rfl
        have c7 : wr.cell? ⟨gL, 7, none⟩ = some (.int .i64 6) := HRR.out.cell_ (i := 7) rfl
        have c8 : wr.cell? ⟨gL, 8, none⟩ = some (.int .i64 1) := HRR.out.cell_ (i := 8) rfl
        have HX0 := Lib.hid (Row.new wr 38 #[.int .i64 1, .int .i64 6, .int .i64 1])
        have HO0 := Lib.hid ((Only.refl Nil wr).alloc (.cells #[.int .i64 1, .int .i64 6, .int .i64 1] 38))
        go_upto_region 5 with (fail)
        clear c6 c7 c8
        generalize wr.alloc (.cells #[.int .i64 1, .int .i64 6, .int .i64 1] 38) = w2 at *
        generalize wr.heap.size = gx at *
        go_wp2_with fail
        refine (first_tf k a0 _ HK.out HBD.out).mono ?_
        rintro e w3 ⟨gf, rfl, hg, hH, hO⟩
        have HH := Lib.hid hH
        have HO3 := Lib.hid hO
        clear hg hH hO
        go_wp2_with fail
        refine (from_ok _ _ _ _ _ (by omega) HH.out).mono ?_
        rintro e w4 ⟨b, A', c', rfl, hb, hA, hM, hO⟩
        have HM0 : Hid (Made w2 b A' c' ((⟨a0, a0, a0⟩ : T3).xs k) w4) := Lib.hid ⟨hM, fun j hj => Nat.le_trans HO3.out.size (hA j hj), HO3.out.trans hO⟩
        clear hb hA hM hO HO3 HH
        have d0 : w4.cell? ⟨gx, 0, none⟩ = some (.int .i64 1) := (HX0.out.only HM0.out.only id).cell_ (i := 0) rfl
        go_wp2_with fail
        clear d0
        rw [show (20 : Int) + 4 * (k : Int) = ((20 + 4 * k : Nat) : Int) by push_cast; rfl]
        refine (alone_any (some ⟨b, 0, none⟩) A' c' k a2 1 (20 + 4 * k) _ _ (Memo.of HM0.out.mem) (T3.words HBD.out HBD.out HBD.out) (by omega)).mono ?_
        rw [show aloneL LS.tf (20 + 4 * k) (newR k a2 0 1 ((⟨a0, a0, a0⟩ : T3).xs k)) = (2, (⟨up a0, up a0, a0⟩ : T3).xs k) from HT1.out]
        rintro e w5 ⟨nv, rfl, hO, hM, hW⟩
        have HM1 : Hid (Made w2 b A' c' ((⟨up a0, up a0, a0⟩ : T3).xs k) w5) := Lib.hid (HM0.out.call hO hM.mem)
        have HW1 := Lib.hid hW
        clear hO hM hW HM0
        go_wp2_with fail
        refine (all_n b A' c' (8 + 4 * k) _ _ HM1.out.mem HLN.out).mono ?_
        rintro e w6 ⟨A9, c9, rfl, hOw, hO⟩
        have HMB : Hid (Made w2 b A' c' ((⟨up a0, up a0, a0⟩ : T3).xs k) w6) := Lib.hid ⟨HM1.out.mem.only hO id (fun _ _ => id), HM1.out.new, HM1.out.only.trans hO⟩
        have HOW := Lib.hid hOw
        have HFAR := Lib.hid (show ∀ i, At A9 i → ¬ At A' i from fun i h1 h2 => by
          have := hOw.base i h1
          have := HM1.out.mem.own.lt i h2
          omega)
        clear hOw hO HM1
        have d1 : w6.cell? ⟨gx, 1, none⟩ = some (.int .i64 6) := (HX0.out.only HMB.out.only id).cell_ (i := 1) rfl
        go_wp2_with fail
        clear d1
        rw [show (20 : Int) + 4 * (k : Int) = ((20 + 4 * k : Nat) : Int) by push_cast; rfl]
        refine (alone_any (some ⟨b, 0, none⟩) A' c' k a2 6 (20 + 4 * k) _ _ (Memo.of HMB.out.mem) HW1.out (by omega)).mono ?_
        rw [show aloneL LS.tf (20 + 4 * k) (newR k a2 0 6 ((⟨up a0, up a0, a0⟩ : T3).xs k)) = (1, (⟨up a0, up a0, a0⟩ : T3).xs k) from HT2.out]
        rintro e w7 ⟨nv2, rfl, hO, hM, hW⟩
        have HM2 : Hid (Made w2 b A' c' ((⟨up a0, up a0, a0⟩ : T3).xs k) w7) := Lib.hid (HMB.out.call hO hM.mem)
        have HOW2 := Lib.hid (HOW.out.only hO HFAR.out)
        clear hO hM hW HMB HOW HFAR
        have d2 : w7.cell? ⟨gx, 2, none⟩ = some (.int .i64 1) := (HX0.out.only HM2.out.only id).cell_ (i := 2) rfl
        go_wp2_with fail
        clear d2
        have d2 := True.intro
        refine (all_n b A' c' (8 + 4 * k) _ _ HM2.out.mem HLN.out).mono ?_
        rintro e w8 ⟨A8, c8, rfl, hOw, hO⟩
        have HM3 : Hid (Made w2 b A' c' ((⟨up a0, up a0, a0⟩ : T3).xs k) w8) := Lib.hid ⟨HM2.out.mem.only hO id (fun _ _ => id), HM2.out.new, HM2.out.only.trans hO⟩
        have HOW8 := Lib.hid hOw
        have HOW3 := Lib.hid (HOW2.out.only hO (fun _ _ => id))
        clear hOw hO HM2 HOW2
        go_wp2_with fail
        refine (sameI_any A8 A9 (8 + 4 * k) (8 + 4 * k) c8 c9 _ _ _ HLN.out HLN.out HOW8.out.held.2.2 HOW3.out.held.2.2 (by omega)).mono ?_
        rw [decide_eq_true rfl]
        rintro e w9 ⟨rfl, hD⟩
        have HOF := Lib.hid ((HOR.out.trans HO0.out).trans (HM3.out.only.trans hD.only))
        clear hD
        go_wp2
        clear d2
        go_roundw
        case rel => exact ⟨2 + 1, by omega, rfl, HOF.out⟩
        case measure => simp [intOf]
      · have HT1 := T2
        have HT2 := T6
        have HLN := Lib.hid (show ((⟨up a0, up a0, a0⟩ : T3).xs k).length = 8 + 4 * k from clean_len os3_len)
        rw [show (((3 : Nat) : Int)) = 3 from rfl]
        have c9 : wr.cell? ⟨gL, 9, none⟩ = some (.int .i64 1) := HRR.out.cell_ (i := 9) rfl
        have c10 : wr.cell? ⟨gL, 10, none⟩ = some (.int .i64 5) := HRR.out.cell_ (i := 10) rfl
        have c11 : wr.cell? ⟨gL, 11, none⟩ = some (.int .i64 2) := HRR.out.cell_ (i := 11) rfl
        have HX0 := Lib.hid (Row.new wr 38 #[.int .i64 1, .int .i64 5, .int .i64 2])
        have HO0 := Lib.hid ((Only.refl Nil wr).alloc (.cells #[.int .i64 1, .int .i64 5, .int .i64 2] 38))
        go_upto_region 5 with (fail)
        clear c9 c10 c11
        generalize wr.alloc (.cells #[.int .i64 1, .int .i64 5, .int .i64 2] 38) = w2 at *
        generalize wr.heap.size = gx at *
        go_wp2_with fail
        refine (first_tf k a0 _ HK.out HBD.out).mono ?_
        rintro e w3 ⟨gf, rfl, hg, hH, hO⟩
        have HH := Lib.hid hH
        have HO3 := Lib.hid hO
        clear hg hH hO
        go_wp2_with fail
        refine (from_ok _ _ _ _ _ (by omega) HH.out).mono ?_
        rintro e w4 ⟨b, A', c', rfl, hb, hA, hM, hO⟩
        have HM0 : Hid (Made w2 b A' c' ((⟨a0, a0, a0⟩ : T3).xs k) w4) := Lib.hid ⟨hM, fun j hj => Nat.le_trans HO3.out.size (hA j hj), HO3.out.trans hO⟩
        clear hb hA hM hO HO3 HH
        have d0 : w4.cell? ⟨gx, 0, none⟩ = some (.int .i64 1) := (HX0.out.only HM0.out.only id).cell_ (i := 0) rfl
        go_wp2_with fail
        clear d0
        rw [show (20 : Int) + 4 * (k : Int) = ((20 + 4 * k : Nat) : Int) by push_cast; rfl]
        refine (alone_any (some ⟨b, 0, none⟩) A' c' k a2 1 (20 + 4 * k) _ _ (Memo.of HM0.out.mem) (T3.words HBD.out HBD.out HBD.out) (by omega)).mono ?_
        rw [show aloneL LS.tf (20 + 4 * k) (newR k a2 0 1 ((⟨a0, a0, a0⟩ : T3).xs k)) = (2, (⟨up a0, up a0, a0⟩ : T3).xs k) from HT1.out]
        rintro e w5 ⟨nv, rfl, hO, hM, hW⟩
        have HM1 : Hid (Made w2 b A' c' ((⟨up a0, up a0, a0⟩ : T3).xs k) w5) := Lib.hid (HM0.out.call hO hM.mem)
        have HW1 := Lib.hid hW
        clear hO hM hW HM0
        go_wp2_with fail
        refine (all_n b A' c' (8 + 4 * k) _ _ HM1.out.mem HLN.out).mono ?_
        rintro e w6 ⟨A9, c9, rfl, hOw, hO⟩
        have HMB : Hid (Made w2 b A' c' ((⟨up a0, up a0, a0⟩ : T3).xs k) w6) := Lib.hid ⟨HM1.out.mem.only hO id (fun _ _ => id), HM1.out.new, HM1.out.only.trans hO⟩
        have HOW := Lib.hid hOw
        have HFAR := Lib.hid (show ∀ i, At A9 i → ¬ At A' i from fun i h1 h2 => by
          have := hOw.base i h1
          have := HM1.out.mem.own.lt i h2
          omega)
        clear hOw hO HM1
        have d1 : w6.cell? ⟨gx, 1, none⟩ = some (.int .i64 5) := (HX0.out.only HMB.out.only id).cell_ (i := 1) rfl
        go_wp2_with fail
        clear d1
        rw [show (20 : Int) + 4 * (k : Int) = ((20 + 4 * k : Nat) : Int) by push_cast; rfl]
        refine (alone_any (some ⟨b, 0, none⟩) A' c' k a2 5 (20 + 4 * k) _ _ (Memo.of HMB.out.mem) HW1.out (by omega)).mono ?_
        rw [show aloneL LS.tf (20 + 4 * k) (newR k a2 0 5 ((⟨up a0, up a0, a0⟩ : T3).xs k)) = (2, (⟨up (up a0), up (up a0), a0⟩ : T3).xs k) from HT2.out]
        rintro e w7 ⟨nv2, rfl, hO, hM, hW⟩
        have HM2 : Hid (Made w2 b A' c' ((⟨up (up a0), up (up a0), a0⟩ : T3).xs k) w7) := Lib.hid (HMB.out.call hO hM.mem)
        have HOW2 := Lib.hid (HOW.out.only hO HFAR.out)
        clear hO hM hW HMB HOW HFAR
        have d2 : w7.cell? ⟨gx, 2, none⟩ = some (.int .i64 2) := (HX0.out.only HM2.out.only id).cell_ (i := 2) rfl
        have HOF := Lib.hid ((HOR.out.trans HO0.out).trans HM2.out.only)
        go_wp2
        clear d2
        go_roundw
        case rel => exact ⟨3 + 1, by omega, rfl, HOF.out⟩
        case measure => simp [intOf]
    · obtain rfl : i = 4 := by omega
      go_wp2_with fail
      refine (awake_any _).mono ?_
      rintro e w9 ⟨rfl, hO⟩
      have HO9 := Lib.hid ((HO.out.trans HOR.out).trans hO)
      clear hO
      go_wp2
      go_ret
      exact ⟨rfl, HO9.out⟩
end Go.Proofs.Ytdmpaoajcnjbaaa
/- Some tasks over one lock, in plain words: what a pick leaves. -/
set_option linter.unusedVariables false
set_option linter.unusedSimpArgs false
namespace Go.Proofs.Ytdmpaoajcnjbaaa
open Go.RowKit

def upd {α : Type} (f : Nat → α) (t : Nat) (v : α) : Nat → α := fun i => if i = t then v else f i
theorem upd_same {α : Type} (f : Nat → α) (t : Nat) (v : α) : upd f t v t = v := if_pos rfl
theorem upd_other {α : Type} (f : Nat → α) {t i : Nat} (v : α) (h : i ≠ t) : upd f t v i = f i := if_neg h

/-- The tasks' runs, what each holds, the words. -/
structure MV where
  rs : Nat → LS
  hold : Nat → Int
  xs : List Int
def MV.at (m : MV) (t : Nat) : LS := { m.rs t with xs := m.xs }
def MV.setR (m : MV) (t : Nat) (r : LS) : MV := ⟨upd m.rs t r, m.hold, r.xs⟩
def MV.setH (m : MV) (t : Nat) (h : Int) : MV := ⟨m.rs, upd m.hold t h, m.xs⟩
/-- A frame that begins op. -/
def zeroF (r : LS) (op : Int) : LS := { r with op := op, line := 0, a := 0, b := 0, s := 0, k := wk0, ret := 0 }
def mayI (op hold : Int) : Bool := if hold = 0 then (op == 1 || op == 3 || op == 5 || op == 6) else if hold = 1 then (op == 2 || op == 7) else (op == 4 || op == 8)
def fromI (op hold : Int) : Int := if op = 2 ∨ op = 4 then 0 else if op = 8 then 1 else hold
def behindI (op ret hold : Int) : Int := if ret ≠ 2 then hold else if op = 1 ∨ op = 5 then 1 else if op = 3 ∨ op = 6 ∨ op = 7 then 2 else hold
def MV.start (m : MV) (t : Nat) (op : Int) : MV := (m.setH t (fromI op (m.hold t))).setR t (zeroF (m.at t) op)
/-- A step of a task that is with an operation. -/
def MV.go (L : LS → LS) (m : MV) (t : Nat) : MV :=
  if (m.at t).stuck then m
  else if ((m.at t).next L).over then ((m.setR t ((m.at t).next L)).setH t (behindI ((m.at t).next L).op ((m.at t).next L).ret (m.hold t))).setR t (zeroF ((m.at t).next L) 0)
  else m.setR t ((m.at t).next L)
/-- A pick. -/
def playI (L : LS → LS) (m : MV) (t : Nat) (op : Int) : MV := if (m.at t).op = 0 then (if mayI op (m.hold t) then (m.start t op).go L t else m) else m.go L t
/-- Picks of a task while it is with an operation. -/
def whileI (L : LS → LS) (t : Nat) : Nat → MV → MV
  | 0, m => m
  | n + 1, m => if (m.at t).op = 0 then m else whileI L t n (playI L m t 0)
def wholeI (L : LS → LS) (m : MV) (t : Nat) (op : Int) : MV := whileI L t 200 (playI L m t op)
/-- How many hold so. -/
def manyI (m : MV) (what : Int) : Nat → Nat
  | 0 => 0
  | k + 1 => if m.hold k = what then manyI m what k + 1 else manyI m what k

section
variable {m : MV} {t i : Nat} {r : LS} {h : Int}
theorem at_setR : (m.setR t r).at t = r := by
  unfold MV.setR MV.at
  simp only [upd_same]
theorem at_setR_other (hi : i ≠ t) : (m.setR t r).at i = { m.rs i with xs := r.xs } := by
  unfold MV.setR MV.at
  simp only [upd_other m.rs r hi]
theorem at_setH : (m.setH t h).at i = m.at i := rfl
theorem at_start {op : Int} : (m.start t op).at t = zeroF (m.at t) op := at_setR
end
end Go.Proofs.Ytdmpaoajcnjbaaa
/- wait.Stuck. -/
set_option linter.unusedVariables false
set_option linter.unusedSimpArgs false
namespace Go.Proofs.Ytdmpaoajcnjbaaa
open Go.RowKit

theorem stuck_any (p A : Option Addr) (cp : Nat) (xs : List Int) (n mode i s : Int) (w : World) (h : Memo w p A cp xs) :
    Calls Try.prog 37 #[.pointer p, .agg #[.int .i64 n], .int .i64 mode, .int .i64 i, .agg #[.int .i64 s]] w fun e w' =>
      e = .returned (.bool (stuckB xs n mode i s)) ∧ Only (At A) w w' ∧ Memo w' p A cp xs := by
  have e0 := ((Only.refl (At A) w).alloc (Obj.cells #[Value.int IntKind.i64 n] 59)).alloc (Obj.cells #[Value.int IntKind.i64 s] 53)
  have e1 := ((Only.refl Nil w).alloc (Obj.cells #[Value.int IntKind.i64 n] 59)).alloc (Obj.cells #[Value.int IntKind.i64 s] 53)
  have HH := Lib.hid (h.keep e1)
  have HO := Lib.hid e0
  clear h e0 e1
  by_cases h2 : mode = 2
  · by_cases h3 : s = 3
    · have hs : stuckB xs n mode i s = !hasP xs n i := by rw [h2, h3]; rfl
      rw [hs]
      clear hs
      subst h2 h3
      go_enter Try.func37, Try.ntmps37
      go_wp2_with fail
      refine (has_any p A cp xs n i _ HH.out).mono ?_
      rintro e w2 ⟨rfl, hO, hM⟩
      have HS := Lib.hid (HO.out.trans hO)
      have HM := Lib.hid hM
      clear hO hM
      go_wp2
      go_ret
      exact ⟨rfl, HS.out, HM.out⟩
    · have hs : stuckB xs n mode i s = false := by unfold stuckB; rw [beq_eq_false_iff_ne.2 h3, Bool.and_false, Bool.false_and]
      rw [hs]
      clear hs
      subst h2
      have h3' := beq_eq_false_iff_ne.2 h3
      go_enter Try.func37, Try.ntmps37
      go_wp2
      go_ret
      exact ⟨rfl, HO.out, HH.out⟩
  · have hs : stuckB xs n mode i s = false := by unfold stuckB; rw [beq_eq_false_iff_ne.2 h2, Bool.false_and, Bool.false_and]
    rw [hs]
    clear hs
    have h2' := beq_eq_false_iff_ne.2 h2
    go_enter Try.func37, Try.ntmps37
    go_wp2
    go_ret
    exact ⟨rfl, HO.out, HH.out⟩
end Go.Proofs.Ytdmpaoajcnjbaaa
/- line.Stuck, the program's. -/
set_option linter.unusedVariables false
set_option linter.unusedSimpArgs false
namespace Go.Proofs.Ytdmpaoajcnjbaaa
open Go.RowKit

/-- line.Stuck, of a run's cells. -/
theorem stuckL_any (p A : Option Addr) (cp : Nat) (nv : Value) (r : LS) (w : World) (h : Memo w p A cp r.xs) :
    Calls Try.prog 28 #[.agg (r.cells (.pointer p) nv)] w fun e w' => e = .returned (.bool r.stuck) ∧ Only (At A) w w' ∧ Memo w' p A cp r.xs := by
  obtain ⟨n, mode, task, op, line, a, b, s, ⟨on, kc, ki, hit⟩, ret, ⟨ak, ac, ax, ay, ao⟩, ns, xs⟩ := r
  dsimp only [LS.cells, LS.stuck] at h ⊢
  have e0 := (Only.refl Nil w).alloc (.cells #[.pointer p, .int .i64 n, .int .i64 mode, .int .i64 task, .int .i64 op, .int .i64 line, .int .u32 a, .int .u32 b, .int .i64 s, .bool on, .int .i64 kc, .int .i64 ki, .bool hit, .int .i64 ret, .int .i64 ak, .int .i64 ac, .int .u32 ax, .int .u32 ay, .int .u32 ao, nv] 63)
  have HR := Lib.hid (Row.new w 63 #[.pointer p, .int .i64 n, .int .i64 mode, .int .i64 task, .int .i64 op, .int .i64 line, .int .u32 a, .int .u32 b, .int .i64 s, .bool on, .int .i64 kc, .int .i64 ki, .bool hit, .int .i64 ret, .int .i64 ak, .int .i64 ac, .int .u32 ax, .int .u32 ay, .int .u32 ao, nv])
  have HM := Lib.hid (h.keep e0)
  have HO := Lib.hid (e0.mono (T := At A) (fun _ _ h => h.elim))
  clear h e0
  cases on
  · go_enter Try.func28, Try.ntmps28
    go_upto_region 1 with (fail)
    generalize w.alloc (.cells #[.pointer p, .int .i64 n, .int .i64 mode, .int .i64 task, .int .i64 op, .int .i64 line, .int .u32 a, .int .u32 b, .int .i64 s, .bool false, .int .i64 kc, .int .i64 ki, .bool hit, .int .i64 ret, .int .i64 ak, .int .i64 ac, .int .u32 ax, .int .u32 ay, .int .u32 ao, nv] 63) = w1 at *
    generalize w.heap.size = g at *
    have a0 : w1.cell? ⟨g, 0, none⟩ = some (.pointer p) := HR.out.cell_ (i := 0) rfl
    have a1 : w1.cell? ⟨g, 1, none⟩ = some (.int .i64 n) := HR.out.cell_ (i := 1) rfl
    have a2 : w1.cell? ⟨g, 2, none⟩ = some (.int .i64 mode) := HR.out.cell_ (i := 2) rfl
    have a3 : w1.cell? ⟨g, 3, none⟩ = some (.int .i64 task) := HR.out.cell_ (i := 3) rfl
    have a8 : w1.cell? ⟨g, 8, none⟩ = some (.int .i64 s) := HR.out.cell_ (i := 8) rfl
    have a9 : w1.cell? ⟨g, 9, none⟩ = some (.bool false) := HR.out.cell_ (i := 9) rfl
    go_wp2_with fail
    clear a0 a1 a2 a3 a8 a9
    refine (stuck_any p A cp xs n mode task s _ HM.out).mono ?_
    rintro e w2 ⟨rfl, hO, hM⟩
    have HM2 := Lib.hid hM
    have HO2 := Lib.hid (HO.out.trans hO)
    clear hO hM
    go_wp2
    go_ret
    exact ⟨ret_bool (by rfl), HO2.out, HM2.out⟩
  · go_enter Try.func28, Try.ntmps28
    go_upto_region 1 with (fail)
    generalize w.alloc (.cells #[.pointer p, .int .i64 n, .int .i64 mode, .int .i64 task, .int .i64 op, .int .i64 line, .int .u32 a, .int .u32 b, .int .i64 s, .bool true, .int .i64 kc, .int .i64 ki, .bool hit, .int .i64 ret, .int .i64 ak, .int .i64 ac, .int .u32 ax, .int .u32 ay, .int .u32 ao, nv] 63) = w1 at *
    generalize w.heap.size = g at *
    have a9 : w1.cell? ⟨g, 9, none⟩ = some (.bool true) := HR.out.cell_ (i := 9) rfl
    go_wp2
    go_ret
    exact ⟨ret_bool (by rfl), HO.out, HM.out⟩
end Go.Proofs.Ytdmpaoajcnjbaaa
/- Some tasks over one lock, the law's. -/
set_option linter.unusedVariables false
set_option linter.unusedSimpArgs false
namespace Go.Proofs.Ytdmpaoajcnjbaaa
open Go.RowKit

/-- Some tasks over one lock: the match's block, the list of runs, the list of what is held; each run's block. -/
structure MatchP (L : List (Nat × TypeId × Array Value)) (w0 : World) (X GL GH : Nat) (B : Nat → Nat) (p A : Option Addr) (cp k : Nat) (m : MV) (W : World) : Prop where
  x : ∃ cl, Row W X 51 #[.slice (some ⟨GL, 0, none⟩) k cl, .slice (some ⟨GH, 0, none⟩) k k]
  l : ∃ cs, Row W GL 64 cs ∧ ∀ i, i < k → cs[i]? = some (.pointer (some ⟨B i, 0, none⟩))
  h : ∃ cs, Row W GH 3 cs ∧ ∀ i, i < k → cs[i]? = some (.int .i64 (m.hold i))
  run : ∀ i, i < k → ∃ nv, RunQ W (B i) p A cp nv (m.at i)
  inj : ∀ i j, i < k → j < k → B i = B j → i = j
  memo : Memo W p A cp m.xs
  words : Words m.xs
  only : Only Nil w0 W
  new : ∀ j, (j = GH ∨ At A j ∨ ∃ i, i < k ∧ j = B i) → w0.heap.size ≤ j
  side : RowsL W L
  sideT : ∀ x ∈ L, Aside x.2.1 ∧ x.2.1 ≠ 3

section
variable {L : List (Nat × TypeId × Array Value)} {w0 W W' : World} {X GL GH : Nat} {B : Nat → Nat} {p A : Option Addr} {cp k : Nat} {m : MV} {t : Nat} {r' : LS} {nv : Value} {v : Int}
theorem RunQ.aside {w w' : World} {b : Nat} {p A : Option Addr} {cp : Nat} {nv : Value} {r : LS} {g : Nat} {t : TypeId} {cs : Array Value} (h : RunQ w b p A cp nv r) (hg : Row w g t cs) (ho : Only (TurnB b A) w w') (ht : Aside t) : Row w' g t cs :=
  hg.only ho (fun e => by
    rcases e with e | e
    · exact row_ne hg h.row ht.1 e
    · exact memo_not h.memo hg ht.2.1 ht.2.2 (.inr e))
theorem aside_m : Aside 51 := ⟨by decide, by decide, by decide⟩
theorem aside_pp : Aside 64 := ⟨by decide, by decide, by decide⟩
theorem aside_ii : Aside 3 := ⟨by decide, by decide, by decide⟩

/-- A step of the run t. -/
theorem MatchP.ran (h : MatchP L w0 X GL GH B p A cp k m W) (ht : t < k) (ho : Only (TurnB (B t) A) W W') (hq : RunQ W' (B t) p A cp nv r') (hw : Words r'.xs) : MatchP L w0 X GL GH B p A cp k (m.setR t r') W' := by
  obtain ⟨nv0, q0⟩ := h.run t ht
  refine ⟨?_, ?_, ?_, fun i hi => ?_, h.inj, hq.memo, hw, h.only.step ho (fun j hj e => ?_), h.new, fun x hx => q0.aside (h.side x hx) ho (h.sideT x hx).1, h.sideT⟩
  · obtain ⟨cl, e⟩ := h.x
    exact ⟨cl, q0.aside e ho aside_m⟩
  · obtain ⟨cs, e, e2⟩ := h.l
    exact ⟨cs, q0.aside e ho aside_pp, e2⟩
  · obtain ⟨cs, e, e2⟩ := h.h
    exact ⟨cs, q0.aside e ho aside_ii, e2⟩
  · by_cases e : i = t
    · subst e
      rw [at_setR]
      exact ⟨nv, hq⟩
    · obtain ⟨nvi, qi⟩ := h.run i hi
      rw [at_setR_other e]
      refine ⟨nvi, qi.row.only ho (fun e2 => ?_), hq.memo⟩
      rcases e2 with e2 | e2
      · exact e (h.inj i t hi ht e2)
      · exact qi.far (.inr e2) rfl
  · have := h.new j (by rcases e with e | e; exact .inr (.inr ⟨t, ht, e⟩); exact .inr (.inl e))
    omega
theorem MatchP.same (h : MatchP L w0 X GL GH B p A cp k m W) (ho : Only (At A) W W') (hm : Memo W' p A cp m.xs) : MatchP L w0 X GL GH B p A cp k m W' := by
  refine ⟨?_, ?_, ?_, fun i hi => ?_, h.inj, hm, h.words, h.only.step ho (fun j hj e => ?_), h.new, fun x hx => (h.side x hx).only ho (fun e2 => memo_not h.memo (h.side x hx) (h.sideT x hx).1.2.1 (h.sideT x hx).1.2.2 (.inr e2)), h.sideT⟩
  · obtain ⟨cl, e⟩ := h.x
    exact ⟨cl, e.only ho (fun e2 => memo_not h.memo e aside_m.2.1 aside_m.2.2 (.inr e2))⟩
  · obtain ⟨cs, e, e2⟩ := h.l
    exact ⟨cs, e.only ho (fun e2 => memo_not h.memo e aside_pp.2.1 aside_pp.2.2 (.inr e2)), e2⟩
  · obtain ⟨cs, e, e2⟩ := h.h
    exact ⟨cs, e.only ho (fun e2 => memo_not h.memo e aside_ii.2.1 aside_ii.2.2 (.inr e2)), e2⟩
  · obtain ⟨nvi, qi⟩ := h.run i hi
    exact ⟨nvi, qi.row.only ho (fun e2 => qi.far (.inr e2) rfl), hm⟩
  · have := h.new j (.inr (.inl e))
    omega
theorem MatchP.keep (h : MatchP L w0 X GL GH B p A cp k m W) (ho : Only Nil W W') : MatchP L w0 X GL GH B p A cp k m W' := h.same (ho.mono (fun _ _ h => h.elim)) (h.memo.keep ho)
/-- What the task t holds is set. -/
theorem MatchP.held (h : MatchP L w0 X GL GH B p A cp k m W) (ht : t < k) (v : Int) : MatchP L w0 X GL GH B p A cp k (m.setH t v) (W.setCell ⟨GH, t, none⟩ (.int .i64 v)) := by
  obtain ⟨cs, hh, hc⟩ := h.h
  have ho := (Only.refl (· = GH) W).setCell (p := ⟨GH, t, none⟩) (.inr rfl) (.int .i64 v)
  have hsz : t < cs.size := by have := hc t ht; exact (Array.getElem?_eq_some_iff.1 this).1
  refine ⟨?_, ?_, ⟨_, hh.set t (.int .i64 v), fun i hi => ?_⟩, fun i hi => ?_, h.inj, h.memo.far ho (fun j hj e => ?_), h.words, h.only.setCell (.inl (h.new GH (.inl rfl))) _, h.new, fun x hx => (h.side x hx).only ho (fun e2 => row_ne (h.side x hx) hh (h.sideT x hx).2 e2), h.sideT⟩
  · obtain ⟨cl, e⟩ := h.x
    exact ⟨cl, e.only ho (fun e2 => row_ne e hh (by decide) e2)⟩
  · obtain ⟨cs', e, e2⟩ := h.l
    exact ⟨cs', e.only ho (fun e2 => row_ne e hh (by decide) e2), e2⟩
  · show (cs.setIfInBounds t _)[i]? = some (.int .i64 (upd m.hold t v i))
    by_cases e : i = t
    · subst e
      rw [upd_same, Array.getElem?_setIfInBounds_self]
      simp [hsz]
    · rw [upd_other _ _ e, Array.getElem?_setIfInBounds_ne (Ne.symm e)]
      exact hc i hi
  · obtain ⟨nvi, qi⟩ := h.run i hi
    exact ⟨nvi, qi.row.only ho (fun e2 => row_ne qi.row hh (by decide) e2), h.memo.far ho (fun j hj e => memo_not h.memo hh (by decide) (by decide) (by subst e; exact hj))⟩
  · exact memo_not h.memo hh (by decide) (by decide) (by subst e; exact hj)

/-- A block more beside it. -/
theorem MatchP.beside {g : Nat} {ty : TypeId} {cs : Array Value} (h : MatchP L w0 X GL GH B p A cp k m W) (hr : Row W g ty cs) (h1 : Aside ty) (h2 : ty ≠ 3) : MatchP ((g, ty, cs) :: L) w0 X GL GH B p A cp k m W :=
  ⟨h.x, h.l, h.h, h.run, h.inj, h.memo, h.words, h.only, h.new, h.side.cons hr, fun x hx => by
    rcases List.mem_cons.1 hx with rfl | hx
    · exact ⟨h1, h2⟩
    · exact h.sideT x hx⟩
/-- A frame that begins op, stored. -/
def frameW (W : World) (b : Nat) (op : Int) : World :=
  (((((((((W.setCell ⟨b, 4, none⟩ (.int .i64 op)).setCell ⟨b, 5, none⟩ (.int .i64 0)).setCell ⟨b, 6, none⟩ (.int .u32 0)).setCell ⟨b, 7, none⟩ (.int .u32 0)).setCell ⟨b, 8, none⟩ (.int .i64 0)).setCell ⟨b, 9, none⟩ (.bool false)).setCell ⟨b, 10, none⟩ (.int .i64 0)).setCell ⟨b, 11, none⟩ (.int .i64 0)).setCell ⟨b, 12, none⟩ (.bool false)).setCell ⟨b, 13, none⟩ (.int .i64 0)
theorem frame_only (W : World) (b : Nat) (op : Int) : Only (· = b) W (frameW W b op) :=
  (((((((((((Only.refl (· = b) W).setCell (p := ⟨b, 4, none⟩) (.inr rfl) _).setCell (p := ⟨b, 5, none⟩) (.inr rfl) _).setCell (p := ⟨b, 6, none⟩) (.inr rfl) _).setCell (p := ⟨b, 7, none⟩) (.inr rfl) _).setCell (p := ⟨b, 8, none⟩) (.inr rfl) _).setCell (p := ⟨b, 9, none⟩) (.inr rfl) _).setCell (p := ⟨b, 10, none⟩) (.inr rfl) _).setCell (p := ⟨b, 11, none⟩) (.inr rfl) _).setCell (p := ⟨b, 12, none⟩) (.inr rfl) _).setCell (p := ⟨b, 13, none⟩) (.inr rfl) _)
theorem frame_row {b : Nat} {r : LS} {hv nv : Value} {ty : TypeId} (h : Row W b ty (r.cells hv nv)) (op : Int) : Row (frameW W b op) b ty ((zeroF r op).cells hv nv) := by
  have e1 : Row (((((W.setCell ⟨b, 4, none⟩ (.int .i64 op)).setCell ⟨b, 5, none⟩ (.int .i64 0)).setCell ⟨b, 6, none⟩ (.int .u32 0)).setCell ⟨b, 7, none⟩ (.int .u32 0)).setCell ⟨b, 8, none⟩ (.int .i64 0)) b ty (({ r with op := op, line := 0, a := 0, b := 0, s := 0 } : LS).cells hv nv) :=
    ((((h.set 4 (.int .i64 op)).set 5 (.int .i64 0)).set 6 (.int .u32 0)).set 7 (.int .u32 0)).set 8 (.int .i64 0)
  have e2 := (set_wake_row e1 wk0).set 13 (.int .i64 0)
  exact e2
theorem MatchP.framed (h : MatchP L w0 X GL GH B p A cp k m W) (ht : t < k) (op : Int) : MatchP L w0 X GL GH B p A cp k (m.setR t (zeroF (m.at t) op)) (frameW W (B t) op) := by
  obtain ⟨nv, q⟩ := h.run t ht
  exact h.ran ht ((frame_only W (B t) op).mono (fun _ _ e => .inl e)) ⟨frame_row q.row op, h.memo.far (frame_only W (B t) op) (fun j hj => q.far hj)⟩ h.words
end
end Go.Proofs.Ytdmpaoajcnjbaaa
