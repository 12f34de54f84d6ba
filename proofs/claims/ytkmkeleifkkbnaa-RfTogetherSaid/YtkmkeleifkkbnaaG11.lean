import Derived.Laws.BitsAllLaws
import Derived.Laws.BitsLemmas
import Derived.Test.YtkmkeleifkkbnaaG10
import Derived.Test.YtkmkeleifkkbnaaG5
import Derived.Test.YtkmkeleifkkbnaaG8
import Derived.Test.YtkmkeleifkkbnaaG9
set_option linter.unusedVariables false
set_option linter.unusedSimpArgs false
namespace Go.Proofs.Ytkmkeleifkkbnaa
open Go.RowKit
def Clo (F : Nat) (B : Nat) (p A : Option Addr) (cp : Nat) (r' : LS) (w : World) (e : Ending) (w' : World) : Prop :=
  ∃ caps, e = .returned (.func (.func F) #[] caps) ∧ Only Nil w w' ∧ Calls Try.prog F caps w' (Done B p A cp w' (.tuple #[]) r')
def ClS (FS : List Nat) (B : Nat) (p A : Option Addr) (cp : Nat) (r r' : LS) (w : World) (e : Ending) (w' : World) : Prop :=
  (∃ F ∈ FS, ∃ caps, e = .returned (.func (.func F) #[] caps) ∧ Only Nil w w' ∧ Calls Try.prog F caps w' (Done B p A cp w' (.tuple #[]) r')) ∨ (e = .returned .nilFunc ∧ Only Nil w w' ∧ r' = r)
theorem aside_1 {g0 B : Nat} : ∀ x ∈ [(g0, 62, #[Value.pointer (some ⟨B, 0, none⟩)])], Aside x.2.1 := by
  intro x hx
  simp only [List.mem_cons, List.not_mem_nil, or_false] at hx
  rcases hx with rfl
  exact aside_p
set_option maxRecDepth 100000 in
theorem neq_nilC (w : World) : (binOp .neq 1 .nilFunc .nilFunc).run Try.prog w = .ok (.bool false) w := by
  first | rfl | kernel_rfl
set_option maxRecDepth 100000 in
theorem neq_fnC (f : Fn) (first cap : Array Value) (w : World) : (binOp .neq 1 (.func f first cap) .nilFunc).run Try.prog w = .ok (.bool true) w := by
  first | rfl | kernel_rfl
end Go.Proofs.Ytkmkeleifkkbnaa
set_option linter.unusedVariables false
set_option linter.unusedSimpArgs false
namespace Go.Proofs.Ytkmkeleifkkbnaa
open Go.RowKit
def Whats (B : Nat) (A : Option Addr) (w : World) (V : Value) (l : List Int) : Prop := ∃ (Z : Option Addr) (c : Nat), V = .slice Z l.length c ∧ ∀ w', Only (TurnB B A) w w' → ∀ i x, l[i]? = some x → ∃ b o, Z = some ⟨b, o, none⟩ ∧ w'.cell? ⟨b, o + i, none⟩ = some (.int .i64 x)
theorem Whats.move {B : Nat} {A : Option Addr} {w w' : World} {V : Value} {l : List Int} (h : Whats B A w V l) (ho : Only (TurnB B A) w w') : Whats B A w' V l := by
  obtain ⟨Z, c, e, h⟩ := h
  exact ⟨Z, c, e, fun w2 h2 => h w2 (ho.trans h2)⟩
theorem notes_len (l : List Int) : ∀ r : LS, (r.notes l).ns.length = r.ns.length + l.length := by
  induction l with
  | nil => intro r; rfl
  | cons x l ih =>
    intro r
    show ((r.note x 0).notes l).ns.length = _
    rw [ih]
    simp only [LS.note, List.length_append, List.length_cons, List.length_nil]
    omega
theorem notes_next {r : LS} {l : List Int} {k : Nat} {x : Int} (h : l[k]? = some x) : r.notes (l.take (k + 1)) = (r.notes (l.take k)).note x 0 := by
  unfold LS.notes
  rw [List.take_add_one, h, List.foldl_append]
  rfl
end Go.Proofs.Ytkmkeleifkkbnaa
set_option linter.unusedVariables false
set_option linter.unusedSimpArgs false
namespace Go.Proofs.Ytkmkeleifkkbnaa
open Go.RowKit
theorem whats_1 {B : Nat} {p A : Option Addr} {cp : Nat} {nv : Value} {r : LS} {w : World} (h : RunP w B p A cp nv r) (x : Int) : Whats B A (w.alloc (.cells #[.int .i64 x] 3)) (.slice (some ⟨w.heap.size, 0, none⟩) 1 1) [x] := by
  have h8 := h.keep ((Only.refl Nil w).alloc (.cells #[.int .i64 x] 3))
  have hr := Row.new w 3 #[.int .i64 x]
  exact ⟨_, _, rfl, fun w' ho i y hi => ⟨w.heap.size, 0, rfl, by
    match i, hi with
    | 0, hi => cases hi; exact (h8.aside hr ho aside_i).cell_ (i := 0) rfl
    | i + 1, hi => simp at hi⟩⟩
theorem whats_2 {B : Nat} {p A : Option Addr} {cp : Nat} {nv : Value} {r : LS} {w : World} (h : RunP w B p A cp nv r) (x z : Int) : Whats B A (w.alloc (.cells #[.int .i64 x, .int .i64 z] 3)) (.slice (some ⟨w.heap.size, 0, none⟩) 2 2) [x, z] := by
  have h8 := h.keep ((Only.refl Nil w).alloc (.cells #[.int .i64 x, .int .i64 z] 3))
  have hr := Row.new w 3 #[.int .i64 x, .int .i64 z]
  exact ⟨_, _, rfl, fun w' ho i y hi => ⟨w.heap.size, 0, rfl, by
    match i, hi with
    | 0, hi => cases hi; exact (h8.aside hr ho aside_i).cell_ (i := 0) rfl
    | 1, hi => cases hi; exact (h8.aside hr ho aside_i).cell_ (i := 1) rfl
    | i + 2, hi => simp at hi⟩⟩
end Go.Proofs.Ytkmkeleifkkbnaa
set_option linter.unusedVariables false
set_option linter.unusedSimpArgs false
namespace Go.Proofs.Ytkmkeleifkkbnaa
open Go.RowKit
theorem rf_aside_f : Aside 1 := ⟨by decide, by decide, by decide⟩
theorem rf_aside_w : Aside 99 := ⟨by decide, by decide, by decide⟩
theorem rf_aside_s : Aside 23 := ⟨by decide, by decide, by decide⟩
-- bit 16
theorem bit16 {v : Int} (h0 : 0 ≤ v) (h1 : v < 4294967296) : bits .and .u32 v 65536 = v / 65536 % 2 * 65536 := by
  obtain ⟨m, rfl⟩ := Int.eq_ofNat_of_zero_le h0
  have e : bits .and .u32 (m : Int) ((65536 : Nat) : Int) = ((m &&& 65536 : Nat) : Int) := u32_and_nat m 65536 (by omega) (by decide)
  rw [show ((65536 : Nat) : Int) = (65536 : Int) from rfl] at e
  rw [e]
  have e2 : m &&& 65536 = m / 65536 % 2 * 65536 := by
    apply Nat.eq_of_testBit_eq
    intro i
    rw [Nat.testBit_and, show (65536 : Nat) = 2 ^ 16 from rfl, Nat.testBit_two_pow, Nat.testBit_mul_two_pow]
    by_cases h : 16 = i
    · subst h
      simp [Nat.testBit_eq_decide_div_mod_eq]
    · by_cases h2 : 16 ≤ i
      · have h3 : ∃ j, i - 16 = j + 1 := ⟨i - 17, by omega⟩
        obtain ⟨j, h3⟩ := h3
        have h4 : m / 2 ^ 16 % 2 < 2 := Nat.mod_lt _ (by decide)
        have h5 : (m / 2 ^ 16 % 2).testBit (j + 1) = false := Nat.testBit_lt_two_pow (Nat.lt_of_lt_of_le h4 (by
          have := Nat.one_le_two_pow (n := j)
          rw [Nat.pow_succ]; omega))
        simp [h, h3, h5]
      · simp [h, h2]
  rw [e2]
  omega
theorem written_any (v : Int) (w : World) (h0 : 0 ≤ v) (h1 : v < 4294967296) : Calls Try.prog 48 #[.int .u32 v] w fun e w' => e = .returned (.bool (!outW v)) ∧ w = w' := by
  have hb := bit16 h0 h1
  have HQ := Lib.hid (show (!(v / 65536 % 2 * 65536 == 0)) = (!outW v) by
    unfold outW
    rcases Int.emod_two_eq (v / 65536) with e | e <;> rw [e] <;> rfl)
  clear h0 h1
  generalize (!outW v) = q at *
  generalize v / 65536 % 2 * 65536 = z at *
  go_enter Try.func48, Try.ntmps48
  go_wp2
  go_ret
  exact ⟨congrArg (fun x => Ending.returned (.bool x)) HQ.out, rfl⟩
def Asks (F : Nat) (q : Int → Bool) : Prop := ∀ (v : Int) (w : World), 0 ≤ v → v < 4294967296 → Calls Try.prog F #[.int .u32 v] w fun e w' => e = .returned (.bool (q v)) ∧ w = w'
def Enters1 (f : Nat) : Prop := ∀ (args : Array Value) (w : World), (callFunc f args).run Try.prog w = .ok (.enter f args) w
theorem asks_out : Asks 47 outW := by
  intro v w h0 h1
  have HT := Lib.hid (written_any v w h0 h1)
  clear h0 h1
  generalize outW v = q at *
  go_enter Try.func47, Try.ntmps47
  go_wp2_with fail
  refine HT.out.mono ?_
  rintro e w1 ⟨rfl, rfl⟩
  clear HT
  go_wp2
  go_ret
  exact ⟨rfl, rfl⟩
theorem asks_zero : Asks 51 (fun v => v == 0) := by
  intro v w h0 h1
  go_enter Try.func51, Try.ntmps51
  go_wp2
  go_ret
  exact ⟨rfl, rfl⟩
theorem asks_one : Asks 53 (fun v => v == 1) := by
  intro v w h0 h1
  go_enter Try.func53, Try.ntmps53
  go_wp2
  go_ret
  exact ⟨rfl, rfl⟩
theorem enters_s2 : Enters1 47 := fun args w => by simp [callFunc, go_sem, Try.func47, Try.f47]
theorem enters_s4 : Enters1 51 := fun args w => by simp [callFunc, go_sem, Try.func51, Try.f51]
theorem enters_s6 : Enters1 53 := fun args w => by simp [callFunc, go_sem, Try.func53, Try.f53]
theorem enters_s1 : Enters1 43 := fun args w => by simp [callFunc, go_sem, Try.func43, Try.f43]
theorem enters_s3 : Enters1 49 := fun args w => by simp [callFunc, go_sem, Try.func49, Try.f49]
theorem enters_s5 : Enters1 52 := fun args w => by simp [callFunc, go_sem, Try.func52, Try.f52]
theorem enters_s7 : Enters1 54 := fun args w => by simp [callFunc, go_sem, Try.func54, Try.f54]
theorem renter_any (B : Nat) (p A : Option Addr) (cp : Nat) (nv : Value) (r : LS) (cl : Int) (w : World) (h : RunP w B p A cp nv r) (hl : r.ns.length ≤ 900) : Calls Try.prog 50 #[Value.pointer (some ⟨B, 0, none⟩), .int .i64 cl] w (Done B p A cp w (.tuple #[]) ((r.note 2 cl).note 4 0)) := by
  have HP0 := Lib.hid h
  have HL := Lib.hid hl
  clear h hl
  go_enter Try.func50, Try.ntmps50
  go_wp2_with fail
  refine (note_run B p A cp nv r 2 cl _ HP0.out (Nat.le_trans HL.out (by decide))).mono ?_
  rintro e w1 ⟨rfl, hO, nv1, hP⟩
  have HO1 := Lib.hid hO
  have HP1 := Lib.hid hP
  clear hO hP HP0
  go_wp2_with fail
  refine (note_run B p A cp nv1 _ 4 0 _ HP1.out (by have := HL.out; simp only [LS.note, List.length_append, List.length_cons, List.length_nil]; omega)).mono ?_
  rintro e w4 ⟨rfl, hO, nv4, hP⟩
  have HO4 := Lib.hid (HO1.out.trans hO)
  have HP4 := Lib.hid hP
  clear hO hP
  go_wp2
  go_returns
  exact ⟨rfl, HO4.out, nv4, HP4.out⟩
-- what follows a claim
theorem rthen_1 (B : Nat) (p A : Option Addr) (cp : Nat) (nv : Value) (r : LS) (g0 : Nat) (w : World) (h : RunP w B p A cp nv r) (hl : r.ns.length ≤ 900) (hb : Row w g0 62 #[Value.pointer (some ⟨B, 0, none⟩)]) : Calls Try.prog 43 #[.pointer (some ⟨g0, 0, none⟩)] w (Done B p A cp w (.tuple #[]) (r.note 4 0)) := by
  have HP0 := Lib.hid h
  have HL := Lib.hid hl
  have b0 : w.cell? ⟨g0, 0, none⟩ = some (Value.pointer (some ⟨B, 0, none⟩)) := hb.one
  have HO0 := Lib.hid (Only.refl (TurnB B A) w)
  clear h hl hb
  go_enter Try.func43, Try.ntmps43
  go_wp2_with fail
  clear b0
  refine (note_run B p A cp nv _ 4 0 _ HP0.out (Nat.le_trans HL.out (by decide))).mono ?_
  rintro e w4 ⟨rfl, hO, nv4, hP⟩
  have HO4 := Lib.hid (HO0.out.trans hO)
  have HP4 := Lib.hid hP
  clear hO hP
  go_wp2
  go_returns
  exact ⟨rfl, HO4.out, nv4, HP4.out⟩
theorem rthen_3 (B : Nat) (p A : Option Addr) (cp : Nat) (nv : Value) (r : LS) (g0 : Nat) (w : World) (h : RunP w B p A cp nv r) (hl : r.ns.length ≤ 900) (hb : Row w g0 62 #[Value.pointer (some ⟨B, 0, none⟩)]) : Calls Try.prog 49 #[.pointer (some ⟨g0, 0, none⟩)] w (Done B p A cp w (.tuple #[]) ((r.note 2 1).note 4 0)) := by
  have HP0 := Lib.hid h
  have HL := Lib.hid hl
  have b0 : w.cell? ⟨g0, 0, none⟩ = some (Value.pointer (some ⟨B, 0, none⟩)) := hb.one
  have HO0 := Lib.hid (Only.refl (TurnB B A) w)
  clear h hl hb
  go_enter Try.func49, Try.ntmps49
  go_wp2_with fail
  clear b0
  refine (renter_any B p A cp nv r 1 _ HP0.out HL.out).mono ?_
  rintro e w4 ⟨rfl, hO, nv4, hP⟩
  have HO4 := Lib.hid (HO0.out.trans hO)
  have HP4 := Lib.hid hP
  clear hO hP
  go_wp2
  go_returns
  exact ⟨rfl, HO4.out, nv4, HP4.out⟩
theorem rthen_5 (B : Nat) (p A : Option Addr) (cp : Nat) (nv : Value) (r : LS) (g0 : Nat) (w : World) (h : RunP w B p A cp nv r) (hl : r.ns.length ≤ 900) (hb : Row w g0 62 #[Value.pointer (some ⟨B, 0, none⟩)]) : Calls Try.prog 52 #[.pointer (some ⟨g0, 0, none⟩)] w (Done B p A cp w (.tuple #[]) ((r.note 2 2).note 4 0)) := by
  have HP0 := Lib.hid h
  have HL := Lib.hid hl
  have b0 : w.cell? ⟨g0, 0, none⟩ = some (Value.pointer (some ⟨B, 0, none⟩)) := hb.one
  have HO0 := Lib.hid (Only.refl (TurnB B A) w)
  clear h hl hb
  go_enter Try.func52, Try.ntmps52
  go_wp2_with fail
  clear b0
  refine (renter_any B p A cp nv r 2 _ HP0.out HL.out).mono ?_
  rintro e w4 ⟨rfl, hO, nv4, hP⟩
  have HO4 := Lib.hid (HO0.out.trans hO)
  have HP4 := Lib.hid hP
  clear hO hP
  go_wp2
  go_returns
  exact ⟨rfl, HO4.out, nv4, HP4.out⟩
theorem rthen_7 (B : Nat) (p A : Option Addr) (cp : Nat) (nv : Value) (r : LS) (g0 : Nat) (w : World) (h : RunP w B p A cp nv r) (hl : r.ns.length ≤ 900) (hb : Row w g0 62 #[Value.pointer (some ⟨B, 0, none⟩)]) : Calls Try.prog 54 #[.pointer (some ⟨g0, 0, none⟩)] w (Done B p A cp w (.tuple #[]) (r.note 9 0)) := by
  have HP0 := Lib.hid h
  have HL := Lib.hid hl
  have b0 : w.cell? ⟨g0, 0, none⟩ = some (Value.pointer (some ⟨B, 0, none⟩)) := hb.one
  have HO0 := Lib.hid (Only.refl (TurnB B A) w)
  clear h hl hb
  go_enter Try.func54, Try.ntmps54
  go_wp2_with fail
  clear b0
  refine (note_run B p A cp nv _ 9 0 _ HP0.out (Nat.le_trans HL.out (by decide))).mono ?_
  rintro e w4 ⟨rfl, hO, nv4, hP⟩
  have HO4 := Lib.hid (HO0.out.trans hO)
  have HP4 := Lib.hid hP
  clear hO hP
  go_wp2
  go_returns
  exact ⟨rfl, HO4.out, nv4, HP4.out⟩
-- adding, and notes with it
def LS.fChange (r : LS) (x : Int) (l : List Int) : LS := (((r.doA 3 0 x 0).notes l).wake 0).fin true
theorem rf_aside_ch {g0 B g1 : Nat} {v : Value} : ∀ y ∈ [(g0, 62, #[Value.pointer (some ⟨B, 0, none⟩)]), (g1, 23, #[v])], Aside y.2.1 := by
  intro x hx
  simp only [List.mem_cons, List.not_mem_nil, or_false] at hx
  rcases hx with rfl | rfl
  · exact aside_p
  · exact rf_aside_s
set_option maxHeartbeats 1000000 in
theorem rchange_clo (B : Nat) (p A : Option Addr) (cp : Nat) (nv : Value) (r : LS) (x : Int) (V : Value) (l : List Int) (g0 g1 g2 : Nat) (w : World) (h : RunP w B p A cp nv r) (hl : r.ns.length ≤ 900) (hw : Whats B A w V l) (hm9 : l.length ≤ 90) (h1 : Row w g1 22 #[.int .u32 x]) (hb : RowsL w [(g0, 62, #[Value.pointer (some ⟨B, 0, none⟩)]), (g2, 23, #[V])]) :
    Calls Try.prog 66 #[.pointer (some ⟨g0, 0, none⟩), .pointer (some ⟨g1, 0, none⟩), .pointer (some ⟨g2, 0, none⟩)] w (Done B p A cp w (.tuple #[]) (r.fChange x l)) := by
  have b1 : w.cell? ⟨g1, 0, none⟩ = some (.int .u32 x) := h1.one
  clear h1
  have HW := Lib.hid hw
  have HM9 := Lib.hid hm9
  obtain ⟨r1, hr1⟩ : ∃ r1, r.doA 3 0 x 0 = r1 := ⟨_, rfl⟩
  rw [show r.fChange x l = ((r1.notes l).wake 0).fin true by rw [← hr1]; rfl]
  have HR1 := Lib.hid (show r1.ns.length ≤ 900 by rw [← hr1]; exact hl)
  have HR2 := Lib.hid hr1
  clear hw hm9 hr1
  have HP0 := Lib.hid h
  have HB0 := Lib.hid hb
  have HL := Lib.hid hl
  have HO0 := Lib.hid (Only.refl (TurnB B A) w)
  clear h hb hl
  have b0 := HB0.out.c0
  go_enter Try.func66, Try.ntmps66
  go_wp2_with fail
  clear b0 b1
  refine (add_run B p A cp nv r 0 x _ HP0.out).mono ?_
  rw [HR2.out]
  clear HR2
  rintro e w1 ⟨rfl, hO, nv1, hP⟩
  have HO1 := Lib.hid (HO0.out.trans hO)
  have HB1 := Lib.hid (HB0.out.turn HP0.out hO rf_aside_ch)
  have HP1 := Lib.hid hP
  clear hO hP HP0 HO0 HB0
  obtain ⟨Z, c, rfl, hz⟩ := HW.out
  generalize hm : l.length = m at *
  have HM := Lib.hid hm
  have HZ := Lib.hid hz
  have H0 : Hid (Only (TurnB B A) w w1 ∧ RowsL w1 [(g0, 62, #[Value.pointer (some ⟨B, 0, none⟩)]), (g2, 23, #[.slice Z m c])] ∧ ∃ nv, RunP w1 B p A cp nv (r1.notes (l.take 0))) := Lib.hid ⟨HO1.out, HB1.out, nv1, HP1.out⟩
  have b2 := HB1.out.c1
  clear HP1 HO1 HB1 HW hz hm
  go_wp2
  clear b2
  go_loopw [10] (fun iv wr => ∃ k : Nat, k ≤ m ∧ iv = .int .i64 k ∧ Hid (Only (TurnB B A) w wr ∧ RowsL wr [(g0, 62, #[Value.pointer (some ⟨B, 0, none⟩)]), (g2, 23, #[.slice Z m c])] ∧ ∃ nv, RunP wr B p A cp nv (r1.notes (l.take k)))) (fun iv _ => m - (intOf iv).toNat)
  case atStart => exact ⟨0, Nat.zero_le _, rfl, H0⟩
  case round =>
    obtain ⟨k, hk, rfl, HC⟩ := hrel
    clear H0
    have hm9 : m ≤ 90 := HM9.out
    by_cases hlt : k < m
    · obtain ⟨y, hy⟩ : ∃ y, l[k]? = some y := ⟨_, List.getElem?_eq_getElem (by rw [HM.out]; exact hlt)⟩
      obtain ⟨hO, hB, nv2, hP⟩ := HC.out
      obtain ⟨b, o, rfl, hc⟩ := HZ.out _ hO k y hy
      have HP := Lib.hid hP
      have HO := Lib.hid hO
      have HB := Lib.hid hB
      have HN := Lib.hid (notes_next (r := r1) hy)
      have HNL := Lib.hid (show (r1.notes (l.take k)).ns.length ≤ 1000 by rw [notes_len, List.length_take]; have := HR1.out; omega)
      clear HC hO hP hy hB
      have b0 := HB.out.c0
      go_wp2_with fail
      clear hc b0
      refine (note_run B p A cp nv2 _ y 0 _ HP.out HNL.out).mono ?_
      rintro e w2 ⟨rfl, hO, nv3, hP⟩
      have HC2 : Hid (Only (TurnB B A) w w2 ∧ RowsL w2 [(g0, 62, #[Value.pointer (some ⟨B, 0, none⟩)]), (g2, 23, #[.slice (some ⟨b, o, none⟩) m c])] ∧ ∃ nv, RunP w2 B p A cp nv (r1.notes (l.take (k + 1)))) := Lib.hid ⟨HO.out.trans hO, HB.out.turn HP.out hO rf_aside_ch, nv3, by rw [HN.out]; exact hP⟩
      clear hO hP HP HO HB
      go_wp2
      go_roundw
      case rel => exact ⟨k + 1, by omega, by go_num, HC2⟩
      case measure => simp [intOf]; omega
    · obtain rfl : k = m := by omega
      have HE : Hid (Only (TurnB B A) w wr ∧ RowsL wr [(g0, 62, #[Value.pointer (some ⟨B, 0, none⟩)]), (g2, 23, #[.slice Z k c])] ∧ ∃ nv, RunP wr B p A cp nv (r1.notes l)) := Lib.hid (by rw [show l = l.take k by rw [← HM.out, List.take_length]]; exact HC.out)
      clear HC
      obtain ⟨hO, hB, nv2, hP⟩ := HE.out
      have HO2 := Lib.hid hO
      have HB2 := Lib.hid hB
      have HP2 := Lib.hid hP
      clear HE hO hB hP
      have b0 := HB2.out.c0
      go_wp2_with fail
      clear b0
      refine (wake_run B p A cp nv2 _ 0 _ HP2.out).mono ?_
      rintro e w3 ⟨rfl, hO, nv3, hP⟩
      have HO3 := Lib.hid (HO2.out.trans hO)
      have HB3 := Lib.hid (HB2.out.turn HP2.out hO rf_aside_ch)
      have HP3 := Lib.hid hP
      clear hO hP HP2 HO2 HB2
      have b0 := HB3.out.c0
      go_wp2_with fail
      clear b0
      refine (end_run B p A cp nv3 _ _ true HP3.out).mono ?_
      rintro e w4 ⟨rfl, hO, nv4, hP⟩
      have HO4 := Lib.hid (HO3.out.trans hO)
      have HP4 := Lib.hid hP
      clear hO hP
      go_wp2
      go_returns
      exact ⟨rfl, HO4.out, nv4, HP4.out⟩
theorem rchange_make (B : Nat) (p A : Option Addr) (cp : Nat) (nv : Value) (r : LS) (x : Int) (V : Value) (l : List Int) (w : World) (h : RunP w B p A cp nv r) (hl : r.ns.length ≤ 900) (hw : Whats B A w V l) (hm : l.length ≤ 90) :
    Calls Try.prog 40 #[Value.pointer (some ⟨B, 0, none⟩), .int .u32 x, V] w (Clo 66 B p A cp (r.fChange x l) w) := by
  have e0 := (((Only.refl Nil w).alloc (.cells #[Value.pointer (some ⟨B, 0, none⟩)] 62)).alloc (.cells #[.int .u32 x] 22)).alloc (.cells #[V] 23)
  have r0 := (((Row.new w 62 #[Value.pointer (some ⟨B, 0, none⟩)]).alloc (.cells #[.int .u32 x] 22)).alloc (.cells #[V] 23))
  have HC := Lib.hid (rchange_clo B p A cp nv r x V l w.heap.size (w.heap.size + 1) (w.heap.size + 1 + 1) _ (h.keep e0) hl (hw.move (e0.mono (fun _ _ h => h.elim))) hm ((Row.at (by simp)).alloc _)
    (RowsL.cons (L := [_]) (RowsL.cons (L := []) (fun _ h => by simp at h) (Row.at (by simp))) r0))
  have HE := Lib.hid e0
  obtain ⟨VA, vc, rfl, _⟩ := hw
  clear h hl e0 r0 hm
  go_enter Try.func40, Try.ntmps40
  go_wp2
  go_ret
  exact ⟨_, rfl, HE.out, HC.out⟩
-- what is kept of an access
set_option maxHeartbeats 1000000 in
theorem rcin_clo (B : Nat) (p A : Option Addr) (cp : Nat) (nv : Value) (r : LS) (g0 : Nat) (w : World) (h : RunP w B p A cp nv r) (hl : r.ns.length ≤ 900) (hx : Words r.xs) (hb : RowsL w [(g0, 62, #[Value.pointer (some ⟨B, 0, none⟩)])]) :
    Calls Try.prog 59 #[.pointer (some ⟨g0, 0, none⟩)] w (Done B p A cp w (.tuple #[]) r.fCome) := by
  have HV := Lib.hid (show 0 ≤ wordAt r.xs 0 ∧ wordAt r.xs 0 < 4294967296 from word_wf hx 0)
  clear hx
  obtain ⟨r1, hr1⟩ : ∃ r1, (r.doA 3 0 1 0).keepA (wordAt r.xs 0) = r1 := ⟨_, rfl⟩
  have HR1 := Lib.hid hr1
  have HL1 := Lib.hid (show r1.ns.length ≤ 900 by rw [← hr1]; exact hl)
  have HA1 := Lib.hid (show r1.a = wordAt r.xs 0 by rw [← hr1]; rfl)
  obtain ⟨RR, hRR⟩ : ∃ RR, r.fCome = RR := ⟨_, rfl⟩
  rw [hRR]
  unfold LS.fCome at hRR
  rw [hr1] at hRR
  have HRR := Lib.hid hRR
  clear hRR hr1
  have HP0 := Lib.hid h
  have HB0 := Lib.hid hb
  have HL := Lib.hid hl
  have HO0 := Lib.hid (Only.refl (TurnB B A) w)
  clear h hb hl
  have b0 := HB0.out.c0
  go_enter Try.func59, Try.ntmps59
  go_upto_region 0 with (fail)
  refine wp_region_phase (n := 7) 6 (fun w => w.cell? ⟨g0, 0, none⟩ = some (Value.pointer (some ⟨B, 0, none⟩))) rfl (by kernel_rfl) b0 (fun hHeld => ?_)
  clear b0
  have HP0b := Lib.hid (HP0.out.keep (Only.refl Nil w).drew)
  have HB0b := Lib.hid (HB0.out.keep (Only.refl Nil w).drew)
  have HO0b := Lib.hid HO0.out.drew
  clear HP0 HB0 HO0
  generalize w.drew = w0 at *
  refine zt 0 rfl ?_
  refine zt 1 rfl ?_
  refine mpc 2 rfl (by kernel_rfl) (by rfl) (fun K hK => ?_)
  go_simp
  refine (add_run B p A cp nv r 0 1 _ HP0b.out).mono ?_
  rintro e w1 ⟨rfl, hO, nv1, hP⟩
  have HO1 := Lib.hid (HO0b.out.trans hO)
  have HB1 := Lib.hid (HB0b.out.turn HP0b.out hO aside_1)
  have HP1 := Lib.hid hP
  clear hO hP HP0b HO0b HB0b
  have hHeld2 := HB1.out.c0
  refine hK.out _ _ (.inr hHeld2) ?_
  clear hK K hHeld
  refine za 3 rfl ?_
  refine za 4 rfl ?_
  refine za 5 rfl ?_
  have c6 : w1.cell? ⟨B, 6, none⟩ = some (.int .u32 (r.doA 3 0 1 0).a) := HP1.out.row.cell_ (i := 6) rfl
  have f6 : w1.frozen? ⟨B, 6, none⟩ = false := HP1.out.row.frozen 6
  refine mpc 6 rfl (by kernel_rfl) (by rfl) (fun K hK => ?_)
  go_simp
  have HP2 := Lib.hid (HP1.out.setA (wordAt r.xs 0))
  have HO2 := Lib.hid (HO1.out.setCell (p := ⟨B, 6, none⟩) (.inr (.inl rfl)) (.int .u32 (wordAt r.xs 0)))
  have HB2 := Lib.hid (HB1.out.turn HP1.out ((Only.refl (TurnB B A) w1).setCell (p := ⟨B, 6, none⟩) (.inr (.inl rfl)) (.int .u32 (wordAt r.xs 0))) aside_1)
  refine hK.out _ _ (.inl (by kernel_rfl)) ?_
  clear hK K hHeld2 c6 f6 HP1 HO1 HB1
  generalize w1.setCell ⟨B, 6, none⟩ (.int .u32 (wordAt r.xs 0)) = w2 at *
  refine wpAnyP_done (by kernel_rfl) ?_ _
  have b0 := HB2.out.c0
  rw [HR1.out] at HP2
  have c6 : w2.cell? ⟨B, 6, none⟩ = some (.int .u32 (wordAt r.xs 0)) := by rw [← HA1.out]; exact HP2.out.row.cell_ (i := 6) rfl
  go_wp2_with fail
  clear b0 c6
  refine (written_any _ _ HV.out.1 HV.out.2).mono ?_
  rintro e w3 ⟨rfl, rfl⟩
  obtain ⟨q, hq⟩ : ∃ q, outW (wordAt r.xs 0) = q := ⟨_, rfl⟩
  rw [hq] at HRR ⊢
  clear hq
  have b0 := HB2.out.c0
  cases q
  · have eR := HRR.out
    rw [if_neg Bool.false_ne_true] at eR
    subst eR
    dsimp only [Bool.not_false]
    go_wp2_with fail
    clear b0
    refine (note_run B p A cp nv1 _ 2 1 _ HP2.out (Nat.le_trans HL1.out (by decide))).mono ?_
    rintro e w3 ⟨rfl, hO, nv3, hP⟩
    have HO3 := Lib.hid (HO2.out.trans hO)
    have HB3 := Lib.hid (HB2.out.turn HP2.out hO aside_1)
    have HP3 := Lib.hid hP
    clear hO hP HP2 HO2 HB2
    have b0 := HB3.out.c0
    go_wp2_with fail
    clear b0
    refine (go_run B p A cp nv3 _ 1 _ HP3.out).mono ?_
    rintro e w4 ⟨rfl, hO, nv4, hP⟩
    have HO4 := Lib.hid (HO3.out.trans hO)
    have HP4 := Lib.hid hP
    clear hO hP
    go_wp2
    go_returns
    exact ⟨rfl, HO4.out, nv4, HP4.out⟩
  · have eR := HRR.out
    rw [if_pos rfl] at eR
    subst eR
    dsimp only [Bool.not_true]
    go_wp2_with fail
    clear b0
    refine (renter_any B p A cp nv1 _ 1 _ HP2.out HL1.out).mono ?_
    rintro e w3 ⟨rfl, hO, nv3, hP⟩
    have HO3 := Lib.hid (HO2.out.trans hO)
    have HB3 := Lib.hid (HB2.out.turn HP2.out hO aside_1)
    have HP3 := Lib.hid hP
    clear hO hP HP2 HO2 HB2
    have b0 := HB3.out.c0
    go_wp2_with fail
    clear b0
    refine (end_run B p A cp nv3 _ _ true HP3.out).mono ?_
    rintro e w4 ⟨rfl, hO, nv4, hP⟩
    have HO4 := Lib.hid (HO3.out.trans hO)
    have HP4 := Lib.hid hP
    clear hO hP
    go_wp2
    go_returns
    exact ⟨rfl, HO4.out, nv4, HP4.out⟩
set_option maxHeartbeats 1000000 in
theorem rask_clo (B : Nat) (p A : Option Addr) (cp : Nat) (nv : Value) (r : LS) (g0 : Nat) (w : World) (h : RunP w B p A cp nv r) (hl : r.ns.length ≤ 900) (hx : Words r.xs) (hb : RowsL w [(g0, 62, #[Value.pointer (some ⟨B, 0, none⟩)])]) :
    Calls Try.prog 68 #[.pointer (some ⟨g0, 0, none⟩)] w (Done B p A cp w (.tuple #[]) r.fReg) := by
  clear hx
  obtain ⟨r1, hr1⟩ : ∃ r1, (r.doA 1 0 0 0).keepA (wordAt r.xs 0) = r1 := ⟨_, rfl⟩
  have HR1 := Lib.hid hr1
  have HL1 := Lib.hid (show r1.ns.length ≤ 900 by rw [← hr1]; exact hl)
  have HA1 := Lib.hid (show r1.a = wordAt r.xs 0 by rw [← hr1]; rfl)
  obtain ⟨RR, hRR⟩ : ∃ RR, r.fReg = RR := ⟨_, rfl⟩
  rw [hRR]
  unfold LS.fReg at hRR
  rw [hr1] at hRR
  have HRR := Lib.hid hRR
  clear hRR hr1
  have HP0 := Lib.hid h
  have HB0 := Lib.hid hb
  have HL := Lib.hid hl
  have HO0 := Lib.hid (Only.refl (TurnB B A) w)
  clear h hb hl
  have b0 := HB0.out.c0
  go_enter Try.func68, Try.ntmps68
  go_upto_region 0 with (fail)
  refine wp_region_phase (n := 7) 6 (fun w => w.cell? ⟨g0, 0, none⟩ = some (Value.pointer (some ⟨B, 0, none⟩))) rfl (by kernel_rfl) b0 (fun hHeld => ?_)
  clear b0
  have HP0b := Lib.hid (HP0.out.keep (Only.refl Nil w).drew)
  have HB0b := Lib.hid (HB0.out.keep (Only.refl Nil w).drew)
  have HO0b := Lib.hid HO0.out.drew
  clear HP0 HB0 HO0
  generalize w.drew = w0 at *
  refine zt 0 rfl ?_
  refine zt 1 rfl ?_
  refine mpc 2 rfl (by kernel_rfl) (by rfl) (fun K hK => ?_)
  go_simp
  refine (load_run B p A cp nv r 0 _ HP0b.out).mono ?_
  rintro e w1 ⟨rfl, hO, nv1, hP⟩
  have HO1 := Lib.hid (HO0b.out.trans hO)
  have HB1 := Lib.hid (HB0b.out.turn HP0b.out hO aside_1)
  have HP1 := Lib.hid hP
  clear hO hP HP0b HO0b HB0b
  have hHeld2 := HB1.out.c0
  refine hK.out _ _ (.inr hHeld2) ?_
  clear hK K hHeld
  refine za 3 rfl ?_
  refine za 4 rfl ?_
  refine za 5 rfl ?_
  have c6 : w1.cell? ⟨B, 6, none⟩ = some (.int .u32 (r.doA 1 0 0 0).a) := HP1.out.row.cell_ (i := 6) rfl
  have f6 : w1.frozen? ⟨B, 6, none⟩ = false := HP1.out.row.frozen 6
  refine mpc 6 rfl (by kernel_rfl) (by rfl) (fun K hK => ?_)
  go_simp
  have HP2 := Lib.hid (HP1.out.setA (wordAt r.xs 0))
  have HO2 := Lib.hid (HO1.out.setCell (p := ⟨B, 6, none⟩) (.inr (.inl rfl)) (.int .u32 (wordAt r.xs 0)))
  have HB2 := Lib.hid (HB1.out.turn HP1.out ((Only.refl (TurnB B A) w1).setCell (p := ⟨B, 6, none⟩) (.inr (.inl rfl)) (.int .u32 (wordAt r.xs 0))) aside_1)
  refine hK.out _ _ (.inl (by kernel_rfl)) ?_
  clear hK K hHeld2 c6 f6 HP1 HO1 HB1
  generalize w1.setCell ⟨B, 6, none⟩ (.int .u32 (wordAt r.xs 0)) = w2 at *
  refine wpAnyP_done (by kernel_rfl) ?_ _
  have b0 := HB2.out.c0
  rw [HR1.out] at HP2
  go_wp2_with fail
  clear b0
  refine (note_run B p A cp nv1 _ 2 2 _ HP2.out (Nat.le_trans HL1.out (by decide))).mono ?_
  rintro e w3 ⟨rfl, hO, nv3, hP⟩
  have HO3 := Lib.hid (HO2.out.trans hO)
  have HB3 := Lib.hid (HB2.out.turn HP2.out hO aside_1)
  have HP3 := Lib.hid hP
  clear hO hP HP2 HO2 HB2
  have b0 := HB3.out.c0
  have c6 : w3.cell? ⟨B, 6, none⟩ = some (.int .u32 (wordAt r.xs 0)) := by rw [← HA1.out]; exact HP3.out.row.cell_ (i := 6) rfl
  generalize wordAt r.xs 0 = v at *
  by_cases hv : v = 0
  · have eR := HRR.out
    rw [if_pos hv] at eR
    subst eR
    go_wp2_with fail
    clear b0 c6
    refine (go_run B p A cp nv3 _ 1 _ HP3.out).mono ?_
    rintro e w4 ⟨rfl, hO, nv4, hP⟩
    have HO4 := Lib.hid (HO3.out.trans hO)
    have HP4 := Lib.hid hP
    clear hO hP
    go_wp2
    go_returns
    exact ⟨rfl, HO4.out, nv4, HP4.out⟩
  · have eR := HRR.out
    rw [if_neg hv] at eR
    subst eR
    go_wp2_with fail
    clear b0 c6
    refine (go_run B p A cp nv3 _ 2 _ HP3.out).mono ?_
    rintro e w4 ⟨rfl, hO, nv4, hP⟩
    have HO4 := Lib.hid (HO3.out.trans hO)
    have HP4 := Lib.hid hP
    clear hO hP
    go_wp2
    go_returns
    exact ⟨rfl, HO4.out, nv4, HP4.out⟩
theorem rcin_make (B : Nat) (p A : Option Addr) (cp : Nat) (nv : Value) (r : LS) (w : World) (h : RunP w B p A cp nv r) (hl : r.ns.length ≤ 900) (hx : Words r.xs) :
    Calls Try.prog 38 #[Value.pointer (some ⟨B, 0, none⟩)] w (Clo 59 B p A cp r.fCome w) := by
  have e0 := (Only.refl Nil w).alloc (.cells #[Value.pointer (some ⟨B, 0, none⟩)] 62)
  have HC := Lib.hid (rcin_clo B p A cp nv r _ _ (h.keep e0) hl hx (RowsL.cons (L := []) (fun _ h => by simp at h) (Row.new w 62 #[Value.pointer (some ⟨B, 0, none⟩)])))
  have HE := Lib.hid e0
  clear h hl hx e0
  go_enter Try.func38, Try.ntmps38
  go_wp2
  go_ret
  exact ⟨_, rfl, HE.out, HC.out⟩
theorem rask_make (B : Nat) (p A : Option Addr) (cp : Nat) (nv : Value) (r : LS) (w : World) (h : RunP w B p A cp nv r) (hl : r.ns.length ≤ 900) (hx : Words r.xs) :
    Calls Try.prog 41 #[Value.pointer (some ⟨B, 0, none⟩)] w (Clo 68 B p A cp r.fReg w) := by
  have e0 := (Only.refl Nil w).alloc (.cells #[Value.pointer (some ⟨B, 0, none⟩)] 62)
  have HC := Lib.hid (rask_clo B p A cp nv r _ _ (h.keep e0) hl hx (RowsL.cons (L := []) (fun _ h => by simp at h) (Row.new w 62 #[Value.pointer (some ⟨B, 0, none⟩)])))
  have HE := Lib.hid e0
  clear h hl hx e0
  go_enter Try.func41, Try.ntmps41
  go_wp2
  go_ret
  exact ⟨_, rfl, HE.out, HC.out⟩
end Go.Proofs.Ytkmkeleifkkbnaa
set_option linter.unusedVariables false
set_option linter.unusedSimpArgs false
namespace Go.Proofs.Ytkmkeleifkkbnaa
open Go.RowKit
-- waiting
theorem asks_leave : Asks 65 outW := by
  intro v w h0 h1
  have HT := Lib.hid (written_any v w h0 h1)
  clear h0 h1
  generalize outW v = q at *
  go_enter Try.func65, Try.ntmps65
  go_wp2_with fail
  refine HT.out.mono ?_
  rintro e w1 ⟨rfl, rfl⟩
  clear HT
  go_wp2
  go_ret
  exact ⟨rfl, rfl⟩
theorem asks_free : Asks 74 isZ := by
  intro v w h0 h1
  have HQ := Lib.hid (show (v == 0) = isZ v from rfl)
  go_enter Try.func74, Try.ntmps74
  go_wp2
  go_ret
  exact ⟨congrArg (fun x => Ending.returned (.bool x)) HQ.out, rfl⟩
theorem enters_l2 : Enters1 65 := fun args w => by simp [callFunc, go_sem, Try.func65, Try.f65]
theorem enters_f2 : Enters1 74 := fun args w => by simp [callFunc, go_sem, Try.func74, Try.f74]
theorem holds_asks (F : FuncId) (hcf : Enters1 F) {q : Int → Bool} (ha : Asks F q) : HoldsAny (.func (.func F) #[] #[]) q := by
  intro v w h0 h1
  have HA := Lib.hid (ha v w h0 h1)
  clear ha
  generalize q v = b at *
  have hn := neq_fn
  unfold Enters1 at hcf
  go_enter_defers Try.func91, Try.ntmps91
  go_wp2_with fail
  clear hcf
  refine HA.out.mono ?_
  rintro e w1 ⟨rfl, rfl⟩
  clear HA
  go_wp2
  refine leaves_cons (f := 92) (args := #[]) (by simp) (by simp [go_sem]) ?_
  refine (rec_idle _).mono ?_
  rintro e u' w'' ⟨rfl, rfl, rfl⟩
  exact ⟨_, results_tmp rfl _ _ _, rfl, Only.refl _ _⟩
theorem rleave_clo (B : Nat) (p A : Option Addr) (cp : Nat) (nv : Value) (r : LS) (g0 : Nat) (w : World) (h : RunP w B p A cp nv r) (hl : r.ns.length ≤ 900) (hx : Words r.xs) (hb : RowsL w [(g0, 62, #[Value.pointer (some ⟨B, 0, none⟩)])]) :
    Calls Try.prog 63 #[.pointer (some ⟨g0, 0, none⟩)] w (Done B p A cp w (.tuple #[]) (r.pAdmit 0 outW)) := by
  generalize hsn : (r.stepR 0 outW).seen = sn
  generalize hdn : (r.stepR 0 outW).done = dn
  obtain ⟨rw1, hw1⟩ : ∃ rw1, r.wait 0 outW = rw1 := ⟨_, rfl⟩
  have HLN := Lib.hid (show rw1.ns.length ≤ 900 from by rw [← hw1]; exact hl)
  obtain ⟨RR, hRR⟩ : ∃ RR, r.pAdmit 0 outW = RR := ⟨_, rfl⟩
  rw [hRR]
  unfold LS.pAdmit at hRR
  rw [hdn, hsn, hw1] at hRR
  have HW1 := Lib.hid hw1
  have HRR := Lib.hid hRR
  have HSN := Lib.hid hsn
  have HDN := Lib.hid hdn
  have HX := Lib.hid hx
  clear hRR hw1 hsn hdn hx
  have HP0 := Lib.hid h
  have HB0 := Lib.hid hb
  have HL := Lib.hid hl
  have HO0 := Lib.hid (Only.refl (TurnB B A) w)
  clear h hb hl
  have b0 := HB0.out.c0
  go_enter Try.func63, Try.ntmps63
  go_wp2_with fail
  clear b0
  refine (wait_run B p A cp nv r 0 (.func 65) #[] #[] outW _ HP0.out (holds_asks _ enters_l2 asks_leave).at HX.out).mono ?_
  rw [HSN.out, HDN.out, HW1.out]
  clear HSN HDN HW1
  rintro e w2 ⟨rfl, hO, nv2, hP⟩
  have HO2 := Lib.hid (HO0.out.trans hO)
  have HB2 := Lib.hid (HB0.out.turn HP0.out hO aside_1)
  have HP2 := Lib.hid hP
  clear hO hP HP0 HO0 HB0
  cases sn
  all_goals cases dn
  · have eR : rw1 = RR := HRR.out
    subst eR
    go_wp2
    go_returns
    exact ⟨rfl, HO2.out, nv2, HP2.out⟩
  · have eR : rw1.fin true = RR := HRR.out
    subst eR
    have b0 := HB2.out.c0
    go_wp2_with fail
    clear b0
    refine (end_run B p A cp nv2 _ _ true HP2.out).mono ?_
    rintro e w4 ⟨rfl, hO, nv4, hP⟩
    have HO4 := Lib.hid (HO2.out.trans hO)
    have HP4 := Lib.hid hP
    clear hO hP
    go_wp2
    go_returns
    exact ⟨rfl, HO4.out, nv4, HP4.out⟩
  · have eR : rw1.note 4 0 = RR := HRR.out
    subst eR
    have b0 := HB2.out.c0
    go_wp2_with fail
    clear b0
    refine (note_run B p A cp nv2 _ 4 0 _ HP2.out (Nat.le_trans HLN.out (by decide))).mono ?_
    rintro e w4 ⟨rfl, hO, nv4, hP⟩
    have HO4 := Lib.hid (HO2.out.trans hO)
    have HP4 := Lib.hid hP
    clear hO hP
    go_wp2
    go_returns
    exact ⟨rfl, HO4.out, nv4, HP4.out⟩
  · have eR : (rw1.note 4 0).fin true = RR := HRR.out
    subst eR
    have b0 := HB2.out.c0
    go_wp2_with fail
    clear b0
    refine (note_run B p A cp nv2 _ 4 0 _ HP2.out (Nat.le_trans HLN.out (by decide))).mono ?_
    rintro e w3 ⟨rfl, hO, nv3, hP⟩
    have HO3 := Lib.hid (HO2.out.trans hO)
    have HB3 := Lib.hid (HB2.out.turn HP2.out hO aside_1)
    have HP3 := Lib.hid hP
    clear hO hP HP2 HO2 HB2
    have b0 := HB3.out.c0
    go_wp2_with fail
    clear b0
    refine (end_run B p A cp nv3 _ _ true HP3.out).mono ?_
    rintro e w4 ⟨rfl, hO, nv4, hP⟩
    have HO4 := Lib.hid (HO3.out.trans hO)
    have HP4 := Lib.hid hP
    clear hO hP
    go_wp2
    go_returns
    exact ⟨rfl, HO4.out, nv4, HP4.out⟩
theorem rfree_clo (B : Nat) (p A : Option Addr) (cp : Nat) (nv : Value) (r : LS) (g0 : Nat) (w : World) (h : RunP w B p A cp nv r) (hl : r.ns.length ≤ 900) (hx : Words r.xs) (hb : RowsL w [(g0, 62, #[Value.pointer (some ⟨B, 0, none⟩)])]) :
    Calls Try.prog 73 #[.pointer (some ⟨g0, 0, none⟩)] w (Done B p A cp w (.tuple #[]) (r.fWait)) := by
  generalize hsn : (r.stepR 0 isZ).seen = sn
  generalize hdn : (r.stepR 0 isZ).done = dn
  obtain ⟨rw1, hw1⟩ : ∃ rw1, r.wait 0 isZ = rw1 := ⟨_, rfl⟩
  have HLN := Lib.hid (show rw1.ns.length ≤ 900 from by rw [← hw1]; exact hl)
  obtain ⟨RR, hRR⟩ : ∃ RR, r.fWait = RR := ⟨_, rfl⟩
  rw [hRR]
  unfold LS.fWait at hRR
  rw [hdn, hw1] at hRR
  have HW1 := Lib.hid hw1
  have HRR := Lib.hid hRR
  have HSN := Lib.hid hsn
  have HDN := Lib.hid hdn
  have HX := Lib.hid hx
  clear hRR hw1 hsn hdn hx
  have HP0 := Lib.hid h
  have HB0 := Lib.hid hb
  have HL := Lib.hid hl
  have HO0 := Lib.hid (Only.refl (TurnB B A) w)
  clear h hb hl
  have b0 := HB0.out.c0
  go_enter Try.func73, Try.ntmps73
  go_wp2_with fail
  clear b0
  refine (wait_run B p A cp nv r 0 (.func 74) #[] #[] isZ _ HP0.out (holds_asks _ enters_f2 asks_free).at HX.out).mono ?_
  rw [HSN.out, HDN.out, HW1.out]
  clear HSN HDN HW1
  rintro e w2 ⟨rfl, hO, nv2, hP⟩
  have HO2 := Lib.hid (HO0.out.trans hO)
  have HB2 := Lib.hid (HB0.out.turn HP0.out hO aside_1)
  have HP2 := Lib.hid hP
  clear hO hP HP0 HO0 HB0
  cases dn
  · have eR : rw1 = RR := HRR.out
    subst eR
    go_wp2
    go_returns
    exact ⟨rfl, HO2.out, nv2, HP2.out⟩
  · have eR : rw1.go 1 = RR := HRR.out
    subst eR
    have b0 := HB2.out.c0
    go_wp2_with fail
    clear b0
    refine (go_run B p A cp nv2 _ 1 _ HP2.out).mono ?_
    rintro e w4 ⟨rfl, hO, nv4, hP⟩
    have HO4 := Lib.hid (HO2.out.trans hO)
    have HP4 := Lib.hid hP
    clear hO hP
    go_wp2
    go_returns
    exact ⟨rfl, HO4.out, nv4, HP4.out⟩
theorem rleave_make (B : Nat) (p A : Option Addr) (cp : Nat) (nv : Value) (r : LS) (w : World) (h : RunP w B p A cp nv r) (hl : r.ns.length ≤ 900) (hx : Words r.xs) :
    Calls Try.prog 39 #[Value.pointer (some ⟨B, 0, none⟩)] w (Clo 63 B p A cp (r.pAdmit 0 outW) w) := by
  have e0 := (Only.refl Nil w).alloc (.cells #[Value.pointer (some ⟨B, 0, none⟩)] 62)
  have HC := Lib.hid (rleave_clo B p A cp nv r _ _ (h.keep e0) hl hx (RowsL.cons (L := []) (fun _ h => by simp at h) (Row.new w 62 #[Value.pointer (some ⟨B, 0, none⟩)])))
  have HE := Lib.hid e0
  clear h hl hx e0
  go_enter Try.func39, Try.ntmps39
  go_wp2
  go_ret
  exact ⟨_, rfl, HE.out, HC.out⟩
theorem rfree_make (B : Nat) (p A : Option Addr) (cp : Nat) (nv : Value) (r : LS) (w : World) (h : RunP w B p A cp nv r) (hl : r.ns.length ≤ 900) (hx : Words r.xs) :
    Calls Try.prog 45 #[Value.pointer (some ⟨B, 0, none⟩)] w (Clo 73 B p A cp (r.fWait) w) := by
  have e0 := (Only.refl Nil w).alloc (.cells #[Value.pointer (some ⟨B, 0, none⟩)] 62)
  have HC := Lib.hid (rfree_clo B p A cp nv r _ _ (h.keep e0) hl hx (RowsL.cons (L := []) (fun _ h => by simp at h) (Row.new w 62 #[Value.pointer (some ⟨B, 0, none⟩)])))
  have HE := Lib.hid e0
  clear h hl hx e0
  go_enter Try.func45, Try.ntmps45
  go_wp2
  go_ret
  exact ⟨_, rfl, HE.out, HC.out⟩
-- weighing
theorem rf_aside_wg {g0 B g1 : Nat} {v : Value} : ∀ y ∈ [(g0, 62, #[Value.pointer (some ⟨B, 0, none⟩)]), (g1, 99, #[v])], Aside y.2.1 := by
  intro x hx
  simp only [List.mem_cons, List.not_mem_nil, or_false] at hx
  rcases hx with rfl | rfl
  · exact aside_p
  · exact rf_aside_w
set_option maxHeartbeats 1000000 in
theorem rweigh_clo (FF : FuncId) (hcf : Enters1 FF) (q : Int → Bool) (hq : Asks FF q) (B : Nat) (p A : Option Addr) (cp : Nat) (nv : Value) (r : LS) (g0 g1 : Nat) (w : World) (h : RunP w B p A cp nv r) (hl : r.ns.length ≤ 900) (hx : Words r.xs) (hb : RowsL w [(g0, 62, #[Value.pointer (some ⟨B, 0, none⟩)]), (g1, 99, #[.func (.func FF) #[] #[]])]) :
    Calls Try.prog 75 #[.pointer (some ⟨g0, 0, none⟩), .pointer (some ⟨g1, 0, none⟩)] w (Done B p A cp w (.tuple #[]) (r.fLook (q (wordAt r.xs 0)))) := by
  have HT := Lib.hid (fun w => hq (wordAt r.xs 0) w (word_wf hx 0).1 (word_wf hx 0).2)
  clear hq hx
  generalize q (wordAt r.xs 0) = ok at *
  obtain ⟨r1, hr1⟩ : ∃ r1, (r.doA 1 0 0 0).keepA (wordAt r.xs 0) = r1 := ⟨_, rfl⟩
  have HR1 := Lib.hid hr1
  have HL1 := Lib.hid (show r1.ns.length ≤ 900 by rw [← hr1]; exact hl)
  have HA1 := Lib.hid (show r1.a = wordAt r.xs 0 by rw [← hr1]; rfl)
  obtain ⟨RR, hRR⟩ : ∃ RR, r.fLook ok = RR := ⟨_, rfl⟩
  rw [hRR]
  unfold LS.fLook at hRR
  rw [hr1] at hRR
  have HRR := Lib.hid hRR
  have HCF := Lib.hid hcf
  clear hRR hr1 hcf
  have HP0 := Lib.hid h
  have HB0 := Lib.hid hb
  have HL := Lib.hid hl
  have HO0 := Lib.hid (Only.refl (TurnB B A) w)
  clear h hb hl
  have b0 := HB0.out.c0
  go_enter Try.func75, Try.ntmps75
  go_upto_region 0 with (fail)
  refine wp_region_phase (n := 7) 6 (fun w => w.cell? ⟨g0, 0, none⟩ = some (Value.pointer (some ⟨B, 0, none⟩))) rfl (by kernel_rfl) b0 (fun hHeld => ?_)
  clear b0
  have HP0b := Lib.hid (HP0.out.keep (Only.refl Nil w).drew)
  have HB0b := Lib.hid (HB0.out.keep (Only.refl Nil w).drew)
  have HO0b := Lib.hid HO0.out.drew
  clear HP0 HB0 HO0
  generalize w.drew = w0 at *
  refine zt 0 rfl ?_
  refine zt 1 rfl ?_
  refine mpc 2 rfl (by kernel_rfl) (by rfl) (fun K hK => ?_)
  go_simp
  refine (load_run B p A cp nv r 0 _ HP0b.out).mono ?_
  rintro e w1 ⟨rfl, hO, nv1, hP⟩
  have HO1 := Lib.hid (HO0b.out.trans hO)
  have HB1 := Lib.hid (HB0b.out.turn HP0b.out hO rf_aside_wg)
  have HP1 := Lib.hid hP
  clear hO hP HP0b HO0b HB0b
  have hHeld2 := HB1.out.c0
  refine hK.out _ _ (.inr hHeld2) ?_
  clear hK K hHeld
  refine za 3 rfl ?_
  refine za 4 rfl ?_
  refine za 5 rfl ?_
  have c6 : w1.cell? ⟨B, 6, none⟩ = some (.int .u32 (r.doA 1 0 0 0).a) := HP1.out.row.cell_ (i := 6) rfl
  have f6 : w1.frozen? ⟨B, 6, none⟩ = false := HP1.out.row.frozen 6
  refine mpc 6 rfl (by kernel_rfl) (by rfl) (fun K hK => ?_)
  go_simp
  have HP2 := Lib.hid (HP1.out.setA (wordAt r.xs 0))
  have HO2 := Lib.hid (HO1.out.setCell (p := ⟨B, 6, none⟩) (.inr (.inl rfl)) (.int .u32 (wordAt r.xs 0)))
  have HB2 := Lib.hid (HB1.out.turn HP1.out ((Only.refl (TurnB B A) w1).setCell (p := ⟨B, 6, none⟩) (.inr (.inl rfl)) (.int .u32 (wordAt r.xs 0))) rf_aside_wg)
  refine hK.out _ _ (.inl (by kernel_rfl)) ?_
  clear hK K hHeld2 c6 f6 HP1 HO1 HB1
  generalize w1.setCell ⟨B, 6, none⟩ (.int .u32 (wordAt r.xs 0)) = w2 at *
  refine wpAnyP_done (by kernel_rfl) ?_ _
  rw [HR1.out] at HP2
  have c6 : w2.cell? ⟨B, 6, none⟩ = some (.int .u32 (wordAt r.xs 0)) := by rw [← HA1.out]; exact HP2.out.row.cell_ (i := 6) rfl
  generalize wordAt r.xs 0 = v at *
  go_upto_region 1 with (fail)
  refine wp_region_phase (n := 7) 6 (fun w => w.cell? ⟨g0, 0, none⟩ = some (Value.pointer (some ⟨B, 0, none⟩)) ∧ w.cell? ⟨g1, 0, none⟩ = some (.func (.func FF) #[] #[]) ∧ w.cell? ⟨B, 6, none⟩ = some (.int .u32 v)) rfl (by kernel_rfl) ⟨HB2.out.c0, HB2.out.c1, c6⟩ (fun hHeld => ?_)
  have HP3 := Lib.hid (HP2.out.keep (Only.refl Nil w2).drew)
  have HB3 := Lib.hid (HB2.out.keep (Only.refl Nil w2).drew)
  have HO3 := Lib.hid HO2.out.drew
  clear HP2 HB2 HO2 c6
  generalize w2.drew = w3 at *
  refine zt 0 rfl ?_
  refine zt 1 rfl ?_
  refine za 2 rfl ?_
  refine za 3 rfl ?_
  refine za 4 rfl ?_
  refine zt 5 rfl ?_
  refine mpc 6 rfl (by kernel_rfl) (by rfl) (fun K hK => ?_)
  have hcf : ∀ (args : Array Value) (w : World), (callFunc FF args).run Try.prog w = .ok (.enter FF args) w := HCF.out
  go_simp
  refine (HT.out _).mono ?_
  rintro e w9 ⟨rfl, rfl⟩
  refine hK.out _ _ (.inl (by kernel_rfl)) ?_
  clear hK K hHeld hcf
  refine wpAnyP_done (by kernel_rfl) ?_ _
  have b0 := HB3.out.c0
  cases ok
  · have eR := HRR.out
    rw [if_neg Bool.false_ne_true] at eR
    subst eR
    go_wp2_with fail
    clear b0
    refine (note_run B p A cp nv1 _ 5 0 _ HP3.out (Nat.le_trans HL1.out (by decide))).mono ?_
    rintro e w5 ⟨rfl, hO, nv5, hP⟩
    have HO5 := Lib.hid (HO3.out.trans hO)
    have HB5 := Lib.hid (HB3.out.turn HP3.out hO rf_aside_wg)
    have HP5 := Lib.hid hP
    clear hO hP HP3 HO3 HB3
    have b0 := HB5.out.c0
    go_wp2_with fail
    clear b0
    refine (end_run B p A cp nv5 _ _ false HP5.out).mono ?_
    rintro e w4 ⟨rfl, hO, nv4, hP⟩
    have HO4 := Lib.hid (HO5.out.trans hO)
    have HP4 := Lib.hid hP
    clear hO hP
    go_wp2
    go_returns
    exact ⟨rfl, HO4.out, nv4, HP4.out⟩
  · have eR := HRR.out
    rw [if_pos rfl] at eR
    subst eR
    go_wp2_with fail
    clear b0
    refine (go_run B p A cp nv1 _ 1 _ HP3.out).mono ?_
    rintro e w4 ⟨rfl, hO, nv4, hP⟩
    have HO4 := Lib.hid (HO3.out.trans hO)
    have HP4 := Lib.hid hP
    clear hO hP
    go_wp2
    go_returns
    exact ⟨rfl, HO4.out, nv4, HP4.out⟩
theorem rweigh_make (FF : FuncId) (hcf : Enters1 FF) (q : Int → Bool) (hq : Asks FF q) (B : Nat) (p A : Option Addr) (cp : Nat) (nv : Value) (r : LS) (w : World) (h : RunP w B p A cp nv r) (hl : r.ns.length ≤ 900) (hx : Words r.xs) :
    Calls Try.prog 46 #[Value.pointer (some ⟨B, 0, none⟩), .func (.func FF) #[] #[]] w (Clo 75 B p A cp (r.fLook (q (wordAt r.xs 0))) w) := by
  have e0 := ((Only.refl Nil w).alloc (.cells #[Value.pointer (some ⟨B, 0, none⟩)] 62)).alloc (.cells #[.func (.func FF) #[] #[]] 99)
  have HC := Lib.hid (rweigh_clo FF hcf q hq B p A cp nv r w.heap.size (w.heap.size + 1) _ (h.keep e0) hl hx (RowsL.cons (L := [_]) (RowsL.cons (L := []) (fun _ h => by simp at h) (Row.at (by simp))) ((Row.new w 62 #[Value.pointer (some ⟨B, 0, none⟩)]).alloc _)))
  have HE := Lib.hid e0
  clear h hl hx e0 hcf hq
  go_enter Try.func46, Try.ntmps46
  go_wp2
  go_ret
  exact ⟨_, rfl, HE.out, HC.out⟩
-- claiming
def LS.fClaim (r : LS) (fr to n : Int) (T : LS → LS) : LS := if r.at0 fr then (T (r.doA 5 0 fr to)).fin true else (r.doA 5 0 fr to).go n
theorem rf_aside_cl {g0 B g3 g4 g5 : Nat} {v v' : Value} : ∀ y ∈ [(g0, 62, #[Value.pointer (some ⟨B, 0, none⟩)]), (g3, 3, #[v]), (g4, 1, #[v']), (g5, 62, #[Value.pointer (some ⟨B, 0, none⟩)])], Aside y.2.1 := by
  intro x hx
  simp only [List.mem_cons, List.not_mem_nil, or_false] at hx
  rcases hx with rfl | rfl | rfl | rfl
  · exact aside_p
  · exact aside_i
  · exact rf_aside_f
  · exact aside_p
def Notes1 (FF : FuncId) (T : LS → LS) : Prop := ∀ (B : Nat) (p A : Option Addr) (cp : Nat) (nv : Value) (r : LS) (g0 : Nat) (w : World) (h : RunP w B p A cp nv r) (hl : r.ns.length ≤ 900) (hb : Row w g0 62 #[Value.pointer (some ⟨B, 0, none⟩)]), Calls Try.prog FF #[.pointer (some ⟨g0, 0, none⟩)] w (Done B p A cp w (.tuple #[]) (T r))
set_option maxHeartbeats 1000000 in
theorem rclaim_clo (FF : FuncId) (hcf : Enters1 FF) (T : LS → LS) (ht : Notes1 FF T) (B : Nat) (p A : Option Addr) (cp : Nat) (nv : Value) (r : LS) (fr to n : Int) (g0 g1 g2 g3 g4 g5 : Nat) (w : World) (h : RunP w B p A cp nv r) (hl : r.ns.length ≤ 900) (h1 : Row w g1 22 #[.int .u32 fr]) (h2 : Row w g2 22 #[.int .u32 to])
    (hb : RowsL w [(g0, 62, #[Value.pointer (some ⟨B, 0, none⟩)]), (g3, 3, #[.int .i64 n]), (g4, 1, #[.func (.func FF) #[] #[.pointer (some ⟨g5, 0, none⟩)]]), (g5, 62, #[Value.pointer (some ⟨B, 0, none⟩)])]) :
    Calls Try.prog 70 #[.pointer (some ⟨g0, 0, none⟩), .pointer (some ⟨g1, 0, none⟩), .pointer (some ⟨g2, 0, none⟩), .pointer (some ⟨g3, 0, none⟩), .pointer (some ⟨g4, 0, none⟩)] w (Done B p A cp w (.tuple #[]) (r.fClaim fr to n T)) := by
  have b1 := h1.one
  have b2 := h2.one
  obtain ⟨r1, hr1⟩ : ∃ r1, r.doA 5 0 fr to = r1 := ⟨_, rfl⟩
  have HL1 := Lib.hid (show r1.ns.length ≤ 900 by rw [← hr1]; exact hl)
  have HR1 := Lib.hid hr1
  obtain ⟨RR, hRR⟩ : ∃ RR, r.fClaim fr to n T = RR := ⟨_, rfl⟩
  rw [hRR]
  unfold LS.fClaim at hRR
  rw [hr1] at hRR
  generalize hcl : r.at0 fr = cl at hRR
  have HRR := Lib.hid hRR
  have HCL := Lib.hid (show (there r.xs 0 && (wordAt r.xs 0 == fr)) = cl from hcl)
  have HT := Lib.hid ht
  have HCF := Lib.hid hcf
  clear hcl hRR hr1 h1 h2 ht hcf
  have HP0 := Lib.hid h
  have HB0 := Lib.hid hb
  have HL := Lib.hid hl
  have HO0 := Lib.hid (Only.refl (TurnB B A) w)
  clear h hb hl
  have b0 := HB0.out.c0
  go_enter Try.func70, Try.ntmps70
  go_wp2_with fail
  clear b0 b1 b2
  refine (cas_run B p A cp nv r 0 fr to _ HP0.out).mono ?_
  rw [HCL.out, HR1.out]
  rintro e w1 ⟨rfl, hO, nv1, hP⟩
  have HO1 := Lib.hid (HO0.out.trans hO)
  have HB1 := Lib.hid (HB0.out.turn HP0.out hO rf_aside_cl)
  have HP1 := Lib.hid hP
  clear hO hP HP0 HO0 HB0
  cases cl
  · have eR : r1.go n = RR := HRR.out
    subst eR
    have b0 := HB1.out.c0
    have b3 := HB1.out.c1
    go_wp2_with fail
    clear b0 b3
    refine (go_run B p A cp nv1 _ n _ HP1.out).mono ?_
    rintro e w4 ⟨rfl, hO, nv4, hP⟩
    have HO4 := Lib.hid (HO1.out.trans hO)
    have HP4 := Lib.hid hP
    clear hO hP
    go_wp2
    go_returns
    exact ⟨rfl, HO4.out, nv4, HP4.out⟩
  · have eR : (T r1).fin true = RR := HRR.out
    subst eR
    have b4 := HB1.out.c2
    have hcf : ∀ (args : Array Value) (w : World), (callFunc FF args).run Try.prog w = .ok (.enter FF args) w := HCF.out
    go_wp2_with fail
    clear b4 hcf
    refine (HT.out B p A cp nv1 r1 g5 _ HP1.out HL1.out (HB1.out _ (.tail _ (.tail _ (.tail _ (.head _)))))).mono ?_
    rintro e w2 ⟨rfl, hO, nv2, hP⟩
    have HO2 := Lib.hid (HO1.out.trans hO)
    have HB2 := Lib.hid (HB1.out.turn HP1.out hO rf_aside_cl)
    have HP2 := Lib.hid hP
    clear hO hP HP1 HO1 HB1
    have b0 := HB2.out.c0
    go_wp2_with fail
    clear b0
    refine (end_run B p A cp nv2 _ _ true HP2.out).mono ?_
    rintro e w4 ⟨rfl, hO, nv4, hP⟩
    have HO4 := Lib.hid (HO2.out.trans hO)
    have HP4 := Lib.hid hP
    clear hO hP
    go_wp2
    go_returns
    exact ⟨rfl, HO4.out, nv4, HP4.out⟩
theorem rclaim_make (FF : FuncId) (hcf : Enters1 FF) (T : LS → LS) (ht : Notes1 FF T) (B : Nat) (p A : Option Addr) (cp : Nat) (nv : Value) (r : LS) (fr to n : Int) (g5 : Nat) (w : World) (h : RunP w B p A cp nv r) (hl : r.ns.length ≤ 900) (hb : Row w g5 62 #[Value.pointer (some ⟨B, 0, none⟩)]) :
    Calls Try.prog 42 #[Value.pointer (some ⟨B, 0, none⟩), .int .u32 fr, .int .u32 to, .int .i64 n, .func (.func FF) #[] #[.pointer (some ⟨g5, 0, none⟩)]] w (Clo 70 B p A cp (r.fClaim fr to n T) w) := by
  have e0 := (((((Only.refl Nil w).alloc (.cells #[Value.pointer (some ⟨B, 0, none⟩)] 62)).alloc (.cells #[.int .u32 fr] 22)).alloc (.cells #[.int .u32 to] 22)).alloc (.cells #[.int .i64 n] 3)).alloc (.cells #[.func (.func FF) #[] #[.pointer (some ⟨g5, 0, none⟩)]] 1)
  have r0 := (((((Row.new w 62 #[Value.pointer (some ⟨B, 0, none⟩)]).alloc (.cells #[.int .u32 fr] 22)).alloc (.cells #[.int .u32 to] 22)).alloc (.cells #[.int .i64 n] 3)).alloc (.cells #[.func (.func FF) #[] #[.pointer (some ⟨g5, 0, none⟩)]] 1))
  have HC := Lib.hid (rclaim_clo FF hcf T ht B p A cp nv r fr to n w.heap.size (w.heap.size + 1) (w.heap.size + 1 + 1) (w.heap.size + 1 + 1 + 1) (w.heap.size + 1 + 1 + 1 + 1) g5 _ (h.keep e0) hl
    ((((Row.at (by simp)).alloc _).alloc _).alloc _) (((Row.at (by simp)).alloc _).alloc _)
    (RowsL.cons (L := [_, _, _]) (RowsL.cons (L := [_, _]) (RowsL.cons (L := [_]) (RowsL.cons (L := []) (fun _ h => by simp at h) (hb.only e0 id)) (Row.at (by simp))) ((Row.at (by simp)).alloc _)) r0))
  have HE := Lib.hid e0
  clear h hl hb e0 r0 hcf ht
  generalize r.fClaim fr to n T = rr at *
  go_enter Try.func42, Try.ntmps42
  go_wp2
  go_ret
  exact ⟨_, rfl, HE.out, HC.out⟩
end Go.Proofs.Ytkmkeleifkkbnaa
set_option linter.unusedVariables false
set_option linter.unusedSimpArgs false
namespace Go.Proofs.Ytkmkeleifkkbnaa
open Go.RowKit
theorem rf_no1 {r : LS} (h1 : r.op = 1) (n0 : ¬ r.line = 0) (n1 : ¬ r.line = 1) : r.rf = r := by
  have hc : rfCase r.op r.line = 0 := by
    rw [h1]
    unfold rfCase
    repeat (first | rw [if_neg (by omega)] | rw [if_pos (by omega)])
  unfold LS.rf
  rw [hc]
  exact rfl
theorem rf_no2 {r : LS} (h1 : r.op = 2) (n0 : ¬ r.line = 0) : r.rf = r := by
  have hc : rfCase r.op r.line = 0 := by
    rw [h1]
    unfold rfCase
    repeat (first | rw [if_neg (by omega)] | rw [if_pos (by omega)])
  unfold LS.rf
  rw [hc]
  exact rfl
theorem rf_no3 {r : LS} (h1 : r.op = 3) (n0 : ¬ r.line = 0) (n1 : ¬ r.line = 1) (n2 : ¬ r.line = 2) : r.rf = r := by
  have hc : rfCase r.op r.line = 0 := by
    rw [h1]
    unfold rfCase
    repeat (first | rw [if_neg (by omega)] | rw [if_pos (by omega)])
  unfold LS.rf
  rw [hc]
  exact rfl
theorem rf_no4 {r : LS} (h1 : r.op = 4) (n0 : ¬ r.line = 0) : r.rf = r := by
  have hc : rfCase r.op r.line = 0 := by
    rw [h1]
    unfold rfCase
    repeat (first | rw [if_neg (by omega)] | rw [if_pos (by omega)])
  unfold LS.rf
  rw [hc]
  exact rfl
theorem rf_no5 {r : LS} (h1 : r.op = 5) (n0 : ¬ r.line = 0) (n1 : ¬ r.line = 1) : r.rf = r := by
  have hc : rfCase r.op r.line = 0 := by
    rw [h1]
    unfold rfCase
    repeat (first | rw [if_neg (by omega)] | rw [if_pos (by omega)])
  unfold LS.rf
  rw [hc]
  exact rfl
theorem rf_no6 {r : LS} (h1 : r.op = 6) (n0 : ¬ r.line = 0) (n1 : ¬ r.line = 1) : r.rf = r := by
  have hc : rfCase r.op r.line = 0 := by
    rw [h1]
    unfold rfCase
    repeat (first | rw [if_neg (by omega)] | rw [if_pos (by omega)])
  unfold LS.rf
  rw [hc]
  exact rfl
theorem rf_no7 {r : LS} (h1 : r.op = 7) (n0 : ¬ r.line = 0) (n1 : ¬ r.line = 1) : r.rf = r := by
  have hc : rfCase r.op r.line = 0 := by
    rw [h1]
    unfold rfCase
    repeat (first | rw [if_neg (by omega)] | rw [if_pos (by omega)])
  unfold LS.rf
  rw [hc]
  exact rfl
theorem rf_no8 {r : LS} (h1 : r.op = 8) (n0 : ¬ r.line = 0) : r.rf = r := by
  have hc : rfCase r.op r.line = 0 := by
    rw [h1]
    unfold rfCase
    repeat (first | rw [if_neg (by omega)] | rw [if_pos (by omega)])
  unfold LS.rf
  rw [hc]
  exact rfl
theorem rf_no9 {r : LS} (o1 : ¬ r.op = 1) (o2 : ¬ r.op = 2) (o3 : ¬ r.op = 3) (o4 : ¬ r.op = 4) (o5 : ¬ r.op = 5) (o6 : ¬ r.op = 6) (o7 : ¬ r.op = 7) (o8 : ¬ r.op = 8) : r.rf = r := by
  have hc : rfCase r.op r.line = 0 := by
    unfold rfCase
    repeat (first | rw [if_neg (by omega)] | rw [if_pos (by omega)])
  unfold LS.rf
  rw [hc]
  rfl
end Go.Proofs.Ytkmkeleifkkbnaa
