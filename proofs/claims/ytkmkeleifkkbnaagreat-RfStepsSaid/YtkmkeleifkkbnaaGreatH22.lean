import Derived.Laws.BitsAllLaws
import Derived.Laws.BitsLemmas
import Derived.Test.YtkmkeleifkkbnaaGreatH19
import Derived.Test.YtkmkeleifkkbnaaGreatH21
import Derived.Test.YtkmkeleifkkbnaaGreatH18
set_option linter.unusedVariables false
set_option linter.unusedSimpArgs false
namespace Go.Proofs.YtkmkeleifkkbnaaGreat
open Go.RowKit
theorem rf_aside_f : Aside 1 := ⟨by decide, by decide, by decide⟩
theorem rf_aside_w : Aside 93 := ⟨by decide, by decide, by decide⟩
theorem rf_aside_s : Aside 113 := ⟨by decide, by decide, by decide⟩
-- bit 16
theorem bit16 {v : Int} (h0 : 0 ≤ v) (h1 : v < 4294967296) : bits .and .u32 v 65536 = v / 65536 % 2 * 65536 := by
  obtain ⟨m, rfl⟩ := Int.eq_ofNat_of_zero_le h0
  have e : bits .and .u32 (m : Int) ((65536 : Nat) : Int) = ((m &&& 65536 : Nat) : Int) := u32_and_nat m 65536 (by omega) (by decide)
  rw [show ((65536 : Nat) : Int) = (65536 : Int) from rfl] at e
  rw [e]
  have e2 : m &&& 65536 = m / 65536 % 2 * 65536 := by
    apply Nat.eq_of_testBit_eq
    intro i
    rw [Nat.testBit_and, show (65536 : Nat) = 2 ^ 16 from rfl, Nat.testBit_two_pow, Nat.testBit_mul_two_pow]
    by_cases h : 16 = i
    · subst h
      simp [Nat.testBit_eq_decide_div_mod_eq]
    · by_cases h2 : 16 ≤ i
      · have h3 : ∃ j, i - 16 = j + 1 := ⟨i - 17, by omega⟩
        obtain ⟨j, h3⟩ := h3
        have h4 : m / 2 ^ 16 % 2 < 2 := Nat.mod_lt _ (by decide)
        have h5 : (m / 2 ^ 16 % 2).testBit (j + 1) = false := Nat.testBit_lt_two_pow (Nat.lt_of_lt_of_le h4 (by
          have := Nat.one_le_two_pow (n := j)
          rw [Nat.pow_succ]; omega))
        simp [h, h3, h5]
      · simp [h, h2]
  rw [e2]
  omega
theorem written_any (v : Int) (w : World) (h0 : 0 ≤ v) (h1 : v < 4294967296) : Calls Tryz.prog 48 #[.int .u32 v] w fun e w' => e = .returned (.bool (!outW v)) ∧ w = w' := by
  have hb := bit16 h0 h1
  have HQ := Lib.hid (show (!(v / 65536 % 2 * 65536 == 0)) = (!outW v) by
    unfold outW
    rcases Int.emod_two_eq (v / 65536) with e | e <;> rw [e] <;> rfl)
  clear h0 h1
  generalize (!outW v) = q at *
  generalize v / 65536 % 2 * 65536 = z at *
  go_enter Tryz.func48, Tryz.ntmps48
  go_wp2
  go_ret
  exact ⟨congrArg (fun x => Ending.returned (.bool x)) HQ.out, rfl⟩
def Asks (F : Nat) (q : Int → Bool) : Prop := ∀ (v : Int) (w : World), 0 ≤ v → v < 4294967296 → Calls Tryz.prog F #[.int .u32 v] w fun e w' => e = .returned (.bool (q v)) ∧ w = w'
def Enters1 (f : Nat) : Prop := ∀ (args : Array Value) (w : World), (callFunc f args).run Tryz.prog w = .ok (.enter f args) w
theorem asks_out : Asks 47 outW := by
  intro v w h0 h1
  have HT := Lib.hid (written_any v w h0 h1)
  clear h0 h1
  generalize outW v = q at *
  go_enter Tryz.func47, Tryz.ntmps47
  go_wp2_with fail
  refine HT.out.mono ?_
  rintro e w1 ⟨rfl, rfl⟩
  clear HT
  go_wp2
  go_ret
  exact ⟨rfl, rfl⟩
theorem asks_zero : Asks 51 (fun v => v == 0) := by
  intro v w h0 h1
  go_enter Tryz.func51, Tryz.ntmps51
  go_wp2
  go_ret
  exact ⟨rfl, rfl⟩
theorem asks_one : Asks 53 (fun v => v == 1) := by
  intro v w h0 h1
  go_enter Tryz.func53, Tryz.ntmps53
  go_wp2
  go_ret
  exact ⟨rfl, rfl⟩
theorem enters_s2 : Enters1 47 := fun args w => by simp [callFunc, go_sem, Tryz.func47, Tryz.f47]
theorem enters_s4 : Enters1 51 := fun args w => by simp [callFunc, go_sem, Tryz.func51, Tryz.f51]
theorem enters_s6 : Enters1 53 := fun args w => by simp [callFunc, go_sem, Tryz.func53, Tryz.f53]
theorem enters_s1 : Enters1 43 := fun args w => by simp [callFunc, go_sem, Tryz.func43, Tryz.f43]
theorem enters_s3 : Enters1 49 := fun args w => by simp [callFunc, go_sem, Tryz.func49, Tryz.f49]
theorem enters_s5 : Enters1 52 := fun args w => by simp [callFunc, go_sem, Tryz.func52, Tryz.f52]
theorem enters_s7 : Enters1 54 := fun args w => by simp [callFunc, go_sem, Tryz.func54, Tryz.f54]
theorem renter_any (B : Nat) (p A : Option Addr) (cp : Nat) (nv : Value) (r : LS) (cl : Int) (w : World) (h : RunP w B p A cp nv r) (hl : r.ns.length ≤ 900) : Calls Tryz.prog 50 #[Value.pointer (some ⟨B, 0, none⟩), .int .i64 cl] w (Done B p A cp w (.tuple #[]) ((r.note 2 cl).note 4 0)) := by
  have HP0 := Lib.hid h
  have HL := Lib.hid hl
  clear h hl
  go_enter Tryz.func50, Tryz.ntmps50
  go_wp2_with fail
  refine (note_run B p A cp nv r 2 cl _ HP0.out (Nat.le_trans HL.out (by decide))).mono ?_
  rintro e w1 ⟨rfl, hO, nv1, hP⟩
  have HO1 := Lib.hid hO
  have HP1 := Lib.hid hP
  clear hO hP HP0
  go_wp2_with fail
  refine (note_run B p A cp nv1 _ 4 0 _ HP1.out (by have := HL.out; simp only [LS.note, List.length_append, List.length_cons, List.length_nil]; omega)).mono ?_
  rintro e w4 ⟨rfl, hO, nv4, hP⟩
  have HO4 := Lib.hid (HO1.out.trans hO)
  have HP4 := Lib.hid hP
  clear hO hP
  go_wp2
  go_returns
  exact ⟨rfl, HO4.out, nv4, HP4.out⟩
-- what follows a claim
theorem rthen_1 (B : Nat) (p A : Option Addr) (cp : Nat) (nv : Value) (r : LS) (g0 : Nat) (w : World) (h : RunP w B p A cp nv r) (hl : r.ns.length ≤ 900) (hb : Row w g0 35 #[Value.pointer (some ⟨B, 0, none⟩)]) : Calls Tryz.prog 43 #[.pointer (some ⟨g0, 0, none⟩)] w (Done B p A cp w (.tuple #[]) (r.note 4 0)) := by
  have HP0 := Lib.hid h
  have HL := Lib.hid hl
  have b0 : w.cell? ⟨g0, 0, none⟩ = some (Value.pointer (some ⟨B, 0, none⟩)) := hb.one
  have HO0 := Lib.hid (Only.refl (TurnB B A) w)
  clear h hl hb
  go_enter Tryz.func43, Tryz.ntmps43
  go_wp2_with fail
  clear b0
  refine (note_run B p A cp nv _ 4 0 _ HP0.out (Nat.le_trans HL.out (by decide))).mono ?_
  rintro e w4 ⟨rfl, hO, nv4, hP⟩
  have HO4 := Lib.hid (HO0.out.trans hO)
  have HP4 := Lib.hid hP
  clear hO hP
  go_wp2
  go_returns
  exact ⟨rfl, HO4.out, nv4, HP4.out⟩
theorem rthen_3 (B : Nat) (p A : Option Addr) (cp : Nat) (nv : Value) (r : LS) (g0 : Nat) (w : World) (h : RunP w B p A cp nv r) (hl : r.ns.length ≤ 900) (hb : Row w g0 35 #[Value.pointer (some ⟨B, 0, none⟩)]) : Calls Tryz.prog 49 #[.pointer (some ⟨g0, 0, none⟩)] w (Done B p A cp w (.tuple #[]) ((r.note 2 1).note 4 0)) := by
  have HP0 := Lib.hid h
  have HL := Lib.hid hl
  have b0 : w.cell? ⟨g0, 0, none⟩ = some (Value.pointer (some ⟨B, 0, none⟩)) := hb.one
  have HO0 := Lib.hid (Only.refl (TurnB B A) w)
  clear h hl hb
  go_enter Tryz.func49, Tryz.ntmps49
  go_wp2_with fail
  clear b0
  refine (renter_any B p A cp nv r 1 _ HP0.out HL.out).mono ?_
  rintro e w4 ⟨rfl, hO, nv4, hP⟩
  have HO4 := Lib.hid (HO0.out.trans hO)
  have HP4 := Lib.hid hP
  clear hO hP
  go_wp2
  go_returns
  exact ⟨rfl, HO4.out, nv4, HP4.out⟩
theorem rthen_5 (B : Nat) (p A : Option Addr) (cp : Nat) (nv : Value) (r : LS) (g0 : Nat) (w : World) (h : RunP w B p A cp nv r) (hl : r.ns.length ≤ 900) (hb : Row w g0 35 #[Value.pointer (some ⟨B, 0, none⟩)]) : Calls Tryz.prog 52 #[.pointer (some ⟨g0, 0, none⟩)] w (Done B p A cp w (.tuple #[]) ((r.note 2 2).note 4 0)) := by
  have HP0 := Lib.hid h
  have HL := Lib.hid hl
  have b0 : w.cell? ⟨g0, 0, none⟩ = some (Value.pointer (some ⟨B, 0, none⟩)) := hb.one
  have HO0 := Lib.hid (Only.refl (TurnB B A) w)
  clear h hl hb
  go_enter Tryz.func52, Tryz.ntmps52
  go_wp2_with fail
  clear b0
  refine (renter_any B p A cp nv r 2 _ HP0.out HL.out).mono ?_
  rintro e w4 ⟨rfl, hO, nv4, hP⟩
  have HO4 := Lib.hid (HO0.out.trans hO)
  have HP4 := Lib.hid hP
  clear hO hP
  go_wp2
  go_returns
  exact ⟨rfl, HO4.out, nv4, HP4.out⟩
theorem rthen_7 (B : Nat) (p A : Option Addr) (cp : Nat) (nv : Value) (r : LS) (g0 : Nat) (w : World) (h : RunP w B p A cp nv r) (hl : r.ns.length ≤ 900) (hb : Row w g0 35 #[Value.pointer (some ⟨B, 0, none⟩)]) : Calls Tryz.prog 54 #[.pointer (some ⟨g0, 0, none⟩)] w (Done B p A cp w (.tuple #[]) (r.note 9 0)) := by
  have HP0 := Lib.hid h
  have HL := Lib.hid hl
  have b0 : w.cell? ⟨g0, 0, none⟩ = some (Value.pointer (some ⟨B, 0, none⟩)) := hb.one
  have HO0 := Lib.hid (Only.refl (TurnB B A) w)
  clear h hl hb
  go_enter Tryz.func54, Tryz.ntmps54
  go_wp2_with fail
  clear b0
  refine (note_run B p A cp nv _ 9 0 _ HP0.out (Nat.le_trans HL.out (by decide))).mono ?_
  rintro e w4 ⟨rfl, hO, nv4, hP⟩
  have HO4 := Lib.hid (HO0.out.trans hO)
  have HP4 := Lib.hid hP
  clear hO hP
  go_wp2
  go_returns
  exact ⟨rfl, HO4.out, nv4, HP4.out⟩
-- adding, and notes with it
def LS.fChange (r : LS) (x : Int) (l : List Int) : LS := (((r.doA 3 0 x 0).notes l).wake 0).fin true
theorem rf_aside_ch {g0 B g1 : Nat} {v : Value} : ∀ y ∈ [(g0, 35, #[Value.pointer (some ⟨B, 0, none⟩)]), (g1, 113, #[v])], Aside y.2.1 := by
  intro x hx
  simp only [List.mem_cons, List.not_mem_nil, or_false] at hx
  rcases hx with rfl | rfl
  · exact aside_p
  · exact rf_aside_s
set_option maxHeartbeats 1000000 in
theorem rchange_clo (B : Nat) (p A : Option Addr) (cp : Nat) (nv : Value) (r : LS) (x : Int) (V : Value) (l : List Int) (g0 g1 g2 : Nat) (w : World) (h : RunP w B p A cp nv r) (hl : r.ns.length ≤ 900) (hw : Whats B A w V l) (hm9 : l.length ≤ 90) (h1 : Row w g1 23 #[.int .u32 x]) (hb : RowsL w [(g0, 35, #[Value.pointer (some ⟨B, 0, none⟩)]), (g2, 113, #[V])]) :
    Calls Tryz.prog 75 #[.pointer (some ⟨g0, 0, none⟩), .pointer (some ⟨g1, 0, none⟩), .pointer (some ⟨g2, 0, none⟩)] w (Done B p A cp w (.tuple #[]) (r.fChange x l)) := by
  have b1 : w.cell? ⟨g1, 0, none⟩ = some (.int .u32 x) := h1.one
  clear h1
  have HW := Lib.hid hw
  have HM9 := Lib.hid hm9
  obtain ⟨r1, hr1⟩ : ∃ r1, r.doA 3 0 x 0 = r1 := ⟨_, rfl⟩
  rw [show r.fChange x l = ((r1.notes l).wake 0).fin true by rw [← hr1]; rfl]
  have HR1 := Lib.hid (show r1.ns.length ≤ 900 by rw [← hr1]; exact hl)
  have HR2 := Lib.hid hr1
  clear hw hm9 hr1
  have HP0 := Lib.hid h
  have HB0 := Lib.hid hb
  have HL := Lib.hid hl
  have HO0 := Lib.hid (Only.refl (TurnB B A) w)
  clear h hb hl
  have b0 := HB0.out.c0
  go_enter Tryz.func75, Tryz.ntmps75
  go_wp2_with fail
  clear b0 b1
  refine (add_run B p A cp nv r 0 x _ HP0.out).mono ?_
  rw [HR2.out]
  clear HR2
  rintro e w1 ⟨rfl, hO, nv1, hP⟩
  have HO1 := Lib.hid (HO0.out.trans hO)
  have HB1 := Lib.hid (HB0.out.turn HP0.out hO rf_aside_ch)
  have HP1 := Lib.hid hP
  clear hO hP HP0 HO0 HB0
  obtain ⟨Z, c, rfl, hz⟩ := HW.out
  generalize hm : l.length = m at *
  have HM := Lib.hid hm
  have HZ := Lib.hid hz
  have H0 : Hid (Only (TurnB B A) w w1 ∧ RowsL w1 [(g0, 35, #[Value.pointer (some ⟨B, 0, none⟩)]), (g2, 113, #[.slice Z m c])] ∧ ∃ nv, RunP w1 B p A cp nv (r1.notes (l.take 0))) := Lib.hid ⟨HO1.out, HB1.out, nv1, HP1.out⟩
  have b2 := HB1.out.c1
  clear HP1 HO1 HB1 HW hz hm
  go_wp2
  clear b2
  go_loopw [10] (fun iv wr => ∃ k : Nat, k ≤ m ∧ iv = .int .i64 k ∧ Hid (Only (TurnB B A) w wr ∧ RowsL wr [(g0, 35, #[Value.pointer (some ⟨B, 0, none⟩)]), (g2, 113, #[.slice Z m c])] ∧ ∃ nv, RunP wr B p A cp nv (r1.notes (l.take k)))) (fun iv _ => m - (intOf iv).toNat)
  case atStart => exact ⟨0, Nat.zero_le _, rfl, H0⟩
  case round =>
    obtain ⟨k, hk, rfl, HC⟩ := hrel
    clear H0
    have hm9 : m ≤ 90 := HM9.out
    by_cases hlt : k < m
    · obtain ⟨y, hy⟩ : ∃ y, l[k]? = some y := ⟨_, List.getElem?_eq_getElem (by rw [HM.out]; exact hlt)⟩
      obtain ⟨hO, hB, nv2, hP⟩ := HC.out
      obtain ⟨b, o, rfl, hc⟩ := HZ.out _ hO k y hy
      have HP := Lib.hid hP
      have HO := Lib.hid hO
      have HB := Lib.hid hB
      have HN := Lib.hid (notes_next (r := r1) hy)
      have HNL := Lib.hid (show (r1.notes (l.take k)).ns.length ≤ 1000 by rw [notes_len, List.length_take]; have := HR1.out; omega)
      clear HC hO hP hy hB
      have b0 := HB.out.c0
      go_wp2_with fail
      clear hc b0
      refine (note_run B p A cp nv2 _ y 0 _ HP.out HNL.out).mono ?_
      rintro e w2 ⟨rfl, hO, nv3, hP⟩
      have HC2 : Hid (Only (TurnB B A) w w2 ∧ RowsL w2 [(g0, 35, #[Value.pointer (some ⟨B, 0, none⟩)]), (g2, 113, #[.slice (some ⟨b, o, none⟩) m c])] ∧ ∃ nv, RunP w2 B p A cp nv (r1.notes (l.take (k + 1)))) := Lib.hid ⟨HO.out.trans hO, HB.out.turn HP.out hO rf_aside_ch, nv3, by rw [HN.out]; exact hP⟩
      clear hO hP HP HO HB
      go_wp2
      go_roundw
      case rel => exact ⟨k + 1, by omega, by go_num, HC2⟩
      case measure => simp [intOf]; omega
    · obtain rfl : k = m := by omega
      have HE : Hid (Only (TurnB B A) w wr ∧ RowsL wr [(g0, 35, #[Value.pointer (some ⟨B, 0, none⟩)]), (g2, 113, #[.slice Z k c])] ∧ ∃ nv, RunP wr B p A cp nv (r1.notes l)) := Lib.hid (by rw [show l = l.take k by rw [← HM.out, List.take_length]]; exact HC.out)
      clear HC
      obtain ⟨hO, hB, nv2, hP⟩ := HE.out
      have HO2 := Lib.hid hO
      have HB2 := Lib.hid hB
      have HP2 := Lib.hid hP
      clear HE hO hB hP
      have b0 := HB2.out.c0
      go_wp2_with fail
      clear b0
      refine (wake_run B p A cp nv2 _ 0 _ HP2.out).mono ?_
      rintro e w3 ⟨rfl, hO, nv3, hP⟩
      have HO3 := Lib.hid (HO2.out.trans hO)
      have HB3 := Lib.hid (HB2.out.turn HP2.out hO rf_aside_ch)
      have HP3 := Lib.hid hP
      clear hO hP HP2 HO2 HB2
      have b0 := HB3.out.c0
      go_wp2_with fail
      clear b0
      refine (end_run B p A cp nv3 _ _ true HP3.out).mono ?_
      rintro e w4 ⟨rfl, hO, nv4, hP⟩
      have HO4 := Lib.hid (HO3.out.trans hO)
      have HP4 := Lib.hid hP
      clear hO hP
      go_wp2
      go_returns
      exact ⟨rfl, HO4.out, nv4, HP4.out⟩
theorem rchange_make (B : Nat) (p A : Option Addr) (cp : Nat) (nv : Value) (r : LS) (x : Int) (V : Value) (l : List Int) (w : World) (h : RunP w B p A cp nv r) (hl : r.ns.length ≤ 900) (hw : Whats B A w V l) (hm : l.length ≤ 90) :
    Calls Tryz.prog 40 #[Value.pointer (some ⟨B, 0, none⟩), .int .u32 x, V] w (Clo 75 B p A cp (r.fChange x l) w) := by
  have e0 := (((Only.refl Nil w).alloc (.cells #[Value.pointer (some ⟨B, 0, none⟩)] 35)).alloc (.cells #[.int .u32 x] 23)).alloc (.cells #[V] 113)
  have r0 := (((Row.new w 35 #[Value.pointer (some ⟨B, 0, none⟩)]).alloc (.cells #[.int .u32 x] 23)).alloc (.cells #[V] 113))
  have HC := Lib.hid (rchange_clo B p A cp nv r x V l w.heap.size (w.heap.size + 1) (w.heap.size + 1 + 1) _ (h.keep e0) hl (hw.move (e0.mono (fun _ _ h => h.elim))) hm ((Row.at (by simp)).alloc _)
    (RowsL.cons (L := [_]) (RowsL.cons (L := []) (fun _ h => by simp at h) (Row.at (by simp))) r0))
  have HE := Lib.hid e0
  obtain ⟨VA, vc, rfl, _⟩ := hw
  clear h hl e0 r0 hm
  go_enter Tryz.func40, Tryz.ntmps40
  go_wp2
  go_ret
  exact ⟨_, rfl, HE.out, HC.out⟩
-- what is kept of an access
set_option maxHeartbeats 1000000 in
theorem rcin_clo (B : Nat) (p A : Option Addr) (cp : Nat) (nv : Value) (r : LS) (g0 : Nat) (w : World) (h : RunP w B p A cp nv r) (hl : r.ns.length ≤ 900) (hx : Words r.xs) (hb : RowsL w [(g0, 35, #[Value.pointer (some ⟨B, 0, none⟩)])]) :
    Calls Tryz.prog 68 #[.pointer (some ⟨g0, 0, none⟩)] w (Done B p A cp w (.tuple #[]) r.fCome) := by
  have HV := Lib.hid (show 0 ≤ wordAt r.xs 0 ∧ wordAt r.xs 0 < 4294967296 from word_wf hx 0)
  clear hx
  obtain ⟨r1, hr1⟩ : ∃ r1, (r.doA 3 0 1 0).keepA (wordAt r.xs 0) = r1 := ⟨_, rfl⟩
  have HR1 := Lib.hid hr1
  have HL1 := Lib.hid (show r1.ns.length ≤ 900 by rw [← hr1]; exact hl)
  have HA1 := Lib.hid (show r1.a = wordAt r.xs 0 by rw [← hr1]; rfl)
  obtain ⟨RR, hRR⟩ : ∃ RR, r.fCome = RR := ⟨_, rfl⟩
  rw [hRR]
  unfold LS.fCome at hRR
  rw [hr1] at hRR
  have HRR := Lib.hid hRR
  clear hRR hr1
  have HP0 := Lib.hid h
  have HB0 := Lib.hid hb
  have HL := Lib.hid hl
  have HO0 := Lib.hid (Only.refl (TurnB B A) w)
  clear h hb hl
  have b0 := HB0.out.c0
  go_enter Tryz.func68, Tryz.ntmps68
  go_upto_region 0 with (fail)
  refine wp_region_phase (n := 7) 6 (fun w => w.cell? ⟨g0, 0, none⟩ = some (Value.pointer (some ⟨B, 0, none⟩))) rfl (by kernel_rfl) b0 (fun hHeld => ?_)
  clear b0
  have HP0b := Lib.hid (HP0.out.keep (Only.refl Nil w).drew)
  have HB0b := Lib.hid (HB0.out.keep (Only.refl Nil w).drew)
  have HO0b := Lib.hid HO0.out.drew
  clear HP0 HB0 HO0
  generalize w.drew = w0 at *
  refine zt 0 rfl ?_
  refine zt 1 rfl ?_
  refine mpc 2 rfl (by kernel_rfl) (by rfl) (fun K hK => ?_)
  go_simp
  refine (add_run B p A cp nv r 0 1 _ HP0b.out).mono ?_
  rintro e w1 ⟨rfl, hO, nv1, hP⟩
  have HO1 := Lib.hid (HO0b.out.trans hO)
  have HB1 := Lib.hid (HB0b.out.turn HP0b.out hO aside_1)
  have HP1 := Lib.hid hP
  clear hO hP HP0b HO0b HB0b
  have hHeld2 := HB1.out.c0
  refine hK.out _ _ (.inr hHeld2) ?_
  clear hK K hHeld
  refine za 3 rfl ?_
  refine za 4 rfl ?_
  refine za 5 rfl ?_
  have c6 : w1.cell? ⟨B, 6, none⟩ = some (.int .u32 (r.doA 3 0 1 0).a) := HP1.out.row.cell_ (i := 6) rfl
  have f6 : w1.frozen? ⟨B, 6, none⟩ = false := HP1.out.row.frozen 6
  refine mpc 6 rfl (by kernel_rfl) (by rfl) (fun K hK => ?_)
  go_simp
  have HP2 := Lib.hid (HP1.out.setA (wordAt r.xs 0))
  have HO2 := Lib.hid (HO1.out.setCell (p := ⟨B, 6, none⟩) (.inr (.inl rfl)) (.int .u32 (wordAt r.xs 0)))
  have HB2 := Lib.hid (HB1.out.turn HP1.out ((Only.refl (TurnB B A) w1).setCell (p := ⟨B, 6, none⟩) (.inr (.inl rfl)) (.int .u32 (wordAt r.xs 0))) aside_1)
  refine hK.out _ _ (.inl (by kernel_rfl)) ?_
  clear hK K hHeld2 c6 f6 HP1 HO1 HB1
  generalize w1.setCell ⟨B, 6, none⟩ (.int .u32 (wordAt r.xs 0)) = w2 at *
  refine wpAnyP_done (by kernel_rfl) ?_ _
  have b0 := HB2.out.c0
  rw [HR1.out] at HP2
  have c6 : w2.cell? ⟨B, 6, none⟩ = some (.int .u32 (wordAt r.xs 0)) := by rw [← HA1.out]; exact HP2.out.row.cell_ (i := 6) rfl
  go_wp2_with fail
  clear b0 c6
  refine (written_any _ _ HV.out.1 HV.out.2).mono ?_
  rintro e w3 ⟨rfl, rfl⟩
  obtain ⟨q, hq⟩ : ∃ q, outW (wordAt r.xs 0) = q := ⟨_, rfl⟩
  rw [hq] at HRR ⊢
  clear hq
  have b0 := HB2.out.c0
  cases q
  · have eR := HRR.out
    rw [if_neg Bool.false_ne_true] at eR
    subst eR
    dsimp only [Bool.not_false]
    go_wp2_with fail
    clear b0
    refine (note_run B p A cp nv1 _ 2 1 _ HP2.out (Nat.le_trans HL1.out (by decide))).mono ?_
    rintro e w3 ⟨rfl, hO, nv3, hP⟩
    have HO3 := Lib.hid (HO2.out.trans hO)
    have HB3 := Lib.hid (HB2.out.turn HP2.out hO aside_1)
    have HP3 := Lib.hid hP
    clear hO hP HP2 HO2 HB2
    have b0 := HB3.out.c0
    go_wp2_with fail
    clear b0
    refine (go_run B p A cp nv3 _ 1 _ HP3.out).mono ?_
    rintro e w4 ⟨rfl, hO, nv4, hP⟩
    have HO4 := Lib.hid (HO3.out.trans hO)
    have HP4 := Lib.hid hP
    clear hO hP
    go_wp2
    go_returns
    exact ⟨rfl, HO4.out, nv4, HP4.out⟩
  · have eR := HRR.out
    rw [if_pos rfl] at eR
    subst eR
    dsimp only [Bool.not_true]
    go_wp2_with fail
    clear b0
    refine (renter_any B p A cp nv1 _ 1 _ HP2.out HL1.out).mono ?_
    rintro e w3 ⟨rfl, hO, nv3, hP⟩
    have HO3 := Lib.hid (HO2.out.trans hO)
    have HB3 := Lib.hid (HB2.out.turn HP2.out hO aside_1)
    have HP3 := Lib.hid hP
    clear hO hP HP2 HO2 HB2
    have b0 := HB3.out.c0
    go_wp2_with fail
    clear b0
    refine (end_run B p A cp nv3 _ _ true HP3.out).mono ?_
    rintro e w4 ⟨rfl, hO, nv4, hP⟩
    have HO4 := Lib.hid (HO3.out.trans hO)
    have HP4 := Lib.hid hP
    clear hO hP
    go_wp2
    go_returns
    exact ⟨rfl, HO4.out, nv4, HP4.out⟩
set_option maxHeartbeats 1000000 in
theorem rask_clo (B : Nat) (p A : Option Addr) (cp : Nat) (nv : Value) (r : LS) (g0 : Nat) (w : World) (h : RunP w B p A cp nv r) (hl : r.ns.length ≤ 900) (hx : Words r.xs) (hb : RowsL w [(g0, 35, #[Value.pointer (some ⟨B, 0, none⟩)])]) :
    Calls Tryz.prog 77 #[.pointer (some ⟨g0, 0, none⟩)] w (Done B p A cp w (.tuple #[]) r.fReg) := by
  clear hx
  obtain ⟨r1, hr1⟩ : ∃ r1, (r.doA 1 0 0 0).keepA (wordAt r.xs 0) = r1 := ⟨_, rfl⟩
  have HR1 := Lib.hid hr1
  have HL1 := Lib.hid (show r1.ns.length ≤ 900 by rw [← hr1]; exact hl)
  have HA1 := Lib.hid (show r1.a = wordAt r.xs 0 by rw [← hr1]; rfl)
  obtain ⟨RR, hRR⟩ : ∃ RR, r.fReg = RR := ⟨_, rfl⟩
  rw [hRR]
  unfold LS.fReg at hRR
  rw [hr1] at hRR
  have HRR := Lib.hid hRR
  clear hRR hr1
  have HP0 := Lib.hid h
  have HB0 := Lib.hid hb
  have HL := Lib.hid hl
  have HO0 := Lib.hid (Only.refl (TurnB B A) w)
  clear h hb hl
  have b0 := HB0.out.c0
  go_enter Tryz.func77, Tryz.ntmps77
  go_upto_region 0 with (fail)
  refine wp_region_phase (n := 7) 6 (fun w => w.cell? ⟨g0, 0, none⟩ = some (Value.pointer (some ⟨B, 0, none⟩))) rfl (by kernel_rfl) b0 (fun hHeld => ?_)
  clear b0
  have HP0b := Lib.hid (HP0.out.keep (Only.refl Nil w).drew)
  have HB0b := Lib.hid (HB0.out.keep (Only.refl Nil w).drew)
  have HO0b := Lib.hid HO0.out.drew
  clear HP0 HB0 HO0
  generalize w.drew = w0 at *
  refine zt 0 rfl ?_
  refine zt 1 rfl ?_
  refine mpc 2 rfl (by kernel_rfl) (by rfl) (fun K hK => ?_)
  go_simp
  refine (load_run B p A cp nv r 0 _ HP0b.out).mono ?_
  rintro e w1 ⟨rfl, hO, nv1, hP⟩
  have HO1 := Lib.hid (HO0b.out.trans hO)
  have HB1 := Lib.hid (HB0b.out.turn HP0b.out hO aside_1)
  have HP1 := Lib.hid hP
  clear hO hP HP0b HO0b HB0b
  have hHeld2 := HB1.out.c0
  refine hK.out _ _ (.inr hHeld2) ?_
  clear hK K hHeld
  refine za 3 rfl ?_
  refine za 4 rfl ?_
  refine za 5 rfl ?_
  have c6 : w1.cell? ⟨B, 6, none⟩ = some (.int .u32 (r.doA 1 0 0 0).a) := HP1.out.row.cell_ (i := 6) rfl
  have f6 : w1.frozen? ⟨B, 6, none⟩ = false := HP1.out.row.frozen 6
  refine mpc 6 rfl (by kernel_rfl) (by rfl) (fun K hK => ?_)
  go_simp
  have HP2 := Lib.hid (HP1.out.setA (wordAt r.xs 0))
  have HO2 := Lib.hid (HO1.out.setCell (p := ⟨B, 6, none⟩) (.inr (.inl rfl)) (.int .u32 (wordAt r.xs 0)))
  have HB2 := Lib.hid (HB1.out.turn HP1.out ((Only.refl (TurnB B A) w1).setCell (p := ⟨B, 6, none⟩) (.inr (.inl rfl)) (.int .u32 (wordAt r.xs 0))) aside_1)
  refine hK.out _ _ (.inl (by kernel_rfl)) ?_
  clear hK K hHeld2 c6 f6 HP1 HO1 HB1
  generalize w1.setCell ⟨B, 6, none⟩ (.int .u32 (wordAt r.xs 0)) = w2 at *
  refine wpAnyP_done (by kernel_rfl) ?_ _
  have b0 := HB2.out.c0
  rw [HR1.out] at HP2
  go_wp2_with fail
  clear b0
  refine (note_run B p A cp nv1 _ 2 2 _ HP2.out (Nat.le_trans HL1.out (by decide))).mono ?_
  rintro e w3 ⟨rfl, hO, nv3, hP⟩
  have HO3 := Lib.hid (HO2.out.trans hO)
  have HB3 := Lib.hid (HB2.out.turn HP2.out hO aside_1)
  have HP3 := Lib.hid hP
  clear hO hP HP2 HO2 HB2
  have b0 := HB3.out.c0
  have c6 : w3.cell? ⟨B, 6, none⟩ = some (.int .u32 (wordAt r.xs 0)) := by rw [← HA1.out]; exact HP3.out.row.cell_ (i := 6) rfl
  generalize wordAt r.xs 0 = v at *
  by_cases hv : v = 0
  · have eR := HRR.out
    rw [if_pos hv] at eR
    subst eR
    go_wp2_with fail
    clear b0 c6
    refine (go_run B p A cp nv3 _ 1 _ HP3.out).mono ?_
    rintro e w4 ⟨rfl, hO, nv4, hP⟩
    have HO4 := Lib.hid (HO3.out.trans hO)
    have HP4 := Lib.hid hP
    clear hO hP
    go_wp2
    go_returns
    exact ⟨rfl, HO4.out, nv4, HP4.out⟩
  · have eR := HRR.out
    rw [if_neg hv] at eR
    subst eR
    go_wp2_with fail
    clear b0 c6
    refine (go_run B p A cp nv3 _ 2 _ HP3.out).mono ?_
    rintro e w4 ⟨rfl, hO, nv4, hP⟩
    have HO4 := Lib.hid (HO3.out.trans hO)
    have HP4 := Lib.hid hP
    clear hO hP
    go_wp2
    go_returns
    exact ⟨rfl, HO4.out, nv4, HP4.out⟩
theorem rcin_make (B : Nat) (p A : Option Addr) (cp : Nat) (nv : Value) (r : LS) (w : World) (h : RunP w B p A cp nv r) (hl : r.ns.length ≤ 900) (hx : Words r.xs) :
    Calls Tryz.prog 38 #[Value.pointer (some ⟨B, 0, none⟩)] w (Clo 68 B p A cp r.fCome w) := by
  have e0 := (Only.refl Nil w).alloc (.cells #[Value.pointer (some ⟨B, 0, none⟩)] 35)
  have HC := Lib.hid (rcin_clo B p A cp nv r _ _ (h.keep e0) hl hx (RowsL.cons (L := []) (fun _ h => by simp at h) (Row.new w 35 #[Value.pointer (some ⟨B, 0, none⟩)])))
  have HE := Lib.hid e0
  clear h hl hx e0
  go_enter Tryz.func38, Tryz.ntmps38
  go_wp2
  go_ret
  exact ⟨_, rfl, HE.out, HC.out⟩
theorem rask_make (B : Nat) (p A : Option Addr) (cp : Nat) (nv : Value) (r : LS) (w : World) (h : RunP w B p A cp nv r) (hl : r.ns.length ≤ 900) (hx : Words r.xs) :
    Calls Tryz.prog 41 #[Value.pointer (some ⟨B, 0, none⟩)] w (Clo 77 B p A cp r.fReg w) := by
  have e0 := (Only.refl Nil w).alloc (.cells #[Value.pointer (some ⟨B, 0, none⟩)] 35)
  have HC := Lib.hid (rask_clo B p A cp nv r _ _ (h.keep e0) hl hx (RowsL.cons (L := []) (fun _ h => by simp at h) (Row.new w 35 #[Value.pointer (some ⟨B, 0, none⟩)])))
  have HE := Lib.hid e0
  clear h hl hx e0
  go_enter Tryz.func41, Tryz.ntmps41
  go_wp2
  go_ret
  exact ⟨_, rfl, HE.out, HC.out⟩
end Go.Proofs.YtkmkeleifkkbnaaGreat
