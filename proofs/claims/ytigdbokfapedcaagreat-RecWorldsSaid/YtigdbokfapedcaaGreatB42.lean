/- RfC, RfW. -/
import Derived.Laws.BitsAllLaws
import Derived.Laws.BitsLemmas
import Derived.Test.YtigdbokfapedcaaGreatB15
import Derived.Test.YtigdbokfapedcaaGreatB13
import Derived.Test.YtigdbokfapedcaaGreatB4
/- rf's lines, the program's: the closures that wait for nothing. -/
set_option linter.unusedVariables false
set_option linter.unusedSimpArgs false
namespace Go.Proofs.YtigdbokfapedcaaGreat
open Go.RowKit

theorem rf_aside_f : Aside 1 := ⟨by decide, by decide, by decide⟩
theorem rf_aside_w : Aside 138 := ⟨by decide, by decide, by decide⟩
theorem rf_aside_s : Aside 35 := ⟨by decide, by decide, by decide⟩

-- bit 16
theorem bit16 {v : Int} (h0 : 0 ≤ v) (h1 : v < 4294967296) : bits .and .u32 v 65536 = v / 65536 % 2 * 65536 := by
  obtain ⟨m, rfl⟩ := Int.eq_ofNat_of_zero_le h0
  have e : bits .and .u32 (m : Int) ((65536 : Nat) : Int) = ((m &&& 65536 : Nat) : Int) := u32_and_nat m 65536 (by omega) (by decide)
  rw [show ((65536 : Nat) : Int) = (65536 : Int) from rfl] at e
  rw [e]
  have e2 : m &&& 65536 = m / 65536 % 2 * 65536 := by
    apply Nat.eq_of_testBit_eq
    intro i
    rw [Nat.testBit_and, show (65536 : Nat) = 2 ^ 16 from rfl, Nat.testBit_two_pow, Nat.testBit_mul_two_pow]
    by_cases h : 16 = i
    · subst h
      simp [Nat.testBit_eq_decide_div_mod_eq]
    · by_cases h2 : 16 ≤ i
      · have h3 : ∃ j, i - 16 = j + 1 := ⟨i - 17, by omega⟩
        obtain ⟨j, h3⟩ := h3
        have h4 : m / 2 ^ 16 % 2 < 2 := Nat.mod_lt _ (by decide)
        have h5 : (m / 2 ^ 16 % 2).testBit (j + 1) = false := Nat.testBit_lt_two_pow (Nat.lt_of_lt_of_le h4 (by
          have := Nat.one_le_two_pow (n := j)
          rw [Nat.pow_succ]; omega))
        simp [h, h3, h5]
      · simp [h, h2]
  rw [e2]
  omega
theorem written_any (v : Int) (w : World) (h0 : 0 ≤ v) (h1 : v < 4294967296) : Calls Tryz.prog 145 #[.int .u32 v] w fun e w' => e = .returned (.bool (!outW v)) ∧ w = w' := by
  have hb := bit16 h0 h1
  have HQ := Lib.hid (show (!(v / 65536 % 2 * 65536 == 0)) = (!outW v) by
    unfold outW
    rcases Int.emod_two_eq (v / 65536) with e | e <;> rw [e] <;> rfl)
  clear h0 h1
  generalize (!outW v) = q at *
  generalize v / 65536 % 2 * 65536 = z at *
  go_enter Tryz.func145, Tryz.ntmps145
  go_wp2
  go_ret
  exact ⟨congrArg (fun x => Ending.returned (.bool x)) HQ.out, rfl⟩

/-- A function of a word, as it is handed in: it tells q of it. -/
def Asks (F : Nat) (q : Int → Bool) : Prop := ∀ (v : Int) (w : World), 0 ≤ v → v < 4294967296 → Calls Tryz.prog F #[.int .u32 v] w fun e w' => e = .returned (.bool (q v)) ∧ w = w'
theorem asks_out : Asks 144 outW := by
  intro v w h0 h1
  have HT := Lib.hid (written_any v w h0 h1)
  clear h0 h1
  generalize outW v = q at *
  go_enter Tryz.func144, Tryz.ntmps144
  go_wp2_with fail
  refine HT.out.mono ?_
  rintro e w1 ⟨rfl, rfl⟩
  clear HT
  go_wp2
  go_ret
  exact ⟨rfl, rfl⟩
theorem asks_zero : Asks 148 (fun v => v == 0) := by
  intro v w h0 h1
  go_enter Tryz.func148, Tryz.ntmps148
  go_wp2
  go_ret
  exact ⟨rfl, rfl⟩
theorem asks_one : Asks 150 (fun v => v == 1) := by
  intro v w h0 h1
  go_enter Tryz.func150, Tryz.ntmps150
  go_wp2
  go_ret
  exact ⟨rfl, rfl⟩
theorem enters_s2 : Enters1 144 := fun args w => by simp [callFunc, go_sem, Tryz.func144, Tryz.f144]
theorem enters_s4 : Enters1 148 := fun args w => by simp [callFunc, go_sem, Tryz.func148, Tryz.f148]
theorem enters_s6 : Enters1 150 := fun args w => by simp [callFunc, go_sem, Tryz.func150, Tryz.f150]
theorem enters_s1 : Enters1 141 := fun args w => by simp [callFunc, go_sem, Tryz.func141, Tryz.f141]
theorem enters_s3 : Enters1 146 := fun args w => by simp [callFunc, go_sem, Tryz.func146, Tryz.f146]
theorem enters_s5 : Enters1 149 := fun args w => by simp [callFunc, go_sem, Tryz.func149, Tryz.f149]
theorem enters_s7 : Enters1 151 := fun args w => by simp [callFunc, go_sem, Tryz.func151, Tryz.f151]

section
variable {B g0 g1 g2 : Nat} {p A : Option Addr} {cp m : Nat} {nv : Value} {r : LS} {w w0 : World}
/-- A request of that class, and that it is admitted. -/
theorem renter_st (cl : Int) (S : St w0 B p A cp [] m r w) (hm : m + 1 ≤ 1000) : Calls Tryz.prog 147 #[Value.pointer (some ⟨B, 0, none⟩), .int .i64 cl] w (Done B p A cp w0 (.tuple #[]) ((r.note 2 cl).note 4 0)) := by
  go_enter Tryz.func147, Tryz.ntmps147
  go_wp2_with fail
  refine xNote S (fun w S => ?_) (by omega)
  go_wp2_with fail
  refine xNote S (fun w S => ?_) hm
  go_wp2
  go_returns
  exact S.done
theorem renter_any (B : Nat) (p A : Option Addr) (cp : Nat) (nv : Value) (r : LS) (cl : Int) (w : World) (h : RunP w B p A cp nv r) (hl : r.ns.length ≤ 900) : Calls Tryz.prog 147 #[Value.pointer (some ⟨B, 0, none⟩), .int .i64 cl] w (Done B p A cp w (.tuple #[]) ((r.note 2 cl).note 4 0)) :=
  renter_st cl (st_new h hl (rows_nil _) asides_nil) (by decide)

-- what follows a claim
theorem rthen_1 (B : Nat) (p A : Option Addr) (cp : Nat) (nv : Value) (r : LS) (g0 : Nat) (w : World) (h : RunP w B p A cp nv r) (hl : r.ns.length ≤ 900) (hb : Row w g0 99 #[Value.pointer (some ⟨B, 0, none⟩)]) : Calls Tryz.prog 141 #[.pointer (some ⟨g0, 0, none⟩)] w (Done B p A cp w (.tuple #[]) (r.note 4 0)) := by
  have S := st_new h hl ((rows_nil w).cons hb) (asides_cons aside_p asides_nil)
  have b0 := S.c0
  clear h hl hb
  go_enter Tryz.func141, Tryz.ntmps141
  go_wp2_with fail
  refine sNote S fun w S b0 => ?_
  go_wp2
  go_returns
  exact S.done
theorem rthen_3 (B : Nat) (p A : Option Addr) (cp : Nat) (nv : Value) (r : LS) (g0 : Nat) (w : World) (h : RunP w B p A cp nv r) (hl : r.ns.length ≤ 900) (hb : Row w g0 99 #[Value.pointer (some ⟨B, 0, none⟩)]) : Calls Tryz.prog 146 #[.pointer (some ⟨g0, 0, none⟩)] w (Done B p A cp w (.tuple #[]) ((r.note 2 1).note 4 0)) := by
  have S := st_new h hl ((rows_nil w).cons hb) (asides_cons aside_p asides_nil)
  have b0 := S.c0
  clear h hl hb
  go_enter Tryz.func146, Tryz.ntmps146
  go_wp2_with fail
  refine S.call (fun nv h => renter_any B p A cp nv r 1 _ h S.len) (m' := 902) (by have := S.len; simp only [LS.note, List.length_append, List.length_cons, List.length_nil]; omega) fun w S => ?_
  go_wp2
  go_returns
  exact S.done
theorem rthen_5 (B : Nat) (p A : Option Addr) (cp : Nat) (nv : Value) (r : LS) (g0 : Nat) (w : World) (h : RunP w B p A cp nv r) (hl : r.ns.length ≤ 900) (hb : Row w g0 99 #[Value.pointer (some ⟨B, 0, none⟩)]) : Calls Tryz.prog 149 #[.pointer (some ⟨g0, 0, none⟩)] w (Done B p A cp w (.tuple #[]) ((r.note 2 2).note 4 0)) := by
  have S := st_new h hl ((rows_nil w).cons hb) (asides_cons aside_p asides_nil)
  have b0 := S.c0
  clear h hl hb
  go_enter Tryz.func149, Tryz.ntmps149
  go_wp2_with fail
  refine S.call (fun nv h => renter_any B p A cp nv r 2 _ h S.len) (m' := 902) (by have := S.len; simp only [LS.note, List.length_append, List.length_cons, List.length_nil]; omega) fun w S => ?_
  go_wp2
  go_returns
  exact S.done
theorem rthen_7 (B : Nat) (p A : Option Addr) (cp : Nat) (nv : Value) (r : LS) (g0 : Nat) (w : World) (h : RunP w B p A cp nv r) (hl : r.ns.length ≤ 900) (hb : Row w g0 99 #[Value.pointer (some ⟨B, 0, none⟩)]) : Calls Tryz.prog 151 #[.pointer (some ⟨g0, 0, none⟩)] w (Done B p A cp w (.tuple #[]) (r.note 9 0)) := by
  have S := st_new h hl ((rows_nil w).cons hb) (asides_cons aside_p asides_nil)
  have b0 := S.c0
  clear h hl hb
  go_enter Tryz.func151, Tryz.ntmps151
  go_wp2_with fail
  refine sNote S fun w S b0 => ?_
  go_wp2
  go_returns
  exact S.done

-- adding, and notes with it
set_option maxHeartbeats 1000000 in
theorem rchange_clo (x : Int) (V : Value) (l : List Int) (S : St w B p A cp [(g0, 99, #[Value.pointer (some ⟨B, 0, none⟩)]), (g2, 35, #[V])] 900 r w) (hw : Whats B A w V l) (hm9 : l.length ≤ 90) (h1 : Row w g1 22 #[.int .u32 x]) :
    Calls Tryz.prog 226 #[.pointer (some ⟨g0, 0, none⟩), .pointer (some ⟨g1, 0, none⟩), .pointer (some ⟨g2, 0, none⟩)] w (Done B p A cp w (.tuple #[]) (r.fChange x l)) := by
  have b1 : w.cell? ⟨g1, 0, none⟩ = some (.int .u32 x) := h1.one
  have b0 := S.c0
  have HM9 := Lib.hid hm9
  obtain ⟨r1, hr1⟩ : ∃ r1, r.doA 3 0 x 0 = r1 := ⟨_, rfl⟩
  rw [show r.fChange x l = ((r1.notes l).wake 0).fin true by rw [← hr1]; rfl]
  have HR2 := Lib.hid hr1
  have HW := Lib.hid hw
  clear hw hm9 hr1 h1
  go_enter Tryz.func226, Tryz.ntmps226
  go_wp2_with fail
  clear b0 b1
  refine sAdd S fun w1 S b0 => ?_
  rw [HR2.out] at S
  obtain ⟨Z, c, rfl, hz⟩ := HW.out
  generalize hm : l.length = m at *
  have HM := Lib.hid hm
  have HZ := Lib.hid hz
  have b2 := S.rows.c1
  clear HW hz hm HR2
  go_wp2
  clear b2 b0
  go_loopw [10] (fun iv wr => ∃ k : Nat, k ≤ m ∧ iv = .int .i64 k ∧ St w B p A cp [(g0, 99, #[Value.pointer (some ⟨B, 0, none⟩)]), (g2, 35, #[.slice Z m c])] (900 + k) (r1.notes (l.take k)) wr) (fun iv _ => m - (intOf iv).toNat)
  case atStart => exact ⟨0, Nat.zero_le _, rfl, S⟩
  case round =>
    obtain ⟨k, hk, rfl, S⟩ := hrel
    have b0 := S.c0
    have hm9 : m ≤ 90 := HM9.out
    by_cases hlt : k < m
    · obtain ⟨y, hy⟩ : ∃ y, l[k]? = some y := ⟨_, List.getElem?_eq_getElem (by rw [HM.out]; exact hlt)⟩
      obtain ⟨b, o, rfl, hc⟩ := HZ.out _ S.only k y hy
      have HN := Lib.hid (notes_next (r := r1) hy)
      clear hy
      go_wp2_with fail
      clear hc b0
      refine sNote S (fun w2 S b0 => ?_) (by omega)
      rw [← HN.out] at S
      go_wp2
      go_roundw
      case rel => exact ⟨k + 1, by omega, by go_num, S⟩
      case measure => simp [intOf]; omega
    · obtain rfl : k = m := by omega
      rw [show l.take k = l by rw [← HM.out, List.take_length]] at S
      go_wp2_with fail
      refine sWake S fun w S b0 => ?_
      go_wp2_with fail
      refine sEnd S fun w S b0 => ?_
      go_wp2
      go_returns
      exact S.done
theorem rchange_make (B : Nat) (p A : Option Addr) (cp : Nat) (nv : Value) (r : LS) (x : Int) (V : Value) (l : List Int) (w : World) (h : RunP w B p A cp nv r) (hl : r.ns.length ≤ 900) (hw : Whats B A w V l) (hm : l.length ≤ 90) :
    Calls Tryz.prog 138 #[Value.pointer (some ⟨B, 0, none⟩), .int .u32 x, V] w (Clo 226 B p A cp (r.fChange x l) w) := by
  have e0 := (((Only.refl Nil w).alloc (.cells #[Value.pointer (some ⟨B, 0, none⟩)] 99)).alloc (.cells #[.int .u32 x] 22)).alloc (.cells #[V] 35)
  have HC := Lib.hid (rchange_clo x V l (st_new (h.keep e0) hl (((rows_nil _).cons (Row.at (k := w.heap.size + 1 + 1) (by simp))).cons (((Row.new w _ _).alloc _).alloc _)) (asides_cons aside_p (asides_cons rf_aside_s asides_nil))) (hw.move (e0.mono (fun _ _ h => h.elim))) hm ((Row.new2 w _ _ _).alloc _))
  have HE := Lib.hid e0
  obtain ⟨VA, vc, rfl, _⟩ := hw
  clear h hl e0 hm
  go_enter Tryz.func138, Tryz.ntmps138
  go_wp2
  go_ret
  exact ⟨_, rfl, HE.out, HC.out⟩

-- what is kept of an access
set_option maxHeartbeats 1000000 in
theorem rcin_clo (S : St w B p A cp [(g0, 99, #[Value.pointer (some ⟨B, 0, none⟩)])] 900 r w) (hx : Words r.xs) : Calls Tryz.prog 223 #[.pointer (some ⟨g0, 0, none⟩)] w (Done B p A cp w (.tuple #[]) r.fCome) := by
  have HV := Lib.hid (word_wf hx 0)
  clear hx
  have b0 := S.c0
  go_enter Tryz.func223, Tryz.ntmps223
  go_upto_region 0 with (fail)
  refine wp_region_phase (n := 7) 6 (fun w => w.cell? ⟨g0, 0, none⟩ = some (Value.pointer (some ⟨B, 0, none⟩))) rfl (by kernel_rfl) b0 (fun hHeld => ?_)
  replace S := S.drew
  clear b0
  generalize w.drew = w1 at *
  refine zt 0 rfl ?_
  refine zt 1 rfl ?_
  refine mpc 2 rfl (by kernel_rfl) (by rfl) (fun K hK => ?_)
  go_simp
  refine sAdd S fun w2 S b0 => ?_
  refine hK.out _ _ (.inr b0) ?_
  clear hK K hHeld
  refine za 3 rfl ?_
  refine za 4 rfl ?_
  refine za 5 rfl ?_
  have c6 := S.c6
  have f6 := S.froz 6
  refine mpc 6 rfl (by kernel_rfl) (by rfl) (fun K hK => ?_)
  go_simp
  refine hK.out _ _ (.inl (by kernel_rfl)) ?_
  clear hK K c6 f6 b0
  replace S := S.setA (wordAt r.xs 0)
  generalize w2.setCell ⟨B, 6, none⟩ (.int .u32 (wordAt r.xs 0)) = w3 at *
  refine wpAnyP_done (by kernel_rfl) ?_ _
  have b0 := S.c0
  have c6 : w3.cell? ⟨B, 6, none⟩ = some (.int .u32 (wordAt r.xs 0)) := S.c6
  go_wp2_with fail
  clear c6
  refine (written_any _ _ HV.out.1 HV.out.2).mono ?_
  rintro e w4 ⟨rfl, rfl⟩
  cases hq : outW (wordAt r.xs 0)
  · have H := Lib.hid hq
    clear hq
    go_wp2_with fail
    refine sNote S fun w S b0 => ?_
    go_wp2_with fail
    refine sGo S fun w S b0 => ?_
    go_wp2
    go_returns
    exact S.fit (by unfold LS.fCome; exact ite_f H.out)
  · have H := Lib.hid hq
    clear hq
    go_wp2_with fail
    refine S.call0 (fun nv h => renter_any B p A cp nv _ 1 _ h S.len) (m' := 902) (by have := S.len; simp only [LS.note, List.length_append, List.length_cons, List.length_nil]; omega) fun w S b0 => ?_
    go_wp2_with fail
    refine sEnd S fun w S b0 => ?_
    go_wp2
    go_returns
    exact S.fit (by unfold LS.fCome; exact ite_t H.out)
set_option maxHeartbeats 1000000 in
theorem rask_clo (S : St w B p A cp [(g0, 99, #[Value.pointer (some ⟨B, 0, none⟩)])] 900 r w) (hx : Words r.xs) : Calls Tryz.prog 227 #[.pointer (some ⟨g0, 0, none⟩)] w (Done B p A cp w (.tuple #[]) r.fReg) := by
  clear hx
  have b0 := S.c0
  go_enter Tryz.func227, Tryz.ntmps227
  go_upto_region 0 with (fail)
  refine wp_region_phase (n := 7) 6 (fun w => w.cell? ⟨g0, 0, none⟩ = some (Value.pointer (some ⟨B, 0, none⟩))) rfl (by kernel_rfl) b0 (fun hHeld => ?_)
  replace S := S.drew
  clear b0
  generalize w.drew = w1 at *
  refine zt 0 rfl ?_
  refine zt 1 rfl ?_
  refine mpc 2 rfl (by kernel_rfl) (by rfl) (fun K hK => ?_)
  go_simp
  refine sLoad S fun w2 S b0 => ?_
  refine hK.out _ _ (.inr b0) ?_
  clear hK K hHeld
  refine za 3 rfl ?_
  refine za 4 rfl ?_
  refine za 5 rfl ?_
  have c6 := S.c6
  have f6 := S.froz 6
  refine mpc 6 rfl (by kernel_rfl) (by rfl) (fun K hK => ?_)
  go_simp
  refine hK.out _ _ (.inl (by kernel_rfl)) ?_
  clear hK K c6 f6 b0
  replace S := S.setA (wordAt r.xs 0)
  generalize w2.setCell ⟨B, 6, none⟩ (.int .u32 (wordAt r.xs 0)) = w3 at *
  refine wpAnyP_done (by kernel_rfl) ?_ _
  have b0 := S.c0
  go_wp2_with fail
  refine sNote S fun w4 S b0 => ?_
  have c6 : w4.cell? ⟨B, 6, none⟩ = some (.int .u32 (wordAt r.xs 0)) := S.c6
  by_cases hv : wordAt r.xs 0 = 0
  · skip
    go_wp2_with fail
    refine sGo S fun w S b0 => ?_
    go_wp2
    go_returns
    exact S.fit (by unfold LS.fReg; exact if_pos hv)
  · skip
    go_wp2_with fail
    refine sGo S fun w S b0 => ?_
    go_wp2
    go_returns
    exact S.fit (by unfold LS.fReg; exact if_neg hv)
theorem rcin_make (B : Nat) (p A : Option Addr) (cp : Nat) (nv : Value) (r : LS) (w : World) (h : RunP w B p A cp nv r) (hl : r.ns.length ≤ 900) (hx : Words r.xs) :
    Calls Tryz.prog 136 #[Value.pointer (some ⟨B, 0, none⟩)] w (Clo 223 B p A cp (r.fCome) w) := by
  obtain ⟨e, S⟩ := mk1 h hl
  have HC := Lib.hid (rcin_clo S hx)
  clear S h hl hx
  go_enter Tryz.func136, Tryz.ntmps136
  go_wp2
  go_ret
  exact ⟨_, rfl, e, HC.out⟩
theorem rask_make (B : Nat) (p A : Option Addr) (cp : Nat) (nv : Value) (r : LS) (w : World) (h : RunP w B p A cp nv r) (hl : r.ns.length ≤ 900) (hx : Words r.xs) :
    Calls Tryz.prog 139 #[Value.pointer (some ⟨B, 0, none⟩)] w (Clo 227 B p A cp (r.fReg) w) := by
  obtain ⟨e, S⟩ := mk1 h hl
  have HC := Lib.hid (rask_clo S hx)
  clear S h hl hx
  go_enter Tryz.func139, Tryz.ntmps139
  go_wp2
  go_ret
  exact ⟨_, rfl, e, HC.out⟩
end
end Go.Proofs.YtigdbokfapedcaaGreat
/- rf's lines, the program's: the closures that weigh, claim and wait. -/
set_option linter.unusedVariables false
set_option linter.unusedSimpArgs false
namespace Go.Proofs.YtigdbokfapedcaaGreat
open Go.RowKit

section
variable {B g0 g1 g2 g3 g4 g5 : Nat} {p A : Option Addr} {cp m : Nat} {nv : Value} {r : LS} {w w0 : World}
-- waiting
theorem asks_leave : Asks 225 outW := by
  intro v w h0 h1
  have HT := Lib.hid (written_any v w h0 h1)
  clear h0 h1
  generalize outW v = q at *
  go_enter Tryz.func225, Tryz.ntmps225
  go_wp2_with fail
  refine HT.out.mono ?_
  rintro e w1 ⟨rfl, rfl⟩
  clear HT
  go_wp2
  go_ret
  exact ⟨rfl, rfl⟩
theorem asks_free : Asks 230 isZ := by
  intro v w h0 h1
  have HQ := Lib.hid (show (v == 0) = isZ v from rfl)
  go_enter Tryz.func230, Tryz.ntmps230
  go_wp2
  go_ret
  exact ⟨congrArg (fun x => Ending.returned (.bool x)) HQ.out, rfl⟩
theorem enters_l2 : Enters1 225 := fun args w => by simp [callFunc, go_sem, Tryz.func225, Tryz.f225]
theorem enters_f2 : Enters1 230 := fun args w => by simp [callFunc, go_sem, Tryz.func230, Tryz.f230]
theorem holds_asks (F : FuncId) (hcf : Enters1 F) {q : Int → Bool} (ha : Asks F q) : HoldsAny (.func (.func F) #[] #[]) q := by
  intro v w h0 h1
  have HA := Lib.hid (ha v w h0 h1)
  clear ha
  generalize q v = b at *
  have hn := neq_fn
  unfold Enters1 at hcf
  go_enter_defers Tryz.func275, Tryz.ntmps275
  go_wp2_with fail
  clear hcf
  refine HA.out.mono ?_
  rintro e w1 ⟨rfl, rfl⟩
  clear HA
  go_wp2
  refine leaves_cons (f := 284) (args := #[]) (by simp) (by simp [go_sem]) ?_
  refine (rec_idle _).mono ?_
  rintro e u' w'' ⟨rfl, rfl, rfl⟩
  exact ⟨_, results_tmp rfl _ _ _, rfl, Only.refl _ _⟩
theorem rleave_clo (S : St w B p A cp [(g0, 99, #[Value.pointer (some ⟨B, 0, none⟩)])] 900 r w) (hx : Words r.xs) : Calls Tryz.prog 224 #[.pointer (some ⟨g0, 0, none⟩)] w (Done B p A cp w (.tuple #[]) (r.pAdmit 0 outW)) := by
  generalize hsn : (r.stepR 0 outW).seen = sn
  generalize hdn : (r.stepR 0 outW).done = dn
  obtain ⟨r1, hr1⟩ : ∃ r1, r.wait 0 outW = r1 := ⟨_, rfl⟩
  have H := Lib.hid (And.intro hsn (And.intro hdn (And.intro hr1 hx)))
  have b0 := S.c0
  clear hsn hdn hr1 hx
  go_enter Tryz.func224, Tryz.ntmps224
  go_wp2_with fail
  clear b0
  refine sWait S (holds_asks _ enters_l2 asks_leave).at H.out.2.2.2 H.out.1 H.out.2.1 H.out.2.2.1 fun w S b0 => ?_
  cases sn
  all_goals cases dn
  · skip
    go_wp2
    go_returns
    exact S.fit (by unfold LS.pAdmit; rw [H.out.1, H.out.2.1, H.out.2.2.1]; rfl)
  · skip
    go_wp2_with fail
    refine sEnd S fun w S b0 => ?_
    go_wp2
    go_returns
    exact S.fit (by unfold LS.pAdmit; rw [H.out.1, H.out.2.1, H.out.2.2.1]; rfl)
  · skip
    go_wp2_with fail
    refine sNote S fun w S b0 => ?_
    go_wp2
    go_returns
    exact S.fit (by unfold LS.pAdmit; rw [H.out.1, H.out.2.1, H.out.2.2.1]; rfl)
  · skip
    go_wp2_with fail
    refine sNote S fun w S b0 => ?_
    go_wp2_with fail
    refine sEnd S fun w S b0 => ?_
    go_wp2
    go_returns
    exact S.fit (by unfold LS.pAdmit; rw [H.out.1, H.out.2.1, H.out.2.2.1]; rfl)
theorem rfree_clo (S : St w B p A cp [(g0, 99, #[Value.pointer (some ⟨B, 0, none⟩)])] 900 r w) (hx : Words r.xs) : Calls Tryz.prog 229 #[.pointer (some ⟨g0, 0, none⟩)] w (Done B p A cp w (.tuple #[]) (r.fWait)) := by
  generalize hsn : (r.stepR 0 isZ).seen = sn
  generalize hdn : (r.stepR 0 isZ).done = dn
  obtain ⟨r1, hr1⟩ : ∃ r1, r.wait 0 isZ = r1 := ⟨_, rfl⟩
  have H := Lib.hid (And.intro hsn (And.intro hdn (And.intro hr1 hx)))
  have b0 := S.c0
  clear hsn hdn hr1 hx
  go_enter Tryz.func229, Tryz.ntmps229
  go_wp2_with fail
  clear b0
  refine sWait S (holds_asks _ enters_f2 asks_free).at H.out.2.2.2 H.out.1 H.out.2.1 H.out.2.2.1 fun w S b0 => ?_
  cases dn
  · skip
    go_wp2
    go_returns
    exact S.fit (by unfold LS.fWait; rw [H.out.2.1, H.out.2.2.1]; rfl)
  · skip
    go_wp2_with fail
    refine sGo S fun w S b0 => ?_
    go_wp2
    go_returns
    exact S.fit (by unfold LS.fWait; rw [H.out.2.1, H.out.2.2.1]; rfl)
theorem rleave_make (B : Nat) (p A : Option Addr) (cp : Nat) (nv : Value) (r : LS) (w : World) (h : RunP w B p A cp nv r) (hl : r.ns.length ≤ 900) (hx : Words r.xs) :
    Calls Tryz.prog 137 #[Value.pointer (some ⟨B, 0, none⟩)] w (Clo 224 B p A cp (r.pAdmit 0 outW) w) := by
  obtain ⟨e, S⟩ := mk1 h hl
  have HC := Lib.hid (rleave_clo S hx)
  clear S h hl hx
  go_enter Tryz.func137, Tryz.ntmps137
  go_wp2
  go_ret
  exact ⟨_, rfl, e, HC.out⟩
theorem rfree_make (B : Nat) (p A : Option Addr) (cp : Nat) (nv : Value) (r : LS) (w : World) (h : RunP w B p A cp nv r) (hl : r.ns.length ≤ 900) (hx : Words r.xs) :
    Calls Tryz.prog 142 #[Value.pointer (some ⟨B, 0, none⟩)] w (Clo 229 B p A cp (r.fWait) w) := by
  obtain ⟨e, S⟩ := mk1 h hl
  have HC := Lib.hid (rfree_clo S hx)
  clear S h hl hx
  go_enter Tryz.func142, Tryz.ntmps142
  go_wp2
  go_ret
  exact ⟨_, rfl, e, HC.out⟩

-- weighing
set_option maxHeartbeats 1000000 in
theorem rweigh_clo (FF : FuncId) (hcf : Enters1 FF) (q : Int → Bool) (hq : Asks FF q) (S : St w B p A cp [(g0, 99, #[Value.pointer (some ⟨B, 0, none⟩)]), (g1, 138, #[.func (.func FF) #[] #[]])] 900 r w) (hx : Words r.xs) :
    Calls Tryz.prog 231 #[.pointer (some ⟨g0, 0, none⟩), .pointer (some ⟨g1, 0, none⟩)] w (Done B p A cp w (.tuple #[]) (r.fLook (q (wordAt r.xs 0)))) := by
  have HT := Lib.hid (fun w => hq (wordAt r.xs 0) w (word_wf hx 0).1 (word_wf hx 0).2)
  have HCF := Lib.hid hcf
  clear hq hx hcf
  have b0 := S.c0
  go_enter Tryz.func231, Tryz.ntmps231
  go_upto_region 0 with (fail)
  refine wp_region_phase (n := 7) 6 (fun w => w.cell? ⟨g0, 0, none⟩ = some (Value.pointer (some ⟨B, 0, none⟩))) rfl (by kernel_rfl) b0 (fun hHeld => ?_)
  replace S := S.drew
  clear b0
  generalize w.drew = w1 at *
  refine zt 0 rfl ?_
  refine zt 1 rfl ?_
  refine mpc 2 rfl (by kernel_rfl) (by rfl) (fun K hK => ?_)
  go_simp
  refine sLoad S fun w2 S b0 => ?_
  refine hK.out _ _ (.inr b0) ?_
  clear hK K hHeld
  refine za 3 rfl ?_
  refine za 4 rfl ?_
  refine za 5 rfl ?_
  have c6 := S.c6
  have f6 := S.froz 6
  refine mpc 6 rfl (by kernel_rfl) (by rfl) (fun K hK => ?_)
  go_simp
  refine hK.out _ _ (.inl (by kernel_rfl)) ?_
  clear hK K c6 f6 b0
  replace S := S.setA (wordAt r.xs 0)
  generalize w2.setCell ⟨B, 6, none⟩ (.int .u32 (wordAt r.xs 0)) = w3 at *
  refine wpAnyP_done (by kernel_rfl) ?_ _
  go_upto_region 1 with (fail)
  refine wp_region_phase (n := 7) 6 (fun w => w.cell? ⟨g0, 0, none⟩ = some (Value.pointer (some ⟨B, 0, none⟩)) ∧ w.cell? ⟨g1, 0, none⟩ = some (.func (.func FF) #[] #[]) ∧ w.cell? ⟨B, 6, none⟩ = some (.int .u32 (wordAt r.xs 0))) rfl (by kernel_rfl) ⟨S.c0, S.rows.c1, S.c6⟩ (fun hHeld => ?_)
  replace S := S.drew
  generalize w3.drew = w4 at *
  refine zt 0 rfl ?_
  refine zt 1 rfl ?_
  refine za 2 rfl ?_
  refine za 3 rfl ?_
  refine za 4 rfl ?_
  refine zt 5 rfl ?_
  refine mpc 6 rfl (by kernel_rfl) (by rfl) (fun K hK => ?_)
  have hcf : ∀ (args : Array Value) (w : World), (callFunc FF args).run Tryz.prog w = .ok (.enter FF args) w := HCF.out
  go_simp
  refine (HT.out _).mono ?_
  rintro e w9 ⟨rfl, rfl⟩
  refine hK.out _ _ (.inl (by kernel_rfl)) ?_
  clear hK K hHeld hcf HT HCF
  refine wpAnyP_done (by kernel_rfl) ?_ _
  have b0 := S.c0
  cases hz : q (wordAt r.xs 0)
  · skip
    have H := Lib.hid hz
    clear hz
    go_wp2_with fail
    refine sNote S fun w S b0 => ?_
    go_wp2_with fail
    refine sEnd S fun w S b0 => ?_
    go_wp2
    go_returns
    exact S.fit (by unfold LS.fLook; exact ite_f H.out)
  · skip
    have H := Lib.hid hz
    clear hz
    go_wp2_with fail
    refine sGo S fun w S b0 => ?_
    go_wp2
    go_returns
    exact S.fit (by unfold LS.fLook; exact ite_t H.out)
theorem rweigh_make (FF : FuncId) (hcf : Enters1 FF) (q : Int → Bool) (hq : Asks FF q) (B : Nat) (p A : Option Addr) (cp : Nat) (nv : Value) (r : LS) (w : World) (h : RunP w B p A cp nv r) (hl : r.ns.length ≤ 900) (hx : Words r.xs) :
    Calls Tryz.prog 143 #[Value.pointer (some ⟨B, 0, none⟩), .func (.func FF) #[] #[]] w (Clo 231 B p A cp (r.fLook (q (wordAt r.xs 0))) w) := by
  obtain ⟨e, S⟩ := mk2 (v1 := .func (.func FF) #[] #[]) h hl rf_aside_w
  have HC := Lib.hid (rweigh_clo FF hcf q hq S hx)
  clear h hl hx S hcf hq
  go_enter Tryz.func143, Tryz.ntmps143
  go_wp2
  go_ret
  exact ⟨_, rfl, e, HC.out⟩

-- claiming
/-- What a claim leaves. -/
def LS.fClaim (r : LS) (fr to n : Int) (T : LS → LS) : LS := if r.at0 fr then (T (r.doA 5 0 fr to)).fin true else (r.doA 5 0 fr to).go n
/-- What is noted with a claim. -/
def Notes1 (FF : FuncId) (T : LS → LS) : Prop := ∀ (B : Nat) (p A : Option Addr) (cp : Nat) (nv : Value) (r : LS) (g0 : Nat) (w : World) (h : RunP w B p A cp nv r) (hl : r.ns.length ≤ 900) (hb : Row w g0 99 #[Value.pointer (some ⟨B, 0, none⟩)]), Calls Tryz.prog FF #[.pointer (some ⟨g0, 0, none⟩)] w (Done B p A cp w (.tuple #[]) (T r))
set_option maxHeartbeats 1000000 in
theorem rclaim_clo (FF : FuncId) (hcf : Enters1 FF) (T : LS → LS) (ht : Notes1 FF T) (fr to n : Int) (h1 : Row w g1 22 #[.int .u32 fr]) (h2 : Row w g2 22 #[.int .u32 to])
    (S : St w B p A cp [(g0, 99, #[Value.pointer (some ⟨B, 0, none⟩)]), (g3, 3, #[.int .i64 n]), (g4, 1, #[.func (.func FF) #[] #[.pointer (some ⟨g5, 0, none⟩)]]), (g5, 99, #[Value.pointer (some ⟨B, 0, none⟩)])] 900 r w) :
    Calls Tryz.prog 228 #[.pointer (some ⟨g0, 0, none⟩), .pointer (some ⟨g1, 0, none⟩), .pointer (some ⟨g2, 0, none⟩), .pointer (some ⟨g3, 0, none⟩), .pointer (some ⟨g4, 0, none⟩)] w (Done B p A cp w (.tuple #[]) (r.fClaim fr to n T)) := by
  have b1 := h1.one
  have b2 := h2.one
  have b0 := S.c0
  have HT := Lib.hid ht
  have HCF := Lib.hid hcf
  clear h1 h2 ht hcf
  go_enter Tryz.func228, Tryz.ntmps228
  go_wp2_with fail
  clear b0 b1 b2
  refine sCas S fun w1 S b0 => ?_
  cases hz : (there r.xs 0 && (wordAt r.xs 0 == fr))
  · have b3 := S.rows.c1
    have H := Lib.hid hz
    clear hz
    go_wp2_with fail
    refine sGo S fun w S b0 => ?_
    go_wp2
    go_returns
    exact S.fit (by unfold LS.fClaim; exact ite_f H.out)
  · have b4 := S.rows.c2
    have H := Lib.hid hz
    clear hz
    have hcf : ∀ (args : Array Value) (w : World), (callFunc FF args).run Tryz.prog w = .ok (.enter FF args) w := HCF.out
    go_wp2_with fail
    clear b4 hcf
    refine S.call0 (fun nv h => HT.out B p A cp nv _ g5 _ h S.len (S.rows _ (.tail _ (.tail _ (.tail _ (.head _)))))) (Nat.le_refl _) fun w2 S b0 => ?_
    go_wp2_with fail
    refine sEnd S fun w S b0 => ?_
    go_wp2
    go_returns
    exact S.fit (by unfold LS.fClaim; exact ite_t H.out)
theorem rclaim_make (FF : FuncId) (hcf : Enters1 FF) (T : LS → LS) (ht : Notes1 FF T) (B : Nat) (p A : Option Addr) (cp : Nat) (nv : Value) (r : LS) (fr to n : Int) (g5 : Nat) (w : World) (h : RunP w B p A cp nv r) (hl : r.ns.length ≤ 900) (hb : Row w g5 99 #[Value.pointer (some ⟨B, 0, none⟩)]) :
    Calls Tryz.prog 140 #[Value.pointer (some ⟨B, 0, none⟩), .int .u32 fr, .int .u32 to, .int .i64 n, .func (.func FF) #[] #[.pointer (some ⟨g5, 0, none⟩)]] w (Clo 228 B p A cp (r.fClaim fr to n T) w) := by
  have e0 := (((((Only.refl Nil w).alloc (.cells #[Value.pointer (some ⟨B, 0, none⟩)] 99)).alloc (.cells #[.int .u32 fr] 22)).alloc (.cells #[.int .u32 to] 22)).alloc (.cells #[.int .i64 n] 3)).alloc (.cells #[.func (.func FF) #[] #[.pointer (some ⟨g5, 0, none⟩)]] 1)
  have HC := Lib.hid (rclaim_clo FF hcf T ht fr to n ((((Row.new2 w _ _ _).alloc _).alloc _).alloc _) (((Row.at (k := w.heap.size + 1 + 1) (by simp)).alloc _).alloc _)
    (st_new (h.keep e0) hl ((((rows_nil _).cons (hb.only e0 id)).cons (Row.at (k := w.heap.size + 1 + 1 + 1 + 1) (by simp))).cons ((Row.at (k := w.heap.size + 1 + 1 + 1) (by simp)).alloc _) |>.cons (((((Row.new w _ _).alloc _).alloc _).alloc _).alloc _)) (asides_cons aside_p (asides_cons aside_i (asides_cons rf_aside_f (asides_cons aside_p asides_nil))))))
  have HE := Lib.hid e0
  clear h hl hb e0 hcf ht
  generalize r.fClaim fr to n T = rr at *
  go_enter Tryz.func140, Tryz.ntmps140
  go_wp2
  go_ret
  exact ⟨_, rfl, HE.out, HC.out⟩
end
end Go.Proofs.YtigdbokfapedcaaGreat
