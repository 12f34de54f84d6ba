/- WfB, WfC, WfW. -/
import Derived.Test.YtigdbokfapedcaaGreatB4
import Derived.Test.YtigdbokfapedcaaGreatB13
import Derived.Test.YtigdbokfapedcaaGreatB15
import Derived.Test.YtigdbokfapedcaaGreatB12
/- The word's fields by their bits. -/
set_option linter.unusedVariables false
set_option linter.unusedSimpArgs false
namespace Go.Proofs.YtigdbokfapedcaaGreat
open Go.RowKit
theorem get_r (v : Int) : getI v 0 8 = rF v := by
  show v / pw 0 % pw 8 = v % 256
  rw [show pw 0 = 1 from rfl, show pw 8 = 256 from rfl, Int.ediv_one]
theorem get_o (v : Int) : getI v 8 8 = oF v := by
  show v / pw 8 % pw 8 = v / 256 % 256
  rw [show pw 8 = 256 from rfl]
theorem get_i (v : Int) : getI v 16 8 = iF v := by
  show v / pw 16 % pw 8 = v / 65536 % 256
  rw [show pw 16 = 65536 from rfl, show pw 8 = 256 from rfl]
theorem bump_o (v : Int) : bumpI v 8 8 = nextO v := by
  show (putI v 8 8 ((getI v 8 8 + 1) % 4294967296) - v) % 4294967296 = _
  rw [get_o v]
  show (v + ((oF v + 1) % 4294967296 % pw 8 - v / pw 8 % pw 8) * pw 8 - v) % 4294967296 = _
  rw [show pw 8 = 256 from rfl]
  unfold nextO oF
  omega
end Go.Proofs.YtigdbokfapedcaaGreat
/- wf's lines, the program's: the word's fields; those that wait for nothing. -/
set_option linter.unusedVariables false
set_option linter.unusedSimpArgs false
namespace Go.Proofs.YtigdbokfapedcaaGreat
open Go.RowKit

theorem field_any (v s : Int) (w : World) (hv : 0 ≤ v ∧ v < 4294967296) :
    Calls Tryz.prog 156 #[.int .u32 v, .int .i64 s] w fun e w' => e = .returned (.int .u32 (getI v s 8)) ∧ Drew w w' := by
  have HV := Lib.hid hv
  clear hv
  go_enter Tryz.func156, Tryz.ntmps156
  go_wp2_with fail
  refine (get_any v s 8 _ HV.out).mono ?_
  rintro e w1 ⟨rfl, hd⟩
  have HD := Lib.hid hd
  clear hd
  go_wp2
  go_ret
  exact ⟨rfl, HD.out⟩
theorem fq_r (v : Int) (w : World) (k : Nat) (h0 : 0 ≤ v) (h1 : v < 4294967296) :
    Calls Tryz.prog 156 #[.int .u32 v, .int .i64 0] (w.drewN k) fun e w' => e = .returned (.int .u32 (rF v)) ∧ ∃ m, w' = w.drewN m :=
  (field_any v 0 _ ⟨h0, h1⟩).mono fun _ _ ⟨he, hm⟩ => ⟨get_r v ▸ he, hm.quiet⟩
theorem fq_o (v : Int) (w : World) (k : Nat) (h0 : 0 ≤ v) (h1 : v < 4294967296) :
    Calls Tryz.prog 156 #[.int .u32 v, .int .i64 8] (w.drewN k) fun e w' => e = .returned (.int .u32 (oF v)) ∧ ∃ m, w' = w.drewN m :=
  (field_any v 8 _ ⟨h0, h1⟩).mono fun _ _ ⟨he, hm⟩ => ⟨get_o v ▸ he, hm.quiet⟩
theorem fq_i (v : Int) (w : World) (k : Nat) (h0 : 0 ≤ v) (h1 : v < 4294967296) :
    Calls Tryz.prog 156 #[.int .u32 v, .int .i64 16] (w.drewN k) fun e w' => e = .returned (.int .u32 (iF v)) ∧ ∃ m, w' = w.drewN m :=
  (field_any v 16 _ ⟨h0, h1⟩).mono fun _ _ ⟨he, hm⟩ => ⟨get_i v ▸ he, hm.quiet⟩
theorem free_any (v : Int) (w : World) (hv : 0 ≤ v ∧ v < 4294967296) :
    Calls Tryz.prog 152 #[.int .u32 v] w fun e w' => e = .returned (.bool (freeW v)) ∧ Drew w w' := by
  have HV := Lib.hid hv
  have HQ := Lib.hid (show (iF v == oF v) = freeW v from rfl)
  clear hv
  generalize freeW v = q at *
  go_enter Tryz.func152, Tryz.ntmps152
  go_wp2_with fail
  refine (field_any v 16 _ HV.out).mono ?_
  rw [get_i]
  rintro e w1 ⟨rfl, hd⟩
  have HD := Lib.hid hd
  clear hd
  go_wp2_with fail
  refine (field_any v 8 _ HV.out).mono ?_
  rw [get_o]
  rintro e w2 ⟨rfl, hd⟩
  have HD2 := Lib.hid (HD.out.trans hd)
  clear hd HD
  generalize iF v = i at *
  generalize oF v = o at *
  go_wp2
  go_ret
  exact ⟨congrArg (fun x => Ending.returned (.bool x)) HQ.out, HD2.out⟩
theorem free_quiet (v : Int) (w : World) (k : Nat) (h0 : 0 ≤ v) (h1 : v < 4294967296) :
    Calls Tryz.prog 152 #[.int .u32 v] (w.drewN k) fun e w' => e = .returned (.bool (freeW v)) ∧ ∃ m, w' = w.drewN m :=
  (free_any v _ ⟨h0, h1⟩).mono fun _ _ ⟨he, hm⟩ => ⟨he, hm.quiet⟩

/-- A function of a word, as it is handed in: it tells q of it. -/
def AsksD (F : Nat) (q : Int → Bool) : Prop := ∀ (v : Int) (w : World), 0 ≤ v → v < 4294967296 → Calls Tryz.prog F #[.int .u32 v] w fun e w' => e = .returned (.bool (q v)) ∧ Drew w w'
theorem gasks_free : AsksD 152 freeW := fun v w h0 h1 => free_any v w ⟨h0, h1⟩
theorem asks_none : AsksD 160 (fun v => freeW v && rF v == 0) := by
  intro v w h0 h1
  have HV := Lib.hid (And.intro h0 h1)
  have HT := Lib.hid (free_any v w ⟨h0, h1⟩)
  clear h0 h1
  dsimp only
  cases hq : freeW v
  · rw [hq] at HT
    go_enter Tryz.func160, Tryz.ntmps160
    go_wp2_with fail
    refine HT.out.mono ?_
    rintro e w1 ⟨rfl, hd⟩
    have HD := Lib.hid hd
    clear hd HT hq
    go_wp2
    go_ret
    exact ⟨rfl, HD.out⟩
  · rw [hq] at HT
    obtain ⟨z, hz⟩ : ∃ z, rF v = z := ⟨_, rfl⟩
    have HQ := Lib.hid (show (true && rF v == 0) = (z == 0) by rw [hz]; rfl)
    go_enter Tryz.func160, Tryz.ntmps160
    go_wp2_with fail
    refine HT.out.mono ?_
    rintro e w1 ⟨rfl, hd⟩
    have HD := Lib.hid hd
    clear hd HT hq
    go_wp2_with fail
    refine (field_any v 0 _ HV.out).mono ?_
    rw [get_r, hz]
    rintro e w2 ⟨rfl, hd⟩
    have HD2 := Lib.hid (HD.out.trans hd)
    clear hd HD hz
    go_wp2
    go_ret
    exact ⟨congrArg (fun x => Ending.returned (.bool x)) HQ.out.symm, HD2.out⟩
theorem asks_sole : AsksD 161 (fun v => freeW v && rF v == 1) := by
  intro v w h0 h1
  have HV := Lib.hid (And.intro h0 h1)
  have HT := Lib.hid (free_any v w ⟨h0, h1⟩)
  clear h0 h1
  dsimp only
  cases hq : freeW v
  · rw [hq] at HT
    go_enter Tryz.func161, Tryz.ntmps161
    go_wp2_with fail
    refine HT.out.mono ?_
    rintro e w1 ⟨rfl, hd⟩
    have HD := Lib.hid hd
    clear hd HT hq
    go_wp2
    go_ret
    exact ⟨rfl, HD.out⟩
  · rw [hq] at HT
    obtain ⟨z, hz⟩ : ∃ z, rF v = z := ⟨_, rfl⟩
    have HQ := Lib.hid (show (true && rF v == 1) = (z == 1) by rw [hz]; rfl)
    go_enter Tryz.func161, Tryz.ntmps161
    go_wp2_with fail
    refine HT.out.mono ?_
    rintro e w1 ⟨rfl, hd⟩
    have HD := Lib.hid hd
    clear hd HT hq
    go_wp2_with fail
    refine (field_any v 0 _ HV.out).mono ?_
    rw [get_r, hz]
    rintro e w2 ⟨rfl, hd⟩
    have HD2 := Lib.hid (HD.out.trans hd)
    clear hd HD hz
    go_wp2
    go_ret
    exact ⟨congrArg (fun x => Ending.returned (.bool x)) HQ.out.symm, HD2.out⟩
theorem enters_nw : Enters1 152 := fun args w => by simp [callFunc, go_sem, Tryz.func152, Tryz.f152]
theorem enters_t1 : Enters1 160 := fun args w => by simp [callFunc, go_sem, Tryz.func160, Tryz.f160]
theorem enters_t2 : Enters1 161 := fun args w => by simp [callFunc, go_sem, Tryz.func161, Tryz.f161]

section
variable {B : Nat} {p A : Option Addr} {cp : Nat} {r : LS} {w0 w : World}
theorem turnOn_run (S : St w0 B p A cp [] 900 r w) (ha : 0 ≤ r.a ∧ r.a < 4294967296) : Calls Tryz.prog 70 #[Value.pointer (some ⟨B, 0, none⟩)] w fun e w' => e = .returned (.int .u32 (nextO r.a)) ∧ St w0 B p A cp [] 900 r w' := by
  have c6 := S.c6
  go_enter Tryz.func70, Tryz.ntmps70
  go_wp2_with fail
  clear c6
  refine (bump_any r.a 8 8 _ ha).mono ?_
  rw [bump_o]
  rintro e w1 ⟨rfl, hd⟩
  replace S := S.drewd hd
  clear hd
  go_wp2
  go_ret
  exact ⟨rfl, S⟩
theorem enter_st (cl : Int) (S : St w0 B p A cp [] 901 r w) : Calls Tryz.prog 159 #[Value.pointer (some ⟨B, 0, none⟩), .int .i64 cl] w (Done B p A cp w0 (.tuple #[]) ((r.note 2 cl).note 4 0)) := by
  go_enter Tryz.func159, Tryz.ntmps159
  go_wp2_with fail
  refine xNote S fun w S => ?_
  go_wp2_with fail
  refine xNote S fun w S => ?_
  go_wp2
  go_returns
  exact S.done
theorem gdraw_run (S : St w0 B p A cp [] 900 r w) : Calls Tryz.prog 67 #[Value.pointer (some ⟨B, 0, none⟩)] w (Done B p A cp w0 (.tuple #[]) r.gCome) := by
  go_enter Tryz.func67, Tryz.ntmps67
  go_wp2_with fail
  refine xAdd S fun w S => ?_
  have c6 := S.c6
  have f6 := S.froz 6
  replace S := S.setA (wordAt r.xs 0)
  go_wp2_with fail
  refine xNote S fun w S => ?_
  go_wp2_with fail
  refine xGo S fun w S => ?_
  go_wp2
  go_returns
  exact S.done
theorem gkeep_run (S : St w0 B p A cp [] 900 r w) : Calls Tryz.prog 69 #[Value.pointer (some ⟨B, 0, none⟩)] w (Done B p A cp w0 (.tuple #[]) r.gLoad) := by
  go_enter Tryz.func69, Tryz.ntmps69
  go_wp2_with fail
  refine xLoad S fun w S => ?_
  have c6 := S.c6
  have f6 := S.froz 6
  replace S := S.setA (wordAt r.xs 0)
  go_wp2_with fail
  refine xGo S fun w S => ?_
  go_wp2
  go_returns
  exact S.done
theorem glook_run (S : St w0 B p A cp [] 900 r w) (hx : Words r.xs) : Calls Tryz.prog 62 #[Value.pointer (some ⟨B, 0, none⟩)] w (Done B p A cp w0 (.tuple #[]) (r.gSee false)) := by
  go_enter Tryz.func62, Tryz.ntmps62
  go_wp2_with fail
  refine xLoad S fun w2 S => ?_
  have c6 := S.c6
  have f6 := S.froz 6
  replace S := S.setA (wordAt r.xs 0)
  have d6 := S.c6
  go_wp2_with fail
  clear d6
  refine (free_any (wordAt r.xs 0) _ (word_wf hx 0)).mono ?_
  obtain ⟨b, hz⟩ : ∃ b, freeW (wordAt r.xs 0) = b := ⟨_, rfl⟩
  rw [hz]
  have H := Lib.hid hz
  clear hz
  rintro e w4 ⟨rfl, hd⟩
  replace S := S.drewd hd
  clear hd
  cases b
  · skip
    go_wp2_with fail
    refine xGo S fun w S => ?_
    go_wp2
    go_returns
    exact S.fit (by unfold LS.gSee; exact ite_f H.out)
  · skip
    go_wp2_with fail
    refine xGo S fun w S => ?_
    go_wp2
    go_returns
    exact S.fit (by unfold LS.gSee; exact ite_t H.out)
theorem weigh_run (FF : FuncId) (hcf : Enters1 FF) (q : Int → Bool) (hq : AsksD FF q) (S : St w0 B p A cp [] 900 r w) (hx : Words r.xs) :
    Calls Tryz.prog 158 #[Value.pointer (some ⟨B, 0, none⟩), .func (.func FF) #[] #[]] w (Done B p A cp w0 (.tuple #[]) (r.fLook (q (wordAt r.xs 0)))) := by
  have HT := Lib.hid (fun w => hq (wordAt r.xs 0) w (word_wf hx 0).1 (word_wf hx 0).2)
  have HCF := Lib.hid hcf
  clear hq hx hcf
  go_enter Tryz.func158, Tryz.ntmps158
  go_wp2_with fail
  refine xLoad S fun w2 S => ?_
  have c6 := S.c6
  have f6 := S.froz 6
  replace S := S.setA (wordAt r.xs 0)
  have d6 := S.c6
  have hcf : ∀ (args : Array Value) (w : World), (callFunc FF args).run Tryz.prog w = .ok (.enter FF args) w := HCF.out
  go_wp2_with fail
  clear d6 hcf
  refine (HT.out _).mono ?_
  obtain ⟨b, hz⟩ : ∃ b, q (wordAt r.xs 0) = b := ⟨_, rfl⟩
  rw [hz]
  have H := Lib.hid hz
  clear hz
  rintro e w4 ⟨rfl, hd⟩
  replace S := S.drewd hd
  clear hd HT HCF
  cases b
  · skip
    go_wp2_with fail
    refine xNote S fun w S => ?_
    go_wp2_with fail
    refine xEnd S fun w S => ?_
    go_wp2
    go_returns
    exact S.fit (by unfold LS.fLook; exact ite_f H.out)
  · skip
    go_wp2_with fail
    refine xGo S fun w S => ?_
    go_wp2
    go_returns
    exact S.fit (by unfold LS.fLook; exact ite_t H.out)

-- adding, and notes with it
set_option maxHeartbeats 1000000 in
theorem change_run (x : Int) (V : Value) (l : List Int) (S : St w0 B p A cp [] 900 r w) (hw : Whats B A w V l) (hm9 : l.length ≤ 90) : Calls Tryz.prog 66 #[Value.pointer (some ⟨B, 0, none⟩), .int .u32 x, V] w (Done B p A cp w0 (.tuple #[]) (r.fChange x l)) := by
  obtain ⟨r1, hr1⟩ : ∃ r1, r.doA 3 0 x 0 = r1 := ⟨_, rfl⟩
  rw [show r.fChange x l = ((r1.notes l).wake 0).fin true by rw [← hr1]; rfl]
  have HR2 := Lib.hid hr1
  have HM9 := Lib.hid hm9
  obtain ⟨Z, c, rfl, hz⟩ := hw
  generalize hm : l.length = m at *
  have HM := Lib.hid hm
  have HZ := Lib.hid hz
  have HO := Lib.hid S.only
  obtain ⟨nv, hp⟩ := S.run
  have S := st_new hp S.len (rows_nil _) asides_nil
  clear hz hm hr1 hm9 hp
  go_enter Tryz.func66, Tryz.ntmps66
  go_wp2_with fail
  refine xAdd S fun w1 S => ?_
  rw [HR2.out] at S
  clear HR2
  go_wp2
  go_loopw [13] (fun iv wr => ∃ k : Nat, k ≤ m ∧ iv = .int .i64 k ∧ St w B p A cp [] (900 + k) (r1.notes (l.take k)) wr) (fun iv _ => m - (intOf iv).toNat)
  case atStart => exact ⟨0, Nat.zero_le _, rfl, S⟩
  case round =>
    obtain ⟨k, hk, rfl, S⟩ := hrel
    have hm9 : m ≤ 90 := HM9.out
    by_cases hlt : k < m
    · obtain ⟨y, hy⟩ : ∃ y, l[k]? = some y := ⟨_, List.getElem?_eq_getElem (by rw [HM.out]; exact hlt)⟩
      obtain ⟨b, o, rfl, hc⟩ := HZ.out _ S.only k y hy
      have HN := Lib.hid (notes_next (r := r1) hy)
      clear hy
      go_wp2_with fail
      clear hc
      refine xNote S (fun w2 S => ?_) (by omega)
      rw [← HN.out] at S
      go_wp2
      go_roundw
      case rel => exact ⟨k + 1, by omega, by go_num, S⟩
      case measure => simp [intOf]; omega
    · obtain rfl : k = m := by omega
      rw [show l.take k = l by rw [← HM.out, List.take_length]] at S
      go_wp2_with fail
      refine xWake S fun w S => ?_
      go_wp2_with fail
      refine xEnd S fun w S => ?_
      go_wp2
      go_returns
      exact ⟨rfl, HO.out.trans S.only, S.run⟩

-- claiming
/-- What a claim leaves. -/
def LS.gClaim (r : LS) (x n : Int) : LS := if r.at0 r.a then (r.gCas x).fin true else (r.gCas x).go n
set_option maxHeartbeats 1000000 in
theorem gclaim_run (x n : Int) (q : Bool) (S : St w0 B p A cp [] 900 r w) (hq : r.at0 r.a = q) : Calls Tryz.prog 64 #[Value.pointer (some ⟨B, 0, none⟩), .int .u32 x, .int .i64 n] w (Done B p A cp w0 (.bool q) (r.gClaim x n)) := by
  have c6 := S.c6
  have hx1 : IntKind.u32.wrap (r.a + x) = (r.a + x) % 4294967296 := rfl
  have HQ := Lib.hid hq
  clear hq
  go_enter Tryz.func64, Tryz.ntmps64
  go_upto_region 1 with (fail)
  refine wp_region_phase (n := 15) 13 (fun w => w.cell? ⟨B, 6, none⟩ = some (.int .u32 r.a)) rfl (by kernel_rfl) c6 (fun hHeld => ?_)
  replace S := S.drew
  clear c6
  generalize w.drew = w1 at *
  refine za 0 rfl ?_
  refine za 1 rfl ?_
  refine za 2 rfl ?_
  refine za 3 rfl ?_
  refine za 4 rfl ?_
  refine zt 5 rfl ?_
  refine za 6 rfl ?_
  refine za 7 rfl ?_
  refine za 8 rfl ?_
  refine za 9 rfl ?_
  refine zt 10 rfl ?_
  refine za 11 rfl ?_
  refine mpa 12 rfl (.int .u32 ((r.a + x) % 4294967296)) (fun w => ?_) ?_
  · go_simp
  refine mpc 13 rfl (by kernel_rfl) (by rfl) (fun K hK => ?_)
  go_simp
  refine xCas S fun w2 S => ?_
  refine hK.out _ _ (.inl (by kernel_rfl)) ?_
  clear hK K hHeld hx1
  rw [show (there r.xs 0 && (wordAt r.xs 0 == r.a)) = q from HQ.out]
  refine za 14 rfl ?_
  refine wpAnyP_done (by kernel_rfl) ?_ _
  cases q
  · skip
    go_wp2_with fail
    refine xGo S fun w S => ?_
    go_wp2
    go_returns
    exact S.fit (by unfold LS.gClaim; exact ite_f HQ.out)
  · skip
    go_wp2_with fail
    refine xEnd S fun w S => ?_
    go_wp2
    go_returns
    exact S.fit (by unfold LS.gClaim; exact ite_t HQ.out)
end
end Go.Proofs.YtigdbokfapedcaaGreat
/- wf's lines, the program's: those that wait. -/
set_option linter.unusedVariables false
set_option linter.unusedSimpArgs false
namespace Go.Proofs.YtigdbokfapedcaaGreat
open Go.RowKit

-- waiting for no writer, by a function that keeps what it sees
theorem nw_yes (B gt : Nat) (r : LS) (hv nv : Value) (v : Int) (w : World) (hb : Row w gt 99 #[Value.pointer (some ⟨B, 0, none⟩)]) (hr : Row w B 102 (r.cells hv nv)) (h0 : 0 ≤ v) (h1 : v < 4294967296) (hq : freeW v = true) :
    Calls Tryz.prog 154 #[.int .u32 v, .pointer (some ⟨gt, 0, none⟩)] w fun e w' => e = .returned (.bool true) ∧ Only (· = B) w w' ∧ Row w' B 102 ((r.keepA v).cells hv nv) := by
  have HT := Lib.hid (fun w => hq ▸ free_any v w ⟨h0, h1⟩)
  have HB := Lib.hid hb
  have HR := Lib.hid hr
  clear hb hr hq h0 h1
  go_enter Tryz.func154, Tryz.ntmps154
  go_wp2_with fail
  refine (HT.out _).mono ?_
  rintro e w1 ⟨rfl, hd⟩
  have b0 : w1.cell? ⟨gt, 0, none⟩ = some (Value.pointer (some ⟨B, 0, none⟩)) := (HB.out.only (S := Nil) hd.only id).cell_ (i := 0) rfl
  have HR1 := Lib.hid (HR.out.only (S := Nil) hd.only id)
  have HO1 := Lib.hid ((hd.only (S := Nil)).mono (T := (· = B)) (fun _ _ h => h.elim))
  have c6 : w1.cell? ⟨B, 6, none⟩ = some (.int .u32 r.a) := HR1.out.cell_ (i := 6) rfl
  have f6 : w1.frozen? ⟨B, 6, none⟩ = false := HR1.out.frozen 6
  clear hd HR HB
  have HR2 := Lib.hid (show Row (w1.setCell ⟨B, 6, none⟩ (.int .u32 v)) B 102 ((r.keepA v).cells hv nv) from HR1.out.set 6 (.int .u32 v))
  have HO2 := Lib.hid (HO1.out.setCell (p := ⟨B, 6, none⟩) (.inr rfl) (.int .u32 v))
  go_upto_region 3 with (fail)
  clear b0 c6 f6 HR1 HO1
  generalize w1.setCell ⟨B, 6, none⟩ (.int .u32 v) = w2 at *
  go_wp2_with fail
  refine (HT.out _).mono ?_
  rintro e w3 ⟨rfl, hd⟩
  have HR3 := Lib.hid (HR2.out.only (S := Nil) hd.only id)
  have HO3 := Lib.hid (HO2.out.trans ((hd.only (S := Nil)).mono (T := (· = B)) (fun _ _ h => h.elim)))
  clear hd HT
  go_wp2
  go_ret
  exact ⟨rfl, HO3.out, HR3.out⟩
theorem nw_no (B gt : Nat) (r : LS) (hv nv : Value) (v : Int) (w : World) (hr : Row w B 102 (r.cells hv nv)) (h0 : 0 ≤ v) (h1 : v < 4294967296) (hq : freeW v = false) :
    Calls Tryz.prog 154 #[.int .u32 v, .pointer (some ⟨gt, 0, none⟩)] w fun e w' => e = .returned (.bool false) ∧ Only (· = B) w w' ∧ Row w' B 102 (r.cells hv nv) := by
  have HT := Lib.hid (fun w => hq ▸ free_any v w ⟨h0, h1⟩)
  have HR := Lib.hid hr
  clear hr hq h0 h1
  go_enter Tryz.func154, Tryz.ntmps154
  go_wp2_with fail
  refine (HT.out _).mono ?_
  rintro e w1 ⟨rfl, hd⟩
  have HR1 := Lib.hid (HR.out.only (S := Nil) hd.only id)
  have HO1 := Lib.hid ((hd.only (S := Nil)).mono (T := (· = B)) (fun _ _ h => h.elim))
  clear hd HR
  go_wp2_with fail
  refine (HT.out _).mono ?_
  rintro e w3 ⟨rfl, hd⟩
  have HR3 := Lib.hid (HR1.out.only (S := Nil) hd.only id)
  have HO3 := Lib.hid (HO1.out.trans ((hd.only (S := Nil)).mono (T := (· = B)) (fun _ _ h => h.elim)))
  clear hd HT
  go_wp2
  go_ret
  exact ⟨rfl, HO3.out, HR3.out⟩
theorem holds_nw (B gt : Nat) (p A : Option Addr) (cp : Nat) (nv : Value) (r : LS) (w : World) (h : RunP w B p A cp nv r) (hb : Row w gt 99 #[Value.pointer (some ⟨B, 0, none⟩)]) :
    HoldsK A B w (.func (.func 154) #[] #[.pointer (some ⟨gt, 0, none⟩)]) freeW (r.cells (.pointer p) nv) (fun v => (r.keepA v).cells (.pointer p) nv) := by
  intro v w1 hO hr h0 h1
  have hb1 : Row w1 gt 99 #[Value.pointer (some ⟨B, 0, none⟩)] := h.aside hb hO.turned2 aside_p
  have hn := neq_fn
  cases hq : freeW v
  · skip
    show Calls Tryz.prog 275 _ w1 (fun e w' => e = .returned (.bool false) ∧ Only (· = B) w1 w' ∧ Row w' B 102 (r.cells (.pointer p) nv))
    have HT := Lib.hid (nw_no B gt r (.pointer p) nv v w1 hr h0 h1 hq)
    clear h hb hO hb1 hr hq
    go_enter_defers Tryz.func275, Tryz.ntmps275
    go_wp2_with fail
    refine HT.out.mono ?_
    rintro e w2 ⟨rfl, hO, hr⟩
    have HO := Lib.hid hO
    have HR := Lib.hid hr
    clear hO hr HT
    go_wp2
    refine leaves_cons (f := 284) (args := #[]) (by simp) (by simp [go_sem]) ?_
    refine (rec_idle _).mono ?_
    rintro e u' w'' ⟨rfl, rfl, rfl⟩
    exact ⟨_, results_tmp rfl _ _ _, rfl, HO.out, HR.out⟩
  · skip
    show Calls Tryz.prog 275 _ w1 (fun e w' => e = .returned (.bool true) ∧ Only (· = B) w1 w' ∧ Row w' B 102 ((r.keepA v).cells (.pointer p) nv))
    have HT := Lib.hid (nw_yes B gt r (.pointer p) nv v w1 hb1 hr h0 h1 hq)
    clear h hb hO hb1 hr hq
    go_enter_defers Tryz.func275, Tryz.ntmps275
    go_wp2_with fail
    refine HT.out.mono ?_
    rintro e w2 ⟨rfl, hO, hr⟩
    have HO := Lib.hid hO
    have HR := Lib.hid hr
    clear hO hr HT
    go_wp2
    refine leaves_cons (f := 284) (args := #[]) (by simp) (by simp [go_sem]) ?_
    refine (rec_idle _).mono ?_
    rintro e u' w'' ⟨rfl, rfl, rfl⟩
    exact ⟨_, results_tmp rfl _ _ _, rfl, HO.out, HR.out⟩
theorem seeW_eq (r : LS) : r.waitK 0 freeW = r.seeW := by
  unfold LS.waitK LS.waitM LS.seeW LS.kept LS.kw
  cases (r.stepR 0 freeW).seen <;> rfl

section
variable {B : Nat} {p A : Option Addr} {cp : Nat} {r : LS} {w0 w : World}
/-- The run's own box. -/
theorem boxed (S : St w0 B p A cp [] 900 r w) : St w0 B p A cp [(w.heap.size, 99, #[Value.pointer (some ⟨B, 0, none⟩)])] 900 r (w.alloc (.cells #[Value.pointer (some ⟨B, 0, none⟩)] 99)) := by
  have e := (Only.refl Nil w).alloc (.cells #[Value.pointer (some ⟨B, 0, none⟩)] 99)
  exact ⟨S.only.trans (e.mono (fun _ _ h => h.elim)), (rows_nil _).cons (Row.new w _ _), asides_cons aside_p asides_nil, S.run.imp fun _ h => h.keep e, S.len⟩
set_option maxHeartbeats 1000000 in
theorem nowriter_run (S : St w0 B p A cp [] 900 r w) (hx : Words r.xs) : Calls Tryz.prog 65 #[Value.pointer (some ⟨B, 0, none⟩)] w (Done B p A cp w0 (.tuple #[]) r.gWait) := by
  generalize hsn : (r.stepR 0 freeW).seen = sn
  generalize hdn : (r.stepR 0 freeW).done = dn
  have H := Lib.hid (And.intro hsn (And.intro hdn hx))
  clear hsn hdn hx
  replace S := boxed S
  go_enter Tryz.func65, Tryz.ntmps65
  go_upto_region 1 with (fail)
  generalize w.alloc (.cells #[Value.pointer (some ⟨B, 0, none⟩)] 99) = w1 at *
  generalize w.heap.size = g0 at *
  have b0 := S.c0
  go_wp2_with fail
  clear b0
  refine S.call0 (r' := r.seeW) (v := .tuple #[.bool sn, .bool dn]) (fun nv h => ?_) (m' := 900) (by unfold LS.seeW; split <;> exact S.len) fun w S b0 => ?_
  · have hw := waitK_run B p A cp nv r 0 (.func 154) #[] #[.pointer (some ⟨g0, 0, none⟩)] freeW _ h (holds_nw B g0 p A cp nv r _ h (S.rows _ (.head _))) H.out.2.2
    rw [seeW_eq, H.out.1, H.out.2.1] at hw
    exact hw
  · cases dn
    · skip
      go_wp2
      go_returns
      exact S.fit (by unfold LS.gWait; exact ite_f H.out.2.1)
    · skip
      go_wp2_with fail
      refine sGo S fun w S b0 => ?_
      go_wp2
      go_returns
      exact S.fit (by unfold LS.gWait; exact ite_t H.out.2.1)

-- waiting for one's turn
set_option maxRecDepth 100000 in
theorem turn_any (g : Nat) (a v : Int) (B : Nat) (w : World) (hb : Row w g 99 #[Value.pointer (some ⟨B, 0, none⟩)]) (c6 : w.cell? ⟨B, 6, none⟩ = some (.int .u32 a)) (ha : 0 ≤ a ∧ a < 4294967296) (h0 : 0 ≤ v) (h1 : v < 4294967296) :
    Calls Tryz.prog 155 #[.int .u32 v, .pointer (some ⟨g, 0, none⟩)] w fun e w' => e = .returned (.bool (turnW (iF a) v)) ∧ Only Nil w w' := by
  have b0 : w.cell? ⟨g, 0, none⟩ = some (Value.pointer (some ⟨B, 0, none⟩)) := hb.cell_ (i := 0) rfl
  obtain ⟨o, ho⟩ : ∃ o, oF v = o := ⟨_, rfl⟩
  obtain ⟨i, hi⟩ : ∃ i, iF a = i := ⟨_, rfl⟩
  obtain ⟨z, hz⟩ : ∃ z, rF v = z := ⟨_, rfl⟩
  have HO := Lib.hid (fun w => ho ▸ get_o v ▸ field_any v 8 w ⟨h0, h1⟩)
  have HI := Lib.hid (fun w => hi ▸ get_i a ▸ field_any a 16 w ha)
  have HZ := Lib.hid (fun w => hz ▸ get_r v ▸ field_any v 0 w ⟨h0, h1⟩)
  rw [show turnW (iF a) v = (o == i && z == 0) by unfold turnW; rw [ho, hi, hz]]
  clear hb ho hi hz ha h0 h1
  go_enter Tryz.func155, Tryz.ntmps155
  go_upto_region 1 with (fail)
  refine wp_region_phase (n := 15) 7 (fun w => w.cell? ⟨g, 0, none⟩ = some (Value.pointer (some ⟨B, 0, none⟩)) ∧ w.cell? ⟨B, 6, none⟩ = some (.int .u32 a)) rfl (by kernel_rfl) ⟨b0, c6⟩ (fun hHeld => ?_)
  have HD := Lib.hid (show Drew w w.drew from ⟨1, rfl⟩)
  generalize w.drew = w1 at *
  refine zt 2 rfl ?_
  refine za 3 rfl ?_
  refine za 4 rfl ?_
  refine za 5 rfl ?_
  refine zt 6 rfl ?_
  refine za 0 rfl ?_
  refine mpc 1 rfl (by kernel_rfl) (by rfl) (fun K hK => ?_)
  go_simp
  refine (HO.out _).mono ?_
  rintro e w2 ⟨rfl, hd⟩
  refine hK.out _ _ (.inr ⟨(hd.cell _).trans hHeld.1, (hd.cell _).trans hHeld.2⟩) ?_
  have HD2 := Lib.hid (HD.out.trans hd)
  clear hK K hHeld hd HD HO
  refine mpc 7 rfl (by kernel_rfl) (by rfl) (fun K hK => ?_)
  go_simp
  refine (HI.out _).mono ?_
  rintro e w3 ⟨rfl, hd⟩
  refine hK.out _ _ (.inl (by kernel_rfl)) ?_
  have HD3 := Lib.hid (HD2.out.trans hd)
  clear hK K hd HD2 HI
  by_cases h : o = i
  · subst h
    have HQ := Lib.hid (show (o == o && z == 0) = (z == 0) by rw [beq_self_eq_true, Bool.true_and])
    refine mpa 8 rfl (.bool true) (fun w => ?_) ?_
    · go_simp
    refine za 9 rfl ?_
    refine za 10 rfl ?_
    refine mpc 11 rfl (by kernel_rfl) (by rfl) (fun K hK => ?_)
    go_simp
    refine (HZ.out _).mono ?_
    rintro e w4 ⟨rfl, hd⟩
    refine hK.out _ _ (.inl (by kernel_rfl)) ?_
    have HD4 := Lib.hid (HD3.out.trans hd)
    clear hK K hd HD3 HZ
    refine za 12 rfl ?_
    refine za 13 rfl ?_
    refine za 14 rfl ?_
    refine wpAnyP_done (by kernel_rfl) ?_ _
    go_wp2
    go_ret
    exact ⟨by rw [HQ.out]; rfl, HD4.out.only⟩
  · have hq : (o == i) = false := by simpa using h
    have HQ := Lib.hid (show (o == i && z == 0) = false by rw [hq]; rfl)
    refine mpa 8 rfl (.bool false) (fun w => ?_) ?_
    · go_simp
    refine za 9 rfl ?_
    refine mpp 10 rfl ?_
    try simp only [Act.put, k1, k2, k3]
    refine mpp 11 rfl ?_
    try simp only [Act.put, k1, k2, k3]
    refine mpp 12 rfl ?_
    try simp only [Act.put, k1, k2, k3]
    refine za 13 rfl ?_
    refine za 14 rfl ?_
    refine wpAnyP_done (by kernel_rfl) ?_ _
    go_wp2
    go_ret
    exact ⟨by rw [HQ.out]; rfl, HD3.out.only⟩
theorem holds_turn (g : Nat) (nv : Value) (h : RunP w B p A cp nv r) (hb : Row w g 99 #[Value.pointer (some ⟨B, 0, none⟩)]) (ha : 0 ≤ r.a ∧ r.a < 4294967296) : Holds A w (.func (.func 155) #[] #[.pointer (some ⟨g, 0, none⟩)]) (turnW (iF r.a)) := by
  intro v w1 hO h0 h1
  have hb1 : Row w1 g 99 #[Value.pointer (some ⟨B, 0, none⟩)] := h.aside hb hO.turned2 aside_p
  have hr1 : Row w1 B 102 (r.cells (.pointer p) nv) := h.row.only hO (fun e => h.far (.inr e) rfl)
  have HT := Lib.hid (turn_any g r.a v B w1 hb1 (hr1.cell_ (i := 6) rfl) ha h0 h1)
  generalize turnW (iF r.a) v = q at *
  clear h hO hb1 hr1 ha h0 h1 hb
  have hn := neq_fn
  go_enter_defers Tryz.func275, Tryz.ntmps275
  go_wp2_with fail
  refine HT.out.mono ?_
  rintro e w2 ⟨rfl, hO⟩
  have HO := Lib.hid hO
  clear hO HT
  go_wp2
  refine leaves_cons (f := 284) (args := #[]) (by simp) (by simp [go_sem]) ?_
  refine (rec_idle _).mono ?_
  rintro e u' w'' ⟨rfl, rfl, rfl⟩
  exact ⟨_, results_tmp rfl _ _ _, rfl, HO.out⟩
set_option maxHeartbeats 1000000 in
theorem myturn_run (S : St w0 B p A cp [] 900 r w) (hx : Words r.xs) (ha : 0 ≤ r.a ∧ r.a < 4294967296) : Calls Tryz.prog 68 #[Value.pointer (some ⟨B, 0, none⟩)] w (Done B p A cp w0 (.tuple #[]) (r.pAdmit 0 (turnW (iF r.a)))) := by
  obtain ⟨q, hq⟩ : ∃ q, turnW (iF r.a) = q := ⟨_, rfl⟩
  generalize hsn : (r.stepR 0 q).seen = sn
  generalize hdn : (r.stepR 0 q).done = dn
  obtain ⟨r1, hr1⟩ : ∃ r1, r.wait 0 q = r1 := ⟨_, rfl⟩
  have H := Lib.hid (And.intro hsn (And.intro hdn (And.intro hr1 hx)))
  rw [hq]
  replace S := boxed S
  have HH := Lib.hid (show Holds A (w.alloc (.cells #[Value.pointer (some ⟨B, 0, none⟩)] 99)) (.func (.func 155) #[] #[.pointer (some ⟨w.heap.size, 0, none⟩)]) q by
    obtain ⟨nv, h⟩ := S.run
    exact hq ▸ holds_turn w.heap.size nv h (S.rows _ (.head _)) ha)
  clear hsn hdn hr1 hx hq ha
  go_enter Tryz.func68, Tryz.ntmps68
  go_upto_region 1 with (fail)
  generalize w.alloc (.cells #[Value.pointer (some ⟨B, 0, none⟩)] 99) = w1 at *
  generalize w.heap.size = g0 at *
  have b0 := S.c0
  go_wp2_with fail
  clear b0
  refine sWait S HH.out H.out.2.2.2 H.out.1 H.out.2.1 H.out.2.2.1 fun w S b0 => ?_
  clear HH
  cases sn
  all_goals cases dn
  · skip
    go_wp2
    go_returns
    exact S.fit (by unfold LS.pAdmit; rw [H.out.1, H.out.2.1, H.out.2.2.1]; rfl)
  · skip
    go_wp2_with fail
    refine sEnd S fun w S b0 => ?_
    go_wp2
    go_returns
    exact S.fit (by unfold LS.pAdmit; rw [H.out.1, H.out.2.1, H.out.2.2.1]; rfl)
  · skip
    go_wp2_with fail
    refine sNote S fun w S b0 => ?_
    go_wp2
    go_returns
    exact S.fit (by unfold LS.pAdmit; rw [H.out.1, H.out.2.1, H.out.2.2.1]; rfl)
  · skip
    go_wp2_with fail
    refine sNote S fun w S b0 => ?_
    go_wp2_with fail
    refine sEnd S fun w S b0 => ?_
    go_wp2
    go_returns
    exact S.fit (by unfold LS.pAdmit; rw [H.out.1, H.out.2.1, H.out.2.2.1]; rfl)
end
end Go.Proofs.YtigdbokfapedcaaGreat
