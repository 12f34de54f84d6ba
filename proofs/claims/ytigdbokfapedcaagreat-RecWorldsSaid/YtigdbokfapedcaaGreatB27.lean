/- PfC, PfW. -/
import Derived.Test.YtigdbokfapedcaaGreatB13
import Derived.Test.YtigdbokfapedcaaGreatB3
/- pf's lines, the program's: bits, presence, is; those that wait for nothing. -/
set_option linter.unusedVariables false
set_option linter.unusedSimpArgs false
namespace Go.Proofs.YtigdbokfapedcaaGreat
open Go.RowKit

theorem get_bits2 (v : Int) : getI v 0 2 = bitsI v := by
  show v / pw 0 % pw 2 = v % 4
  rw [show pw 0 = 1 from rfl, show pw 2 = 4 from rfl, Int.ediv_one]
theorem get_bit1 (v : Int) : getI v 0 1 = v % 2 := by
  show v / pw 0 % pw 1 = v % 2
  rw [show pw 0 = 1 from rfl, show pw 1 = 2 from rfl, Int.ediv_one]
theorem bits_any (v : Int) (w : World) (hv : 0 ≤ v ∧ v < 4294967296) :
    Calls Tryz.prog 101 #[.int .u32 v] w fun e w' => e = .returned (.int .u32 (bitsI v)) ∧ Drew w w' := by
  have HV := Lib.hid hv
  clear hv
  go_enter Tryz.func101, Tryz.ntmps101
  go_wp2_with fail
  refine (get_any v 0 2 _ HV.out).mono ?_
  rw [get_bits2]
  rintro e w1 ⟨rfl, hd⟩
  have HD := Lib.hid hd
  clear hd
  go_wp2
  go_ret
  exact ⟨rfl, HD.out⟩
theorem bits_quiet (v : Int) (w : World) (k : Nat) (hv : 0 ≤ v ∧ v < 4294967296) :
    Calls Tryz.prog 101 #[.int .u32 v] (w.drewN k) fun e w' => e = .returned (.int .u32 (bitsI v)) ∧ ∃ m, w' = w.drewN m :=
  (bits_any v _ hv).mono fun _ _ ⟨he, hm⟩ => ⟨he, hm.quiet⟩
theorem pres_any (v : Int) (w : World) (hv : 0 ≤ v ∧ v < 4294967296) :
    Calls Tryz.prog 108 #[.int .u32 v] w fun e w' => e = .returned (.int .u32 (presI v)) ∧ Drew w w' := by
  have HV := Lib.hid hv
  clear hv
  go_enter Tryz.func108, Tryz.ntmps108
  go_wp2_with fail
  refine (get_any v 0 1 _ HV.out).mono ?_
  rw [get_bit1]
  generalize hb : v % 2 = b
  have hb2 : 0 ≤ b ∧ b < 2 := by omega
  have HB := Lib.hid (show presI v = 2 + b by unfold presI; rw [hb])
  clear hb
  rintro e w1 ⟨rfl, hd⟩
  have HD := Lib.hid hd
  clear hd
  go_wp2
  go_ret
  refine ⟨congrArg (fun x => Ending.returned (.int .u32 x)) ?_, HD.out⟩
  rw [HB.out]

section
variable {B : Nat} {p A : Option Addr} {cp : Nat} {r : LS} {w0 w : World}
theorem depart_run (S : St w0 B p A cp [] 900 r w) : Calls Tryz.prog 47 #[Value.pointer (some ⟨B, 0, none⟩)] w (Done B p A cp w0 (.tuple #[]) r.pDepart) := by
  go_enter Tryz.func47, Tryz.ntmps47
  go_wp2_with fail
  refine xAdd S fun w S => ?_
  go_wp2_with fail
  refine xNote S fun w S => ?_
  go_wp2_with fail
  refine xWake S fun w S => ?_
  go_wp2_with fail
  refine xEnd S fun w S => ?_
  go_wp2
  go_returns
  exact S.done
theorem pass_run (ok : Bool) (S : St w0 B p A cp [] 900 r w) : Calls Tryz.prog 55 #[Value.pointer (some ⟨B, 0, none⟩), .bool ok] w (Done B p A cp w0 (.tuple #[]) (r.pPass ok)) := by
  go_enter Tryz.func55, Tryz.ntmps55
  go_wp2_with fail
  refine xAdd S fun w S => ?_
  go_wp2_with fail
  refine xNote S fun w S => ?_
  go_wp2_with fail
  refine xWake S fun w S => ?_
  go_wp2_with fail
  refine xEnd S fun w S => ?_
  go_wp2
  go_returns
  exact S.done
theorem stop_run (S : St w0 B p A cp [] 900 r w) : Calls Tryz.prog 116 #[Value.pointer (some ⟨B, 0, none⟩)] w (Done B p A cp w0 (.tuple #[]) r.pStop) := by
  go_enter Tryz.func116, Tryz.ntmps116
  go_wp2_with fail
  refine xAdd S fun w S => ?_
  go_wp2_with fail
  refine xEnd S fun w S => ?_
  go_wp2
  go_returns
  exact S.done
theorem draw_run (S : St w0 B p A cp [] 900 r w) : Calls Tryz.prog 48 #[Value.pointer (some ⟨B, 0, none⟩)] w (Done B p A cp w0 (.tuple #[]) r.pDraw) := by
  go_enter Tryz.func48, Tryz.ntmps48
  go_wp2_with fail
  refine xAdd S fun w S => ?_
  have c6 := S.c6
  have f6 := S.froz 6
  replace S := S.setA (wordAt r.xs 2)
  go_wp2_with fail
  refine xNote S fun w S => ?_
  go_wp2_with fail
  refine xGo S fun w S => ?_
  go_wp2
  go_returns
  exact S.done
theorem keep_run (n : Int) (S : St w0 B p A cp [] 900 r w) : Calls Tryz.prog 50 #[Value.pointer (some ⟨B, 0, none⟩), .int .i64 n] w (Done B p A cp w0 (.tuple #[]) (r.pKeep n)) := by
  go_enter Tryz.func50, Tryz.ntmps50
  go_wp2_with fail
  refine xLoad S fun w S => ?_
  have c7 := S.c7
  have f7 := S.froz 7
  replace S := S.setB (wordAt r.xs 4)
  go_wp2_with fail
  refine xGo S fun w S => ?_
  go_wp2
  go_returns
  exact S.done
theorem look_run (c n : Int) (S : St w0 B p A cp [] 900 r w) : Calls Tryz.prog 111 #[Value.pointer (some ⟨B, 0, none⟩), .int .i64 c, .int .i64 n] w (Done B p A cp w0 (.tuple #[]) (r.pLook c n)) := by
  go_enter Tryz.func111, Tryz.ntmps111
  go_wp2_with fail
  refine xLoad S fun w S => ?_
  have c6 := S.c6
  have f6 := S.froz 6
  replace S := S.setA (wordAt r.xs c)
  go_wp2_with fail
  refine xGo S fun w S => ?_
  go_wp2
  go_returns
  exact S.done
theorem appear_run (n : Int) (S : St w0 B p A cp [] 900 r w) (hb : 0 ≤ r.b ∧ r.b < 4294967296) : Calls Tryz.prog 51 #[Value.pointer (some ⟨B, 0, none⟩), .int .i64 n] w (Done B p A cp w0 (.tuple #[]) (r.pAppear n)) := by
  have c7 := S.c7
  go_enter Tryz.func51, Tryz.ntmps51
  go_wp2_with fail
  clear c7
  refine (pres_any r.b _ hb).mono ?_
  rintro e w1 ⟨rfl, hd⟩
  replace S := S.drewd hd
  clear hd
  go_wp2_with fail
  refine xAdd S fun w S => ?_
  have c6 := S.c6
  have f6 := S.froz 6
  replace S := S.setA (wordAt r.xs 0)
  go_wp2_with fail
  refine xNote S fun w S => ?_
  go_wp2_with fail
  refine xGo S fun w S => ?_
  go_wp2
  go_returns
  exact S.done
theorem vanish_run (inn what : Int) (S : St w0 B p A cp [] 900 r w) (hb : 0 ≤ r.b ∧ r.b < 4294967296) : Calls Tryz.prog 53 #[Value.pointer (some ⟨B, 0, none⟩), .int .u32 inn, .int .i64 what] w (Done B p A cp w0 (.tuple #[]) (r.pVanish inn what)) := by
  have hw : IntKind.u32.wrap (inn - presI r.b) = (inn - presI r.b) % 4294967296 := rfl
  have c7 := S.c7
  go_enter Tryz.func53, Tryz.ntmps53
  go_wp2_with fail
  clear c7
  refine (pres_any r.b _ hb).mono ?_
  rintro e w1 ⟨rfl, hd⟩
  replace S := S.drewd hd
  clear hd
  go_wp2_with fail
  clear hw
  refine xAdd (x := (inn - presI r.b) % 4294967296) S fun w S => ?_
  go_wp2_with fail
  refine xNote S fun w S => ?_
  go_wp2_with fail
  refine xWake S fun w S => ?_
  go_wp2_with fail
  refine xGo S fun w S => ?_
  go_wp2
  go_returns
  exact S.done
theorem count_run (S : St w0 B p A cp [] 900 r w) : Calls Tryz.prog 54 #[Value.pointer (some ⟨B, 0, none⟩)] w (Done B p A cp w0 (.tuple #[]) r.pCount) := by
  have c7 := S.c7
  have hw : IntKind.u32.wrap (r.b + 1) = (r.b + 1) % 4294967296 := rfl
  go_enter Tryz.func54, Tryz.ntmps54
  go_wp2_with fail
  clear c7 hw
  refine S.call (fun nv h => store_run B p A cp nv r 4 ((r.b + 1) % 4294967296) _ h) S.len fun w S => ?_
  go_wp2_with fail
  refine xGo S fun w S => ?_
  go_wp2
  go_returns
  exact S.done
theorem come_run (S : St w0 B p A cp [] 900 r w) (hx : Words r.xs) : Calls Tryz.prog 45 #[Value.pointer (some ⟨B, 0, none⟩)] w (Done B p A cp w0 (.tuple #[]) r.pCome) := by
  go_enter Tryz.func45, Tryz.ntmps45
  go_wp2_with fail
  refine xAdd S fun w S => ?_
  have c6 := S.c6
  have f6 := S.froz 6
  replace S := S.setA (wordAt r.xs 0)
  go_wp2_with fail
  refine xNote S fun w3 S => ?_
  have d6 : w3.cell? ⟨B, 6, none⟩ = some (.int .u32 (wordAt r.xs 0)) := S.c6
  go_wp2_with fail
  clear d6
  refine (bits_any (wordAt r.xs 0) _ (word_wf hx 0)).mono ?_
  obtain ⟨b, hz⟩ : ∃ b, bitsI (wordAt r.xs 0) = b := ⟨_, rfl⟩
  rw [hz]
  have H := Lib.hid hz
  clear hz
  rintro e w4 ⟨rfl, hd⟩
  replace S := S.drewd hd
  clear hd
  by_cases hb : b = 0
  · subst hb
    go_wp2_with fail
    refine xNote S fun w S => ?_
    go_wp2_with fail
    refine xEnd S fun w S => ?_
    go_wp2
    go_returns
    exact S.fit (by unfold LS.pCome; rw [if_pos H.out])
  · have hb0 : (b == 0) = false := by simpa using hb
    go_wp2_with fail
    refine xGo S fun w S => ?_
    go_wp2
    go_returns
    exact S.fit (by unfold LS.pCome; rw [if_neg (by rw [H.out]; exact hb)])
theorem lookIn_run (S : St w0 B p A cp [] 900 r w) (hx : Words r.xs) : Calls Tryz.prog 56 #[Value.pointer (some ⟨B, 0, none⟩)] w (Done B p A cp w0 (.tuple #[]) r.pLookIn) := by
  go_enter Tryz.func56, Tryz.ntmps56
  go_wp2_with fail
  refine xLoad S fun w2 S => ?_
  have c6 := S.c6
  have f6 := S.froz 6
  replace S := S.setA (wordAt r.xs 0)
  have d6 := S.c6
  go_wp2_with fail
  clear d6
  refine (bits_any (wordAt r.xs 0) _ (word_wf hx 0)).mono ?_
  obtain ⟨b, hz⟩ : ∃ b, bitsI (wordAt r.xs 0) = b := ⟨_, rfl⟩
  rw [hz]
  have H := Lib.hid hz
  clear hz
  rintro e w4 ⟨rfl, hd⟩
  replace S := S.drewd hd
  clear hd
  by_cases hb : b = 0
  · subst hb
    go_wp2_with fail
    refine xGo S fun w S => ?_
    go_wp2
    go_returns
    exact S.fit (by unfold LS.pLookIn; rw [if_pos H.out])
  · have hb0 : (b == 0) = false := by simpa using hb
    go_wp2_with fail
    refine xNote S fun w S => ?_
    go_wp2_with fail
    refine xEnd S fun w S => ?_
    go_wp2
    go_returns
    exact S.fit (by unfold LS.pLookIn; rw [if_neg (by rw [H.out]; exact hb)])
end
end Go.Proofs.YtigdbokfapedcaaGreat
/- pf's lines, the program's: those that wait, weigh and claim. -/
set_option linter.unusedVariables false
set_option linter.unusedSimpArgs false
namespace Go.Proofs.YtigdbokfapedcaaGreat
open Go.RowKit

/-- A box that a call made holds a word. -/
structure BoxW (w : World) (A : Option Addr) (g : Nat) (a : Int) : Prop where
  row : Row w g 22 #[.int .u32 a]
  far : ¬ At A g
theorem is_is (g : Nat) (a v : Int) (w : World) (hb : Row w g 22 #[.int .u32 a]) :
    Calls Tryz.prog 195 #[.int .u32 v, .pointer (some ⟨g, 0, none⟩)] w fun e w' => e = .returned (.bool (v == a)) ∧ Only Nil w w' := by
  have b0 : w.cell? ⟨g, 0, none⟩ = some (.int .u32 a) := hb.cell_ (i := 0) rfl
  clear hb
  go_enter Tryz.func195, Tryz.ntmps195
  go_wp2
  go_ret
  exact ⟨rfl, Only.refl _ _⟩
theorem left_is (g : Nat) (s v : Int) (w : World) (hb : Row w g 22 #[.int .u32 s]) (hv : 0 ≤ v ∧ v < 4294967296) :
    Calls Tryz.prog 103 #[.int .u32 v, .pointer (some ⟨g, 0, none⟩)] w fun e w' => e = .returned (.bool (bitsI v != s)) ∧ Only Nil w w' := by
  have b0 : w.cell? ⟨g, 0, none⟩ = some (.int .u32 s) := hb.cell_ (i := 0) rfl
  clear hb
  go_enter Tryz.func103, Tryz.ntmps103
  go_wp2
  go_quiet ((exact bits_quiet v _ _ hv))
  go_wp2
  go_ret
  exact ⟨rfl, (Drew.n _ _).only⟩
theorem is_make (B : Nat) (p A : Option Addr) (cp : Nat) (nv : Value) (r : LS) (a : Int) (w : World) (h : RunP w B p A cp nv r) : Calls Tryz.prog 106 #[.int .u32 a] w fun e w' =>
    ∃ g, e = .returned (.func (.func 195) #[] #[.pointer (some ⟨g, 0, none⟩)]) ∧ BoxW w' A g a ∧ Only Nil w w' := by
  have HR : Hid (BoxW (w.alloc (.cells #[.int .u32 a] 22)) A w.heap.size a) := Lib.hid ⟨Row.new w 22 #[.int .u32 a], fun e => by have := h.memo.lt _ (.inr e); omega⟩
  have HO := Lib.hid ((Only.refl Nil w).alloc (.cells #[.int .u32 a] 22))
  clear h
  go_enter Tryz.func106, Tryz.ntmps106
  go_wp2
  go_ret
  exact ⟨_, rfl, HR.out, HO.out⟩
theorem holds_is {A : Option Addr} {g : Nat} {a : Int} {w : World} (h : BoxW w A g a) : Holds A w (.func (.func 195) #[] #[.pointer (some ⟨g, 0, none⟩)]) (fun v => v == a) := by
  intro v w1 hO h0 h1
  have hb1 := h.row.only hO h.far
  have HT := Lib.hid (is_is g a v w1 hb1)
  clear h hO hb1
  have hn := neq_fn
  go_enter_defers Tryz.func275, Tryz.ntmps275
  go_wp2_with fail
  refine HT.out.mono ?_
  rintro e w2 ⟨rfl, hO⟩
  have HO := Lib.hid hO
  clear hO HT
  generalize hq : (v == a) = q at *
  have HQ := Lib.hid hq
  clear hq
  go_wp2
  refine leaves_cons (f := 284) (args := #[]) (by simp) (by simp [go_sem]) ?_
  refine (rec_idle _).mono ?_
  rintro e u' w'' ⟨rfl, rfl, rfl⟩
  exact ⟨_, results_tmp rfl _ _ _, by rw [HQ.out]; rfl, HO.out⟩
theorem holds_left {A : Option Addr} {g : Nat} {s : Int} {w : World} (h : BoxW w A g s) : Holds A w (.func (.func 103) #[] #[.pointer (some ⟨g, 0, none⟩)]) (fun v => bitsI v != s) := by
  intro v w1 hO h0 h1
  have hb1 := h.row.only hO h.far
  have HT := Lib.hid (left_is g s v w1 hb1 ⟨h0, h1⟩)
  clear h hO hb1
  have hn := neq_fn
  go_enter_defers Tryz.func275, Tryz.ntmps275
  go_wp2_with fail
  refine HT.out.mono ?_
  rintro e w2 ⟨rfl, hO⟩
  have HO := Lib.hid hO
  clear hO HT
  generalize hq : (bitsI v != s) = q at *
  have HQ := Lib.hid hq
  clear hq
  go_wp2
  refine leaves_cons (f := 284) (args := #[]) (by simp) (by simp [go_sem]) ?_
  refine (rec_idle _).mono ?_
  rintro e u' w'' ⟨rfl, rfl, rfl⟩
  exact ⟨_, results_tmp rfl _ _ _, by rw [HQ.out]; rfl, HO.out⟩

section
variable {B : Nat} {p A : Option Addr} {cp : Nat} {r : LS} {w0 w : World}
/-- admit, behind a wait. -/
def LS.admits (r : LS) (sn dn : Bool) : LS := if dn then (r.noteIf sn 4).fin true else r.noteIf sn 4
theorem admit_run (sn dn : Bool) (S : St w0 B p A cp [] 900 r w) : Calls Tryz.prog 104 #[Value.pointer (some ⟨B, 0, none⟩), .bool sn, .bool dn] w (Done B p A cp w0 (.tuple #[]) (r.admits sn dn)) := by
  cases sn <;> cases dn
  all_goals (go_enter Tryz.func104, Tryz.ntmps104)
  · skip
    go_wp2
    go_returns
    exact S.done
  · skip
    go_wp2_with fail
    refine xEnd S fun w S => ?_
    go_wp2
    go_returns
    exact S.done
  · skip
    go_wp2_with fail
    refine xNote S fun w S => ?_
    go_wp2
    go_returns
    exact S.done
  · skip
    go_wp2_with fail
    refine xNote S fun w S => ?_
    go_wp2_with fail
    refine xEnd S fun w S => ?_
    go_wp2
    go_returns
    exact S.done
set_option maxHeartbeats 1000000 in
theorem turn_run (S : St w0 B p A cp [] 900 r w) (hx : Words r.xs) : Calls Tryz.prog 49 #[Value.pointer (some ⟨B, 0, none⟩)] w (Done B p A cp w0 (.tuple #[]) r.pTurn) := by
  generalize hsn : (r.stepR 3 r.mine).seen = sn
  generalize hdn : (r.stepR 3 r.mine).done = dn
  obtain ⟨r1, hr1⟩ : ∃ r1, r.wait 3 r.mine = r1 := ⟨_, rfl⟩
  have H := Lib.hid (And.intro hsn (And.intro hdn (And.intro hr1 hx)))
  clear hsn hdn hr1 hx
  have c6 := S.c6
  skip
  go_enter Tryz.func49, Tryz.ntmps49
  go_wp2_with fail
  clear c6
  obtain ⟨nv, hP⟩ := S.run
  refine (is_make B p A cp nv r (r.a) _ hP).mono ?_
  rintro e w1 ⟨gt, rfl, hT, hO⟩
  replace S := S.keep hO
  have HH := Lib.hid (holds_is hT)
  clear hT hO hP
  go_wp2_with fail
  refine xWait (q := r.mine) S HH.out H.out.2.2.2 H.out.1 H.out.2.1 H.out.2.2.1 fun w2 S => ?_
  clear HH
  cases dn
  · skip
    go_wp2
    go_returns
    exact S.fit (by unfold LS.pTurn; rw [H.out.2.1, H.out.2.2.1]; rfl)
  · skip
    go_wp2_with fail
    refine xGo S fun w S => ?_
    go_wp2
    go_returns
    exact S.fit (by unfold LS.pTurn; rw [H.out.2.1, H.out.2.2.1]; rfl)
set_option maxHeartbeats 1000000 in
theorem readers_run (S : St w0 B p A cp [] 900 r w) (hx : Words r.xs) : Calls Tryz.prog 52 #[Value.pointer (some ⟨B, 0, none⟩)] w (Done B p A cp w0 (.tuple #[]) (r.pAdmit 1 r.mine)) := by
  generalize hsn : (r.stepR 1 r.mine).seen = sn
  generalize hdn : (r.stepR 1 r.mine).done = dn
  obtain ⟨r1, hr1⟩ : ∃ r1, r.wait 1 r.mine = r1 := ⟨_, rfl⟩
  have H := Lib.hid (And.intro hsn (And.intro hdn (And.intro hr1 hx)))
  clear hsn hdn hr1 hx
  have c6 := S.c6
  skip
  go_enter Tryz.func52, Tryz.ntmps52
  go_wp2_with fail
  clear c6
  obtain ⟨nv, hP⟩ := S.run
  refine (is_make B p A cp nv r (r.a) _ hP).mono ?_
  rintro e w1 ⟨gt, rfl, hT, hO⟩
  replace S := S.keep hO
  have HH := Lib.hid (holds_is hT)
  clear hT hO hP
  go_wp2_with fail
  refine xWait (q := r.mine) S HH.out H.out.2.2.2 H.out.1 H.out.2.1 H.out.2.2.1 fun w2 S => ?_
  clear HH
  go_wp2_with fail
  refine run1 (r' := r.pAdmit 1 r.mine) (admit_run sn dn S) (by unfold LS.pAdmit LS.admits; rw [H.out.1, H.out.2.1, H.out.2.2.1]) fun w3 H => ?_
  go_wp2
  go_returns
  exact H.out
set_option maxHeartbeats 1000000 in
theorem others_run (S : St w0 B p A cp [] 900 r w) (hx : Words r.xs) : Calls Tryz.prog 115 #[Value.pointer (some ⟨B, 0, none⟩)] w (Done B p A cp w0 (.tuple #[]) r.pOthers) := by
  generalize hsn : (r.stepR 1 r.butMe).seen = sn
  generalize hdn : (r.stepR 1 r.butMe).done = dn
  obtain ⟨r1, hr1⟩ : ∃ r1, r.wait 1 r.butMe = r1 := ⟨_, rfl⟩
  have H := Lib.hid (And.intro hsn (And.intro hdn (And.intro hr1 hx)))
  clear hsn hdn hr1 hx
  have c6 := S.c6
  have hw : IntKind.u32.wrap (r.a - 256) = (r.a - 256) % 4294967296 := rfl
  go_enter Tryz.func115, Tryz.ntmps115
  go_wp2_with fail
  clear c6
  obtain ⟨nv, hP⟩ := S.run
  refine (is_make B p A cp nv r ((r.a - 256) % 4294967296) _ hP).mono ?_
  rintro e w1 ⟨gt, rfl, hT, hO⟩
  replace S := S.keep hO
  have HH := Lib.hid (holds_is hT)
  clear hT hO hP
  go_wp2_with fail
  refine xWait (q := r.butMe) S HH.out H.out.2.2.2 H.out.1 H.out.2.1 H.out.2.2.1 fun w2 S => ?_
  clear HH
  cases sn
  all_goals cases dn
  · skip
    go_wp2
    go_returns
    exact S.fit (by unfold LS.pOthers; rw [H.out.1, H.out.2.1, H.out.2.2.1]; rfl)
  · skip
    go_wp2_with fail
    refine xGo S fun w S => ?_
    go_wp2
    go_returns
    exact S.fit (by unfold LS.pOthers; rw [H.out.1, H.out.2.1, H.out.2.2.1]; rfl)
  · skip
    go_wp2_with fail
    refine xNote S fun w S => ?_
    go_wp2
    go_returns
    exact S.fit (by unfold LS.pOthers; rw [H.out.1, H.out.2.1, H.out.2.2.1]; rfl)
  · skip
    go_wp2_with fail
    refine xNote S fun w S => ?_
    go_wp2_with fail
    refine xGo S fun w S => ?_
    go_wp2
    go_returns
    exact S.fit (by unfold LS.pOthers; rw [H.out.1, H.out.2.1, H.out.2.2.1]; rfl)
set_option maxHeartbeats 1000000 in
theorem left_run (S : St w0 B p A cp [] 900 r w) (hx : Words r.xs) (ha : 0 ≤ r.a ∧ r.a < 4294967296) : Calls Tryz.prog 46 #[Value.pointer (some ⟨B, 0, none⟩)] w (Done B p A cp w0 (.tuple #[]) (r.pAdmit 0 r.left)) := by
  generalize hsn : (r.stepR 0 r.left).seen = sn
  generalize hdn : (r.stepR 0 r.left).done = dn
  obtain ⟨r1, hr1⟩ : ∃ r1, r.wait 0 r.left = r1 := ⟨_, rfl⟩
  have H := Lib.hid (And.intro hsn (And.intro hdn (And.intro hr1 hx)))
  clear hsn hdn hr1 hx
  have c6 := S.c6
  go_enter Tryz.func46, Tryz.ntmps46
  go_wp2_with fail
  clear c6
  refine (bits_any r.a _ ha).mono ?_
  rintro e w1 ⟨rfl, hd⟩
  replace S := S.drewd hd
  clear hd
  have hT : BoxW (w1.alloc (.cells #[.int .u32 (bitsI r.a)] 22)) A w1.heap.size (bitsI r.a) := ⟨Row.new w1 22 #[.int .u32 (bitsI r.a)], fun e => by obtain ⟨nv, hP⟩ := S.run; have := hP.memo.lt _ (.inr e); omega⟩
  have HH := Lib.hid (holds_left hT)
  replace S := S.keep ((Only.refl Nil w1).alloc (.cells #[.int .u32 (bitsI r.a)] 22))
  clear hT
  go_wp2_with fail
  refine xWait (q := r.left) S HH.out H.out.2.2.2 H.out.1 H.out.2.1 H.out.2.2.1 fun w2 S => ?_
  clear HH
  go_wp2_with fail
  refine run1 (r' := r.pAdmit 0 r.left) (admit_run sn dn S) (by unfold LS.pAdmit LS.admits; rw [H.out.1, H.out.2.1, H.out.2.2.1]) fun w3 H => ?_
  go_wp2
  go_returns
  exact H.out

set_option maxHeartbeats 1000000 in
theorem slip_run (S : St w0 B p A cp [] 900 r w) : Calls Tryz.prog 57 #[Value.pointer (some ⟨B, 0, none⟩)] w (Done B p A cp w0 (.tuple #[]) r.pSlip) := by
  have c6 := S.c6
  have hx1 : IntKind.u32.wrap (r.a + 256) = (r.a + 256) % 4294967296 := rfl
  go_enter Tryz.func57, Tryz.ntmps57
  go_upto_region 0 with (fail)
  refine wp_region_phase (n := 14) 12 (fun w => w.cell? ⟨B, 6, none⟩ = some (.int .u32 r.a)) rfl (by kernel_rfl) c6 (fun hHeld => ?_)
  replace S := S.drew
  clear c6
  generalize w.drew = w1 at *
  refine za 0 rfl ?_
  refine za 1 rfl ?_
  refine za 2 rfl ?_
  refine za 3 rfl ?_
  refine za 4 rfl ?_
  refine zt 5 rfl ?_
  refine za 6 rfl ?_
  refine za 7 rfl ?_
  refine za 8 rfl ?_
  refine za 9 rfl ?_
  refine zt 10 rfl ?_
  refine mpa 11 rfl (.int .u32 ((r.a + 256) % 4294967296)) (fun w => ?_) ?_
  · go_simp
  refine mpc 12 rfl (by kernel_rfl) (by rfl) (fun K hK => ?_)
  go_simp
  refine xCas S fun w2 S => ?_
  refine hK.out _ _ (.inl (by kernel_rfl)) ?_
  clear hK K hHeld hx1
  obtain ⟨cl, hz⟩ : ∃ cl, (there r.xs 0 && (wordAt r.xs 0 == r.a)) = cl := ⟨_, rfl⟩
  rw [hz]
  have H := Lib.hid hz
  clear hz
  refine za 13 rfl ?_
  refine wpAnyP_done (by kernel_rfl) ?_ _
  cases cl
  · skip
    go_wp2_with fail
    refine xGo S fun w S => ?_
    go_wp2
    go_returns
    exact S.fit (by unfold LS.pSlip LS.was; exact ite_f H.out)
  · skip
    go_wp2_with fail
    refine xNote S fun w S => ?_
    go_wp2_with fail
    refine xNote S fun w S => ?_
    go_wp2_with fail
    refine xEnd S fun w S => ?_
    go_wp2
    go_returns
    exact S.fit (by unfold LS.pSlip LS.was; exact ite_t H.out)
set_option maxHeartbeats 1000000 in
theorem claim_run (S : St w0 B p A cp [] 900 r w) : Calls Tryz.prog 113 #[Value.pointer (some ⟨B, 0, none⟩)] w (Done B p A cp w0 (.tuple #[]) r.pClaim) := by
  have c6 := S.c6
  have hx1 : IntKind.u32.wrap (r.a + 1) = (r.a + 1) % 4294967296 := rfl
  go_enter Tryz.func113, Tryz.ntmps113
  go_upto_region 0 with (fail)
  refine wp_region_phase (n := 14) 12 (fun w => w.cell? ⟨B, 6, none⟩ = some (.int .u32 r.a)) rfl (by kernel_rfl) c6 (fun hHeld => ?_)
  replace S := S.drew
  clear c6
  generalize w.drew = w1 at *
  refine za 0 rfl ?_
  refine za 1 rfl ?_
  refine za 2 rfl ?_
  refine za 3 rfl ?_
  refine za 4 rfl ?_
  refine zt 5 rfl ?_
  refine za 6 rfl ?_
  refine za 7 rfl ?_
  refine za 8 rfl ?_
  refine za 9 rfl ?_
  refine zt 10 rfl ?_
  refine mpa 11 rfl (.int .u32 ((r.a + 1) % 4294967296)) (fun w => ?_) ?_
  · go_simp
  refine mpc 12 rfl (by kernel_rfl) (by rfl) (fun K hK => ?_)
  go_simp
  refine xCas S fun w2 S => ?_
  refine hK.out _ _ (.inl (by kernel_rfl)) ?_
  clear hK K hHeld hx1
  obtain ⟨cl, hz⟩ : ∃ cl, (there r.xs 2 && (wordAt r.xs 2 == r.a)) = cl := ⟨_, rfl⟩
  rw [hz]
  have H := Lib.hid hz
  clear hz
  refine za 13 rfl ?_
  refine wpAnyP_done (by kernel_rfl) ?_ _
  cases cl
  · skip
    go_wp2_with fail
    refine xGo S fun w S => ?_
    go_wp2
    go_returns
    exact S.fit (by unfold LS.pClaim LS.was; exact ite_f H.out)
  · skip
    go_wp2_with fail
    refine xNote S fun w S => ?_
    go_wp2_with fail
    refine xGo S fun w S => ?_
    go_wp2
    go_returns
    exact S.fit (by unfold LS.pClaim LS.was; exact ite_t H.out)

set_option maxHeartbeats 1000000 in
theorem weighT_run (S : St w0 B p A cp [] 900 r w) : Calls Tryz.prog 112 #[Value.pointer (some ⟨B, 0, none⟩)] w (Done B p A cp w0 (.tuple #[]) r.pWeighT) := by
  go_enter Tryz.func112, Tryz.ntmps112
  go_wp2_with fail
  refine xLoad S fun w1 S => ?_
  have c7 := S.c7
  have f7 := S.froz 7
  go_upto_region 1 with (fail)
  clear c7 f7
  replace S := S.setB (wordAt r.xs 3)
  generalize w1.setCell ⟨B, 7, none⟩ (.int .u32 (wordAt r.xs 3)) = w2 at *
  refine wp_region_phase (n := 12) 10 (fun w => w.cell? ⟨B, 6, none⟩ = some (.int .u32 r.a) ∧ w.cell? ⟨B, 7, none⟩ = some (.int .u32 (wordAt r.xs 3))) rfl (by kernel_rfl) ⟨S.c6, S.c7⟩ (fun hHeld => ?_)
  replace S := S.drew
  generalize w2.drew = w3 at *
  refine za 0 rfl ?_
  refine za 1 rfl ?_
  refine za 2 rfl ?_
  refine za 3 rfl ?_
  refine zt 4 rfl ?_
  refine za 5 rfl ?_
  refine za 6 rfl ?_
  refine za 7 rfl ?_
  refine za 8 rfl ?_
  refine zt 9 rfl ?_
  refine mpc 10 rfl (by kernel_rfl) (by rfl) (fun K hK => ?_)
  go_simp
  refine (ahead_any r.a (wordAt r.xs 3) _).mono ?_
  obtain ⟨ah, hz⟩ : ∃ ah, aheadI r.a (wordAt r.xs 3) = ah := ⟨_, rfl⟩
  rw [hz]
  have H := Lib.hid hz
  clear hz
  rintro e w9 ⟨rfl, rfl⟩
  refine hK.out _ _ (.inl (by kernel_rfl)) ?_
  clear hK K
  refine za 11 rfl ?_
  refine wpAnyP_done (by kernel_rfl) ?_ _
  clear hHeld
  by_cases h1 : 0 < ah
  · skip
    go_wp2_with fail
    refine xNote S fun w S => ?_
    go_wp2_with fail
    refine xEnd S fun w S => ?_
    go_wp2
    go_returns
    exact S.fit (by unfold LS.pWeighT; rw [H.out, if_pos h1])
  by_cases h2 : ah < 0
  · skip
    go_wp2_with fail
    refine xGo S fun w S => ?_
    go_wp2
    go_returns
    exact S.fit (by unfold LS.pWeighT; rw [H.out, if_neg (show ¬ 0 < ah by omega), if_pos h2])
  · skip
    go_wp2_with fail
    refine xGo S fun w S => ?_
    go_wp2
    go_returns
    exact S.fit (by unfold LS.pWeighT; rw [H.out, if_neg (show ¬ 0 < ah by omega), if_neg (show ¬ ah < 0 by omega)])
set_option maxHeartbeats 1000000 in
theorem weighR_run (own : Int) (S : St w0 B p A cp [] 900 r w) : Calls Tryz.prog 114 #[Value.pointer (some ⟨B, 0, none⟩), .int .i64 own] w (Done B p A cp w0 (.tuple #[]) (r.pWeighR own)) := by
  go_enter Tryz.func114, Tryz.ntmps114
  go_wp2_with fail
  refine xLoad S fun w1 S => ?_
  have c7 := S.c7
  have f7 := S.froz 7
  go_upto_region 1 with (fail)
  clear c7 f7
  replace S := S.setB (wordAt r.xs 1)
  generalize w1.setCell ⟨B, 7, none⟩ (.int .u32 (wordAt r.xs 1)) = w2 at *
  refine wp_region_phase (n := 13) 10 (fun w => w.cell? ⟨B, 6, none⟩ = some (.int .u32 r.a) ∧ w.cell? ⟨B, 7, none⟩ = some (.int .u32 (wordAt r.xs 1))) rfl (by kernel_rfl) ⟨S.c6, S.c7⟩ (fun hHeld => ?_)
  replace S := S.drew
  generalize w2.drew = w3 at *
  refine za 0 rfl ?_
  refine za 1 rfl ?_
  refine za 2 rfl ?_
  refine za 3 rfl ?_
  refine zt 4 rfl ?_
  refine za 5 rfl ?_
  refine za 6 rfl ?_
  refine za 7 rfl ?_
  refine za 8 rfl ?_
  refine zt 9 rfl ?_
  refine za 11 rfl ?_
  refine mpc 10 rfl (by kernel_rfl) (by rfl) (fun K hK => ?_)
  go_simp
  refine (ahead_any r.a (wordAt r.xs 1) _).mono ?_
  obtain ⟨ah, hz⟩ : ∃ ah, aheadI r.a (wordAt r.xs 1) = ah := ⟨_, rfl⟩
  rw [hz]
  have H := Lib.hid hz
  clear hz
  rintro e w9 ⟨rfl, rfl⟩
  refine hK.out _ _ (.inl (by kernel_rfl)) ?_
  clear hK K
  refine za 12 rfl ?_
  refine wpAnyP_done (by kernel_rfl) ?_ _
  clear hHeld
  by_cases h1 : ah ≤ own
  · skip
    go_wp2_with fail
    refine xGo S fun w S => ?_
    go_wp2
    go_returns
    exact S.fit (by unfold LS.pWeighR; rw [H.out, if_pos h1])
  · skip
    go_wp2_with fail
    refine xNote S fun w S => ?_
    go_wp2_with fail
    refine xGo S fun w S => ?_
    go_wp2
    go_returns
    exact S.fit (by unfold LS.pWeighR; rw [H.out, if_neg (show ¬ ah ≤ own by omega)])
end
end Go.Proofs.YtigdbokfapedcaaGreat
