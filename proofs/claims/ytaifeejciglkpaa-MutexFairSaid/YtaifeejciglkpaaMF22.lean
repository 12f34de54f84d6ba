import Derived.Test.YtaifeejciglkpaaMF2
import Derived.Test.YtaifeejciglkpaaMF18
import Derived.Test.YtaifeejciglkpaaMF5
import Derived.Test.YtaifeejciglkpaaMF20
import Derived.Test.YtaifeejciglkpaaMF3
import Derived.Test.YtaifeejciglkpaaMF19
set_option linter.unusedVariables false
set_option linter.unusedSimpArgs false
namespace Go.Proofs.Ytaifeejciglkpaa
open Go.RowKit
theorem load_raw (b : Nat) (A : Option Addr) (cp : Nat) (xs : List Int) (c : Int) (w : World) (h : Mem w b A cp xs) :
    Calls Try.prog 20 #[.pointer (some ⟨b, 0, none⟩), .int .i64 c] w fun e w' => e = .returned (.int .u32 (wordAt xs c)) ∧ Only (At A) w w' ∧ Mem w' b A cp (doNew xs 1 c 0 0) := by
  have HH := Lib.hid h
  clear h
  go_enter Try.func20, Try.ntmps20
  go_wp2_with fail
  refine (do_any b A cp xs 1 c 0 0 0 _ HH.out).mono ?_
  obtain ⟨k', c', x', y', hv⟩ := doVal_form xs 1 c 0 0
  rw [oldAt xs 1 c rfl] at hv
  rintro e w1 ⟨rfl, hO, hM⟩
  rw [hv]
  have HO := Lib.hid hO
  have HM := Lib.hid hM
  clear hO hM hv
  go_wp2
  go_ret
  exact ⟨rfl, HO.out.alloc _, HM.out.only ((Only.refl Nil w1).alloc _) id (fun _ _ => id)⟩
theorem load_any (b : Nat) (A : Option Addr) (cp : Nat) (xs : List Int) (c : Int) (w : World) (h : Mem w b A cp xs) :
    Calls Try.prog 20 #[.pointer (some ⟨b, 0, none⟩), .int .i64 c] w fun e w' => e = .returned (.int .u32 (wordAt xs c)) ∧ Only (At A) w w' ∧ Mem w' b A cp xs :=
  (load_raw b A cp xs c w h).mono fun _ _ ⟨h1, h2, h3⟩ => ⟨h1, h2, by rw [doNew_load] at h3; exact h3⟩
end Go.Proofs.Ytaifeejciglkpaa
set_option linter.unusedVariables false
set_option linter.unusedSimpArgs false
namespace Go.Proofs.Ytaifeejciglkpaa
open Go.RowKit
def awE : Nat → LS × Bool
  | 0 => (newR 1 1 0 0 (List.replicate 12 0), false)
  | j + 1 => (awE j).1.mxEnter 0 1
def awG : Nat → LS × Bool
  | 0 => ((awE 3).1.go 6, false)
  | j + 1 => (awG j).1.mxGive 0 6 []
theorem awE_ok : ∀ j, (Words (awE j).1.xs ∧ 0 ≤ (awE j).1.a ∧ (awE j).1.a < 4294967296) ∧ (awE j).1.ns.length ≤ j
  | 0 => ⟨⟨fun x hx => by
      have e : x = 0 := List.eq_of_mem_replicate hx
      subst e; decide, Int.le_refl _, by show (0 : Int) < _; decide⟩, Nat.le_refl _⟩
  | j + 1 => by
    obtain ⟨h, hn⟩ := awE_ok j
    have k := keep_enter (awE j).1 0 1
    exact ⟨k.ab h.1 h.2, Nat.le_trans k.1.notes (by omega)⟩
theorem awG_ok : ∀ j, (Words (awG j).1.xs ∧ 0 ≤ (awG j).1.a ∧ (awG j).1.a < 4294967296) ∧ (awG j).1.ns.length ≤ 3
  | 0 => ⟨(awE_ok 3).1, (awE_ok 3).2⟩
  | j + 1 => by
    obtain ⟨h, hn⟩ := awG_ok j
    have k := keep_give (awG j).1 0 6 []
    exact ⟨k.ab h.1 h.2, Nat.le_trans k.1.notes hn⟩
theorem aw_in : (awE 3).2 = true := by decide +kernel
theorem aw_out : (awG 2).2 = true := by decide +kernel
theorem aw_word : wordAt (awG 2).1.xs 0 = 0 := by decide +kernel
structure AwI (w0 : World) (B b : Nat) (A : Option Addr) (cp : Nat) (r : LS) (W : World) : Prop where
  run : ∃ nv, RunP W B (some ⟨b, 0, none⟩) A cp nv r
  only : Only Nil w0 W
  new : w0.heap.size ≤ B ∧ ∀ j, At A j → w0.heap.size ≤ j
theorem AwI.next {w0 W W' : World} {B b : Nat} {A : Option Addr} {cp : Nat} {r r' : LS} {nv : Value} (h : AwI w0 B b A cp r W) (ho : Only (TurnB B A) W W') (hp : RunP W' B (some ⟨b, 0, none⟩) A cp nv r') : AwI w0 B b A cp r' W' :=
  ⟨⟨nv, hp⟩, h.only.step ho (fun j hj e => by
    rcases e with e | e
    · have := h.new.1; omega
    · have := h.new.2 j e; omega), h.new⟩
set_option maxHeartbeats 2000000 in
theorem awake_any (w : World) : Calls Try.prog 6 #[] w fun e w' => e = .returned (.bool true) ∧ Only Nil w w' := by
  go_enter Try.func6, Try.ntmps6
  go_wp2_with fail
  refine (first4 1 12 _ (by decide) (by decide)).mono ?_
  rintro e w1 ⟨gf, rfl, hg, hH, hO, _⟩
  have HH := Lib.hid hH
  have HO := Lib.hid hO
  clear hg hH hO
  go_wp2_with fail
  refine (from_ok _ _ _ _ _ (by decide) HH.out).mono ?_
  rintro e w2 ⟨b, A', c', rfl, hb, hA, hM, hO⟩
  have HM : Hid (Made w b A' c' (List.replicate 12 0) w2) := Lib.hid ⟨hM, fun j hj => Nat.le_trans HO.out.size (hA j hj), HO.out.trans hO⟩
  clear hb hA hM hO HO HH
  have e0 := (Only.refl Nil w2).alloc (.cells (newCells (some ⟨b, 0, none⟩) 1 1 0 0) 43)
  have HI : Hid (AwI w w2.heap.size b A' c' (awE 0).1 (w2.alloc (.cells (newCells (some ⟨b, 0, none⟩) 1 1 0 0) 43))) := Lib.hid ⟨⟨_, Row.new w2 _ _, ownN_nil _ _, (Memo.of HM.out.mem).keep e0⟩, HM.out.only.trans e0, HM.out.only.size, HM.out.new⟩
  clear e0 HM
  unfold newCells at HI
  go_upto_region 8 with (fail)
  generalize w2.alloc _ = w3 at *
  generalize w2.heap.size = B at *
  go_loopw [6, 8] (fun bv iv wr => ∃ j : Nat, j ≤ 3 ∧ iv = .int .i64 j ∧ bv = .bool (awE j).2 ∧ Hid (AwI w B b A' c' (awE j).1 wr)) (fun _ iv _ => 3 - (intOf iv).toNat)
  case atStart => exact ⟨0, Nat.zero_le _, rfl, rfl, HI⟩
  case round =>
    obtain ⟨j, hj, rfl, rfl, HJ⟩ := hrel
    clear HI
    by_cases hlt : j < 3
    · obtain ⟨nv, hP⟩ := HJ.out.run
      have HP := Lib.hid hP
      have HK := Lib.hid (awE_ok j)
      have HS := Lib.hid (show awE (j + 1) = (awE j).1.mxEnter 0 1 from rfl)
      clear hP
      have hlt3 : (j : Int) < 3 := by omega
      generalize awE j = pr at *
      obtain ⟨r, d⟩ := pr
      dsimp only at *
      go_wp2_with fail
      refine (enter_run B _ _ _ nv r 0 1 _ HP.out (by have := HK.out.2; omega) HK.out.1.1 HK.out.1.2).mono ?_
      rintro e w4 ⟨rfl, hO, nv4, hP⟩
      have HJ4 : Hid (AwI w B b A' c' (awE (j + 1)).1 w4) := Lib.hid (by rw [HS.out]; exact HJ.out.next hO hP)
      clear hO hP HP
      go_wp2
      go_roundw
      case rel => exact ⟨j + 1, by omega, by go_num, by rw [HS.out], HJ4⟩
      case measure => simp [intOf]; omega
    · obtain rfl : 3 = j := by omega
      rw [aw_in] at *
      rw [show (((3 : Nat) : Int)) = 3 from rfl]
      obtain ⟨nv, hP⟩ := HJ.out.run
      have c5 : wr.cell? ⟨B, 5, none⟩ = some (.int .i64 (awE 3).1.line) := hP.row.cell_ (i := 5) rfl
      have f5 : wr.frozen? ⟨B, 5, none⟩ = false := hP.row.frozen 5
      have HI : Hid (AwI w B b A' c' (awG 0).1 (wr.setCell ⟨B, 5, none⟩ (.int .i64 6))) := Lib.hid (HJ.out.next ((Only.refl (TurnB B A') wr).setCell (p := ⟨B, 5, none⟩) (.inr (.inl rfl)) _) (hP.setLine 6))
      clear hP HJ
      go_upto_region 13 with (fail)
      clear c5 f5
      generalize wr.setCell ⟨B, 5, none⟩ (.int .i64 6) = w5 at *
      go_loopw [7, 9] (fun bv iv wr => ∃ j : Nat, j ≤ 2 ∧ iv = .int .i64 j ∧ bv = .bool (awG j).2 ∧ Hid (AwI w B b A' c' (awG j).1 wr)) (fun _ iv _ => 2 - (intOf iv).toNat)
      case atStart => exact ⟨0, Nat.zero_le _, rfl, rfl, HI⟩
      case round =>
        obtain ⟨j, hj, rfl, rfl, HJ⟩ := hrel
        clear HI
        by_cases hlt : j < 2
        · obtain ⟨nv, hP⟩ := HJ.out.run
          have HP := Lib.hid hP
          have HK := Lib.hid (awG_ok j)
          have HS := Lib.hid (show awG (j + 1) = (awG j).1.mxGive 0 6 [] from rfl)
          clear hP
          have hlt3 : (j : Int) < 2 := by omega
          generalize awG j = pr at *
          obtain ⟨r, d⟩ := pr
          dsimp only at *
          go_wp2_with fail
          refine (give_run B _ _ _ nv r 0 6 _ HP.out (by have := HK.out.2; omega) HK.out.1.1 HK.out.1.2 (.slice none 0 0) [] ⟨none, 0, rfl, fun _ _ i x h => by simp at h⟩ (by decide) (by decide) (by decide)).mono ?_
          rintro e w4 ⟨rfl, hO, nv4, hP⟩
          have HJ4 : Hid (AwI w B b A' c' (awG (j + 1)).1 w4) := Lib.hid (by rw [HS.out]; exact HJ.out.next hO hP)
          clear hO hP HP
          go_wp2
          go_roundw
          case rel => exact ⟨j + 1, by omega, by go_num, by rw [HS.out], HJ4⟩
          case measure => simp [intOf]; omega
        · obtain rfl : 2 = j := by omega
          rw [aw_out] at *
          obtain ⟨nv, hP⟩ := HJ.out.run
          have HO9 := Lib.hid HJ.out.only
          have HNEW := Lib.hid HJ.out.new
          rcases hP.memo with ⟨h, _⟩ | ⟨b', h, hm⟩
          · cases h
          · cases h
            have HME := Lib.hid hm
            clear hP hm HJ
            go_wp2_with fail
            refine (load_any b A' c' _ 0 _ HME.out).mono ?_
            rw [aw_word]
            rintro e w6 ⟨rfl, hO, _⟩
            have HO6 := Lib.hid (HO9.out.step hO (fun j hj e => by have := HNEW.out.2 j e; omega))
            clear hO
            go_wp2
            go_ret
            exact ⟨rfl, HO6.out⟩
end Go.Proofs.Ytaifeejciglkpaa
set_option linter.unusedVariables false
set_option linter.unusedSimpArgs false
namespace Go.Proofs.Ytaifeejciglkpaa
open Go.RowKit
structure TS where
  stt : Int
  times : Int
  line : Int
  a : Int
  s : Int
  k : WkV
def TS.run (T : TS) (k : Nat) (mode : Int) (t : Nat) (xs : List Int) : LS := ⟨k, mode, t, 0, T.line, T.a, 0, T.s, T.k, 0, acc0, [], xs⟩
def TS.put (T : TS) (r : LS) : TS := ⟨T.stt, T.times, r.line, r.a, r.s, r.k⟩
def TS.next (T : TS) (p : LS × Bool) : TS :=
  if p.2 then (if T.stt = 0 then ⟨1, T.times + 1, 0, 0, 0, wk0⟩ else if p.1.k.on then ⟨3, T.times, p.1.line, p.1.a, p.1.s, p.1.k⟩ else ⟨0, T.times, 0, 0, 0, wk0⟩)
  else if T.stt = 3 ∧ p.1.k.on = false then ⟨0, T.times, 0, 0, 0, wk0⟩ else T.put p.1
def pickS (k : Nat) (mode : Int) (S : List TS × List Int) (t : Nat) : List TS × List Int :=
  match S.1[t]? with
  | none => S
  | some T =>
    if T.stt = 1 then (S.1.set t ⟨2, T.times, 6, 0, 0, wk0⟩, S.2)
    else (S.1.set t (T.next ((T.run k mode t S.2).mxStep T.stt)), ((T.run k mode t S.2).mxStep T.stt).1.xs)
def seeI : Int → Bool
  | .ofNat n => Nat.ble 0 n
  | .negSucc n => Nat.ble 0 n
def seeT (T : TS) : Bool := seeI T.stt && seeI T.times && seeI T.line && seeI T.a && seeI T.s && (T.k.on || true) && seeI T.k.c && seeI T.k.i && (T.k.hit || true)
def seeS (t : Nat) (S : List TS × List Int) : Bool := match S.1[t]? with | none => true | some T => seeT T
def playS (k : Nat) (mode : Int) : List Nat → List TS × List Int → List TS × List Int
  | [], S => S
  | t :: l, S => if seeS t (pickS k mode S t) then playS k mode l (pickS k mode S t) else S
def firstT (k : Nat) : List TS × List Int := (List.replicate k ⟨0, 0, 0, 0, 0, wk0⟩, List.replicate (8 + 4 * k) 0)
def oneT (k turn round i : Nat) : Nat := (i * (1 + turn % 3) + round * turn + i / 2) % k
def roundT (k turn round : Nat) : List Nat := (List.range k).map (oneT k turn round) ++ List.range k
def roundsT (k turn : Nat) : Nat → Nat → List Nat
  | 0, _ => []
  | n + 1, r => roundT k turn r ++ roundsT k turn n (r + 1)
def fairB (k : Nat) (mode : Int) (turn n : Nat) : Bool := (playS k mode (roundsT k turn n 0) (firstT k)).1.all (fun T => decide (2 ≤ T.times))
end Go.Proofs.Ytaifeejciglkpaa
set_option linter.unusedVariables false
set_option linter.unusedSimpArgs false
namespace Go.Proofs.Ytaifeejciglkpaa
open Go.RowKit
def AlikeM (m m' : Int) : Prop := m = m' ∨ (m ≠ 2 ∧ m' ≠ 2)
theorem step_alike {m m' : Int} (h : AlikeM m m') (xs : List Int) (n i s c : Int) (q : Int → Bool) : stepI xs n m' i s c q = stepI xs n m i s c q := by
  rcases h with rfl | ⟨h1, h2⟩
  · rfl
  · rw [stepI_spin h1, stepI_spin h2]
theorem begin_alike {m m' : Int} (h : AlikeM m m') (c : Int) : beginI m' c = beginI m c := by
  rcases h with rfl | ⟨h1, h2⟩
  · rfl
  · unfold beginI
    first
      | rw [if_neg h1, if_neg h2]
      | rw [if_pos h1, if_pos h2]
structure Alike (r r' : LS) : Prop where
  n : r'.n = r.n
  mode : AlikeM r.mode r'.mode
  task : r'.task = r.task
  line : r'.line = r.line
  a : r'.a = r.a
  s : r'.s = r.s
  k : r'.k = r.k
  xs : r'.xs = r.xs
section
variable {r r' : LS}
theorem Alike.doA (h : Alike r r') (k c x y : Int) : Alike (r.doA k c x y) (r'.doA k c x y) := ⟨h.n, h.mode, h.task, h.line, h.a, h.s, h.k, by show doNew r'.xs k c x y = doNew r.xs k c x y; rw [h.xs]⟩
theorem Alike.go (h : Alike r r') (l : Int) : Alike (r.go l) (r'.go l) := ⟨h.n, h.mode, h.task, rfl, h.a, h.s, h.k, h.xs⟩
theorem Alike.note (h : Alike r r') (w a : Int) : Alike (r.note w a) (r'.note w a) := ⟨h.n, h.mode, h.task, h.line, h.a, h.s, h.k, h.xs⟩
theorem Alike.keepA (h : Alike r r') (v : Int) : Alike (r.keepA v) (r'.keepA v) := ⟨h.n, h.mode, h.task, h.line, rfl, h.s, h.k, h.xs⟩
theorem Alike.wake (h : Alike r r') (c : Int) : Alike (r.wake c) (r'.wake c) := ⟨h.n, h.mode, h.task, h.line, h.a, h.s, begin_alike h.mode c, h.xs⟩
theorem Alike.fresh (h : Alike r r') : Alike r.fresh r'.fresh := ⟨h.n, h.mode, h.task, h.line, h.a, h.s, h.k, h.xs⟩
theorem Alike.notes (l : List Int) : ∀ {r r' : LS}, Alike r r' → Alike (r.notes l) (r'.notes l) := by
  induction l with
  | nil => exact fun h => h
  | cons x l ih => exact fun h => ih (h.note x 0)
theorem Alike.stepR (h : Alike r r') (c : Int) (q : Int → Bool) : r'.stepR c q = r.stepR c q := by
  unfold LS.stepR
  rw [h.xs, h.n, h.task, h.s]
  exact step_alike h.mode _ _ _ _ _ _
theorem Alike.wait (h : Alike r r') (c : Int) (q : Int → Bool) : Alike (r.wait c q) (r'.wait c q) := by
  have e := h.stepR c q
  exact ⟨h.n, h.mode, h.task, h.line, h.a, by show (r'.stepR c q).next = _; rw [e]; rfl, h.k, by show (r'.stepR c q).xs = _; rw [e]; rfl⟩
theorem Alike.waking (h : Alike r r') : Alike r.waking r'.waking := by
  have e : r'.wakeR = r.wakeR := by unfold LS.wakeR; rw [h.xs, h.n, h.k]
  exact ⟨h.n, h.mode, h.task, h.line, h.a, h.s, by show r'.wakeR.next = _; rw [e]; rfl, by show r'.wakeR.xs = _; rw [e]; rfl⟩
theorem Alike.me (h : Alike r r') : r'.me = r.me := by unfold LS.me; rw [h.task]
theorem Alike.swapIn (h : Alike r r') (tail cl : Int) : Alike (r.swapIn tail cl) (r'.swapIn tail cl) := by
  unfold LS.swapIn
  rw [h.me, h.xs]
  exact ((h.doA _ _ _ _).keepA _).note _ _
theorem Alike.enter (h : Alike r r') (tail cl : Int) : Alike (r.mxEnter tail cl).1 (r'.mxEnter tail cl).1 ∧ (r'.mxEnter tail cl).2 = (r.mxEnter tail cl).2 := by
  unfold LS.mxEnter
  rw [h.line, h.n, h.task, h.xs]
  by_cases l0 : r.line = 0
  · rw [if_pos l0, if_pos l0]; exact ⟨(h.doA _ _ _ _).go _, rfl⟩
  rw [if_neg l0, if_neg l0]
  by_cases l1 : r.line = 1
  · rw [if_pos l1, if_pos l1]; exact ⟨(h.doA _ _ _ _).go _, rfl⟩
  rw [if_neg l1, if_neg l1]
  by_cases l2 : r.line = 2
  · rw [if_pos l2, if_pos l2]
    by_cases hz : wordAt r.xs tail = 0
    · rw [if_pos hz, if_pos hz]; exact ⟨h.swapIn _ _, rfl⟩
    · rw [if_neg hz, if_neg hz]; exact ⟨(h.swapIn _ _).go _, rfl⟩
  rw [if_neg l2, if_neg l2]
  by_cases l3 : r.line = 3
  · rw [if_pos l3, if_pos l3]
    refine ⟨?_, rfl⟩
    unfold LS.link
    rw [h.me, h.n, h.a]
    exact ((h.doA _ _ _ _).wake _).go _
  rw [if_neg l3, if_neg l3]
  by_cases l4 : r.line = 4
  · rw [if_pos l4, if_pos l4]
    exact ⟨h.wait _ _, by show (r'.stepR _ _).done = _; rw [h.stepR]⟩
  · rw [if_neg l4, if_neg l4]
    exact ⟨h, rfl⟩
theorem Alike.peek (h : Alike r r') : Alike r.peek r'.peek := by
  unfold LS.peek
  rw [h.n, h.task, h.xs]
  exact (h.doA _ _ _ _).keepA _
theorem Alike.seeN (h : Alike r r') : Alike r.seeN r'.seeN := by
  unfold LS.seeN
  rw [h.n, h.task, h.stepR, h.xs]
  by_cases hs : (r.stepR (nc r.n r.task) isN).seen = true
  · rw [if_pos hs, if_pos hs]; exact (h.wait _ _).keepA _
  · rw [if_neg hs, if_neg hs]; exact h.wait _ _
theorem Alike.give (h : Alike r r') (tail a : Int) (l : List Int) : Alike (r.mxGive tail a l).1 (r'.mxGive tail a l).1 ∧ (r'.mxGive tail a l).2 = (r.mxGive tail a l).2 := by
  have hc : r'.casOut tail = r.casOut tail := by unfold LS.casOut; rw [h.xs, h.me]
  unfold LS.mxGive
  rw [h.line, h.n, h.task, h.xs, hc, h.me, h.stepR]
  by_cases l0 : r.line = a
  · rw [if_pos l0, if_pos l0]
    refine ⟨?_, rfl⟩
    by_cases hz : wordAt r.xs (nc r.n r.task) = 0
    · rw [if_pos hz, if_pos hz]; exact h.peek.go _
    · rw [if_neg hz, if_neg hz]; exact h.peek.go _
  rw [if_neg l0, if_neg l0]
  by_cases l1 : r.line = a + 1
  · rw [if_pos l1, if_pos l1]
    by_cases hz : r.casOut tail = true
    · rw [if_pos hz, if_pos hz]; exact ⟨Alike.notes l (h.doA _ _ _ _), rfl⟩
    · rw [if_neg hz, if_neg hz]; exact ⟨(h.doA _ _ _ _).go _, rfl⟩
  rw [if_neg l1, if_neg l1]
  by_cases l2 : r.line = a + 2
  · rw [if_pos l2, if_pos l2]
    refine ⟨?_, rfl⟩
    by_cases hz : (r.stepR (nc r.n r.task) isN).done = true
    · rw [if_pos hz, if_pos hz]; exact h.seeN.go _
    · rw [if_neg hz, if_neg hz]; exact h.seeN
  rw [if_neg l2, if_neg l2]
  by_cases l3 : r.line = a + 3
  · rw [if_pos l3, if_pos l3]
    refine ⟨?_, rfl⟩
    unfold LS.handOn
    rw [h.n, h.a]
    exact (Alike.notes l (h.doA _ _ _ _)).wake _
  · rw [if_neg l3, if_neg l3]
    exact ⟨h, rfl⟩
theorem Alike.mxStep (h : Alike r r') (s : Int) : Alike (r.mxStep s).1 (r'.mxStep s).1 ∧ (r'.mxStep s).2 = (r.mxStep s).2 := by
  unfold LS.mxStep
  rw [h.k]
  by_cases hk : r.k.on = true
  · rw [if_pos hk, if_pos hk]; exact ⟨h.waking, rfl⟩
  rw [if_neg hk, if_neg hk]
  by_cases hs : s = 0
  · rw [if_pos hs, if_pos hs]; exact h.fresh.enter _ _
  · rw [if_neg hs, if_neg hs]; exact h.fresh.give _ _ _
end
def tsOf (g : GV) (i : Nat) : TS := ⟨g.stt i, g.times i, (g.rs i).line, (g.rs i).a, (g.rs i).s, (g.rs i).k⟩
def projG (k : Nat) (g : GV) : List TS × List Int := ((List.range k).map (tsOf g), g.xs)
theorem proj_set {k t : Nat} {g g1 : GV} (ht : t < k) (ho : ∀ i, i ≠ t → tsOf g1 i = tsOf g i) : ((List.range k).map (tsOf g)).set t (tsOf g1 t) = (List.range k).map (tsOf g1) := by
  apply List.ext_getElem?
  intro i
  rw [List.getElem?_set]
  by_cases e : t = i
  · subst e
    rw [if_pos rfl, List.length_map, List.length_range, if_pos ht, List.getElem?_map, List.getElem?_range ht]
    rfl
  · rw [if_neg e, List.getElem?_map, List.getElem?_map]
    cases hi : (List.range k)[i]? with
    | none => rfl
    | some j =>
      have hj : j = i := by
        have h1 := (List.getElem?_eq_some_iff.1 hi)
        obtain ⟨h2, h3⟩ := h1
        rw [List.getElem_range] at h3
        exact h3.symm
      subst hj
      exact congrArg some (ho j (Ne.symm e)).symm
theorem pick_proj {k t : Nat} {mode m' : Int} {g g1 : GV} (ht : t < k) (hc : (g.rs t).n = k ∧ (g.rs t).mode = mode ∧ (g.rs t).task = t) (hm : AlikeM mode m') (h : g.pick t = some g1) : pickS k m' (projG k g) t = projG k g1 := by
  have hT : (projG k g).1[t]? = some (tsOf g t) := by
    show ((List.range k).map (tsOf g))[t]? = _
    rw [List.getElem?_map, List.getElem?_range ht]
    rfl
  have hA : Alike (g.at t) ((tsOf g t).run k m' t g.xs) := ⟨hc.1.symm, by show AlikeM (g.rs t).mode m'; rw [hc.2.1]; exact hm, hc.2.2.symm, rfl, rfl, rfl, rfl, rfl⟩
  obtain ⟨hA1, hA2⟩ := hA.mxStep (g.stt t)
  unfold pickS
  rw [hT]
  dsimp only
  by_cases h1 : g.stt t = 1
  · rw [if_pos (show (tsOf g t).stt = 1 from h1)]
    rw [gp_1 h1] at h
    obtain rfl := Option.some.inj h
    have e : tsOf { g with stt := upd g.stt t 2, ins := -1, rs := upd g.rs t (zeroL (g.rs t) 6) } t = ⟨2, (tsOf g t).times, 6, 0, 0, wk0⟩ := by
      unfold tsOf
      dsimp only
      rw [upd_same, upd_same]
      rfl
    rw [← e]
    refine Prod.ext ?_ rfl
    exact proj_set ht (fun i hi => by unfold tsOf; dsimp only; rw [upd_other _ _ hi, upd_other _ _ hi])
  rw [if_neg (show ¬ (tsOf g t).stt = 1 from h1)]
  rw [show (tsOf g t).stt = g.stt t from rfl, show (projG k g).2 = g.xs from rfl]
  generalize hp' : ((tsOf g t).run k m' t g.xs).mxStep (g.stt t) = p' at *
  obtain ⟨r2, d2⟩ := p'
  cases hp : (g.at t).mxStep (g.stt t) with
  | mk r1 d =>
    rw [hp] at hA1 hA2
    dsimp only at hA1 hA2
    subst hA2
    have key : ∀ g2 : GV, g2 = g1 → g2.xs = r1.xs → (∀ i, i ≠ t → tsOf g2 i = tsOf g i) → tsOf g2 t = (tsOf g t).next (r2, d2) → (((projG k g).1.set t ((tsOf g t).next (r2, d2))), r2.xs) = projG k g1 := by
      rintro g2 rfl hx ho hT2
      rw [← hT2]
      refine Prod.ext ?_ (by show r2.xs = g2.xs; rw [hx, hA1.xs])
      exact proj_set ht ho
    have hother : ∀ (R : LS) (S : Int) (tm : Nat → Int) (od : List Int) (is : Int) (xs : List Int), (∀ i, i ≠ t → tm i = g.times i) → ∀ i, i ≠ t → tsOf ⟨upd g.rs t R, upd g.stt t S, tm, od, is, xs⟩ i = tsOf g i := fun R S tm od is xs htm i hi => by
      unfold tsOf
      dsimp only
      rw [upd_other _ _ hi, upd_other _ _ hi, htm i hi]
    have hsame : ∀ (R : LS) (S : Int) (tm : Nat → Int) (od : List Int) (is : Int) (xs : List Int), tsOf ⟨upd g.rs t R, upd g.stt t S, tm, od, is, xs⟩ t = ⟨S, tm t, R.line, R.a, R.s, R.k⟩ := fun R S tm od is xs => by
      unfold tsOf
      dsimp only
      rw [upd_same, upd_same]
    have hself : ∀ (R : LS) (od : List Int) (is : Int) (xs : List Int), (⟨upd g.rs t R, g.stt, g.times, od, is, xs⟩ : GV) = ⟨upd g.rs t R, upd g.stt t (g.stt t), g.times, od, is, xs⟩ := fun R od is xs => by rw [upd_self]
    cases d2
    · rw [gp_no h1 hp] at h
      have h := Option.some.inj h
      by_cases h3 : g.stt t = 3 ∧ r1.k.on = false
      · rw [gr_yes (by exact h3.1) (by show (upd g.rs t r1 t).k.on = false; rw [upd_same]; exact h3.2)] at h
        refine key _ h rfl (fun i hi => ?_) ?_
        · show tsOf ⟨upd (upd g.rs t r1) t (zeroL (upd g.rs t r1 t) 0), upd g.stt t 0, g.times, _, _, _⟩ i = _
          rw [upd_upd]
          exact hother _ _ _ _ _ _ (fun _ _ => rfl) i hi
        · show tsOf ⟨upd (upd g.rs t r1) t (zeroL (upd g.rs t r1 t) 0), upd g.stt t 0, g.times, _, _, _⟩ t = _
          rw [upd_upd, hsame]
          unfold TS.next
          rw [if_neg Bool.false_ne_true, if_pos ⟨h3.1, by rw [show (r2, false).1.k = r2.k from rfl, hA1.k]; exact h3.2⟩]
          rfl
      · rw [gr_no (by
          by_cases h4 : g.stt t = 3
          · right
            show (upd g.rs t r1 t).k.on = true
            rw [upd_same]
            cases hk : r1.k.on
            · exact absurd ⟨h4, hk⟩ h3
            · rfl
          · exact .inl h4)] at h
        refine key _ h rfl (fun i hi => ?_) ?_
        · rw [hself]
          exact hother _ _ _ _ _ _ (fun _ _ => rfl) i hi
        · rw [hself, hsame]
          unfold TS.next
          rw [if_neg Bool.false_ne_true, if_neg (fun e => h3 ⟨e.1, by rw [← hA1.k]; exact e.2⟩)]
          unfold TS.put
          rw [show (r2, false).1 = r2 from rfl, hA1.line, hA1.a, hA1.s, hA1.k]
          rfl
    · by_cases h0 : g.stt t = 0
      · obtain ⟨os, _, _, e⟩ := gp_in h0 hp h
        refine key _ e.symm rfl (fun i hi => ?_) ?_
        · rw [upd_upd]
          exact hother _ _ _ _ _ _ (fun j hj => upd_other _ _ hj) i hi
        · rw [upd_upd, hsame, upd_same]
          unfold TS.next
          rw [if_pos rfl, if_pos (show (tsOf g t).stt = 0 from h0)]
          rfl
      · rw [gp_out h1 h0 hp] at h
        have h := Option.some.inj h
        cases hk : r1.k.on
        · rw [gr_yes (by exact upd_same _ _ _) (by show (upd g.rs t r1 t).k.on = false; rw [upd_same]; exact hk)] at h
          refine key _ h rfl (fun i hi => ?_) ?_
          · show tsOf ⟨upd (upd g.rs t r1) t (zeroL (upd g.rs t r1 t) 0), upd (upd g.stt t 3) t 0, g.times, _, _, _⟩ i = _
            rw [upd_upd, upd_upd]
            exact hother _ _ _ _ _ _ (fun _ _ => rfl) i hi
          · show tsOf ⟨upd (upd g.rs t r1) t (zeroL (upd g.rs t r1 t) 0), upd (upd g.stt t 3) t 0, g.times, _, _, _⟩ t = _
            rw [upd_upd, upd_upd, hsame]
            unfold TS.next
            rw [if_pos rfl, if_neg (show ¬ (tsOf g t).stt = 0 from h0), show (r2, true).1.k = r2.k from rfl, hA1.k, hk, if_neg Bool.false_ne_true]
            rfl
        · rw [gr_no (.inr (by show (upd g.rs t r1 t).k.on = true; rw [upd_same]; exact hk))] at h
          refine key _ h rfl (fun i hi => hother _ _ _ _ _ _ (fun _ _ => rfl) i hi) ?_
          rw [hsame]
          unfold TS.next
          rw [if_pos rfl, if_neg (show ¬ (tsOf g t).stt = 0 from h0), show (r2, true).1.k = r2.k from rfl, show (r2, true).1 = r2 from rfl, hA1.line, hA1.a, hA1.s, hA1.k, hk, if_pos rfl]
          rfl
end Go.Proofs.Ytaifeejciglkpaa
