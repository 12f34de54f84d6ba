import Derived.Test.YtaifeejciglkpaaMF19
import Derived.Test.YtaifeejciglkpaaMF20
import Derived.Test.YtaifeejciglkpaaMF5
set_option linter.unusedVariables false
set_option linter.unusedSimpArgs false
namespace Go.Proofs.Ytaifeejciglkpaa
open Go.RowKit
structure Going (w0 : World) (GL GS ST TS : Nat) (B : Nat → Nat) (p A : Option Addr) (cp k : Nat) (mode : Int) (ts : List Nat) (g0 : GV) (i : Nat) (AO : Option Addr) (cO : Nat) (g : GV) (W : World) : Prop where
  game : GameP w0 GL GS ST TS B p A cp k AO cO g W
  play : playG (ts.take i) g0 = some g
  ok : MuOK k mode g
  len : g.order.length ≤ i
  tms : ∀ j, 0 ≤ g.times j ∧ g.times j ≤ i
theorem GameP.setIns {w0 W : World} {GL GS ST TS : Nat} {B : Nat → Nat} {p A : Option Addr} {cp k : Nat} {AO : Option Addr} {cO : Nat} {g : GV} (h : GameP w0 GL GS ST TS B p A cp k AO cO g W) (v : Int) : GameP w0 GL GS ST TS B p A cp k AO cO { g with ins := v } W := ⟨h.l, h.s, h.st, h.tm, h.od, h.run, h.inj, h.memo, h.words, h.ab, h.only, h.new, h.ne, h.neO⟩
section
variable {w0 W W' : World} {GL GS ST TS : Nat} {B : Nat → Nat} {p A : Option Addr} {cp k : Nat} {mode : Int} {ts : List Nat} {g0 g g1 : GV} {i t : Nat} {AO AO' : Option Addr} {cO cO' : Nat}
theorem Going.next (h : Going w0 GL GS ST TS B p A cp k mode ts g0 i AO cO g W) (hi : ts[i]? = some t) (hp : g.pick t = some g1) (hok : MuOK k mode g1) (hg : GameP w0 GL GS ST TS B p A cp k AO' cO' g1 W') : Going w0 GL GS ST TS B p A cp k mode ts g0 (i + 1) AO' cO' g1 W' :=
  ⟨hg, play_next h.play hi hp, hok, by have := gp_len hp; have := h.len; omega, fun j => by have := gp_times hp j; have := h.tms j; push_cast; omega⟩
end
theorem ownN_parts {w : World} {v : Value} {zs : List Nt} (h : OwnN 0 w v zs) : ∃ Z c, v = .slice Z zs.length c ∧ ∀ (j : Nat) (n : Nt), zs[j]? = some n → ∃ q, Z = some ⟨q, 0, none⟩ ∧ w.cell? ⟨q, j * 4 + 1, none⟩ = some (.int .i64 n.w) := by
  rcases h.2 with ⟨rfl, hn⟩ | ⟨q, cap, cur, rfl, _⟩
  · obtain rfl := List.eq_nil_of_length_eq_zero hn
    exact ⟨none, 0, rfl, fun j n h => by simp at h⟩
  · refine ⟨_, _, rfl, fun j n hj => ⟨q, rfl, ?_⟩⟩
    have e := World.ownsRow.cells h (g := q) rfl (j * 4 + 1) (.int .i64 n.w) (by rw [flat_get zs j n 1 hj (by decide)]; rfl)
    rwa [add_at, Nat.zero_add] at e
def picksT (k : Nat) (l : List Int) : List Nat := l.map (fun x => (x % (k : Int)).toNat)
theorem zero_words (n : Nat) : Words (List.replicate n 0) := fun x hx => by rw [List.eq_of_mem_replicate hx]; decide
structure TasksI (w0 : World) (b : Nat) (A : Option Addr) (cp k : Nat) (mode : Int) (xs : List Int) (j : Nat) (lv : Value) (bs : List Nat) (W : World) : Prop where
  own : OwnP w0.heap.size W lv bs
  len : bs.length = j
  runs : ∀ (i : Nat) (b' : Nat), bs[i]? = some b' → Row W b' 43 (newCells (some ⟨b, 0, none⟩) k mode i 0) ∧ w0.heap.size ≤ b'
  inj : ∀ (i i' b' : Nat), bs[i]? = some b' → bs[i']? = some b' → i = i'
  made : Made w0 b A cp xs W
section
variable {w0 W W5 : World} {b : Nat} {A : Option Addr} {cp k : Nat} {mode : Int} {xs : List Int} {j : Nat} {lv lv' : Value} {bs : List Nat}
theorem TasksI.next (h : TasksI w0 b A cp k mode xs j lv bs W) (hown : OwnP w0.heap.size W5 lv' (bs ++ [W.heap.size]))
    (ho : Only (fun q => lv.ownBlock = some q) ((W.alloc (.cells (newCells (some ⟨b, 0, none⟩) k mode j 0) 43)).alloc (.cells #[.pointer (some ⟨W.heap.size, 0, none⟩)] 36)) W5) : TasksI w0 b A cp k mode xs (j + 1) lv' (bs ++ [W.heap.size]) W5 := by
  have e1 := (Only.refl Nil W).alloc (.cells (newCells (some ⟨b, 0, none⟩) k mode j 0) 43)
  have e2 := e1.alloc (.cells #[.pointer (some ⟨W.heap.size, 0, none⟩)] 36)
  have far : ∀ (g : Nat) (t : TypeId) (cs : Array Value), Row W g t cs → t ≠ 36 → Row W5 g t cs := fun g t cs hr ht => (hr.only e2 id).only ho (fun e => by
    obtain ⟨cur, hc⟩ := ownP_tag h.own e
    exact row_ne hr hc ht rfl)
  have hn : Row W5 W.heap.size 43 (newCells (some ⟨b, 0, none⟩) k mode j 0) := ((Row.new W _ _).alloc _).only ho (fun e => by
    have := (World.ownsRow.lt h.own _ e).2
    omega)
  refine ⟨hown, by rw [List.length_append, h.len]; rfl, fun i b' hb' => ?_, fun i i' b' h1 h2 => ?_, ⟨(h.made.mem.only e2 id (fun _ _ => id)).only ho (fun e => by
      obtain ⟨cur, hc⟩ := ownP_tag h.own e
      exact row_ne h.made.mem.hdr hc (by decide) rfl) (fun i hi e => by
      obtain ⟨cur, hc⟩ := ownP_tag h.own e
      exact memo_not (Memo.of h.made.mem) hc (by decide) (by decide) (.inr hi)), h.made.new, (h.made.only.trans e2).step ho (fun i hi e => by
      have := (World.ownsRow.lt h.own _ e).1
      omega)⟩⟩
  · by_cases hi : i < bs.length
    · rw [List.getElem?_append_left hi] at hb'
      obtain ⟨hr, hb0⟩ := h.runs i b' hb'
      exact ⟨far _ _ _ hr (by decide), hb0⟩
    · rw [List.getElem?_append_right (by omega)] at hb'
      have hij : i = bs.length := by
        by_cases e : i = bs.length
        · exact e
        · rw [List.getElem?_eq_none (by simp; omega)] at hb'
          cases hb'
      subst hij
      rw [Nat.sub_self] at hb'
      cases hb'
      rw [h.len]
      exact ⟨hn, h.made.only.size⟩
  · have last : ∀ i : Nat, (bs ++ [W.heap.size])[i]? = some b' → ¬ i < bs.length → i = bs.length ∧ b' = W.heap.size := fun i h1 hi => by
      rw [List.getElem?_append_right (by omega)] at h1
      have hij : i = bs.length := by
        by_cases e : i = bs.length
        · exact e
        · rw [List.getElem?_eq_none (by simp; omega)] at h1
          cases h1
      subst hij
      rw [Nat.sub_self] at h1
      cases h1
      exact ⟨rfl, rfl⟩
    by_cases hi : i < bs.length
    · by_cases hi' : i' < bs.length
      · rw [List.getElem?_append_left hi] at h1
        rw [List.getElem?_append_left hi'] at h2
        exact h.inj i i' b' h1 h2
      · obtain ⟨_, rfl⟩ := last i' h2 hi'
        rw [List.getElem?_append_left hi] at h1
        have := (h.runs i _ h1).1.lt
        omega
    · obtain ⟨rfl, rfl⟩ := last i h1 hi
      by_cases hi' : i' < bs.length
      · rw [List.getElem?_append_left hi'] at h2
        have := (h.runs i' _ h2).1.lt
        omega
      · exact (last i' h2 hi').1.symm
theorem TasksI.game {GS : Nat} {W' : World} (h : TasksI w0 b A cp k mode xs k lv bs W) (hk : 1 ≤ k) (hx : Words xs)
    (hW : W' = ((W.alloc (.cells (madeCells #[.int .i64 0] k) 3)).alloc (.cells #[.slice (some ⟨W.heap.size, 0, none⟩) k k] 30)).alloc (.cells (madeCells #[.int .i64 0] k) 3)) :
    ∃ GL cl, lv = .slice (some ⟨GL, 0, none⟩) k cl ∧ GameP w0 GL (W.heap.size + 1) W.heap.size (W.heap.size + 1 + 1) (fun i => bs.getD i 0) (some ⟨b, 0, none⟩) A cp k none 0 (firstG k mode xs) W' := by
  subst hW
  have e1 := (Only.refl Nil W).alloc (.cells (madeCells #[.int .i64 0] k) 3)
  have e2 := e1.alloc (.cells #[.slice (some ⟨W.heap.size, 0, none⟩) k k] 30)
  have e3 := e2.alloc (.cells (madeCells #[.int .i64 0] k) 3)
  rcases h.own.2 with ⟨_, hn⟩ | ⟨g, cap, cur, rfl, hb, hg, hc, hm, hsz, ht⟩
  · have := h.len; omega
  have hcur : ∀ i, i < k → cur[i]? = some (.pointer (some ⟨bs.getD i 0, 0, none⟩)) := fun i hi => by
    have e1 : (cur.toList.take (bs.length * 1))[i]? = (bs.map fun b => Value.pointer (some ⟨b, 0, none⟩))[i]? := by rw [ht]
    have hib : i < bs.length := by rw [h.len]; exact hi
    rw [List.getElem?_take, if_pos (by omega), List.getElem?_map, List.getElem?_eq_getElem hib] at e1
    simp only [Option.map_some, Array.getElem?_toList] at e1
    rw [e1]
    simp [List.getD, List.getElem?_eq_getElem hib]
  have hget : ∀ i, i < k → bs[i]? = some (bs.getD i 0) := fun i hi => by
    have hib : i < bs.length := by rw [h.len]; exact hi
    simp [List.getD, List.getElem?_eq_getElem hib]
  have hg' : Row W g 36 cur := hg
  have hm' := (Memo.of h.made.mem).keep e3
  refine ⟨g, cap, by rw [h.len], ⟨⟨cur, hg'.only e3 id, hcur⟩, (Row.at (by simp)).alloc _, ⟨_, ((Row.new W _ _).alloc _).alloc _, fun i hi => made_zero k i hi⟩, ⟨_, Row.at (by simp), fun i hi => made_zero k i hi⟩, ordL_nil _ _, fun i hi => ⟨.slice none 0 0, ((h.runs i _ (hget i hi)).1).only e3 id, hm'⟩, fun i i' hi hi' e => ?_, hm', hx, fun i hi => ⟨Int.le_refl _, by show (0 : Int) < _; decide⟩, h.made.only.trans e3, ?_, by omega, fun j ⟨a, ha, _⟩ => by cases ha⟩⟩
  · have h1 := hget i hi
    have h2 := hget i' hi'
    rw [← e] at h2
    exact h.inj i i' _ h1 h2
  · have hs := h.made.only.size
    rintro q (rfl | rfl | hq | ⟨i, hi, rfl⟩)
    · exact hs
    · omega
    · exact h.made.new q hq
    · exact (h.runs i _ (hget i hi)).2
end
structure Noted (w0 : World) (GL GS ST TS : Nat) (B : Nat → Nat) (p A : Option Addr) (cp k : Nat) (AO : Option Addr) (cO : Nat) (g : GV) (t gk gg bt : Nat) (r' : LS) (d : Bool) (nv : Value) (j : Nat) (W : World) : Prop where
  game : GameP w0 GL GS ST TS B p A cp k AO cO ⟨upd g.rs t r', g.stt, g.times, g.order ++ regsT (r'.ns.take j) t, g.ins, r'.xs⟩ W
  rk : Row W gk 3 #[.int .i64 t]
  rg : Row W gg 4 #[.bool d]
  ek : Else w0 GL GS ST TS B p A k AO gk
  run : RunP W bt p A cp nv r'
section
variable {w0 W W' : World} {GL GS ST TS : Nat} {B : Nat → Nat} {p A : Option Addr} {cp k : Nat} {AO AO' : Option Addr} {cO cO' : Nat} {g : GV} {t gk gg bt j : Nat} {r' : LS} {d : Bool} {nv : Value} {n : Nt}
theorem Noted.more (h : Noted w0 GL GS ST TS B p A cp k AO cO g t gk gg bt r' d nv j W) (hn : r'.ns[j]? = some n) (hw : n.w = 2) (hd : OrdL w0.heap.size W' AO' cO' ((g.order ++ regsT (r'.ns.take j) t) ++ [(t : Int)])) (ho : Only (At AO) (W.alloc (.cells #[.int .i64 t] 3)) W') (hA : ∀ j, At AO' j → At AO j ∨ (W.alloc (.cells #[.int .i64 t] 3)).heap.size ≤ j) :
    Noted w0 GL GS ST TS B p A cp k AO' cO' g t gk gg bt r' d nv (j + 1) W' := by
  have e1 := (Only.refl Nil W).alloc (.cells #[.int .i64 t] 3)
  have hg := (h.game.keep e1).ordered ho hd hA
  have far : ∀ {q : Nat} {ty : TypeId} {cs : Array Value}, Row W q ty cs → ty ≠ 3 → ¬ At AO q := fun hr ht e => by
    obtain ⟨_, cur, hc⟩ := h.game.od.tag e
    exact row_ne hr hc ht rfl
  have hr := (h.run.keep e1).apart ho (far h.run.row (by decide)) (fun q hq e => by
    obtain ⟨_, cur, hc⟩ := h.game.od.tag e
    exact memo_not h.run.memo hc (by decide) (by decide) hq) (fun q hq e => by
    obtain ⟨_, cur, hc⟩ := h.game.od.tag e
    exact ownN_not h.run.notes hc (by decide) hq)
  refine ⟨?_, (h.rk.alloc _).only ho h.ek.o, (h.rg.alloc _).only ho (far h.rg (by decide)), ⟨h.ek.gl, h.ek.gs, h.ek.st, h.ek.ts, h.ek.b, h.ek.a, fun e => ?_, h.ek.new⟩, hr⟩
  · rw [regs_next hn, if_pos hw, ← List.append_assoc]
    exact hg
  · rcases hA gk e with e | e
    · exact h.ek.o e
    · have h1 := h.rk.lt
      have h2 := e1.size
      omega
theorem Noted.skip (h : Noted w0 GL GS ST TS B p A cp k AO cO g t gk gg bt r' d nv j W) (hn : r'.ns[j]? = some n) (hw : n.w ≠ 2) : Noted w0 GL GS ST TS B p A cp k AO cO g t gk gg bt r' d nv (j + 1) W :=
  ⟨by rw [regs_next hn, if_neg hw, List.append_nil]; exact h.game, h.rk, h.rg, h.ek, h.run⟩
end
-- the task begins anew
-- nothing more is done
-- nobody is in, and the queue's first one is the task
def GameEnd (k : Nat) (mode : Int) (l : List Int) (w : World) (e : Ending) (w' : World) : Prop := ∃ TS g, e = .returned (.tuple #[.slice (some ⟨TS, 0, none⟩) k k, .bool true]) ∧ playG (picksT k l) (firstG k mode (List.replicate (8 + 4 * k) 0)) = some g ∧ Only Nil w w' ∧ ∀ i, i < k → w'.cell? ⟨TS, i, none⟩ = some (.int .i64 (g.times i))
set_option maxRecDepth 100000 in
set_option maxHeartbeats 4000000 in
theorem game_any (k : Nat) (mode : Int) (PA : Option Addr) (pc : Nat) (l : List Int) (m : Nat) (w : World) (hk : 1 ≤ k ∧ k ≤ 64) (hm : l.length = m) (hm9 : m ≤ 65536) (hl : ∀ x ∈ l, 0 ≤ x ∧ x < 256)
    (hp : ∀ i x, l[i]? = some x → ∃ b o, PA = some ⟨b, o, none⟩ ∧ w.cell? ⟨b, o + i, none⟩ = some (.int .u8 x)) :
    Calls Try.prog 18 #[.int .i64 k, .int .i64 mode, .slice PA m pc] w (GameEnd k mode l w) := by
  have hsz : sizeI k = ((8 + 4 * k : Nat) : Int) := by unfold sizeI; rw [if_pos (by omega)]; push_cast; omega
  have HK := Lib.hid hk
  have HM := Lib.hid hm
  have HL := Lib.hid hl
  have HPK := Lib.hid hp
  have HMB := Lib.hid hm9
  have hk1 : (1 : Int) ≤ k := by omega
  have hk2 : (k : Int) ≤ 64 := by omega
  have hk3 : k ≤ 64 := by omega
  clear hk hm hl hp
  have hmk := fun W => run_make_row' (P := Try.prog) 30 3 (.int .i64 0) 8 Try.underlying30 infoO rfl .i64 .i64 k (by omega) (by omega) W
  go_enter Try.func18, Try.ntmps18
  go_wp2_with fail
  refine (first4 k (8 + 4 * k) _ (by omega) hsz).mono ?_
  rintro e w1 ⟨gf, rfl, hg, hH, hO, _⟩
  have HH := Lib.hid hH
  have HO := Lib.hid hO
  clear hg hH hO hsz
  go_wp2_with fail
  refine (from_ok _ _ _ _ _ (by omega) HH.out).mono ?_
  rintro e w2 ⟨b, A', c', rfl, hb, hA, hM, hO⟩
  have HM2 : Hid (Made w b A' c' (List.replicate (8 + 4 * k) 0) w2) := Lib.hid ⟨hM, fun j hj => Nat.le_trans HO.out.size (hA j hj), HO.out.trans hO⟩
  clear hb hA hM hO HO HH
  go_wp2_with fail
  have HI0 : Hid (TasksI w b A' c' k mode (List.replicate (8 + 4 * k) 0) 0 (.slice none 0 0) [] w2) := Lib.hid ⟨ownP_nil _ _, rfl, fun i b' h => by simp at h, fun i i' b' h => by simp at h, HM2.out⟩
  clear HM2
  go_loopw [12, 13] (fun lv iv wr => ∃ (j : Nat) (bs : List Nat), j ≤ k ∧ iv = .int .i64 j ∧ Hid (TasksI w b A' c' k mode (List.replicate (8 + 4 * k) 0) j lv bs wr)) (fun _ iv _ => k - (intOf iv).toNat)
  case atStart => exact ⟨0, [], Nat.zero_le _, rfl, HI0⟩
  case round =>
    obtain ⟨j, bs, hj, rfl, HI⟩ := hrel
    clear HI0
    by_cases hlt : j < k
    · obtain ⟨A9, n9, c9, hlv⟩ := ownP_form HI.out.own
      subst hlv
      have e1 := (Only.refl Nil wr).alloc (.cells (newCells (some ⟨b, 0, none⟩) k mode j 0) 43)
      have e2 := e1.alloc (.cells #[.pointer (some ⟨wr.heap.size, 0, none⟩)] 36)
      have HOW := Lib.hid (own_only HI.out.own e2 (fun _ _ => id))
      have HPN := Lib.hid (Row.new2 wr (.cells (newCells (some ⟨b, 0, none⟩) k mode j 0) 43) 36 #[.pointer (some ⟨wr.heap.size, 0, none⟩)])
      have HBASE := Lib.hid (Nat.le_trans HI.out.made.only.size e2.size)
      clear e1 e2
      unfold newCells at HOW HPN HBASE
      go_wp2_with (at_builtin; refine wp_appP rfl (.tmp 44) (.tmp 52) rfl w.heap.size _ bs (by rfl) HOW.out (wr.heap.size + 1) wr.heap.size (by rfl) HPN.out (by have := HI.out.len; omega) HBASE.out ?_)
      intro v' w5 hown5 hO5
      have HI5 := Lib.hid (HI.out.next hown5 hO5)
      clear hown5 hO5 HI HOW HPN HBASE
      go_wp2
      go_roundw
      case rel => exact ⟨j + 1, _, by omega, by go_num, HI5⟩
      case measure => simp [intOf]; omega
    · obtain rfl : k = j := by omega
      obtain ⟨A9, n9, c9, hlv⟩ := ownP_form HI.out.own
      subst hlv
      obtain ⟨GL, cl, hlv, hg⟩ := HI.out.game (GS := 0) HK.out.1 (zero_words _) rfl
      injection hlv with h1 h2 h3
      have h1 := h1.symm
      have h2 := h2.symm
      have h3 := h3.symm
      subst h1 h2 h3
      have HG0 : Hid (Going w GL (wr.heap.size + 1) wr.heap.size (wr.heap.size + 1 + 1) (fun i => bs.getD i 0) (some ⟨b, 0, none⟩) A' c' k mode (picksT k l) (firstG k mode (List.replicate (8 + 4 * k) 0)) 0 none 0 (firstG k mode (List.replicate (8 + 4 * k) 0)) _) := Lib.hid ⟨hg, rfl, ⟨_, _, _, mu_first mode (by simp) (fun x hx => List.eq_of_mem_replicate hx)⟩, Nat.zero_le _, fun j => ⟨Int.le_refl _, Int.le_refl _⟩⟩
      clear hg HI hj hlt
      go_upto_region 15 with (fail)
      clear hmk
      generalize ((wr.alloc (.cells (madeCells #[.int .i64 0] k) 3)).alloc (.cells #[.slice (some ⟨wr.heap.size, 0, none⟩) k k] 30)).alloc (.cells (madeCells #[.int .i64 0] k) 3) = w3 at *
      generalize wr.heap.size + 1 + 1 = TS at *
      generalize wr.heap.size + 1 = GS at *
      generalize wr.heap.size = ST at *
      generalize (fun i => bs.getD i 0) = B at *
      generalize hfg : firstG k mode (List.replicate (8 + 4 * k) 0) = g0 at *
      have HFG := Lib.hid hfg
      clear hfg
      generalize (some ⟨b, 0, none⟩ : Option Addr) = p at *
      go_loopw [16, 17, 18] (fun ov nv iv wr => ∃ (i : Nat) (g : GV) (AO : Option Addr) (cO : Nat) (nO : Nat), i ≤ m ∧ iv = .int .i64 i ∧ nv = .int .i64 g.ins ∧ ov = .slice AO nO cO ∧ Hid (g.order.length = nO ∧ Going w GL GS ST TS B p A' c' k mode (picksT k l) g0 i AO cO g wr)) (fun _ _ iv _ => m - (intOf iv).toNat)
      case atStart => exact ⟨0, g0, none, 0, 0, Nat.zero_le _, rfl, by rw [← HFG.out]; rfl, rfl, Lib.hid ⟨by rw [← HFG.out]; rfl, HG0.out⟩⟩
      case round =>
        obtain ⟨i, g, AO, cO, nO, hi, rfl, rfl, rfl, HG⟩ := hrel
        clear HG0
        by_cases hlt : i < m
        · obtain ⟨x, hx⟩ : ∃ x, l[i]? = some x := ⟨_, List.getElem?_eq_getElem (by rw [HM.out]; exact hlt)⟩
          obtain ⟨hx0, hx1⟩ := HL.out x (List.mem_of_getElem? hx)
          obtain ⟨pb, po, rfl, hpc⟩ := HPK.out i x hx
          have cp := cell_keep hpc HG.out.2.game.only
          obtain ⟨t, hxt⟩ : ∃ t : Nat, x % (k : Int) = t := ⟨(x % (k : Int)).toNat, by have := Int.emod_nonneg x (show (k : Int) ≠ 0 by omega); omega⟩
          have htk : t < k := by have := Int.emod_lt_of_pos x (show (0 : Int) < k by omega); omega
          have HTS : Hid ((picksT k l)[i]? = some t) := Lib.hid (by unfold picksT; rw [List.getElem?_map, hx]; show some (x % (k : Int)).toNat = _; rw [hxt]; rfl)
          have hk0 : ¬ (k : Int) = 0 := by omega
          have hmod : x.tmod k = t := by rw [Int.tmod_eq_emod_of_nonneg hx0]; exact hxt
          clear hx hpc
          go_upto_region 18 with (fail)
          clear cp hk0 hmod
          have HRK := Lib.hid (Row.new wr 3 #[.int .i64 t])
          have HEK := Lib.hid (HG.out.2.game.fresh (j := wr.heap.size) (Nat.le_refl _))
          have HGM := Lib.hid (HG.out.2.game.keep ((Only.refl Nil wr).alloc (.cells #[.int .i64 t] 3)))
          generalize wr.alloc (.cells #[.int .i64 t] 3) = w4 at *
          generalize wr.heap.size = gk at *
          obtain ⟨bt, hbt⟩ : ∃ bt, B t = bt := ⟨_, rfl⟩
          have HBT := Lib.hid hbt
          clear hbt
          obtain ⟨g1, hg1, hok1⟩ := mu_next HK.out.2 HG.out.2.ok htk
          have HN := Lib.hid (fun (AO' : Option Addr) (cO' : Nat) (W' : World) (h : GameP w GL GS ST TS B p A' c' k AO' cO' g1 W') => HG.out.2.next HTS.out hg1 hok1 h)
          have HP1 := Lib.hid hg1
          clear hg1 hok1
          obtain ⟨csl, hl0, hl1⟩ := HGM.out.l
          obtain ⟨css, hs0, hs1⟩ := HGM.out.st
          have gs : w4.cell? ⟨GS, 0, none⟩ = some (.slice (some ⟨ST, 0, none⟩) k k) := HGM.out.s.cell_ (i := 0) rfl
          have gl : w4.cell? ⟨GL, t, none⟩ = some (.pointer (some ⟨bt, 0, none⟩)) := by have e := hl0.cell_ (hl1 t htk); rw [HBT.out] at e; exact e
          have gst : w4.cell? ⟨ST, t, none⟩ = some (.int .i64 (g.stt t)) := hs0.cell_ ((hs1 t htk).trans (by rfl))
          have fst : w4.frozen? ⟨ST, t, none⟩ = false := hs0.frozen t
          clear hl0 hl1 hs0 hs1
          have ck : w4.cell? ⟨gk, 0, none⟩ = some (.int .i64 t) := HRK.out.cell_ (i := 0) rfl
          by_cases h1 : g.stt t = 1
          · rw [h1] at gst
            have hE := gp_1 h1
            rw [HP1.out] at hE
            have HE := Lib.hid (Option.some.inj hE)
            clear h1 hE
            go_upto_region 22 with (fail)
            have HGM5 := Lib.hid (HGM.out.stated htk 2)
            clear gs gst fst gl ck HGM HRK HEK
            generalize w4.setCell ⟨ST, t, none⟩ (.int .i64 2) = w5 at *
            have HF := Lib.hid ((HGM5.out.framed htk 6).setIns (-1))
            rw [HBT.out] at HF
            obtain ⟨nvF, hqF⟩ := HGM5.out.run t htk
            rw [HBT.out] at hqF
            have HQF := Lib.hid hqF
            clear hqF
            generalize GV.at _ t = rr at HQF
            have a4 : w5.cell? ⟨bt, 4, none⟩ = some (.int .i64 rr.op) := HQF.out.row.cell_ (i := 4) rfl
            have a5 : w5.cell? ⟨bt, 5, none⟩ = some (.int .i64 rr.line) := HQF.out.row.cell_ (i := 5) rfl
            have a6 : w5.cell? ⟨bt, 6, none⟩ = some (.int .u32 rr.a) := HQF.out.row.cell_ (i := 6) rfl
            have a7 : w5.cell? ⟨bt, 7, none⟩ = some (.int .u32 rr.b) := HQF.out.row.cell_ (i := 7) rfl
            have a8 : w5.cell? ⟨bt, 8, none⟩ = some (.int .i64 rr.s) := HQF.out.row.cell_ (i := 8) rfl
            have a9 : w5.cell? ⟨bt, 9, none⟩ = some (.bool rr.k.on) := HQF.out.row.cell_ (i := 9) rfl
            have a10 : w5.cell? ⟨bt, 10, none⟩ = some (.int .i64 rr.k.c) := HQF.out.row.cell_ (i := 10) rfl
            have a11 : w5.cell? ⟨bt, 11, none⟩ = some (.int .i64 rr.k.i) := HQF.out.row.cell_ (i := 11) rfl
            have a12 : w5.cell? ⟨bt, 12, none⟩ = some (.bool rr.k.hit) := HQF.out.row.cell_ (i := 12) rfl
            have a13 : w5.cell? ⟨bt, 13, none⟩ = some (.int .i64 rr.ret) := HQF.out.row.cell_ (i := 13) rfl
            have f4 : w5.frozen? ⟨bt, 4, none⟩ = false := HQF.out.row.frozen 4
            have f5 : w5.frozen? ⟨bt, 5, none⟩ = false := HQF.out.row.frozen 5
            have f6 : w5.frozen? ⟨bt, 6, none⟩ = false := HQF.out.row.frozen 6
            have f7 : w5.frozen? ⟨bt, 7, none⟩ = false := HQF.out.row.frozen 7
            have f8 : w5.frozen? ⟨bt, 8, none⟩ = false := HQF.out.row.frozen 8
            have f9 : w5.frozen? ⟨bt, 9, none⟩ = false := HQF.out.row.frozen 9
            have f10 : w5.frozen? ⟨bt, 10, none⟩ = false := HQF.out.row.frozen 10
            have f11 : w5.frozen? ⟨bt, 11, none⟩ = false := HQF.out.row.frozen 11
            have f12 : w5.frozen? ⟨bt, 12, none⟩ = false := HQF.out.row.frozen 12
            have f13 : w5.frozen? ⟨bt, 13, none⟩ = false := HQF.out.row.frozen 13
            go_wp2
            clear a4 a5 a6 a7 a8 a9 a10 a11 a12 a13 f4 f5 f6 f7 f8 f9 f10 f11 f12 f13
            go_roundw
            case rel => exact ⟨i + 1, g1, AO, cO, nO, by omega, by go_num, by rw [HE.out], rfl, Lib.hid ⟨by rw [HE.out]; exact HG.out.1, HN.out AO cO _ (by rw [HE.out]; exact HF.out)⟩⟩
            case measure => simp [intOf]; omega
          · have h1' : (g.stt t == 1) = false := beq_eq_false_iff_ne.2 h1
            have H1 := Lib.hid h1
            clear h1
            have HS0 := HGM.out
            go_upto_region 24 with (fail)
            clear gs gst fst gl ck HS0
            have HGM5 := Lib.hid (HGM.out.keep ((Only.refl Nil w4).alloc (.cells #[.bool false] 4)))
            have HRK5 := Lib.hid (HRK.out.alloc (.cells #[.bool false] 4))
            have HRG := Lib.hid (Row.new w4 4 #[.bool false])
            have HEG := Lib.hid (HGM.out.fresh (j := w4.heap.size) (Nat.le_refl _))
            clear HGM HRK h1'
            generalize w4.alloc (.cells #[.bool false] 4) = w5 at *
            generalize w4.heap.size = gg at *
            have HST := Lib.hid (game_step w GL GS ST TS B p A' c' k AO cO g t gk gg w5 HGM5.out htk HK.out.2 HRK5.out HRG.out HEK.out HEG.out)
            rw [HBT.out] at HST
            have HNL := Lib.hid (notes_mxStep (g.at t) (g.stt t))
            generalize hpr : (g.at t).mxStep (g.stt t) = pr at *
            obtain ⟨r', d⟩ := pr
            have HPR := Lib.hid hpr
            clear hpr HGM5 HRK5 HRG HEK
            go_wp2_with fail
            refine HST.out.mono ?_
            rintro e w6 ⟨⟨o, rfl⟩, hg6, hk6, hd6, he6, nv6, hP6⟩
            rw [HBT.out] at hP6
            have H6 : Hid (Noted w GL GS ST TS B p A' c' k AO cO g t gk gg bt r' d nv6 0 w6) := Lib.hid ⟨by rw [List.take_zero]; show GameP w GL GS ST TS B p A' c' k AO cO ⟨upd g.rs t r', g.stt, g.times, g.order ++ regsT [] t, g.ins, r'.xs⟩ w6; rw [show g.order ++ regsT [] t = g.order from List.append_nil _]; exact hg6, hk6, hd6, he6, hP6⟩
            have HNO := Lib.hid HG.out.1
            have HNB := Lib.hid (show g.order.length ≤ 65536 by have := HG.out.2.len; omega)
            have HTB := Lib.hid (show 0 ≤ g.times t ∧ g.times t ≤ 65536 by have := HG.out.2.tms t; omega)
            clear hg6 hk6 hd6 he6 hP6 HST HG HEG
            (try dsimp only at HNL)
            obtain ⟨Z, cZ, hnv, hZ⟩ := ownN_parts H6.out.run.notes
            subst hnv
            have HZ := Lib.hid hZ
            clear hZ
            obtain ⟨n1, hn1⟩ : ∃ n1, r'.ns.length = n1 := ⟨_, rfl⟩
            have HN1 := Lib.hid hn1
            have hn1b : n1 ≤ 1 := by have := HNL.out; omega
            rw [hn1] at H6
            clear hn1 HNL
            go_upto_region 26 with (fail)
            go_loopw [16, 22] (fun ov jv wq => ∃ (j : Nat) (AO2 : Option Addr) (cO2 nO2 : Nat), j ≤ n1 ∧ jv = .int .i64 j ∧ ov = .slice AO2 nO2 cO2 ∧ Hid ((g.order ++ regsT (r'.ns.take j) t).length = nO2 ∧ Noted w GL GS ST TS B p A' c' k AO2 cO2 g t gk gg bt r' d (.slice Z n1 cZ) j wq)) (fun _ jv _ => n1 - (intOf jv).toNat)
            case atStart => exact ⟨0, AO, cO, nO, Nat.zero_le _, rfl, rfl, Lib.hid ⟨by rw [List.take_zero, show g.order ++ regsT [] t = g.order from List.append_nil _]; exact HNO.out, H6.out⟩⟩
            case round =>
              obtain ⟨j, AO2, cO2, nO2, hj, rfl, rfl, HJ⟩ := hrel
              clear H6
              by_cases hjn : j < n1
              · obtain ⟨nt, hnt⟩ : ∃ nt, r'.ns[j]? = some nt := ⟨_, List.getElem?_eq_getElem (by rw [HN1.out]; exact hjn)⟩
                obtain ⟨Z2, c2, e2, hz2⟩ := ownN_parts HJ.out.2.run.notes
                injection e2 with e3 e4 e5
                obtain ⟨q, hq, hc⟩ := hz2 j nt hnt
                have hZq : Z = some ⟨q, 0, none⟩ := e3.trans hq
                clear e3 e4 e5 hz2 hq HZ
                subst hZq
                have c19 : wr.cell? ⟨bt, 19, none⟩ = some (.slice (some ⟨q, 0, none⟩) n1 cZ) := HJ.out.2.run.row.cell_ (i := 19) rfl
                have HNT := Lib.hid hnt
                clear hnt
                by_cases hw : nt.w = 2
                · rw [hw] at hc
                  have HW2 := Lib.hid hw
                  clear hw
                  have ck : wr.cell? ⟨gk, 0, none⟩ = some (.int .i64 t) := HJ.out.2.rk.cell_ (i := 0) rfl
                  have HNEW := Lib.hid (Row.new wr 3 #[.int .i64 t])
                  have HGA := Lib.hid (HJ.out.2.game.keep ((Only.refl Nil wr).alloc (.cells #[.int .i64 t] 3)))
                  have HLE := Lib.hid HJ.out.1
                  have HBD := Lib.hid (show (g.order ++ regsT (r'.ns.take j) t).length ≤ 100000 by
                    have h1 : (regsT (r'.ns.take j) t).length ≤ 1 := regs_len (by rw [List.length_take]; omega)
                    have := HNB.out
                    rw [List.length_append]
                    omega)
                  have HBA := Lib.hid HGA.out.only.size
                  go_wp2_with (at_builtin; refine wp_appO rfl (.tmp 108) (.tmp 110) rfl w.heap.size AO2 cO2 _ nO2 HLE.out (by rfl) HGA.out.od wr.heap.size t (by rfl) HNEW.out HBD.out HBA.out ?_)
                  intro A8 c8 w8 hod ho hA
                  rw [← List.append_assoc] at hod
                  have HJ8 : Hid ((g.order ++ regsT (r'.ns.take (j + 1)) t).length = nO2 + 1 ∧ Noted w GL GS ST TS B p A' c' k A8 c8 g t gk gg bt r' d (.slice (some ⟨q, 0, none⟩) n1 cZ) (j + 1) w8) := Lib.hid ⟨by rw [regs_next HNT.out, if_pos HW2.out, ← List.append_assoc, List.length_append, HLE.out]; rfl, HJ.out.2.more HNT.out HW2.out hod ho (fun j hj => by rw [show (wr.alloc (.cells #[.int .i64 t] 3)).heap.size = wr.heap.size + 1 by simp]; exact hA j hj)⟩
                  clear hod ho hA HJ HNEW HGA ck c19 hc
                  go_wp2
                  go_roundw
                  case rel => exact ⟨j + 1, A8, c8, nO2 + 1, by omega, by go_num, rfl, HJ8⟩
                  case measure => simp [intOf]; omega
                · have hw' : (nt.w == 2) = false := beq_eq_false_iff_ne.2 hw
                  have HJ8 : Hid ((g.order ++ regsT (r'.ns.take (j + 1)) t).length = nO2 ∧ Noted w GL GS ST TS B p A' c' k AO2 cO2 g t gk gg bt r' d (.slice (some ⟨q, 0, none⟩) n1 cZ) (j + 1) wr) := Lib.hid ⟨by rw [regs_next HNT.out, if_neg hw, List.append_nil]; exact HJ.out.1, HJ.out.2.skip HNT.out hw⟩
                  clear hw HJ HNT
                  generalize nt.w = nw at *
                  go_wp2
                  go_roundw
                  case rel => exact ⟨j + 1, AO2, cO2, nO2, by omega, by go_num, rfl, HJ8⟩
                  case measure => simp [intOf]; omega
              · obtain rfl : n1 = j := by omega
                have htk1 : r'.ns.take n1 = r'.ns := by rw [← HN1.out, List.take_length]
                have hjj := HJ.out
                rw [htk1] at hjj
                have hgn := hjj.2.game
                rw [htk1] at hgn
                have HLE := Lib.hid hjj.1
                have HGM := Lib.hid hgn
                have HRK := Lib.hid hjj.2.rk
                have HRG := Lib.hid hjj.2.rg
                have HRN := Lib.hid hjj.2.run
                have HEK := Lib.hid hjj.2.ek
                clear hjj hgn htk1 HJ hjn hj HZ HN1 HNO HNB
                obtain ⟨csl, hl0, hl1⟩ := HGM.out.l
                obtain ⟨css, hs0, hs1⟩ := HGM.out.st
                have gs : wr.cell? ⟨GS, 0, none⟩ = some (.slice (some ⟨ST, 0, none⟩) k k) := HGM.out.s.cell_ (i := 0) rfl
                have gl : wr.cell? ⟨GL, t, none⟩ = some (.pointer (some ⟨bt, 0, none⟩)) := by have e := hl0.cell_ (hl1 t htk); rw [HBT.out] at e; exact e
                have gst : wr.cell? ⟨ST, t, none⟩ = some (.int .i64 (g.stt t)) := hs0.cell_ ((hs1 t htk).trans (by rfl))
                have fst : wr.frozen? ⟨ST, t, none⟩ = false := hs0.frozen t
                clear hl0 hl1 hs0 hs1
                clear gl
                have ck : wr.cell? ⟨gk, 0, none⟩ = some (.int .i64 t) := HRK.out.cell_ (i := 0) rfl
                have cg : wr.cell? ⟨gg, 0, none⟩ = some (.bool d) := HRG.out.cell_ (i := 0) rfl
                have c9 : wr.cell? ⟨bt, 9, none⟩ = some (.bool r'.k.on) := HRN.out.row.cell_ (i := 9) rfl
                have c19 : wr.cell? ⟨bt, 19, none⟩ = some (.slice Z n1 cZ) := HRN.out.row.cell_ (i := 19) rfl
                cases d
                · have hE := gp_no H1.out HPR.out
                  rw [HP1.out] at hE
                  have HE := Lib.hid (Option.some.inj hE)
                  clear hE
                  by_cases h3 : g.stt t = 3
                  · rw [h3] at gst
                    cases hon : r'.k.on
                    · rw [hon] at c9
                      have hR := HE.out.trans (gr_yes (by exact h3) (by show (upd g.rs t r' t).k.on = false; rw [upd_same]; exact hon))
                      have HR := Lib.hid hR
                      clear hR hon h3
                      go_upto_region 42 with (fail)
                      have HGM5 := Lib.hid (HGM.out.stated htk 0)
                      (try clear c19 cg)
                      clear gs gst fst ck c9 HGM
                      generalize wr.setCell ⟨ST, t, none⟩ (.int .i64 0) = w5z at *
                      have HF := Lib.hid (HGM5.out.framed htk 0)
                      rw [HBT.out] at HF
                      obtain ⟨nvF, hqF⟩ := HGM5.out.run t htk
                      rw [HBT.out] at hqF
                      have HQF := Lib.hid hqF
                      clear hqF
                      generalize GV.at _ t = rr at HQF
                      have a4 : w5z.cell? ⟨bt, 4, none⟩ = some (.int .i64 rr.op) := HQF.out.row.cell_ (i := 4) rfl
                      have a5 : w5z.cell? ⟨bt, 5, none⟩ = some (.int .i64 rr.line) := HQF.out.row.cell_ (i := 5) rfl
                      have a6 : w5z.cell? ⟨bt, 6, none⟩ = some (.int .u32 rr.a) := HQF.out.row.cell_ (i := 6) rfl
                      have a7 : w5z.cell? ⟨bt, 7, none⟩ = some (.int .u32 rr.b) := HQF.out.row.cell_ (i := 7) rfl
                      have a8 : w5z.cell? ⟨bt, 8, none⟩ = some (.int .i64 rr.s) := HQF.out.row.cell_ (i := 8) rfl
                      have a9 : w5z.cell? ⟨bt, 9, none⟩ = some (.bool rr.k.on) := HQF.out.row.cell_ (i := 9) rfl
                      have a10 : w5z.cell? ⟨bt, 10, none⟩ = some (.int .i64 rr.k.c) := HQF.out.row.cell_ (i := 10) rfl
                      have a11 : w5z.cell? ⟨bt, 11, none⟩ = some (.int .i64 rr.k.i) := HQF.out.row.cell_ (i := 11) rfl
                      have a12 : w5z.cell? ⟨bt, 12, none⟩ = some (.bool rr.k.hit) := HQF.out.row.cell_ (i := 12) rfl
                      have a13 : w5z.cell? ⟨bt, 13, none⟩ = some (.int .i64 rr.ret) := HQF.out.row.cell_ (i := 13) rfl
                      have f4 : w5z.frozen? ⟨bt, 4, none⟩ = false := HQF.out.row.frozen 4
                      have f5 : w5z.frozen? ⟨bt, 5, none⟩ = false := HQF.out.row.frozen 5
                      have f6 : w5z.frozen? ⟨bt, 6, none⟩ = false := HQF.out.row.frozen 6
                      have f7 : w5z.frozen? ⟨bt, 7, none⟩ = false := HQF.out.row.frozen 7
                      have f8 : w5z.frozen? ⟨bt, 8, none⟩ = false := HQF.out.row.frozen 8
                      have f9 : w5z.frozen? ⟨bt, 9, none⟩ = false := HQF.out.row.frozen 9
                      have f10 : w5z.frozen? ⟨bt, 10, none⟩ = false := HQF.out.row.frozen 10
                      have f11 : w5z.frozen? ⟨bt, 11, none⟩ = false := HQF.out.row.frozen 11
                      have f12 : w5z.frozen? ⟨bt, 12, none⟩ = false := HQF.out.row.frozen 12
                      have f13 : w5z.frozen? ⟨bt, 13, none⟩ = false := HQF.out.row.frozen 13
                      go_wp2
                      clear a4 a5 a6 a7 a8 a9 a10 a11 a12 a13 f4 f5 f6 f7 f8 f9 f10 f11 f12 f13
                      go_roundw
                      case rel => exact ⟨i + 1, g1, AO2, cO2, nO2, by omega, by go_num, by rw [HR.out], rfl, Lib.hid ⟨by rw [HR.out]; exact HLE.out, HN.out AO2 cO2 _ (by rw [HR.out]; exact HF.out)⟩⟩
                      case measure => simp [intOf]; omega
                    · rw [hon] at c9
                      have hR := HE.out.trans (gr_no (.inr (by show (upd g.rs t r' t).k.on = true; rw [upd_same]; exact hon)))
                      have HR := Lib.hid hR
                      clear hR hon h3
                      go_wp2
                      go_roundw
                      case rel => exact ⟨i + 1, g1, AO2, cO2, nO2, by omega, by go_num, by rw [HR.out], rfl, Lib.hid ⟨by rw [HR.out]; exact HLE.out, HN.out AO2 cO2 _ (by rw [HR.out]; exact HGM.out)⟩⟩
                      case measure => simp [intOf]; omega
                  · have hR := HE.out.trans (gr_no (.inl (by exact h3)))
                    have HR := Lib.hid hR
                    have h3' : (g.stt t == 3) = false := beq_eq_false_iff_ne.2 h3
                    clear hR h3
                    generalize r'.k.on = on' at c9
                    go_wp2
                    go_roundw
                    case rel => exact ⟨i + 1, g1, AO2, cO2, nO2, by omega, by go_num, by rw [HR.out], rfl, Lib.hid ⟨by rw [HR.out]; exact HLE.out, HN.out AO2 cO2 _ (by rw [HR.out]; exact HGM.out)⟩⟩
                    case measure => simp [intOf]; omega
                · by_cases h0 : g.stt t = 0
                  · rw [h0] at gst
                    obtain ⟨os, hos, hin, he⟩ := gp_in h0 HPR.out HP1.out
                    have hle := HLE.out
                    rw [hos, List.length_cons] at hle
                    have hgm := HGM.out
                    rw [hos] at hgm
                    obtain ⟨qg, qo, hAO, hqc, hcap⟩ := OrdL.head (l := os) (x := (t : Int)) hgm.od
                    subst hAO hle
                    have d1 : decide ((0 : Int) ≤ g.ins) = false := decide_eq_false (by omega)
                    have d2 : (((os.length : Int) + 1) == 0) = false := beq_eq_false_iff_ne.2 (by omega)
                    have he2 : g1 = ⟨upd (upd g.rs t r') t (zeroL (upd g.rs t r' t) 0), upd g.stt t 1, upd g.times t (g.times t + 1), os, t, r'.xs⟩ := by rw [upd_same]; exact he
                    have HR := Lib.hid he2
                    have H0 := Lib.hid h0
                    clear HGM HLE hos h0 he he2
                    by_cases hc1 : cO2 = 1
                    · subst hc1
                      have HG5 := Lib.hid (hgm.ordered (Only.refl _ wr) (OrdL.tail1 (l := os) (x := (t : Int)) hgm.od) (fun j hj => .inl hj))
                      clear hgm
                      go_upto_region 31 with (fail)
                      refine wp_region_phase (n := 14) 13 (fun w => w.cell? ⟨qg, qo, none⟩ = some (.int .i64 t) ∧ w.cell? ⟨gk, 0, none⟩ = some (.int .i64 t)) rfl (by kernel_rfl) ⟨hqc, ck⟩ (fun hHeld => ?_)
                      have HG6 := Lib.hid (HG5.out.keep (Only.refl Nil wr).drew)
                      have HRK6 := Lib.hid HRK.out.drew
                      have HRN6 := Lib.hid HRN.out.row.drew
                      clear gs gst fst ck cg c9 c19 hqc HG5 HRK HRN HRG
                      generalize wr.drew = w7 at *
                      refine mpa 0 rfl (.int .i64 g.ins) (fun w => ?_) ?_
                      · go_simp
                      (try simp only [Act.put, k1, k2, k3])
                      refine mpa 1 rfl (.bool false) (fun w => ?_) ?_
                      · go_simp
                      (try simp only [Act.put, k1, k2, k3])
                      refine mpa 2 rfl (.bool false) (fun w => ?_) ?_
                      · go_simp
                      (try simp only [Act.put, k1, k2, k3])
                      refine mpa 3 rfl (.slice (some ⟨qg, qo, none⟩) (os.length + 1) 1) (fun w => ?_) ?_
                      · go_simp
                      (try simp only [Act.put, k1, k2, k3])
                      refine mpa 4 rfl (.int .i64 (os.length + 1 : Nat)) (fun w => ?_) ?_
                      · go_simp
                      (try simp only [Act.put, k1, k2, k3])
                      refine mpa 5 rfl (.bool false) (fun w => ?_) ?_
                      · go_simp
                      (try simp only [Act.put, k1, k2, k3])
                      refine mpa 6 rfl (.bool false) (fun w => ?_) ?_
                      · go_simp
                      (try simp only [Act.put, k1, k2, k3])
                      refine mpa 7 rfl (.bool false) (fun w => ?_) ?_
                      · go_simp
                      (try simp only [Act.put, k1, k2, k3])
                      refine mpa 8 rfl (.slice (some ⟨qg, qo, none⟩) (os.length + 1) 1) (fun w => ?_) ?_
                      · go_simp
                      (try simp only [Act.put, k1, k2, k3])
                      refine mpa 9 rfl (.pointer (some ⟨qg, qo, none⟩)) (fun w => ?_) ?_
                      · go_simp
                      (try simp only [Act.put, k1, k2, k3])
                      refine mpt 10 rfl (.int .i64 t) (fun w hSw => ?_) ?_
                      · (try dsimp only at hSw)
                        go_split_ands
                        go_simp
                      (try simp only [Act.put, k1, k2, k3])
                      refine mpt 11 rfl (.int .i64 t) (fun w hSw => ?_) ?_
                      · (try dsimp only at hSw)
                        go_split_ands
                        go_simp
                      (try simp only [Act.put, k1, k2, k3])
                      refine mpa 12 rfl (.bool false) (fun w => ?_) ?_
                      · go_simp
                      (try simp only [Act.put, k1, k2, k3])
                      refine mpc 13 rfl (by kernel_rfl) (by rfl) (fun K hK => ?_)
                      go_simp
                      refine hK.out _ _ (.inl (by kernel_rfl)) ?_
                      clear hK K hHeld
                      (try simp only [Act.put, k1, k2, k3])
                      refine wpAnyP_done (by kernel_rfl) ?_ _
                      obtain ⟨csl, hl0, hl1⟩ := HG6.out.l
                      obtain ⟨css, hs0, hs1⟩ := HG6.out.st
                      have gs : w7.cell? ⟨GS, 0, none⟩ = some (.slice (some ⟨ST, 0, none⟩) k k) := HG6.out.s.cell_ (i := 0) rfl
                      have gl : w7.cell? ⟨GL, t, none⟩ = some (.pointer (some ⟨bt, 0, none⟩)) := by have e := hl0.cell_ (hl1 t htk); rw [HBT.out] at e; exact e
                      have gst : w7.cell? ⟨ST, t, none⟩ = some (.int .i64 (0)) := hs0.cell_ ((hs1 t htk).trans (by exact congrArg (fun v => some (Value.int .i64 v)) H0.out))
                      have fst : w7.frozen? ⟨ST, t, none⟩ = false := hs0.frozen t
                      clear hl0 hl1 hs0 hs1
                      clear gl
                      have ck : w7.cell? ⟨gk, 0, none⟩ = some (.int .i64 t) := HRK6.out.cell_ (i := 0) rfl
                      go_upto_region 36 with (fail)
                      have HG7 := Lib.hid (HG6.out.stated htk 1)
                      have HRK7 := Lib.hid (HRK6.out.only ((Only.refl (· = ST) w7).setCell (p := ⟨ST, t, none⟩) (.inr rfl) (.int .i64 1)) HEK.out.st)
                      clear gs gst fst ck HG6 HRK6 HRN6 d1 d2
                      generalize w7.setCell ⟨ST, t, none⟩ (.int .i64 1) = w8 at *
                      have ck : w8.cell? ⟨gk, 0, none⟩ = some (.int .i64 t) := HRK7.out.cell_ (i := 0) rfl
                      obtain ⟨ctm, htm0, htm1⟩ := HG7.out.tm
                      have tmc : w8.cell? ⟨TS, t, none⟩ = some (.int .i64 (g.times t)) := htm0.cell_ (htm1 t htk)
                      have tmf : w8.frozen? ⟨TS, t, none⟩ = false := htm0.frozen t
                      clear htm0 htm1
                      obtain ⟨htb0, htb1⟩ := HTB.out
                      go_upto_region 37 with (fail)
                      have HG8 := Lib.hid (HG7.out.timed htk (g.times t + 1))
                      have HRK8 := Lib.hid (HRK7.out.only ((Only.refl (· = TS) w8).setCell (p := ⟨TS, t, none⟩) (.inr rfl) (.int .i64 (g.times t + 1))) HEK.out.ts)
                      clear ck tmc tmf HG7 HRK7 htb0 htb1
                      generalize w8.setCell ⟨TS, t, none⟩ (.int .i64 (g.times t + 1)) = w9 at *
                      have HF := Lib.hid ((HG8.out.framed htk 0).setIns t)
                      rw [HBT.out] at HF
                      have HRK9 := Lib.hid (HRK8.out.only (frameL_only w9 bt 0) (fun e => HEK.out.b t htk (e.trans HBT.out.symm)))
                      obtain ⟨nvF, hqF⟩ := HG8.out.run t htk
                      rw [HBT.out] at hqF
                      have HQF := Lib.hid hqF
                      clear hqF
                      generalize GV.at _ t = rr at HQF
                      have a4 : w9.cell? ⟨bt, 4, none⟩ = some (.int .i64 rr.op) := HQF.out.row.cell_ (i := 4) rfl
                      have a5 : w9.cell? ⟨bt, 5, none⟩ = some (.int .i64 rr.line) := HQF.out.row.cell_ (i := 5) rfl
                      have a6 : w9.cell? ⟨bt, 6, none⟩ = some (.int .u32 rr.a) := HQF.out.row.cell_ (i := 6) rfl
                      have a7 : w9.cell? ⟨bt, 7, none⟩ = some (.int .u32 rr.b) := HQF.out.row.cell_ (i := 7) rfl
                      have a8 : w9.cell? ⟨bt, 8, none⟩ = some (.int .i64 rr.s) := HQF.out.row.cell_ (i := 8) rfl
                      have a9 : w9.cell? ⟨bt, 9, none⟩ = some (.bool rr.k.on) := HQF.out.row.cell_ (i := 9) rfl
                      have a10 : w9.cell? ⟨bt, 10, none⟩ = some (.int .i64 rr.k.c) := HQF.out.row.cell_ (i := 10) rfl
                      have a11 : w9.cell? ⟨bt, 11, none⟩ = some (.int .i64 rr.k.i) := HQF.out.row.cell_ (i := 11) rfl
                      have a12 : w9.cell? ⟨bt, 12, none⟩ = some (.bool rr.k.hit) := HQF.out.row.cell_ (i := 12) rfl
                      have a13 : w9.cell? ⟨bt, 13, none⟩ = some (.int .i64 rr.ret) := HQF.out.row.cell_ (i := 13) rfl
                      have f4 : w9.frozen? ⟨bt, 4, none⟩ = false := HQF.out.row.frozen 4
                      have f5 : w9.frozen? ⟨bt, 5, none⟩ = false := HQF.out.row.frozen 5
                      have f6 : w9.frozen? ⟨bt, 6, none⟩ = false := HQF.out.row.frozen 6
                      have f7 : w9.frozen? ⟨bt, 7, none⟩ = false := HQF.out.row.frozen 7
                      have f8 : w9.frozen? ⟨bt, 8, none⟩ = false := HQF.out.row.frozen 8
                      have f9 : w9.frozen? ⟨bt, 9, none⟩ = false := HQF.out.row.frozen 9
                      have f10 : w9.frozen? ⟨bt, 10, none⟩ = false := HQF.out.row.frozen 10
                      have f11 : w9.frozen? ⟨bt, 11, none⟩ = false := HQF.out.row.frozen 11
                      have f12 : w9.frozen? ⟨bt, 12, none⟩ = false := HQF.out.row.frozen 12
                      have f13 : w9.frozen? ⟨bt, 13, none⟩ = false := HQF.out.row.frozen 13
                      go_upto_region 40 with (fail)
                      clear a4 a5 a6 a7 a8 a9 a10 a11 a12 a13 f4 f5 f6 f7 f8 f9 f10 f11 f12 f13 HQF HG8 HRK8
                      unfold frameL at HF HRK9
                      generalize (((((((((w9.setCell ⟨bt, 4, none⟩ (.int .i64 0)).setCell ⟨bt, 5, none⟩ (.int .i64 0)).setCell ⟨bt, 6, none⟩ (.int .u32 0)).setCell ⟨bt, 7, none⟩ (.int .u32 0)).setCell ⟨bt, 8, none⟩ (.int .i64 0)).setCell ⟨bt, 9, none⟩ (.bool false)).setCell ⟨bt, 10, none⟩ (.int .i64 0)).setCell ⟨bt, 11, none⟩ (.int .i64 0)).setCell ⟨bt, 12, none⟩ (.bool false)).setCell ⟨bt, 13, none⟩ (.int .i64 0) = w10 at *
                      obtain ⟨csl, hl0, hl1⟩ := HF.out.l
                      obtain ⟨css, hs0, hs1⟩ := HF.out.st
                      have gs : w10.cell? ⟨GS, 0, none⟩ = some (.slice (some ⟨ST, 0, none⟩) k k) := HF.out.s.cell_ (i := 0) rfl
                      have gl : w10.cell? ⟨GL, t, none⟩ = some (.pointer (some ⟨bt, 0, none⟩)) := by have e := hl0.cell_ (hl1 t htk); rw [HBT.out] at e; exact e
                      have gst : w10.cell? ⟨ST, t, none⟩ = some (.int .i64 (1)) := hs0.cell_ ((hs1 t htk).trans (by exact congrArg (fun v => some (Value.int .i64 v)) (upd_same _ _ _)))
                      have fst : w10.frozen? ⟨ST, t, none⟩ = false := hs0.frozen t
                      clear hl0 hl1 hs0 hs1
                      clear gl
                      have ck : w10.cell? ⟨gk, 0, none⟩ = some (.int .i64 t) := HRK9.out.cell_ (i := 0) rfl
                      go_wp2
                      go_roundw
                      case rel => exact ⟨i + 1, g1, (some ⟨qg, qo, none⟩), 0, os.length, by omega, by go_num, by rw [HR.out], rfl, Lib.hid ⟨by rw [HR.out], HN.out (some ⟨qg, qo, none⟩) 0 _ (by rw [HR.out]; exact HF.out)⟩⟩
                      case measure => simp [intOf]; omega
                    · have HG5 := Lib.hid (hgm.ordered (Only.refl _ wr) (OrdL.tail (l := os) (x := (t : Int)) hgm.od) (fun j hj => .inl (by obtain ⟨a, ha, hj⟩ := hj; cases ha; exact ⟨_, rfl, hj⟩)))
                      clear hgm
                      have hc2 : ¬ cO2 = 1 := hc1
                      go_upto_region 31 with (fail)
                      refine wp_region_phase (n := 14) 13 (fun w => w.cell? ⟨qg, qo, none⟩ = some (.int .i64 t) ∧ w.cell? ⟨gk, 0, none⟩ = some (.int .i64 t)) rfl (by kernel_rfl) ⟨hqc, ck⟩ (fun hHeld => ?_)
                      have HG6 := Lib.hid (HG5.out.keep (Only.refl Nil wr).drew)
                      have HRK6 := Lib.hid HRK.out.drew
                      have HRN6 := Lib.hid HRN.out.row.drew
                      clear gs gst fst ck cg c9 c19 hqc HG5 HRK HRN HRG
                      generalize wr.drew = w7 at *
                      refine mpa 0 rfl (.int .i64 g.ins) (fun w => ?_) ?_
                      · go_simp
                      (try simp only [Act.put, k1, k2, k3])
                      refine mpa 1 rfl (.bool false) (fun w => ?_) ?_
                      · go_simp
                      (try simp only [Act.put, k1, k2, k3])
                      refine mpa 2 rfl (.bool false) (fun w => ?_) ?_
                      · go_simp
                      (try simp only [Act.put, k1, k2, k3])
                      refine mpa 3 rfl (.slice (some ⟨qg, qo, none⟩) (os.length + 1) cO2) (fun w => ?_) ?_
                      · go_simp
                      (try simp only [Act.put, k1, k2, k3])
                      refine mpa 4 rfl (.int .i64 (os.length + 1 : Nat)) (fun w => ?_) ?_
                      · go_simp
                      (try simp only [Act.put, k1, k2, k3])
                      refine mpa 5 rfl (.bool false) (fun w => ?_) ?_
                      · go_simp
                      (try simp only [Act.put, k1, k2, k3])
                      refine mpa 6 rfl (.bool false) (fun w => ?_) ?_
                      · go_simp
                      (try simp only [Act.put, k1, k2, k3])
                      refine mpa 7 rfl (.bool false) (fun w => ?_) ?_
                      · go_simp
                      (try simp only [Act.put, k1, k2, k3])
                      refine mpa 8 rfl (.slice (some ⟨qg, qo, none⟩) (os.length + 1) cO2) (fun w => ?_) ?_
                      · go_simp
                      (try simp only [Act.put, k1, k2, k3])
                      refine mpa 9 rfl (.pointer (some ⟨qg, qo, none⟩)) (fun w => ?_) ?_
                      · go_simp
                      (try simp only [Act.put, k1, k2, k3])
                      refine mpt 10 rfl (.int .i64 t) (fun w hSw => ?_) ?_
                      · (try dsimp only at hSw)
                        go_split_ands
                        go_simp
                      (try simp only [Act.put, k1, k2, k3])
                      refine mpt 11 rfl (.int .i64 t) (fun w hSw => ?_) ?_
                      · (try dsimp only at hSw)
                        go_split_ands
                        go_simp
                      (try simp only [Act.put, k1, k2, k3])
                      refine mpa 12 rfl (.bool false) (fun w => ?_) ?_
                      · go_simp
                      (try simp only [Act.put, k1, k2, k3])
                      refine mpc 13 rfl (by kernel_rfl) (by rfl) (fun K hK => ?_)
                      go_simp
                      refine hK.out _ _ (.inl (by kernel_rfl)) ?_
                      clear hK K hHeld
                      (try simp only [Act.put, k1, k2, k3])
                      refine wpAnyP_done (by kernel_rfl) ?_ _
                      obtain ⟨csl, hl0, hl1⟩ := HG6.out.l
                      obtain ⟨css, hs0, hs1⟩ := HG6.out.st
                      have gs : w7.cell? ⟨GS, 0, none⟩ = some (.slice (some ⟨ST, 0, none⟩) k k) := HG6.out.s.cell_ (i := 0) rfl
                      have gl : w7.cell? ⟨GL, t, none⟩ = some (.pointer (some ⟨bt, 0, none⟩)) := by have e := hl0.cell_ (hl1 t htk); rw [HBT.out] at e; exact e
                      have gst : w7.cell? ⟨ST, t, none⟩ = some (.int .i64 (0)) := hs0.cell_ ((hs1 t htk).trans (by exact congrArg (fun v => some (Value.int .i64 v)) H0.out))
                      have fst : w7.frozen? ⟨ST, t, none⟩ = false := hs0.frozen t
                      clear hl0 hl1 hs0 hs1
                      clear gl
                      have ck : w7.cell? ⟨gk, 0, none⟩ = some (.int .i64 t) := HRK6.out.cell_ (i := 0) rfl
                      go_upto_region 36 with (fail)
                      have HG7 := Lib.hid (HG6.out.stated htk 1)
                      have HRK7 := Lib.hid (HRK6.out.only ((Only.refl (· = ST) w7).setCell (p := ⟨ST, t, none⟩) (.inr rfl) (.int .i64 1)) HEK.out.st)
                      clear gs gst fst ck HG6 HRK6 HRN6 d1 d2
                      generalize w7.setCell ⟨ST, t, none⟩ (.int .i64 1) = w8 at *
                      have ck : w8.cell? ⟨gk, 0, none⟩ = some (.int .i64 t) := HRK7.out.cell_ (i := 0) rfl
                      obtain ⟨ctm, htm0, htm1⟩ := HG7.out.tm
                      have tmc : w8.cell? ⟨TS, t, none⟩ = some (.int .i64 (g.times t)) := htm0.cell_ (htm1 t htk)
                      have tmf : w8.frozen? ⟨TS, t, none⟩ = false := htm0.frozen t
                      clear htm0 htm1
                      obtain ⟨htb0, htb1⟩ := HTB.out
                      go_upto_region 37 with (fail)
                      have HG8 := Lib.hid (HG7.out.timed htk (g.times t + 1))
                      have HRK8 := Lib.hid (HRK7.out.only ((Only.refl (· = TS) w8).setCell (p := ⟨TS, t, none⟩) (.inr rfl) (.int .i64 (g.times t + 1))) HEK.out.ts)
                      clear ck tmc tmf HG7 HRK7 htb0 htb1
                      generalize w8.setCell ⟨TS, t, none⟩ (.int .i64 (g.times t + 1)) = w9 at *
                      have HF := Lib.hid ((HG8.out.framed htk 0).setIns t)
                      rw [HBT.out] at HF
                      have HRK9 := Lib.hid (HRK8.out.only (frameL_only w9 bt 0) (fun e => HEK.out.b t htk (e.trans HBT.out.symm)))
                      obtain ⟨nvF, hqF⟩ := HG8.out.run t htk
                      rw [HBT.out] at hqF
                      have HQF := Lib.hid hqF
                      clear hqF
                      generalize GV.at _ t = rr at HQF
                      have a4 : w9.cell? ⟨bt, 4, none⟩ = some (.int .i64 rr.op) := HQF.out.row.cell_ (i := 4) rfl
                      have a5 : w9.cell? ⟨bt, 5, none⟩ = some (.int .i64 rr.line) := HQF.out.row.cell_ (i := 5) rfl
                      have a6 : w9.cell? ⟨bt, 6, none⟩ = some (.int .u32 rr.a) := HQF.out.row.cell_ (i := 6) rfl
                      have a7 : w9.cell? ⟨bt, 7, none⟩ = some (.int .u32 rr.b) := HQF.out.row.cell_ (i := 7) rfl
                      have a8 : w9.cell? ⟨bt, 8, none⟩ = some (.int .i64 rr.s) := HQF.out.row.cell_ (i := 8) rfl
                      have a9 : w9.cell? ⟨bt, 9, none⟩ = some (.bool rr.k.on) := HQF.out.row.cell_ (i := 9) rfl
                      have a10 : w9.cell? ⟨bt, 10, none⟩ = some (.int .i64 rr.k.c) := HQF.out.row.cell_ (i := 10) rfl
                      have a11 : w9.cell? ⟨bt, 11, none⟩ = some (.int .i64 rr.k.i) := HQF.out.row.cell_ (i := 11) rfl
                      have a12 : w9.cell? ⟨bt, 12, none⟩ = some (.bool rr.k.hit) := HQF.out.row.cell_ (i := 12) rfl
                      have a13 : w9.cell? ⟨bt, 13, none⟩ = some (.int .i64 rr.ret) := HQF.out.row.cell_ (i := 13) rfl
                      have f4 : w9.frozen? ⟨bt, 4, none⟩ = false := HQF.out.row.frozen 4
                      have f5 : w9.frozen? ⟨bt, 5, none⟩ = false := HQF.out.row.frozen 5
                      have f6 : w9.frozen? ⟨bt, 6, none⟩ = false := HQF.out.row.frozen 6
                      have f7 : w9.frozen? ⟨bt, 7, none⟩ = false := HQF.out.row.frozen 7
                      have f8 : w9.frozen? ⟨bt, 8, none⟩ = false := HQF.out.row.frozen 8
                      have f9 : w9.frozen? ⟨bt, 9, none⟩ = false := HQF.out.row.frozen 9
                      have f10 : w9.frozen? ⟨bt, 10, none⟩ = false := HQF.out.row.frozen 10
                      have f11 : w9.frozen? ⟨bt, 11, none⟩ = false := HQF.out.row.frozen 11
                      have f12 : w9.frozen? ⟨bt, 12, none⟩ = false := HQF.out.row.frozen 12
                      have f13 : w9.frozen? ⟨bt, 13, none⟩ = false := HQF.out.row.frozen 13
                      go_upto_region 40 with (fail)
                      clear a4 a5 a6 a7 a8 a9 a10 a11 a12 a13 f4 f5 f6 f7 f8 f9 f10 f11 f12 f13 HQF HG8 HRK8
                      unfold frameL at HF HRK9
                      generalize (((((((((w9.setCell ⟨bt, 4, none⟩ (.int .i64 0)).setCell ⟨bt, 5, none⟩ (.int .i64 0)).setCell ⟨bt, 6, none⟩ (.int .u32 0)).setCell ⟨bt, 7, none⟩ (.int .u32 0)).setCell ⟨bt, 8, none⟩ (.int .i64 0)).setCell ⟨bt, 9, none⟩ (.bool false)).setCell ⟨bt, 10, none⟩ (.int .i64 0)).setCell ⟨bt, 11, none⟩ (.int .i64 0)).setCell ⟨bt, 12, none⟩ (.bool false)).setCell ⟨bt, 13, none⟩ (.int .i64 0) = w10 at *
                      obtain ⟨csl, hl0, hl1⟩ := HF.out.l
                      obtain ⟨css, hs0, hs1⟩ := HF.out.st
                      have gs : w10.cell? ⟨GS, 0, none⟩ = some (.slice (some ⟨ST, 0, none⟩) k k) := HF.out.s.cell_ (i := 0) rfl
                      have gl : w10.cell? ⟨GL, t, none⟩ = some (.pointer (some ⟨bt, 0, none⟩)) := by have e := hl0.cell_ (hl1 t htk); rw [HBT.out] at e; exact e
                      have gst : w10.cell? ⟨ST, t, none⟩ = some (.int .i64 (1)) := hs0.cell_ ((hs1 t htk).trans (by exact congrArg (fun v => some (Value.int .i64 v)) (upd_same _ _ _)))
                      have fst : w10.frozen? ⟨ST, t, none⟩ = false := hs0.frozen t
                      clear hl0 hl1 hs0 hs1
                      clear gl
                      have ck : w10.cell? ⟨gk, 0, none⟩ = some (.int .i64 t) := HRK9.out.cell_ (i := 0) rfl
                      go_wp2
                      go_roundw
                      case rel => exact ⟨i + 1, g1, (some ⟨qg, qo + 1, none⟩), (cO2 - 1), os.length, by omega, by go_num, by rw [HR.out], rfl, Lib.hid ⟨by rw [HR.out], HN.out (some ⟨qg, qo + 1, none⟩) (cO2 - 1) _ (by rw [HR.out]; exact HF.out)⟩⟩
                      case measure => simp [intOf]; omega
                  · have h0' : (g.stt t == 0) = false := beq_eq_false_iff_ne.2 h0
                    have hE := gp_out H1.out h0 HPR.out
                    rw [HP1.out] at hE
                    have HE := Lib.hid (Option.some.inj hE)
                    clear hE h0
                    go_upto_region 40 with (fail)
                    have HG5 := Lib.hid (HGM.out.stated htk 3)
                    have HRK5 := Lib.hid (HRK.out.only ((Only.refl (· = ST) wr).setCell (p := ⟨ST, t, none⟩) (.inr rfl) (.int .i64 3)) HEK.out.st)
                    have HRN5 := Lib.hid (HRN.out.row.only ((Only.refl (· = ST) wr).setCell (p := ⟨ST, t, none⟩) (.inr rfl) (.int .i64 3)) (by
                      obtain ⟨css, hs0, _⟩ := HGM.out.st
                      exact row_ne HRN.out.row hs0 (by decide)))
                    clear gs gst fst ck cg c9 c19 h0' HGM HRK HRG HRN
                    have HGM := HG5
                    have HRK := HRK5
                    clear HG5 HRK5
                    generalize wr.setCell ⟨ST, t, none⟩ (.int .i64 3) = w7 at *
                    obtain ⟨csl, hl0, hl1⟩ := HGM.out.l
                    obtain ⟨css, hs0, hs1⟩ := HGM.out.st
                    have gs : w7.cell? ⟨GS, 0, none⟩ = some (.slice (some ⟨ST, 0, none⟩) k k) := HGM.out.s.cell_ (i := 0) rfl
                    have gl : w7.cell? ⟨GL, t, none⟩ = some (.pointer (some ⟨bt, 0, none⟩)) := by have e := hl0.cell_ (hl1 t htk); rw [HBT.out] at e; exact e
                    have gst : w7.cell? ⟨ST, t, none⟩ = some (.int .i64 (3)) := hs0.cell_ ((hs1 t htk).trans (by exact congrArg (fun v => some (Value.int .i64 v)) (upd_same _ _ _)))
                    have fst : w7.frozen? ⟨ST, t, none⟩ = false := hs0.frozen t
                    clear hl0 hl1 hs0 hs1
                    clear gl
                    have ck : w7.cell? ⟨gk, 0, none⟩ = some (.int .i64 t) := HRK.out.cell_ (i := 0) rfl
                    have c9 : w7.cell? ⟨bt, 9, none⟩ = some (.bool r'.k.on) := HRN5.out.cell_ (i := 9) rfl
                    cases hon : r'.k.on
                    · rw [hon] at c9
                      have hR := HE.out.trans (gr_yes (by exact upd_same _ _ _) (by show (upd g.rs t r' t).k.on = false; rw [upd_same]; exact hon))
                      have HR := Lib.hid hR
                      clear hR hon
                      go_upto_region 42 with (fail)
                      have HGM5 := Lib.hid (HGM.out.stated htk 0)
                      (try clear c19 cg)
                      clear gs gst fst ck c9 HGM
                      generalize w7.setCell ⟨ST, t, none⟩ (.int .i64 0) = w5z at *
                      have HF := Lib.hid (HGM5.out.framed htk 0)
                      rw [HBT.out] at HF
                      obtain ⟨nvF, hqF⟩ := HGM5.out.run t htk
                      rw [HBT.out] at hqF
                      have HQF := Lib.hid hqF
                      clear hqF
                      generalize GV.at _ t = rr at HQF
                      have a4 : w5z.cell? ⟨bt, 4, none⟩ = some (.int .i64 rr.op) := HQF.out.row.cell_ (i := 4) rfl
                      have a5 : w5z.cell? ⟨bt, 5, none⟩ = some (.int .i64 rr.line) := HQF.out.row.cell_ (i := 5) rfl
                      have a6 : w5z.cell? ⟨bt, 6, none⟩ = some (.int .u32 rr.a) := HQF.out.row.cell_ (i := 6) rfl
                      have a7 : w5z.cell? ⟨bt, 7, none⟩ = some (.int .u32 rr.b) := HQF.out.row.cell_ (i := 7) rfl
                      have a8 : w5z.cell? ⟨bt, 8, none⟩ = some (.int .i64 rr.s) := HQF.out.row.cell_ (i := 8) rfl
                      have a9 : w5z.cell? ⟨bt, 9, none⟩ = some (.bool rr.k.on) := HQF.out.row.cell_ (i := 9) rfl
                      have a10 : w5z.cell? ⟨bt, 10, none⟩ = some (.int .i64 rr.k.c) := HQF.out.row.cell_ (i := 10) rfl
                      have a11 : w5z.cell? ⟨bt, 11, none⟩ = some (.int .i64 rr.k.i) := HQF.out.row.cell_ (i := 11) rfl
                      have a12 : w5z.cell? ⟨bt, 12, none⟩ = some (.bool rr.k.hit) := HQF.out.row.cell_ (i := 12) rfl
                      have a13 : w5z.cell? ⟨bt, 13, none⟩ = some (.int .i64 rr.ret) := HQF.out.row.cell_ (i := 13) rfl
                      have f4 : w5z.frozen? ⟨bt, 4, none⟩ = false := HQF.out.row.frozen 4
                      have f5 : w5z.frozen? ⟨bt, 5, none⟩ = false := HQF.out.row.frozen 5
                      have f6 : w5z.frozen? ⟨bt, 6, none⟩ = false := HQF.out.row.frozen 6
                      have f7 : w5z.frozen? ⟨bt, 7, none⟩ = false := HQF.out.row.frozen 7
                      have f8 : w5z.frozen? ⟨bt, 8, none⟩ = false := HQF.out.row.frozen 8
                      have f9 : w5z.frozen? ⟨bt, 9, none⟩ = false := HQF.out.row.frozen 9
                      have f10 : w5z.frozen? ⟨bt, 10, none⟩ = false := HQF.out.row.frozen 10
                      have f11 : w5z.frozen? ⟨bt, 11, none⟩ = false := HQF.out.row.frozen 11
                      have f12 : w5z.frozen? ⟨bt, 12, none⟩ = false := HQF.out.row.frozen 12
                      have f13 : w5z.frozen? ⟨bt, 13, none⟩ = false := HQF.out.row.frozen 13
                      go_wp2
                      clear a4 a5 a6 a7 a8 a9 a10 a11 a12 a13 f4 f5 f6 f7 f8 f9 f10 f11 f12 f13
                      go_roundw
                      case rel => exact ⟨i + 1, g1, AO2, cO2, nO2, by omega, by go_num, by rw [HR.out], rfl, Lib.hid ⟨by rw [HR.out]; exact HLE.out, HN.out AO2 cO2 _ (by rw [HR.out]; exact HF.out)⟩⟩
                      case measure => simp [intOf]; omega
                    · rw [hon] at c9
                      have hR := HE.out.trans (gr_no (.inr (by show (upd g.rs t r' t).k.on = true; rw [upd_same]; exact hon)))
                      have HR := Lib.hid hR
                      clear hR hon
                      go_wp2
                      go_roundw
                      case rel => exact ⟨i + 1, g1, AO2, cO2, nO2, by omega, by go_num, by rw [HR.out], rfl, Lib.hid ⟨by rw [HR.out]; exact HLE.out, HN.out AO2 cO2 _ (by rw [HR.out]; exact HGM.out)⟩⟩
                      case measure => simp [intOf]; omega
        · obtain rfl : m = i := by omega
          have hall : (picksT k l).take m = picksT k l := by rw [List.take_of_length_le]; unfold picksT; rw [List.length_map, HM.out]; exact Nat.le_refl _
          have hpl := HG.out.2.play
          rw [hall, ← HFG.out] at hpl
          have HPL := Lib.hid hpl
          obtain ⟨ctm, htm0, htm1⟩ := HG.out.2.game.tm
          have HTM := Lib.hid (show ∀ i, i < k → wr.cell? ⟨TS, i, none⟩ = some (.int .i64 (g.times i)) from fun i hi => htm0.cell_ (htm1 i hi))
          have HO9 := Lib.hid HG.out.2.game.only
          clear hall hpl htm0 htm1 HG
          go_wp2
          go_ret2
          exact ⟨TS, g, rfl, HPL.out, HO9.out, HTM.out⟩
end Go.Proofs.Ytaifeejciglkpaa
