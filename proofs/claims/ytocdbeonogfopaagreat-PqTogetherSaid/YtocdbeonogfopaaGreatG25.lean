import Derived.Test.YtocdbeonogfopaaGreatChecked
import Derived.Maps.Own
import Derived.Deep.OwnRows
import Derived.Laws.BitsAllLaws
import Derived.Laws.BitsLemmas
import Derived.Test.YtocdbeonogfopaaGreatG1
import Derived.Test.YtocdbeonogfopaaGreatG24
import Derived.Test.YtocdbeonogfopaaGreatG2
import Derived.Test.YtocdbeonogfopaaGreatG12
namespace Go.Proofs.YtocdbeonogfopaaGreat
open Go.RowKit
def names1 : Array Value := #[.string ⟨#[117, 115, 101, 114, 115]⟩, .string ⟨#[114, 101, 97, 100, 115]⟩, .string ⟨#[119, 114, 105, 116, 101, 115]⟩]
def names2 : Array Value := #[.string ⟨#[114, 105, 110]⟩, .string ⟨#[114, 111, 117, 116]⟩, .string ⟨#[119, 105, 110]⟩, .string ⟨#[119, 111, 117, 116]⟩, .string ⟨#[112, 104, 97, 115, 101]⟩]
def names3 : Array Value := #[.string ⟨#[114, 105, 110]⟩, .string ⟨#[114, 111, 117, 116]⟩, .string ⟨#[116, 97, 105, 108]⟩, .string ⟨#[112, 104, 97, 115, 101]⟩]
def names4 : Array Value := #[.string ⟨#[116, 97, 105, 108]⟩, .string ⟨#[99, 111, 117, 110, 116]⟩]
def names5 : Array Value := #[.string ⟨#[119, 111, 114, 100]⟩]
def names6 : Array Value := #[.string ⟨#[119, 111, 114, 100]⟩]
def ownV (k : Int) : Array Value := if k = 1 then names1 else if k = 2 then names2 else if k = 3 then names3 else if k = 4 then names4 else if k = 5 then names5 else if k = 6 then names6 else #[]
theorem kinds {k : Int} (h : 1 ≤ k ∧ k ≤ 6) : k = 1 ∨ k = 2 ∨ k = 3 ∨ k = 4 ∨ k = 5 ∨ k = 6 := by omega
theorem name_at (k : Int) (hk : 1 ≤ k ∧ k ≤ 6) (c : Nat) (hc : c < (ownV k).size) : ∃ s, (ownV k)[c]? = some (.string s) := by
  rcases kinds hk with rfl | rfl | rfl | rfl | rfl | rfl
  · rcases (show c = 0 ∨ c = 1 ∨ c = 2 by have : c < 3 := hc; omega) with rfl | rfl | rfl <;> exact ⟨_, rfl⟩
  · rcases (show c = 0 ∨ c = 1 ∨ c = 2 ∨ c = 3 ∨ c = 4 by have : c < 5 := hc; omega) with rfl | rfl | rfl | rfl | rfl <;> exact ⟨_, rfl⟩
  · rcases (show c = 0 ∨ c = 1 ∨ c = 2 ∨ c = 3 by have : c < 4 := hc; omega) with rfl | rfl | rfl | rfl <;> exact ⟨_, rfl⟩
  · rcases (show c = 0 ∨ c = 1 by have : c < 2 := hc; omega) with rfl | rfl <;> exact ⟨_, rfl⟩
  · rcases (show c = 0 by have : c < 1 := hc; omega) with rfl; exact ⟨_, rfl⟩
  · rcases (show c = 0 by have : c < 1 := hc; omega) with rfl; exact ⟨_, rfl⟩
theorem own_size (k : Int) (hk : 1 ≤ k ∧ k ≤ 6) : 1 ≤ (ownV k).size ∧ (ownV k).size ≤ 5 := by
  rcases kinds hk with rfl | rfl | rfl | rfl | rfl | rfl <;> exact ⟨by decide, by decide⟩
def NamesAt (k : Int) (w : World) (e : Ending) (w' : World) : Prop :=
  ∃ g, e = .returned (.slice (some ⟨g, 0, none⟩) (ownV k).size (ownV k).size) ∧ w.heap.size ≤ g ∧ Row w' g 9 (ownV k) ∧ Only Nil w w'
def asIs (v : Value) : Option (DataW Value × List MemPlace) := some (.held v, [])
abbrev key (k : Int) : Lit := .int .i64 k
theorem hkeyOf (n : Int) (h : (Lit.int .i64 n).wf = true) : keyOf Tryz.prog 3 (.int .i64 n) = some (key n) := Maps.keyOf_int_mk Tryz.underlying3 h
theorem put_list {w : World} {B n : Nat} {D : DataW Value} (h : w.ownsMap Tryz.prog 3 asIs B n D) (hn : n < 100) (q : Int) (hq : (Lit.int .i64 q).wf = true) (cs : Array Value) (m : Nat) (g : Nat) (hg0 : w.heap.size = g) :
    ∃ w', (Instr.mapUpdate 82 (.map (some B)) (.int .i64 q) (.slice (some ⟨g, 0, none⟩) m m)).run Tryz.prog (w.alloc (.cells cs 9)) = .ok () w' ∧
      w'.ownsMap Tryz.prog 3 asIs B (n + 1) (D.put (key q) (.held (.slice (some ⟨g, 0, none⟩) m m))) ∧ Row w' g 9 cs ∧ g < w'.heap.size ∧ Only (fun i => i = B) w w' := by
  subst hg0
  obtain ⟨w', hrun, ho, hg⟩ := (h.alloc (.cells cs 9)).update (Maps.int_keyed Tryz.underlying3) Tryz.underlying82 (by unfold maxLen; omega) (hkeyOf q hq) (d := .held (.slice (some ⟨w.heap.size, 0, none⟩) m m)) (ps := []) rfl
  have hlt := h.lt
  have hsz := hg.size
  refine ⟨w', hrun, ho, ?_, by simp at hsz; omega, ((Only.refl _ _).alloc _).grown hg (fun k hk => by injection hk with hk; right; exact hk.symm)⟩
  exact (hg.block w.heap.size (by simp) (by simp; omega)).trans (Row.new w _ _)
theorem zero_list (w : World) : (zeroValue 65).run Tryz.prog w = .ok (.slice none 0 0) w := by kernel_rfl
def six (v1 v2 v3 v4 v5 v6 : Value) : DataW Value := ((((((DataW.map []).put (key 1) (.held v1)).put (key 2) (.held v2)).put (key 3) (.held v3)).put (key 4) (.held v4)).put (key 5) (.held v5)).put (key 6) (.held v6)
theorem six_is (v1 v2 v3 v4 v5 v6 : Value) : six v1 v2 v3 v4 v5 v6 = .map [(key 1, .held v1), (key 2, .held v2), (key 3, .held v3), (key 4, .held v4), (key 5, .held v5), (key 6, .held v6)] := by
  simp [six, DataW.put, DataW.insert, Lit.before, Lit.sameKey, key]
def pickV (k : Int) (v1 v2 v3 v4 v5 v6 : Value) : Value := if k = 1 then v1 else if k = 2 then v2 else if k = 3 then v3 else if k = 4 then v4 else if k = 5 then v5 else if k = 6 then v6 else .slice none 0 0
theorem six_at (k : Int) (v1 v2 v3 v4 v5 v6 : Value) : (six v1 v2 v3 v4 v5 v6).atKey (key k) (.held (.slice none 0 0)) = .held (pickV k v1 v2 v3 v4 v5 v6) := by
  rw [six_is]
  by_cases hk : 1 ≤ k ∧ k ≤ 6
  · rcases kinds hk with rfl | rfl | rfl | rfl | rfl | rfl <;> simp [DataW.atKey, pickV, Lit.sameKey, key]
  · have h1 : ¬ 1 = k := by omega
    have h2 : ¬ 2 = k := by omega
    have h3 : ¬ 3 = k := by omega
    have h4 : ¬ 4 = k := by omega
    have h5 : ¬ 5 = k := by omega
    have h6 : ¬ 6 = k := by omega
    simp [DataW.atKey, pickV, Lit.sameKey, key, h1, h2, h3, h4, h5, h6, Ne.symm h1, Ne.symm h2, Ne.symm h3, Ne.symm h4, Ne.symm h5, Ne.symm h6]
theorem get_list {w : World} {B n : Nat} {v1 v2 v3 v4 v5 v6 : Value} (h : w.ownsMap Tryz.prog 3 asIs B n (six v1 v2 v3 v4 v5 v6)) (k : Int) (hk : (Lit.int .i64 k).wf = true) :
    (Instr.lookup 82 (.map (some B)) (.int .i64 k) false).run Tryz.prog w = .ok (pickV k v1 v2 v3 v4 v5 v6) w := by
  obtain ⟨v, ps, hrun, hv⟩ := h.lookup (Maps.int_keyed Tryz.underlying3) Tryz.underlying82 (zero_list w) (zd := .held (.slice none 0 0)) (zp := []) rfl (hkeyOf k hk)
  rw [six_at] at hv
  simp only [asIs, Option.some.injEq, Prod.mk.injEq, DataW.held.injEq] at hv
  rw [hrun, hv.1]
def NamesIn (k : Int) (w : World) (e : Ending) (w' : World) : Prop :=
  ∃ g1 g2 g3 g4 g5 g6, e = .returned (pickV k (.slice (some ⟨g1, 0, none⟩) 3 3) (.slice (some ⟨g2, 0, none⟩) 5 5) (.slice (some ⟨g3, 0, none⟩) 4 4) (.slice (some ⟨g4, 0, none⟩) 2 2) (.slice (some ⟨g5, 0, none⟩) 1 1) (.slice (some ⟨g6, 0, none⟩) 1 1)) ∧
    w.heap.size ≤ g1 ∧ w.heap.size ≤ g2 ∧ w.heap.size ≤ g3 ∧ w.heap.size ≤ g4 ∧ w.heap.size ≤ g5 ∧ w.heap.size ≤ g6 ∧
    Row w' g1 9 names1 ∧ Row w' g2 9 names2 ∧ Row w' g3 9 names3 ∧ Row w' g4 9 names4 ∧ Row w' g5 9 names5 ∧ Row w' g6 9 names6 ∧ Only Nil w w'
set_option maxRecDepth 100000 in
set_option maxHeartbeats 1000000 in
theorem ownNames_in (k : Int) (w : World) (hk : (Lit.int .i64 k).wf = true) : Calls Tryz.prog 16 #[.int .i64 k] w (NamesIn k w) := by
  have HK := Lib.hid hk
  clear hk
  have hmm := @run_makeMap Tryz.prog
  have HO0 := Lib.hid (World.ownsMap_made w Tryz.prog 3 asIs)
  go_enter Tryz.func16, Tryz.ntmps16
  go_wp2_with fail
  obtain ⟨wx1, hrun, ho, hR, hz, hO⟩ := put_list HO0.out (by omega) 1 rfl names1 3 (w.heap.size+1) (by simp)
  unfold names1 at hrun
  rw [hrun]
  have HO1 := Lib.hid ho
  have HR1 := Lib.hid hR
  have HZ1 := Lib.hid hz
  have HL1 := Lib.hid hO
  clear hrun ho hR hz hO
  go_wp2_with fail
  obtain ⟨wx2, hrun, ho, hR, hz, hO⟩ := put_list HO1.out (by omega) 2 rfl names2 5 wx1.heap.size (by simp)
  unfold names2 at hrun
  rw [hrun]
  have HO2 := Lib.hid ho
  have HR2 := Lib.hid hR
  have HZ2 := Lib.hid hz
  have HL2 := Lib.hid hO
  clear hrun ho hR hz hO
  go_wp2_with fail
  obtain ⟨wx3, hrun, ho, hR, hz, hO⟩ := put_list HO2.out (by omega) 3 rfl names3 4 wx2.heap.size (by simp)
  unfold names3 at hrun
  rw [hrun]
  have HO3 := Lib.hid ho
  have HR3 := Lib.hid hR
  have HZ3 := Lib.hid hz
  have HL3 := Lib.hid hO
  clear hrun ho hR hz hO
  go_wp2_with fail
  obtain ⟨wx4, hrun, ho, hR, hz, hO⟩ := put_list HO3.out (by omega) 4 rfl names4 2 wx3.heap.size (by simp)
  unfold names4 at hrun
  rw [hrun]
  have HO4 := Lib.hid ho
  have HR4 := Lib.hid hR
  have HZ4 := Lib.hid hz
  have HL4 := Lib.hid hO
  clear hrun ho hR hz hO
  go_wp2_with fail
  obtain ⟨wx5, hrun, ho, hR, hz, hO⟩ := put_list HO4.out (by omega) 5 rfl names5 1 wx4.heap.size (by simp)
  unfold names5 at hrun
  rw [hrun]
  have HO5 := Lib.hid ho
  have HR5 := Lib.hid hR
  have HZ5 := Lib.hid hz
  have HL5 := Lib.hid hO
  clear hrun ho hR hz hO
  go_wp2_with fail
  obtain ⟨wx6, hrun, ho, hR, hz, hO⟩ := put_list HO5.out (by omega) 6 rfl names6 1 wx5.heap.size (by simp)
  unfold names6 at hrun
  rw [hrun]
  have HO6 := Lib.hid ho
  have HR6 := Lib.hid hR
  have HZ6 := Lib.hid hz
  have HL6 := Lib.hid hO
  clear hrun ho hR hz hO
  have hs1 : w.heap.size + 1 < wx1.heap.size := HZ1.out
  have HS1 := Lib.hid hs1
  clear hs1
  have HGET := Lib.hid (get_list HO6.out k HK.out)
  have hget := HGET.out
  go_wp2
  go_ret
  have l2 := HL2.out
  have l3 := HL3.out
  have l4 := HL4.out
  have l5 := HL5.out
  have l6 := HL6.out
  have z1 := HS1.out
  have z2 := l2.size
  have z3 := l3.size
  have z4 := l4.size
  have z5 := l5.size
  have hq := HL1.out
  have q0 : Only Nil w (w.alloc (.map #[] 0)) := (Only.refl _ _).alloc _
  have q1 : Only Nil w wx6 := (((((q0.step hq (fun i hi h => by omega)).step l2 (fun i hi h => by omega)).step l3 (fun i hi h => by omega)).step l4 (fun i hi h => by omega)).step l5 (fun i hi h => by omega)).step l6 (fun i hi h => by omega)
  exact ⟨_, _, _, _, _, _, rfl, by omega, by omega, by omega, by omega, by omega, by omega,
    ((((HR1.out.only l2 (by omega)).only l3 (by omega)).only l4 (by omega)).only l5 (by omega)).only l6 (by omega),
    (((HR2.out.only l3 (by omega)).only l4 (by omega)).only l5 (by omega)).only l6 (by omega),
    ((HR3.out.only l4 (by omega)).only l5 (by omega)).only l6 (by omega),
    (HR4.out.only l5 (by omega)).only l6 (by omega), HR5.out.only l6 (by omega), HR6.out, q1⟩
theorem ownNames_yes (k : Int) (w : World) (hk : 1 ≤ k ∧ k ≤ 6) : Calls Tryz.prog 16 #[.int .i64 k] w (NamesAt k w) := by
  have hwf : (Lit.int .i64 k).wf = true := by rcases kinds hk with rfl | rfl | rfl | rfl | rfl | rfl <;> rfl
  refine (ownNames_in k w hwf).mono fun e w' ⟨g1, g2, g3, g4, g5, g6, he, b1, b2, b3, b4, b5, b6, r1, r2, r3, r4, r5, r6, hO⟩ => ?_
  rcases kinds hk with rfl | rfl | rfl | rfl | rfl | rfl
  · exact ⟨g1, he, b1, r1, hO⟩
  · exact ⟨g2, he, b2, r2, hO⟩
  · exact ⟨g3, he, b3, r3, hO⟩
  · exact ⟨g4, he, b4, r4, hO⟩
  · exact ⟨g5, he, b5, r5, hO⟩
  · exact ⟨g6, he, b6, r6, hO⟩
end Go.Proofs.YtocdbeonogfopaaGreat
namespace Go.Proofs.YtocdbeonogfopaaGreat
open Go.RowKit
def wordI (k : Int) (c : Nat) (b : Int) : Int :=
  if k = 1 ∧ c ≤ 2 then b else if k = 2 ∧ c ≤ 1 then b * 256 % 4294967296 else if k = 2 ∧ c ≤ 4 then b else if k = 3 ∧ c ≤ 1 then b * 256 % 4294967296 else if k = 3 ∧ c = 3 then b
  else if k = 6 ∧ c = 0 then b % 256 * 256 + b % 256 * 65536 else 0
theorem low8 {x : Int} (hx : 0 ≤ x ∧ x < 4294967296) : bits .and .u32 x 255 = x % 256 := by
  have := bits_mask .u32 32 (by decide) (fun k h0 h1 => by rw [IntKind.wrap_u32']; omega) 8 (by omega) x hx.1 (by simpa using hx.2)
  simpa using this
theorem both8 {b : Int} (hb : 0 ≤ b ∧ b < 4294967296) :
    bits BinOp.or IntKind.u32 (bits BinOp.and IntKind.u32 b 255 * 256 % 4294967296) (bits BinOp.and IntKind.u32 b 255 * 65536 % 4294967296) = b % 256 * 256 + b % 256 * 65536 := by
  rw [low8 hb]
  obtain ⟨X, hX⟩ := Int.eq_ofNat_of_zero_le (show 0 ≤ b % 256 by omega)
  have hX' : X < 256 := by omega
  rw [hX, show (X : Int) * 256 % 4294967296 = ((X * 256 : Nat) : Int) by omega, show (X : Int) * 65536 % 4294967296 = ((X * 65536 : Nat) : Int) by omega,
    u32_or_nat _ _ (by omega) (by omega), Nat.or_comm, nat_join 16 _ _ (by omega) (by omega)]
  omega
theorem firstWord_one (k : Int) (c : Nat) (s : ByteArray) (b : Int) (w : World) (hk : 1 ≤ k ∧ k ≤ 6) (hs : (ownV k)[c]? = some (.string s)) (hb : 0 ≤ b ∧ b < 4294967296) :
    Calls Tryz.prog 19 #[.int .i64 k, .string s, .int .u32 b] w fun e w' => e = .returned (.int .u32 (wordI k c b)) ∧ w = w' := by
  obtain ⟨b1, b2⟩ := hb
  rcases kinds hk with rfl | rfl | rfl | rfl | rfl | rfl
  · clear hk
    have hc : c < 3 := (Array.getElem?_eq_some_iff.1 hs).1
    rcases (show c = 0 ∨ c = 1 ∨ c = 2 by omega) with rfl | rfl | rfl
    all_goals
      injection (Option.some.inj hs) with hs
      subst hs
      go_enter Tryz.func19, Tryz.ntmps19
      go_wp2
      go_ret
      first | exact ⟨rfl, rfl⟩ | (refine ⟨ret_int ?_, rfl⟩; simp [wordI]; done) | (refine ⟨ret_int ?_, rfl⟩; simp [wordI]; exact both8 ⟨b1, b2⟩)
  · clear hk
    have hc : c < 5 := (Array.getElem?_eq_some_iff.1 hs).1
    rcases (show c = 0 ∨ c = 1 ∨ c = 2 ∨ c = 3 ∨ c = 4 by omega) with rfl | rfl | rfl | rfl | rfl
    all_goals
      injection (Option.some.inj hs) with hs
      subst hs
      go_enter Tryz.func19, Tryz.ntmps19
      go_wp2
      go_ret
      first | exact ⟨rfl, rfl⟩ | (refine ⟨ret_int ?_, rfl⟩; simp [wordI]; done) | (refine ⟨ret_int ?_, rfl⟩; simp [wordI]; exact both8 ⟨b1, b2⟩)
  · clear hk
    have hc : c < 4 := (Array.getElem?_eq_some_iff.1 hs).1
    rcases (show c = 0 ∨ c = 1 ∨ c = 2 ∨ c = 3 by omega) with rfl | rfl | rfl | rfl
    all_goals
      injection (Option.some.inj hs) with hs
      subst hs
      go_enter Tryz.func19, Tryz.ntmps19
      go_wp2
      go_ret
      first | exact ⟨rfl, rfl⟩ | (refine ⟨ret_int ?_, rfl⟩; simp [wordI]; done) | (refine ⟨ret_int ?_, rfl⟩; simp [wordI]; exact both8 ⟨b1, b2⟩)
  · clear hk
    have hc : c < 2 := (Array.getElem?_eq_some_iff.1 hs).1
    rcases (show c = 0 ∨ c = 1 by omega) with rfl | rfl
    all_goals
      injection (Option.some.inj hs) with hs
      subst hs
      go_enter Tryz.func19, Tryz.ntmps19
      go_wp2
      go_ret
      first | exact ⟨rfl, rfl⟩ | (refine ⟨ret_int ?_, rfl⟩; simp [wordI]; done) | (refine ⟨ret_int ?_, rfl⟩; simp [wordI]; exact both8 ⟨b1, b2⟩)
  · clear hk
    have hc : c < 1 := (Array.getElem?_eq_some_iff.1 hs).1
    rcases (show c = 0 by omega) with rfl
    all_goals
      injection (Option.some.inj hs) with hs
      subst hs
      go_enter Tryz.func19, Tryz.ntmps19
      go_wp2
      go_ret
      first | exact ⟨rfl, rfl⟩ | (refine ⟨ret_int ?_, rfl⟩; simp [wordI]; done) | (refine ⟨ret_int ?_, rfl⟩; simp [wordI]; exact both8 ⟨b1, b2⟩)
  · clear hk
    have hc : c < 1 := (Array.getElem?_eq_some_iff.1 hs).1
    rcases (show c = 0 by omega) with rfl
    all_goals
      injection (Option.some.inj hs) with hs
      subst hs
      go_enter Tryz.func19, Tryz.ntmps19
      go_wp2
      go_ret
      first | exact ⟨rfl, rfl⟩ | (refine ⟨ret_int ?_, rfl⟩; simp [wordI]; done) | (refine ⟨ret_int ?_, rfl⟩; simp [wordI]; exact both8 ⟨b1, b2⟩)
-- FIRST
theorem infoF : (Tryz.prog.info? 22).map (fun i => (i.zero, i.size, i.bytes)) = some (some (.int .u32 0), 1, 4) := by kernel_rfl
def words (k : Int) (S c : Nat) (b : Int) : List Int := (List.range S).map fun j => if j < c then wordI k j b else 0
def cellsOf (l : List Int) : Array Value := (l.map (Value.int .u32)).toArray
theorem words_zero (k : Int) (S : Nat) (b : Int) : words k S 0 b = List.replicate S 0 := by
  apply List.ext_getElem
  · simp [words]
  · intro i h1 h2; simp [words]
theorem words_at (k : Int) (S c : Nat) (b : Int) (h : c < S) : (cellsOf (words k S c b))[c]? = some (.int .u32 0) := by
  simp [cellsOf, words, h]
theorem words_next (k : Int) (S c : Nat) (b : Int) : (cellsOf (words k S c b)).setIfInBounds c (.int .u32 (wordI k c b)) = cellsOf (words k S (c + 1) b) := by
  apply Array.ext_getElem?
  intro i
  rw [Array.getElem?_setIfInBounds]
  by_cases hi : c = i
  · subst hi
    by_cases hS : c < S
    · simp [cellsOf, words, hS]
    · simp [cellsOf, words, hS]
  · simp only [hi, if_false]
    simp only [cellsOf, words, List.getElem?_toArray, List.getElem?_map]
    rcases Nat.lt_or_ge i S with h | h
    · rw [List.getElem?_range h]
      simp only [Option.map_some]
      by_cases h2 : i < c
      · rw [if_pos h2, if_pos (by omega)]
      · rw [if_neg h2, if_neg (by omega)]
    · rw [List.getElem?_eq_none (by simpa using h)]
      rfl
theorem made_is (k : Int) (S : Nat) (b : Int) : madeCells #[.int .u32 0] S = cellsOf (words k S 0 b) := by
  apply Array.ext'
  rw [toList_madeCells_one, words_zero]
  simp [cellsOf]
def FirstAt (k b : Int) (S : Nat) (w : World) (e : Ending) (w' : World) : Prop :=
  ∃ g, e = .returned (.tuple #[.slice (some ⟨g, 0, none⟩) S S, .int .i64 0]) ∧ w.heap.size ≤ g ∧ Row w' g 22 (cellsOf (words k S (ownV k).size b)) ∧ Only Nil w w'
set_option maxHeartbeats 1000000 in
theorem first_yes (k n b : Int) (S : Nat) (w : World) (hk : 1 ≤ k ∧ k ≤ 6) (hn : 1 ≤ n ∧ n ≤ 64) (hS : sizeI n = S) (hb : 0 ≤ b ∧ b < 4294967296) :
    Calls Tryz.prog 7 #[.int .i64 k, .int .i64 n, .int .u32 b] w (FirstAt k b S w) := by
  have hz : sizeI n = 8 + 4 * n := if_pos hn
  have s1 : 12 ≤ S := by omega
  have s2 : S ≤ 300 := by omega
  have HS := Lib.hid hS
  have HB := Lib.hid hb
  have HK := Lib.hid hk
  have HN := Lib.hid hn
  clear hz hS hb hk hn
  have hmk := fun W => run_make_row' (P := Tryz.prog) 25 22 (.int .u32 0) 4 Tryz.underlying25 infoF rfl .i64 .i64 S (by omega) (by omega) W
  have qT : ∀ (w : World) (a : Option Addr) (n c n' c' : Nat), (binOp .eql 65 (.slice a n c) (.slice none n' c')).run Tryz.prog w = .ok (.bool a.isNone) w := fun w a n c n' c' => Lib.run_eql_slice_nil w _ _ a n c n' c' Tryz.underlying65
  go_enter Tryz.func7, Tryz.ntmps7
  go_wp2_with fail
  refine (ownNames_yes k _ HK.out).mono ?_
  intro e w1 hF
  obtain ⟨gn, rfl, hgn, hR, hO⟩ := hF
  have HL := Lib.hid (own_size k HK.out)
  have HA := Lib.hid (name_at k HK.out)
  have HWX := Lib.hid (firstWord_one k)
  generalize hLe : (ownV k).size = L at *
  have HLE := Lib.hid hLe
  have HR1 := Lib.hid hR
  have HO1 := Lib.hid hO
  have HG := Lib.hid hgn
  clear hLe hR hO hgn
  go_wp2_with fail
  refine (new_yes n _ HN.out).mono ?_
  rintro e w2 ⟨rfl, hO⟩
  have HO2 := Lib.hid ((HO1.out.trans hO).alloc (.cells #[.int .i64 n] 57))
  have HR2 := Lib.hid ((HR1.out.only hO id).alloc (.cells #[.int .i64 n] 57))
  clear hO
  go_wp2_with fail
  refine (size_any n _).mono ?_
  rw [HS.out]
  rintro e w3 ⟨rfl, hO⟩
  have HO3 := Lib.hid (HO2.out.trans hO)
  have HR3 := Lib.hid (HR2.out.only hO id)
  clear hO
  go_wp2
  have HM : Hid (Row (w3.alloc (.cells (madeCells #[.int .u32 0] S) 22)) w3.heap.size 22 (cellsOf (words k S 0 b))) := Lib.hid (by rw [← made_is]; exact Row.new _ _ _)
  have HO4 := Lib.hid (HO3.out.alloc (.cells (madeCells #[.int .u32 0] S) 22))
  have HR4 := Lib.hid (HR3.out.alloc (.cells (madeCells #[.int .u32 0] S) 22))
  have l1 := HL.out.1
  have l2 := HL.out.2
  have HZ := Lib.hid (show w.heap.size ≤ w3.heap.size ∧ gn < w3.heap.size from ⟨HO3.out.size, HR3.out.lt⟩)
  generalize w3.heap.size = gw at *
  clear hmk qT
  go_loopw [31] (fun i wr => ∃ c : Nat, c ≤ L ∧ i = .int .i64 c ∧ Row wr gw 22 (cellsOf (words k S c b)) ∧ Row wr gn 9 (ownV k) ∧ Only Nil w wr) (fun i _ => L - (intOf i).toNat)
  case atStart => exact ⟨0, Nat.zero_le _, rfl, HM.out, HR4.out, HO4.out⟩
  case round =>
    obtain ⟨c, hc, rfl, hrw, hrn, hor⟩ := hrel
    have HRW := Lib.hid hrw
    have HRN := Lib.hid hrn
    have HOR := Lib.hid hor
    clear hrw hrn hor
    by_cases hlt : c < L
    · obtain ⟨s, hs⟩ := HA.out c hlt
      have hcs : c < S := by omega
      have c0 := HRN.out.cell_ hs
      have c1 := HRW.out.cell_ (words_at k S c b hcs)
      have f1 := HRW.out.frozen c
      have HSS := Lib.hid hs
      clear hs
      go_wp2_with fail
      refine (HWX.out c s b _ HK.out HSS.out HB.out).mono ?_
      rintro e w' ⟨rfl, rfl⟩
      generalize hwd : wordI k c b = wd
      have HWD := Lib.hid hwd
      clear hwd
      go_wp2
      have hfin := HRW.out.set c (.int .u32 wd)
      rw [← HWD.out, words_next] at hfin
      refine ⟨⟨c + 1, by omega, by go_num, by rw [← HWD.out]; exact hfin, HRN.out.far (by have := HZ.out.2; simp; omega) _, HOR.out.setCell (p := ⟨gw, c, none⟩) (.inl HZ.out.1) _⟩, by simp [intOf]; omega⟩
    · have hkn : c = L := by omega
      have HC := Lib.hid hkn
      clear hkn
      go_wp2
      go_ret2
      refine ⟨gw, rfl, HZ.out.1, ?_, HOR.out⟩
      rw [HLE.out, ← HC.out]
      exact HRW.out
-- REF
end Go.Proofs.YtocdbeonogfopaaGreat
set_option linter.unusedVariables false
set_option linter.unusedSimpArgs false
namespace Go.Proofs.YtocdbeonogfopaaGreat
open Go.RowKit
theorem Row.ints {w : World} {g : Nat} {t : TypeId} {k : IntKind} {xs : List Int} (h : Row w g t ((xs.map (Value.int k)).toArray)) : Ints w w.heap.size k (some ⟨g, 0, none⟩) xs := fun _ => by
  refine ⟨g, 0, rfl, h.lt, fun i hi => ?_⟩
  rw [Nat.zero_add]
  refine h.cell_ ?_
  simp [List.getD, List.getElem?_eq_getElem hi]
end Go.Proofs.YtocdbeonogfopaaGreat
set_option linter.unusedVariables false
set_option linter.unusedSimpArgs false
namespace Go.Proofs.YtocdbeonogfopaaGreat
open Go.RowKit
def NoWatch (k : Nat) (xs : List Int) : Prop := ∀ i : Nat, i < k → there xs (wc k i) = true ∧ wordAt xs (wc k i) = 0
section
variable {chk : LS → Bool} {L : LS → LS} {r : LS}
theorem alone_sweepQ (hk0 : Chk chk) {xs : List Int} {k : Nat} (hk : 1 ≤ k ∧ k ≤ 64) {c : Int} (hc : 0 ≤ c ∧ c < 8) (hW : NoWatch k xs) (m : Nat) : ∀ (j : Nat) (r : LS), j < k → r.n = k → r.xs = xs → r.k = ⟨true, c, ((k - 1 - j : Nat) : Int), false⟩ → r.s = 0 →
    0 < m ∨ r.ret ≠ 0 → aloneG chk L (j + 1 + m) r = if r.ret ≠ 0 then (r.ret, r.xs) else aloneG chk L m { r with k := wk0 } := by
  intro j
  induction j with
  | zero =>
    intro r hj hn hx hr hs0 hm
    have hw : r.next L = { r with acc := ofV r.wakeR.acc, ns := [], k := wk0 } := by
      unfold LS.next
      rw [show r.k.on = true by rw [hr], if_pos rfl]
      unfold LS.waking LS.wakeR
      rw [hr, hn, hx]
      have hcl := hW (k - 1 - 0) (by omega)
      simp only [wakeI, lookI, if_true, hcl.1, hcl.2, Bool.false_eq_true, if_false]
      rw [if_neg (by omega)]
      simp only [nextI]
      rw [if_pos (by omega)]
    by_cases hret : r.ret = 0
    · rw [if_neg (by simpa using hret)]
      have hm0 : 0 < m := by rcases hm with h | h; exact h; exact absurd hret h
      rw [show 0 + 1 + m = m + 1 by omega, alone_on hk0 hs0 (by rw [hw]; simp [LS.over, hret]), hw]
      exact alone_like hk0 hm0 rfl
    · rw [if_pos hret, show 0 + 1 + m = m + 1 by omega, alone_end hk0 hs0 (by rw [hw]; simp [LS.over, hret, wk0]), hw]
  | succ j ih =>
    intro r hj hn hx hr hs0 hm
    have hw : r.next L = { r with acc := ofV r.wakeR.acc, ns := [], k := ⟨true, c, ((k - 1 - j : Nat) : Int), false⟩ } := by
      unfold LS.next
      rw [show r.k.on = true by rw [hr], if_pos rfl]
      unfold LS.waking LS.wakeR
      rw [hr, hn, hx]
      have hcl := hW (k - 1 - (j + 1)) (by omega)
      simp only [wakeI, lookI, if_true, hcl.1, hcl.2, Bool.false_eq_true, if_false]
      rw [if_neg (by omega)]
      simp only [nextI]
      rw [if_neg (by omega), show ((k - 1 - (j + 1) : Nat) : Int) + 1 = ((k - 1 - j : Nat) : Int) by omega]
    rw [show j + 1 + 1 + m = (j + 1 + m) + 1 by omega, alone_on hk0 hs0 (by rw [hw]; simp [LS.over]), hw]
    refine (ih { r with acc := ofV r.wakeR.acc, ns := [], k := ⟨true, c, ((k - 1 - j : Nat) : Int), false⟩ } (by omega) hn hx rfl hs0 hm).trans ?_
    by_cases hret : r.ret = 0
    · rw [if_neg (by simpa using hret), if_neg (by simpa using hret)]
      exact alone_like hk0 (hm.resolve_right (by simpa using hret)) rfl
    · rw [if_pos hret, if_pos hret]
theorem alone_doneQ (hk0 : Chk chk) {k : Nat} (hk : 1 ≤ k ∧ k ≤ 64) {c : Int} (hc : 0 ≤ c ∧ c < 8) {m : Nat} {r r' : LS} {mode : Int} (he : r.next L = r') (hn : r'.n = k) (hW : NoWatch k r'.xs) (hr : r'.k = beginI mode c) (hret : r'.ret ≠ 0) (hs0 : r.s = 0) (hs1 : r'.s = 0) (hm : k < m) :
    aloneG chk L m r = (r'.ret, r'.xs) := by
  obtain ⟨m, rfl⟩ : ∃ q, m = q + 1 := ⟨m - 1, by omega⟩
  by_cases h2 : mode = 2
  · subst h2
    rw [alone_on hk0 hs0 (by rw [he]; simp [LS.over, hr, beginI_2]), he]
    have e := alone_sweepQ (L := L) hk0 hk hc hW (m - k) (k - 1) r' (by omega) hn rfl (by rw [hr, beginI_2]; simp) hs1 (.inr hret)
    rw [show k - 1 + 1 + (m - k) = m by omega, if_pos hret] at e
    exact e
  · rw [beginI_no h2] at hr
    rw [alone_end hk0 hs0 (by rw [he]; simp [LS.over, hr, wk0, hret]), he]
end
end Go.Proofs.YtocdbeonogfopaaGreat
set_option linter.unusedVariables false
set_option linter.unusedSimpArgs false
namespace Go.Proofs.YtocdbeonogfopaaGreat
open Go.RowKit
theorem stepI_seen {xs : List Int} {n mode i c : Int} {q : Int → Bool} (h : q (wordAt xs c) = true) : (stepI xs n mode i 0 c q).next = 0 ∧ (stepI xs n mode i 0 c q).seen = true ∧ (stepI xs n mode i 0 c q).done = true ∧ (stepI xs n mode i 0 c q).xs = xs := by
  by_cases hm : mode = 2
  · subst hm
    rw [stepI_0 (by decide) (by decide) (by decide) (by decide), h]
    exact ⟨rfl, rfl, rfl, rfl⟩
  · rw [stepI_spin hm, h]
    exact ⟨rfl, rfl, rfl, rfl⟩
theorem ahead_self (a : Int) : aheadI a a = 0 := by unfold aheadI; omega
end Go.Proofs.YtocdbeonogfopaaGreat
set_option linter.unusedVariables false
set_option linter.unusedSimpArgs false
namespace Go.Proofs.YtocdbeonogfopaaGreat
structure QS where
  tail : Int
  nx : Nat → Int
  bl : Nat → Int
  ph : Nat → Nat
  pr : Nat → Int
structure QInv (k m : Nat) (q : Nat → Nat) (s : QS) : Prop where
  nd : ∀ i j, i < m → j < m → q i = q j → i = j
  lt : ∀ i, i < m → q i < k
  tl : s.tail = if m = 0 then 0 else ((q (m - 1) : Nat) : Int) + 1
  inq : ∀ i, i < m → s.ph (q i) ≠ 0
  out : ∀ t, t < k → s.ph t ≠ 0 → ∃ j, j < m ∧ q j = t
  hd : 0 < m → s.ph (q 0) = 5 ∨ (s.ph (q 0) = 4 ∧ s.bl (q 0) = 0)
  pair : ∀ j, j + 1 < m → s.bl (q (j + 1)) = 1 ∧ ((s.ph (q (j + 1)) = 3 ∧ s.pr (q (j + 1)) = ((q j : Nat) : Int) + 1 ∧ s.nx (q j) = 0) ∨ (s.ph (q (j + 1)) = 4 ∧ s.nx (q j) = ((q (j + 1) : Nat) : Int) + 1))
  last : 0 < m → s.nx (q (m - 1)) = 0
section
variable {k m t : Nat} {q : Nat → Nat} {s : QS}
theorem QInv.first (h : QInv k m q s) (ht : t < k) (h5 : s.ph t = 5) : 0 < m ∧ q 0 = t := by
  obtain ⟨j, hj, e⟩ := h.out t ht (by omega)
  cases j with
  | zero => exact ⟨hj, e⟩
  | succ j =>
    have := (h.pair j hj).2
    rw [e, h5] at this
    omega
theorem QInv.free (h : QInv k m q s) (ht : t < k) (h4 : s.ph t = 4) (hb : s.bl t = 0) : 0 < m ∧ q 0 = t := by
  obtain ⟨j, hj, e⟩ := h.out t ht (by omega)
  cases j with
  | zero => exact ⟨hj, e⟩
  | succ j =>
    have := (h.pair j hj).1
    rw [e, hb] at this
    omega
theorem QInv.own (h : QInv k m q s) (ht : t < k) (h0 : s.ph t = 0) (x y : Int) : QInv k m q { s with nx := upd s.nx t x, bl := upd s.bl t y } := by
  have far : ∀ i, i < m → q i ≠ t := fun i hi e => h.inq i hi (by rw [e]; exact h0)
  refine ⟨h.nd, h.lt, h.tl, h.inq, h.out, fun hm => ?_, fun j hj => ?_, fun hm => ?_⟩
  · show _ ∨ (_ ∧ upd s.bl t y (q 0) = 0)
    rw [upd_other _ _ (far 0 hm)]; exact h.hd hm
  · show upd s.bl t y (q (j + 1)) = 1 ∧ ((_ ∧ _ ∧ upd s.nx t x (q j) = 0) ∨ (_ ∧ upd s.nx t x (q j) = _))
    rw [upd_other _ _ (far _ hj), upd_other _ _ (far j (by omega))]; exact h.pair j hj
  · show upd s.nx t x (q (m - 1)) = 0
    rw [upd_other _ _ (far _ (by omega))]; exact h.last hm
theorem QInv.swap0 (h : QInv k m q s) (ht : t < k) (h0 : s.ph t = 0) (hn : s.nx t = 0) (hz : s.tail = 0) : m = 0 ∧ QInv k 1 (fun _ => t) { s with tail := (t : Int) + 1, ph := upd s.ph t 5 } := by
  have hm : m = 0 := by
    by_cases e : m = 0
    · exact e
    · have := h.tl
      rw [if_neg e, hz] at this
      omega
  subst hm
  refine ⟨rfl, fun i j hi hj _ => by omega, fun _ _ => ht, by simp, fun i hi => ?_, fun u hu h1 => ⟨0, by omega, ?_⟩, fun _ => .inl ?_, fun j hj => by omega, fun _ => hn⟩
  · show upd s.ph t 5 t ≠ 0
    rw [upd_same]; omega
  · by_cases e : u = t
    · exact e.symm
    · exfalso
      have h1' : upd s.ph t 5 u ≠ 0 := h1
      rw [upd_other _ _ e] at h1'
      obtain ⟨j, hj, _⟩ := h.out u hu h1'
      omega
  · exact upd_same _ _ _
theorem QInv.swap1 (h : QInv k m q s) (ht : t < k) (h0 : s.ph t = 0) (hn : s.nx t = 0) (hb : s.bl t = 1) (hz : s.tail ≠ 0) : 0 < m ∧ QInv k (m + 1) (upd q m t) { s with tail := (t : Int) + 1, ph := upd s.ph t 3, pr := upd s.pr t s.tail } := by
  have hm : 0 < m := by
    by_cases e : m = 0
    · exact absurd (by rw [h.tl, if_pos e]) hz
    · omega
  have far : ∀ i, i < m → q i ≠ t := fun i hi e => h.inq i hi (by rw [e]; exact h0)
  have old : ∀ i, i < m → upd q m t i = q i := fun i hi => upd_other _ _ (by omega)
  have new : upd q m t m = t := upd_same _ _ _
  have hpo : ∀ i, i < m → upd s.ph t 3 (q i) = s.ph (q i) := fun i hi => upd_other _ _ (far i hi)
  have hro : ∀ i, i < m → upd s.pr t s.tail (q i) = s.pr (q i) := fun i hi => upd_other _ _ (far i hi)
  refine ⟨hm, fun i j hi hj e => ?_, fun i hi => ?_, ?_, fun i hi => ?_, fun u hu h1 => ?_, fun _ => ?_, fun j hj => ?_, fun _ => ?_⟩
  · by_cases ei : i = m
    · by_cases ej : j = m
      · omega
      · rw [ei, new, old j (by omega)] at e
        exact absurd e.symm (far j (by omega))
    · by_cases ej : j = m
      · rw [ej, new, old i (by omega)] at e
        exact absurd e (far i (by omega))
      · rw [old i (by omega), old j (by omega)] at e
        exact h.nd i j (by omega) (by omega) e
  · by_cases e : i = m
    · rw [e, new]; exact ht
    · rw [old i (by omega)]; exact h.lt i (by omega)
  · show (t : Int) + 1 = _
    rw [if_neg (by omega), Nat.add_sub_cancel, new]
  · show upd s.ph t 3 (upd q m t i) ≠ 0
    by_cases e : i = m
    · rw [e, new, upd_same]; omega
    · rw [old i (by omega), hpo i (by omega)]; exact h.inq i (by omega)
  · by_cases e : u = t
    · exact ⟨m, by omega, by rw [new, e]⟩
    · have h1' : upd s.ph t 3 u ≠ 0 := h1
      rw [upd_other _ _ e] at h1'
      obtain ⟨j, hj, e2⟩ := h.out u hu h1'
      exact ⟨j, by omega, by rw [old j hj, e2]⟩
  · show upd s.ph t 3 (upd q m t 0) = 5 ∨ (upd s.ph t 3 (upd q m t 0) = 4 ∧ s.bl (upd q m t 0) = 0)
    rw [old 0 hm, hpo 0 hm]; exact h.hd hm
  · show s.bl (upd q m t (j + 1)) = 1 ∧ ((upd s.ph t 3 (upd q m t (j + 1)) = 3 ∧ upd s.pr t s.tail (upd q m t (j + 1)) = ((upd q m t j : Nat) : Int) + 1 ∧ s.nx (upd q m t j) = 0) ∨ (upd s.ph t 3 (upd q m t (j + 1)) = 4 ∧ s.nx (upd q m t j) = ((upd q m t (j + 1) : Nat) : Int) + 1))
    by_cases e : j + 1 = m
    · rw [e, new, old j (by omega), upd_same, upd_same]
      have e1 : m - 1 = j := by omega
      refine ⟨hb, .inl ⟨rfl, ?_, ?_⟩⟩
      · rw [h.tl, if_neg (by omega), e1]
      · have := h.last hm
        rwa [e1] at this
    · rw [old (j + 1) (by omega), old j (by omega), hpo (j + 1) (by omega), hro (j + 1) (by omega)]
      exact h.pair j (by omega)
  · show s.nx (upd q m t (m + 1 - 1)) = 0
    rw [Nat.add_sub_cancel, new]; exact hn
theorem QInv.link (h : QInv k m q s) (ht : t < k) (h3 : s.ph t = 3) : ∃ p, p < k ∧ p ≠ t ∧ s.nx p = 0 ∧ s.ph p ≠ 0 ∧ s.pr t = (p : Int) + 1 ∧ (0 < m ∧ q 0 ≠ t) ∧ QInv k m q { s with nx := upd s.nx p ((t : Int) + 1), ph := upd s.ph t 4 } := by
  obtain ⟨j, hj, e⟩ := h.out t ht (by omega)
  cases j with
  | zero =>
    have := h.hd hj
    rw [e, h3] at this
    omega
  | succ j =>
    obtain ⟨hb, hp⟩ := h.pair j hj
    have hp' : s.pr t = ((q j : Nat) : Int) + 1 ∧ s.nx (q j) = 0 := by
      rcases hp with ⟨_, hp⟩ | ⟨hp, _⟩
      · rwa [e] at hp
      · rw [e, h3] at hp; omega
    refine ⟨q j, h.lt j (by omega), fun e3 => (by have := h.nd j (j + 1) (by omega) hj (by rw [e3, e]); omega), hp'.2, h.inq j (by omega), hp'.1, ⟨by omega, fun e3 => (by have := h.nd 0 (j + 1) (by omega) hj (by rw [e3, e]); omega)⟩, h.nd, h.lt, h.tl, fun i hi => ?_, fun u hu h1 => ?_, fun hm => ?_, fun i hi => ?_, fun hm => ?_⟩
    · show upd s.ph t 4 (q i) ≠ 0
      by_cases e2 : q i = t
      · rw [e2, upd_same]; omega
      · rw [upd_other _ _ e2]; exact h.inq i hi
    · have h1' : upd s.ph t 4 u ≠ 0 := h1
      by_cases e2 : u = t
      · exact ⟨j + 1, hj, by rw [e, e2]⟩
      · rw [upd_other _ _ e2] at h1'
        exact h.out u hu h1'
    · show upd s.ph t 4 (q 0) = 5 ∨ (upd s.ph t 4 (q 0) = 4 ∧ s.bl (q 0) = 0)
      have : q 0 ≠ t := fun e2 => by have := h.nd 0 (j + 1) hm hj (by rw [e2, e]); omega
      rw [upd_other _ _ this]; exact h.hd hm
    · show s.bl (q (i + 1)) = 1 ∧ ((upd s.ph t 4 (q (i + 1)) = 3 ∧ s.pr (q (i + 1)) = ((q i : Nat) : Int) + 1 ∧ upd s.nx (q j) ((t : Int) + 1) (q i) = 0) ∨ (upd s.ph t 4 (q (i + 1)) = 4 ∧ upd s.nx (q j) ((t : Int) + 1) (q i) = ((q (i + 1) : Nat) : Int) + 1))
      by_cases e2 : i = j
      · subst e2
        rw [e, upd_same, upd_same]
        rw [e] at hb
        exact ⟨hb, .inr ⟨rfl, rfl⟩⟩
      · have n1 : q (i + 1) ≠ t := fun e3 => by have := h.nd (i + 1) (j + 1) hi hj (by rw [e3, e]); omega
        have n2 : q i ≠ q j := fun e3 => by have := h.nd i j (by omega) (by omega) e3; omega
        rw [upd_other _ _ n1, upd_other _ _ n2]
        exact h.pair i hi
    · show upd s.nx (q j) ((t : Int) + 1) (q (m - 1)) = 0
      have n2 : q (m - 1) ≠ q j := fun e3 => by have := h.nd (m - 1) j (by omega) (by omega) e3; omega
      rw [upd_other _ _ n2]; exact h.last hm
theorem QInv.enter (h : QInv k m q s) (ht : t < k) (h4 : s.ph t = 4) (hb : s.bl t = 0) : 0 < m ∧ q 0 = t ∧ QInv k m q { s with ph := upd s.ph t 5 } := by
  obtain ⟨hm, e⟩ := h.free ht h4 hb
  have far : ∀ j, j + 1 < m → q (j + 1) ≠ t := fun j hj e2 => by have := h.nd 0 (j + 1) hm hj (by rw [e, e2]); omega
  refine ⟨hm, e, h.nd, h.lt, h.tl, fun i hi => ?_, fun u hu h1 => ?_, fun _ => .inl ?_, fun j hj => ?_, h.last⟩
  · show upd s.ph t 5 (q i) ≠ 0
    by_cases e2 : q i = t
    · rw [e2, upd_same]; omega
    · rw [upd_other _ _ e2]; exact h.inq i hi
  · have h1' : upd s.ph t 5 u ≠ 0 := h1
    by_cases e2 : u = t
    · exact ⟨0, hm, by rw [e, e2]⟩
    · rw [upd_other _ _ e2] at h1'
      exact h.out u hu h1'
  · show upd s.ph t 5 (q 0) = 5
    rw [e, upd_same]
  · show s.bl (q (j + 1)) = 1 ∧ ((upd s.ph t 5 (q (j + 1)) = 3 ∧ _ ∧ _) ∨ (upd s.ph t 5 (q (j + 1)) = 4 ∧ _))
    rw [upd_other _ _ (far j hj)]
    exact h.pair j hj
theorem QInv.empty (h : QInv k m q s) (ht : t < k) (h5 : s.ph t = 5) (hz : s.tail = (t : Int) + 1) : m = 1 ∧ QInv k 0 q { s with tail := 0, ph := upd s.ph t 0 } := by
  obtain ⟨hm, e⟩ := h.first ht h5
  have h1 : m = 1 := by
    have := h.tl
    rw [if_neg (by omega), hz] at this
    have := h.nd (m - 1) 0 (by omega) hm (by rw [e]; omega)
    omega
  subst h1
  refine ⟨rfl, fun i j hi => by omega, fun i hi => by omega, rfl, fun i hi => by omega, fun u hu h1 => ?_, fun hm => by omega, fun j hj => by omega, fun hm => by omega⟩
  exfalso
  have h1' : upd s.ph t 0 u ≠ 0 := h1
  by_cases e2 : u = t
  · rw [e2, upd_same] at h1'; exact h1' rfl
  · rw [upd_other _ _ e2] at h1'
    obtain ⟨j, hj, e3⟩ := h.out u hu h1'
    have : j = 0 := by omega
    rw [this, e] at e3
    exact e2 e3.symm
theorem QInv.hand (h : QInv k m q s) (ht : t < k) (h5 : s.ph t = 5) (hz : s.nx t ≠ 0) : ∃ p, p < k ∧ p ≠ t ∧ s.nx t = (p : Int) + 1 ∧ 1 < m ∧ q 1 = p ∧ s.ph p = 4 ∧ QInv k (m - 1) (fun j => q (j + 1)) { s with bl := upd s.bl p 0, ph := upd s.ph t 0 } := by
  obtain ⟨hm, e⟩ := h.first ht h5
  have h1 : 1 < m := by
    by_cases e1 : m = 1
    · have := h.last hm
      rw [e1, show 1 - 1 = 0 from rfl, e] at this
      exact absurd this hz
    · omega
  obtain ⟨_, hp⟩ := h.pair 0 h1
  rw [e] at hp
  have hp' : s.ph (q 1) = 4 ∧ s.nx t = ((q 1 : Nat) : Int) + 1 := by
    rcases hp with ⟨_, _, hp⟩ | hp
    · exact absurd hp hz
    · exact hp
  have hne : ∀ j, j + 1 < m → q (j + 1) ≠ t := fun j hj e2 => by have := h.nd 0 (j + 1) hm hj (by rw [e, e2]); omega
  refine ⟨q 1, h.lt 1 h1, hne 0 h1, hp'.2, h1, rfl, hp'.1, fun i j hi hj e2 => ?_, fun i hi => h.lt _ (by omega), ?_, fun i hi => ?_, fun u hu h1' => ?_, fun _ => .inr ⟨?_, ?_⟩, fun j hj => ?_, fun hm => ?_⟩
  · have := h.nd (i + 1) (j + 1) (by omega) (by omega) e2; omega
  · show s.tail = _
    rw [h.tl, if_neg (by omega), if_neg (by omega), show m - 1 - 1 + 1 = m - 1 by omega]
  · show upd s.ph t 0 (q (i + 1)) ≠ 0
    rw [upd_other _ _ (hne i (by omega))]; exact h.inq _ (by omega)
  · have h1'' : upd s.ph t 0 u ≠ 0 := h1'
    by_cases e2 : u = t
    · rw [e2, upd_same] at h1''; exact absurd rfl h1''
    · rw [upd_other _ _ e2] at h1''
      obtain ⟨j, hj, e3⟩ := h.out u hu h1''
      cases j with
      | zero => rw [e] at e3; exact absurd e3.symm e2
      | succ j => exact ⟨j, by omega, e3⟩
  · show upd s.ph t 0 (q (0 + 1)) = 4
    rw [upd_other _ _ (hne 0 h1)]; exact hp'.1
  · show upd s.bl (q 1) 0 (q (0 + 1)) = 0
    rw [upd_same]
  · show upd s.bl (q 1) 0 (q (j + 1 + 1)) = 1 ∧ ((upd s.ph t 0 (q (j + 1 + 1)) = 3 ∧ _ ∧ _) ∨ (upd s.ph t 0 (q (j + 1 + 1)) = 4 ∧ _))
    have n1 : q (j + 1 + 1) ≠ q 1 := fun e3 => by have := h.nd (j + 1 + 1) 1 (by omega) h1 e3; omega
    rw [upd_other _ _ n1, upd_other _ _ (hne (j + 1) (by omega))]
    exact h.pair (j + 1) (by omega)
  · show s.nx (q (m - 1 - 1 + 1)) = 0
    rw [show m - 1 - 1 + 1 = m - 1 by omega]
    exact h.last (by omega)
end
end Go.Proofs.YtocdbeonogfopaaGreat
set_option linter.unusedVariables false
set_option linter.unusedSimpArgs false
namespace Go.Proofs.YtocdbeonogfopaaGreat
section
variable {xs : List Int} {c d x y n mode i s : Int} {q : Int → Bool}
theorem own_add (hc : there xs c = true) : wordAt (doNew xs 3 c x 0) c = (x + wordAt xs c) % 4294967296 := by
  rw [doNew_st _ _ _ _ _ rfl, word_st, if_pos hc]; rfl
theorem own_add_far (h : c ≠ d) : wordAt (doNew xs 3 c x 0) d = wordAt xs d := by
  rw [doNew_st _ _ _ _ _ rfl, word_far _ h]
theorem own_load : doNew xs 1 c 0 0 = xs := by
  rw [doNew_st _ _ _ _ _ rfl]; exact st_word xs c
theorem own_cas (hc : there xs c = true) : wordAt (doNew xs 5 c x y) c = if wordAt xs c = x then y else wordAt xs c := by
  rw [doNew_st _ _ _ _ _ rfl, word_st, if_pos hc]; rfl
theorem own_cas_far (h : c ≠ d) : wordAt (doNew xs 5 c x y) d = wordAt xs d := by
  rw [doNew_st _ _ _ _ _ rfl, word_far _ h]
theorem own_wait (h1 : wc n i ≠ d) (h2 : pc n i ≠ d) : wordAt (stepI xs n mode i s c q).xs d = wordAt xs d := by
  unfold stepI
  (repeat' split) <;> first | rfl | exact word_far _ h1 | exact word_far _ h2
theorem own_wake {on hit : Bool} (h2 : pc n i ≠ d) : wordAt (wakeI xs n on c i hit).xs d = wordAt xs d := by
  unfold wakeI giveI lookI restI
  (repeat' split) <;> first | rfl | exact word_far _ h2
end
end Go.Proofs.YtocdbeonogfopaaGreat
set_option linter.unusedVariables false
set_option linter.unusedSimpArgs false
namespace Go.Proofs.YtocdbeonogfopaaGreat
def sumN (f : Nat → Nat) : Nat → Nat
  | 0 => 0
  | k + 1 => sumN f k + f k
theorem sumN_congr {f g : Nat → Nat} : ∀ {k : Nat}, (∀ i, i < k → f i = g i) → sumN f k = sumN g k
  | 0, _ => rfl
  | k + 1, h => by
    show sumN f k + f k = sumN g k + g k
    rw [sumN_congr (k := k) (fun i hi => h i (by omega)), h k (by omega)]
theorem sumN_upd {f g : Nat → Nat} {t : Nat} : ∀ {k : Nat}, t < k → (∀ i, i < k → i ≠ t → g i = f i) → sumN g k + f t = sumN f k + g t
  | 0, h, _ => absurd h (Nat.not_lt_zero _)
  | k + 1, h, ho => by
    show sumN g k + g k + f t = sumN f k + f k + g t
    by_cases e : t = k
    · subst e
      rw [sumN_congr (f := g) (g := f) (k := t) (fun i hi => ho i (by omega) (by omega))]
      omega
    · have := sumN_upd (f := f) (g := g) (t := t) (k := k) (by omega) (fun i hi hn => ho i (by omega) hn)
      have := ho k (by omega) (by omega)
      omega
theorem sumN_le {f g : Nat → Nat} : ∀ {k : Nat}, (∀ i, i < k → f i ≤ g i) → sumN f k ≤ sumN g k
  | 0, _ => Nat.le_refl _
  | k + 1, h => Nat.add_le_add (sumN_le (k := k) fun i hi => h i (by omega)) (h k (by omega))
theorem sumN_zero {f : Nat → Nat} : ∀ {k : Nat}, (∀ i, i < k → f i = 0) → sumN f k = 0
  | 0, _ => rfl
  | k + 1, h => by
    show sumN f k + f k = 0
    rw [sumN_zero (k := k) (fun i hi => h i (by omega)), h k (by omega)]
theorem sumN_at {f : Nat → Nat} {i : Nat} : ∀ {k : Nat}, i < k → f i ≤ sumN f k
  | 0, h => absurd h (Nat.not_lt_zero _)
  | k + 1, h => by
    show f i ≤ sumN f k + f k
    by_cases e : i = k
    · subst e; omega
    · have := sumN_at (f := f) (i := i) (k := k) (by omega); omega
theorem sumN_const {c : Nat} : ∀ {k : Nat}, sumN (fun _ => c) k = k * c
  | 0 => by simp [sumN]
  | k + 1 => by
    show sumN (fun _ => c) k + c = (k + 1) * c
    rw [sumN_const, Nat.add_mul, Nat.one_mul]
theorem sumN_add {f g : Nat → Nat} : ∀ {k : Nat}, sumN (fun i => f i + g i) k = sumN f k + sumN g k
  | 0 => rfl
  | k + 1 => by
    show sumN (fun i => f i + g i) k + (f k + g k) = sumN f k + f k + (sumN g k + g k)
    rw [sumN_add]; omega
end Go.Proofs.YtocdbeonogfopaaGreat
