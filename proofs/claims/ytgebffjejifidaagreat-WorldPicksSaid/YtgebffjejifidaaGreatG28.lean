import Derived.Test.YtgebffjejifidaaGreatG1
import Derived.Test.YtgebffjejifidaaGreatG27
import Derived.Test.YtgebffjejifidaaGreatG25
import Derived.Test.YtgebffjejifidaaGreatG10
set_option linter.unusedVariables false
set_option linter.unusedSimpArgs false
set_option maxHeartbeats 40000000
set_option maxRecDepth 100000
namespace Go.Proofs.YtgebffjejifidaaGreat
open Go.RowKit Tryz
theorem zc3(B:Nat)(p A:Option Addr)(cp:Nat)(nv:Value)(r:LS)(w:World)(h:RunP w B p A cp nv r)(hl:r.ns.length<=900)(hx:Words r.xs)(ha:0<=r.a/\r.a<4294967296)(hb:0<=r.b/\r.b<4294967296):Calls prog 77 #[Value.pointer (some ⟨B,0,none⟩)] w (ClS [224, 225, 227, 228, 230, 232, 233, 234, 297, 298, 299, 300, 302] B p A cp r r.pq w):=by
 obtain⟨ol,H1⟩:∃ol,Hid (r.op=ol):=⟨_,zh rfl⟩;obtain⟨ln,H2⟩:∃ln,Hid (r.line=ln):=⟨_,zh rfl⟩;have HX:=zh hx;have HL:=zh hl;have HA:=zh ha;have HB:=zh hb;have HP:=zh h
 have c4:w.cell? ⟨B,4,none⟩=some (.int .i64 ol):=by rw[←H1.out];exact HP.out.row.cell_ (i:=4) rfl
 have c5:w.cell? ⟨B,5,none⟩=some (.int .i64 ln):=by rw[←H2.out];exact HP.out.row.cell_ (i:=5) rfl
 clear h hl hx ha hb;go_enter func77, ntmps77
 go_upto_region 1 with(fail)
 refine qb (n:=11) 10 (fun w=>w.cell? ⟨B,4,none⟩=some (.int .i64 ol)/\w.cell? ⟨B,5,none⟩=some (.int .i64 ln)) rfl kr ⟨c4,c5⟩ (fun hHeld=> ?_);clear c4 c5;have HP1:=zh (HP.out.keep (Only.refl Nil w).drew);have HO1:=zh (Only.refl Nil w).drew;clear HP;generalize w.drew=w2 at *;refine za 0 rfl ?_;refine za 1 rfl ?_;refine za 2 rfl ?_;refine za 3 rfl ?_;refine zt 4 rfl ?_;refine za 5 rfl ?_;refine za 6 rfl ?_;refine za 7 rfl ?_;refine za 8 rfl ?_;refine zt 9 rfl ?_;refine mpc 10 rfl kr br (fun K hK=> ?_);go_simp;refine hK.out _ _ (.inl kr) ?_;clear hK K hHeld;refine qc kr ?_ _
 by_cases o1:ol=1
 . rcases o1 with rfl
   by_cases g:ln=0\/ln=1
   . rcases g with rfl|rfl
     all_goals
      go_wp2_with fail;refine arm (FS:=[224, 225, 227, 228, 230, 232, 233, 234, 297, 298, 299, 300, 302]) (r:=r) (r':=r.pq) (qds r.pf HP1.out HL.out (fun w' nv h'=>qd9 B p A cp nv r w' h' HL.out HX.out HA.out HB.out)) HO1.out (by unfold LS.pq LS.pf;rw[H1.out,H2.out];rfl) dc fun caps w3 H=> ?_;go_wp2;go_ret;exact H.out
   go_wp2_with fail;refine qcu (qfi B p A cp nv r _ HP1.out HL.out HX.out HA.out HB.out (fun _=>(qf6 (by rw[H1.out,H2.out];exact(by unfold yt;repeat (first|rw[if_neg om])))))) HO1.out (fun F caps w3 H=> ?_) fun w3 H=> ?_
   all_goals
    go_wp2;go_ret;exact H.out
 by_cases o2:ol=2
 . rcases o2 with rfl
   by_cases g:ln=0
   . rcases g with rfl;go_wp2_with fail;refine arm (FS:=[224, 225, 227, 228, 230, 232, 233, 234, 297, 298, 299, 300, 302]) (r:=r) (r':=r.pq) (qds r.pf HP1.out HL.out (fun w' nv h'=>qd9 B p A cp nv r w' h' HL.out HX.out HA.out HB.out)) HO1.out (by unfold LS.pq LS.pf;rw[H1.out,H2.out];rfl) dc fun caps w3 H=> ?_;go_wp2;go_ret;exact H.out
   go_wp2_with fail;refine qcu (qfi B p A cp nv r _ HP1.out HL.out HX.out HA.out HB.out (fun _=>(qf6 (by rw[H1.out,H2.out];exact(by unfold yt;repeat (first|rw[if_neg om])))))) HO1.out (fun F caps w3 H=> ?_) fun w3 H=> ?_
   all_goals
    go_wp2;go_ret;exact H.out
 by_cases o3:ol=3
 . rcases o3 with rfl
   by_cases g:ln=0\/ln=1\/ln=2\/ln=3\/ln=4
   . rcases g with rfl|rfl|rfl|rfl|rfl
     all_goals
      go_wp2_with fail;refine arm (FS:=[224, 225, 227, 228, 230, 232, 233, 234, 297, 298, 299, 300, 302]) (r:=r) (r':=r.pq) (qk5 HP1.out HL.out HX.out HA.out) HO1.out (by unfold LS.pq;rw[H1.out,H2.out];rfl) dc fun caps w3 H=> ?_;go_wp2;go_ret;exact H.out
   by_cases g:ln=5
   . rcases g with rfl;go_wp2_with fail;refine arm (FS:=[224, 225, 227, 228, 230, 232, 233, 234, 297, 298, 299, 300, 302]) (r:=r) (r':=r.pq) (qa2 6 HP1.out HL.out) HO1.out (by unfold LS.pq;rw[H1.out,H2.out];rfl) dc fun caps w3 H=> ?_;go_wp2;go_ret;exact H.out
   by_cases g:ln=6
   . rcases g with rfl;go_wp2_with fail;refine arm (FS:=[224, 225, 227, 228, 230, 232, 233, 234, 297, 298, 299, 300, 302]) (r:=r) (r':=r.pq) (qe1 7 HP1.out HL.out HB.out) HO1.out (by unfold LS.pq;rw[H1.out,H2.out];rfl) dc fun caps w3 H=> ?_;go_wp2;go_ret;exact H.out
   by_cases g:ln=7
   . rcases g with rfl;go_wp2_with fail;refine arm (FS:=[224, 225, 227, 228, 230, 232, 233, 234, 297, 298, 299, 300, 302]) (r:=r) (r':=r.pq) (qg9 HP1.out HL.out HX.out) HO1.out (by unfold LS.pq;rw[H1.out,H2.out];rfl) dc fun caps w3 H=> ?_;go_wp2;go_ret;exact H.out
   go_wp2_with fail;refine qcu (qfi B p A cp nv r _ HP1.out HL.out HX.out HA.out HB.out (fun _=>(qf6 (by rw[H1.out,H2.out];exact(by unfold yt;repeat (first|rw[if_neg om])))))) HO1.out (fun F caps w3 H=> ?_) fun w3 H=> ?_
   all_goals
    go_wp2;go_ret;exact H.out
 by_cases o4:ol=4
 . rcases o4 with rfl
   by_cases g:ln=0
   . rcases g with rfl;go_wp2_with fail;refine arm (FS:=[224, 225, 227, 228, 230, 232, 233, 234, 297, 298, 299, 300, 302]) (r:=r) (r':=r.pq) (qa2 1 HP1.out HL.out) HO1.out (by unfold LS.pq;rw[H1.out,H2.out];rfl) dc fun caps w3 H=> ?_;go_wp2;go_ret;exact H.out
   by_cases g:ln=1
   . rcases g with rfl;go_wp2_with fail;refine arm (FS:=[224, 225, 227, 228, 230, 232, 233, 234, 297, 298, 299, 300, 302]) (r:=r) (r':=r.pq) (qgv 0 7 HP1.out HL.out HB.out) HO1.out (by unfold LS.pq;rw[H1.out,H2.out];rfl) dc fun caps w3 H=> ?_;go_wp2;go_ret;exact H.out
   by_cases g:ln=2
   . rcases g with rfl;go_wp2_with fail;refine arm (FS:=[224, 225, 227, 228, 230, 232, 233, 234, 297, 298, 299, 300, 302]) (r:=r) (r':=r.pq) (qhi HP1.out HL.out) HO1.out (by unfold LS.pq;rw[H1.out,H2.out];rfl) dc fun caps w3 H=> ?_;go_wp2;go_ret;exact H.out
   by_cases g:ln=3\/ln=4\/ln=5\/ln=6
   . rcases g with rfl|rfl|rfl|rfl
     all_goals
      go_wp2_with fail;refine arm (FS:=[224, 225, 227, 228, 230, 232, 233, 234, 297, 298, 299, 300, 302]) (r:=r) (r':=r.pq) (qb6 3 true HP1.out HL.out HX.out HA.out dc dc) HO1.out (by unfold LS.pq;rw[H1.out,H2.out];rfl) dc fun caps w3 H=> ?_;go_wp2;go_ret;exact H.out
   go_wp2_with fail;refine qcu (qfi B p A cp nv r _ HP1.out HL.out HX.out HA.out HB.out (fun _=>(by unfold LS.pq;rw[H1.out,H2.out,show yt 4 ln=14 from(by unfold yt;repeat (first|rw[if_neg om]|rw[if_pos om]))];exact qda (a:=3) (by rw[H2.out];omega) (by rw[H2.out];omega) (by rw[H2.out];omega) (by rw[H2.out];omega)))) HO1.out (fun F caps w3 H=> ?_) fun w3 H=> ?_
   all_goals
    go_wp2;go_ret;exact H.out
 by_cases o5:ol=5
 . rcases o5 with rfl
   by_cases g:ln=0\/ln=1
   . rcases g with rfl|rfl
     all_goals
      go_wp2_with fail;refine arm (FS:=[224, 225, 227, 228, 230, 232, 233, 234, 297, 298, 299, 300, 302]) (r:=r) (r':=r.pq) (qds r.pf HP1.out HL.out (fun w' nv h'=>qd9 B p A cp nv r w' h' HL.out HX.out HA.out HB.out)) HO1.out (by unfold LS.pq LS.pf;rw[H1.out,H2.out];rfl) dc fun caps w3 H=> ?_;go_wp2;go_ret;exact H.out
   go_wp2_with fail;refine qcu (qfi B p A cp nv r _ HP1.out HL.out HX.out HA.out HB.out (fun _=>(qf6 (by rw[H1.out,H2.out];exact(by unfold yt;repeat (first|rw[if_neg om])))))) HO1.out (fun F caps w3 H=> ?_) fun w3 H=> ?_
   all_goals
    go_wp2;go_ret;exact H.out
 by_cases o8:ol=8
 . rcases o8 with rfl
   by_cases g:ln=0
   . rcases g with rfl;go_wp2_with fail;refine arm (FS:=[224, 225, 227, 228, 230, 232, 233, 234, 297, 298, 299, 300, 302]) (r:=r) (r':=r.pq) (qa2 1 HP1.out HL.out) HO1.out (by unfold LS.pq;rw[H1.out,H2.out];rfl) dc fun caps w3 H=> ?_;go_wp2;go_ret;exact H.out
   by_cases g:ln=1
   . rcases g with rfl;go_wp2_with fail;refine arm (FS:=[224, 225, 227, 228, 230, 232, 233, 234, 297, 298, 299, 300, 302]) (r:=r) (r':=r.pq) (qgv 256 10 HP1.out HL.out HB.out) HO1.out (by unfold LS.pq;rw[H1.out,H2.out];rfl) dc fun caps w3 H=> ?_;go_wp2;go_ret;exact H.out
   by_cases g:ln=2
   . rcases g with rfl;go_wp2_with fail;refine arm (FS:=[224, 225, 227, 228, 230, 232, 233, 234, 297, 298, 299, 300, 302]) (r:=r) (r':=r.pq) (qhi HP1.out HL.out) HO1.out (by unfold LS.pq;rw[H1.out,H2.out];rfl) dc fun caps w3 H=> ?_;go_wp2;go_ret;exact H.out
   by_cases g:ln=3\/ln=4\/ln=5\/ln=6
   . rcases g with rfl|rfl|rfl|rfl
     all_goals
      go_wp2_with fail;refine arm (FS:=[224, 225, 227, 228, 230, 232, 233, 234, 297, 298, 299, 300, 302]) (r:=r) (r':=r.pq) (qb6 3 true HP1.out HL.out HX.out HA.out dc dc) HO1.out (by unfold LS.pq;rw[H1.out,H2.out];rfl) dc fun caps w3 H=> ?_;go_wp2;go_ret;exact H.out
   go_wp2_with fail;refine qcu (qfi B p A cp nv r _ HP1.out HL.out HX.out HA.out HB.out (fun _=>(by unfold LS.pq;rw[H1.out,H2.out,show yt 8 ln=14 from(by unfold yt;repeat (first|rw[if_neg om]|rw[if_pos om]))];exact qda (a:=3) (by rw[H2.out];omega) (by rw[H2.out];omega) (by rw[H2.out];omega) (by rw[H2.out];omega)))) HO1.out (fun F caps w3 H=> ?_) fun w3 H=> ?_
   all_goals
    go_wp2;go_ret;exact H.out
 go_wp2_with fail;refine qcu (qfi B p A cp nv r _ HP1.out HL.out HX.out HA.out HB.out (fun ho=>(qf6 (by rw[H1.out]at ho;rw[H1.out,H2.out];exact(by unfold yt;repeat (first|rw[if_neg om])))))) HO1.out (fun F caps w3 H=> ?_) fun w3 H=> ?_
 all_goals
  go_wp2;go_ret;exact H.out
end Go.Proofs.YtgebffjejifidaaGreat
