import Derived.Test.YtgebffjejifidaaGreatG1
import Derived.Test.YtgebffjejifidaaGreatG23
set_option linter.unusedVariables false
set_option linter.unusedSimpArgs false
set_option maxHeartbeats 40000000
set_option maxRecDepth 100000
namespace Go.Proofs.YtgebffjejifidaaGreat
open Go.RowKit Tryz
section
variable{B:Nat}{p A:Option Addr}{cp:Nat}{r:LS}{w0 w:World}
theorem zbo(S:St w0 B p A cp [] 900 r w)(hx:Words r.xs)(ha:0<=r.a/\r.a<4294967296)(hb:0<=r.b/\r.b<4294967296):Calls prog 35 #[Value.pointer (some ⟨B,0,none⟩)] w (qj B p A cp w0 (.tuple #[]) r.pf):=by
 obtain⟨ol,H1⟩:∃ol,Hid (r.op=ol):=⟨_,zh rfl⟩;obtain⟨ln,H2⟩:∃ln,Hid (r.line=ln):=⟨_,zh rfl⟩;have HX:=zh hx;have HA:=zh ha;have HB:=zh hb;clear hx ha hb;go_enter func35, ntmps35
 go_upto_region 1 with(fail)
 refine qb (n:=11) 10 (fun w=>w.cell? ⟨B,4,none⟩=some (.int .i64 ol)/\w.cell? ⟨B,5,none⟩=some (.int .i64 ln)) rfl kr ⟨by rw[←H1.out];exact S.at 4 fun _=>rfl,by rw[←H2.out];exact S.at 5 fun _=>rfl⟩ (fun hHeld=> ?_);replace S:=S.drew;generalize w.drew=w2 at *;refine za 0 rfl ?_;refine za 1 rfl ?_;refine za 2 rfl ?_;refine za 3 rfl ?_;refine zt 4 rfl ?_;refine za 5 rfl ?_;refine za 6 rfl ?_;refine za 7 rfl ?_;refine za 8 rfl ?_;refine zt 9 rfl ?_;refine mpc 10 rfl kr br (fun K hK=> ?_);go_simp;refine hK.out _ _ (.inl kr) ?_;clear hK K hHeld;refine qc kr ?_ _
 by_cases o1:ol=1
 . rcases o1 with rfl
   by_cases g:ln=0
   . rcases g with rfl;go_wp2_with fail;refine yf (r':=r.pf) (qtl S HX.out) (by unfold LS.pf;rw[H1.out,H2.out];rfl) fun w3 H=> ?_;go_wp2;go_returns;exact H.out
   by_cases g:ln=1
   . rcases g with rfl;go_wp2_with fail;refine yf (r':=r.pf) (qtg S HX.out HA.out) (by unfold LS.pf;rw[H1.out,H2.out];rfl) fun w3 H=> ?_;go_wp2;go_returns;exact H.out
   go_wp2_with fail;refine yf (r':=r.pf) (qg7 S HX.out HA.out HB.out (fun _=>qbf (by rw[H1.out,H2.out];exact(by unfold vi;repeat (first|rw[if_neg om]))))) (rfl) fun w3 H=> ?_;go_wp2;go_returns;exact H.out
 by_cases o2:ol=2
 . rcases o2 with rfl
   by_cases g:ln=0
   . rcases g with rfl;go_wp2_with fail;refine yf (r':=r.pf) (ql5 S) (by unfold LS.pf;rw[H1.out,H2.out];rfl) fun w3 H=> ?_;go_wp2;go_returns;exact H.out
   go_wp2_with fail;refine yf (r':=r.pf) (qg7 S HX.out HA.out HB.out (fun _=>qbf (by rw[H1.out,H2.out];exact(by unfold vi;repeat (first|rw[if_neg om]))))) (rfl) fun w3 H=> ?_;go_wp2;go_returns;exact H.out
 by_cases o3:ol=3
 . rcases o3 with rfl
   by_cases g:ln=0
   . rcases g with rfl;go_wp2_with fail;refine yf (r':=r.pf) (quq S) (by unfold LS.pf;rw[H1.out,H2.out];rfl) fun w3 H=> ?_;go_wp2;go_returns;exact H.out
   by_cases g:ln=1
   . rcases g with rfl;go_wp2_with fail;refine yf (r':=r.pf) (qrj S HX.out) (by unfold LS.pf;rw[H1.out,H2.out];rfl) fun w3 H=> ?_;go_wp2;go_returns;exact H.out
   by_cases g:ln=2
   . rcases g with rfl;go_wp2_with fail;refine yf (r':=r.pf) (qc1 3 S) (by unfold LS.pf;rw[H1.out,H2.out];rfl) fun w3 H=> ?_;go_wp2;go_returns;exact H.out
   by_cases g:ln=3
   . rcases g with rfl;go_wp2_with fail;refine yf (r':=r.pf) (qcz 4 S HB.out) (by unfold LS.pf;rw[H1.out,H2.out];rfl) fun w3 H=> ?_;go_wp2;go_returns;exact H.out
   by_cases g:ln=4
   . rcases g with rfl;go_wp2_with fail;refine yf (r':=r.pf) (qei S HX.out) (by unfold LS.pf;rw[H1.out,H2.out];rfl) fun w3 H=> ?_;go_wp2;go_returns;exact H.out
   go_wp2_with fail;refine yf (r':=r.pf) (qg7 S HX.out HA.out HB.out (fun _=>qbf (by rw[H1.out,H2.out];exact(by unfold vi;repeat (first|rw[if_neg om]))))) (rfl) fun w3 H=> ?_;go_wp2;go_returns;exact H.out
 by_cases o4:ol=4
 . rcases o4 with rfl
   by_cases g:ln=0
   . rcases g with rfl;go_wp2_with fail;refine yf (r':=r.pf) (qc1 1 S) (by unfold LS.pf;rw[H1.out,H2.out];rfl) fun w3 H=> ?_;go_wp2;go_returns;exact H.out
   by_cases g:ln=1
   . rcases g with rfl;go_wp2_with fail;refine yf (r':=r.pf) (qg2 0 7 S HB.out) (by unfold LS.pf;rw[H1.out,H2.out];rfl) fun w3 H=> ?_;go_wp2;go_returns;exact H.out
   by_cases g:ln=2
   . rcases g with rfl;go_wp2_with fail;refine yf (r':=r.pf) (qho S) (by unfold LS.pf;rw[H1.out,H2.out];rfl) fun w3 H=> ?_;go_wp2;go_returns;exact H.out
   by_cases g:ln=3
   . rcases g with rfl;go_wp2_with fail;refine yf (r':=r.pf) (qde true S) (by unfold LS.pf;rw[H1.out,H2.out];rfl) fun w3 H=> ?_;go_wp2;go_returns;exact H.out
   go_wp2_with fail;refine yf (r':=r.pf) (qg7 S HX.out HA.out HB.out (fun _=>qbf (by rw[H1.out,H2.out];exact(by unfold vi;repeat (first|rw[if_neg om]))))) (rfl) fun w3 H=> ?_;go_wp2;go_returns;exact H.out
 by_cases o5:ol=5
 . rcases o5 with rfl
   by_cases g:ln=0
   . rcases g with rfl;go_wp2_with fail;refine yf (r':=r.pf) (qll S HX.out) (by unfold LS.pf;rw[H1.out,H2.out];rfl) fun w3 H=> ?_;go_wp2;go_returns;exact H.out
   by_cases g:ln=1
   . rcases g with rfl;go_wp2_with fail;refine yf (r':=r.pf) (qss S) (by unfold LS.pf;rw[H1.out,H2.out];rfl) fun w3 H=> ?_;go_wp2;go_returns;exact H.out
   go_wp2_with fail;refine yf (r':=r.pf) (qg7 S HX.out HA.out HB.out (fun _=>qbf (by rw[H1.out,H2.out];exact(by unfold vi;repeat (first|rw[if_neg om]))))) (rfl) fun w3 H=> ?_;go_wp2;go_returns;exact H.out
 by_cases o8:ol=8
 . rcases o8 with rfl
   by_cases g:ln=0
   . rcases g with rfl;go_wp2_with fail;refine yf (r':=r.pf) (qc1 1 S) (by unfold LS.pf;rw[H1.out,H2.out];rfl) fun w3 H=> ?_;go_wp2;go_returns;exact H.out
   by_cases g:ln=1
   . rcases g with rfl;go_wp2_with fail;refine yf (r':=r.pf) (qg2 256 10 S HB.out) (by unfold LS.pf;rw[H1.out,H2.out];rfl) fun w3 H=> ?_;go_wp2;go_returns;exact H.out
   by_cases g:ln=2
   . rcases g with rfl;go_wp2_with fail;refine yf (r':=r.pf) (qho S) (by unfold LS.pf;rw[H1.out,H2.out];rfl) fun w3 H=> ?_;go_wp2;go_returns;exact H.out
   by_cases g:ln=3
   . rcases g with rfl;go_wp2_with fail;refine yf (r':=r.pf) (qde true S) (by unfold LS.pf;rw[H1.out,H2.out];rfl) fun w3 H=> ?_;go_wp2;go_returns;exact H.out
   go_wp2_with fail;refine yf (r':=r.pf) (qg7 S HX.out HA.out HB.out (fun _=>qbf (by rw[H1.out,H2.out];exact(by unfold vi;repeat (first|rw[if_neg om]))))) (rfl) fun w3 H=> ?_;go_wp2;go_returns;exact H.out
 go_wp2_with fail;refine yf (r':=r.pf) (qg7 S HX.out HA.out HB.out (fun ho=>qbf (by rw[H1.out]at ho;rw[H1.out,H2.out];exact(by unfold vi;repeat (first|rw[if_neg om]))))) (rfl) fun w3 H=> ?_;go_wp2;go_returns;exact H.out
end
end Go.Proofs.YtgebffjejifidaaGreat
