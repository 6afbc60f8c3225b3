import Derived.Test.YtdbjpbjocmcpkaaGreatDoorMk18
import Derived.Test.YtdbjpbjocmcpkaaGreatDoorMk05
set_option maxHeartbeats 400000
namespace Go.Proofs.YtdbjpbjocmcpkaaGreatDoor
section
open Go.RowKit Go.Sort
theorem wh {w:World} {G R:Nat} (hne:G≠R) {a b c d:Value} {t t':TypeId} (hG:w.heap[G]? =some (.cells #[a,b] t (0,0))) (hR:w.heap[R]? =some (.cells #[c,d] t' (0,0))) (a' b' c' d':Value):
 ((((w.setCell ⟨G,0,none⟩ a').setCell ⟨G,1,none⟩ b').setCell ⟨R,0,none⟩ c').setCell ⟨R,1,none⟩ d').heap[G]? =some (.cells #[a',b'] t (0,0))/\((((w.setCell ⟨G,0,none⟩ a').setCell ⟨G,1,none⟩ b').setCell ⟨R,0,none⟩ c').setCell ⟨R,1,none⟩ d').heap[R]? =some (.cells #[c',d'] t' (0,0)):=
 ⟨(cB hne _ _).trans (bS hG a' b'),bS ((cB hne.symm _ _).trans hR) c' d'⟩
end
section
open Go.Proofs.Tryz
open Go.RowKit
def bO (w:World) (b:Nat) (s:Pa.St) (v:Value):Prop:=
 w.heap[b]? =some (.cells #[.bool s.begun,.int .i64 s.n,.int .i64 s.m,v] 183 (0,0))
section
variable {w w':World} {b:Nat} {s:Pa.St} {v:Value}
theorem bO.lt (h:bO w b s v):b<w.heap.size:=lt_of_block h
theorem bO.c0 (h:bO w b s v):w.cell? ⟨b,0,none⟩=some (.bool s.begun):=by unfold bO at h;simp[World.cell?,h]
theorem bO.c1 (h:bO w b s v):w.cell? ⟨b,1,none⟩=some (.int .i64 s.n):=by unfold bO at h;simp[World.cell?,h]
theorem bO.c2 (h:bO w b s v):w.cell? ⟨b,2,none⟩=some (.int .i64 s.m):=by unfold bO at h;simp[World.cell?,h]
theorem bO.c3 (h:bO w b s v):w.cell? ⟨b,3,none⟩=some v:=by unfold bO at h;simp[World.cell?,h]
theorem bO.free (h:bO w b s v) (i:Nat):w.frozen? ⟨b,i,none⟩=false:=by unfold bO at h;simp[World.frozen?,h]
theorem bO.below {B:Nat} (h:bO w b s v) (hb:Below B w w') (hlt:b<B):bO w' b s v:=(hb.block b hlt).trans h
end
def jJ (t:Nu.Tok):Value:= .agg #[.int .i64 t.kind,.int .i64 t.at',.int .i64 t.fin,.int .i64 t.num]
def aH (x:Int×Int):Value:= .agg #[.int .i64 x.1,.int .i64 x.2]
theorem cH (c:Int) (t:Nu.Tok) (w:World):
 Calls prog 156 #[.int .i64 c,jJ t] w fun e w'=>e= .returned (aH (c,t.at'))/\Below w.heap.size w w':=by
 unfold jJ aH;go_enter func156,ntmps156;go_wp2;exact bodyPost_ret (v:= .agg #[.int .i64 c,.int .i64 t.at']) (by simp[results,results156,go_sem]) rfl ⟨rfl,((aaE _ _).alloc (aaD _) _).alloc (by simp) _⟩
theorem l9 {W w1:World} (hb:Below W.heap.size W w1):(∀b o,b<W.heap.size->w1.cell? ⟨b,o,none⟩=W.cell? ⟨b,o,none⟩)/\(∀b o,b<W.heap.size->w1.frozen? ⟨b,o,none⟩=W.frozen? ⟨b,o,none⟩):=
 ⟨fun b o h=>hb.cell (p:=⟨b,o,none⟩) h,fun b o h=>hb.frozen (p:=⟨b,o,none⟩) h⟩
def IY (r:Except (Int×Int) Pa.St):Int×Int:=match r with
 | .error x=>x
 | .ok _=>(0,0)
def gB (r:Except (Int×Int) Pa.St):Value:=aH (IY r)
theorem EY (b:Nat) (s:Pa.St) (ao:Option Addr) (cap:Nat) (t:Nu.Tok) (w:World) (hr:bO w b s (.slice ao s.pairs.length cap)):
 Calls prog 109 #[.pointer (some ⟨b,0,none⟩),jJ t] w fun e w'=>e= .returned (gB (Pa.fin s t.at'))/\Below w.heap.size w w':=by
 have hlt:=hr.lt;have c0:=hr.c0;have c2:=hr.c2;have c3:=hr.c3;clear hr;obtain⟨begun,n,m,ps⟩:=s;dsimp only at c0 c2 c3;unfold Pa.fin gB IY;dsimp only;cases begun
 .rw[if_pos rfl]
  unfold jJ;go_enter func109,ntmps109;go_wp2_with (go_at_call 156;refine(cH 20 t _).mono ?_;refine aaH ?_);refine ζ ?_;rintro e w1 ⟨rfl,hb⟩;unfold aH;obtain⟨hc,hf⟩:=l9 hb;have hz:=hb.size;simp at hz;go_wp2;refine bodyPost_ret (v:= .agg #[.int .i64 20,.int .i64 t.at']) (by simp[results,results109,go_sem,hc]) rfl ⟨rfl,?_⟩;exact((((((aaE _ _).alloc (aaD _) _).alloc (by simp) _).trans (hb.mono (by simp;omega))).setCell (by simp) _).setCell (by simp) _)
 .rw[if_neg (by simp)]
  by_cases hl:(ps.length:Int)<m
  .rw[if_pos hl]
   unfold jJ;go_enter func109,ntmps109;go_wp2_with fail;go_quiet (fail);go_wp2_with (go_at_call 156;refine(cH 25 t _).mono ?_;refine aaH ?_);refine ζ ?_;rintro e w1 ⟨rfl,hb⟩;unfold aH;obtain⟨hc,hf⟩:=l9 hb;have hz:=hb.size;simp at hz;go_wp2;refine bodyPost_ret (v:= .agg #[.int .i64 25,.int .i64 t.at']) (by simp[results,results109,go_sem,hc]) rfl ⟨rfl,?_⟩;exact(((below_drewN (((aaE _ _).alloc (aaD _) _).alloc (by simp) _) nq).trans (hb.mono (by simp;omega))).setCell (by simp) _).setCell (by simp) _
  .rw[if_neg hl]
   unfold jJ;go_enter func109,ntmps109;go_wp2_with fail;go_quiet (fail);go_wp2;refine bodyPost_ret (v:= .agg #[.int .i64 0,.int .i64 0]) (by simp[results,results109,go_sem]) rfl ⟨rfl,?_⟩;exact((below_drewN (((aaE _ _).alloc (aaD _) _).alloc (by simp) _) nq).setCell (by simp) _).setCell (by simp) _
end
end Go.Proofs.YtdbjpbjocmcpkaaGreatDoor
