import Derived.Test.YtdbjpbjocmcpkaaGreatDoorMg28
set_option maxHeartbeats 8000000
set_option maxRecDepth 100000
namespace Go.Proofs.YtdbjpbjocmcpkaaGreatDoor
section
open Go.Proofs.Tryz
open Go.RowKit Go.Sort
theorem Lm (n:Int) (ao:Option Addr) (cap:Nat) (es:List (Int×Int)) (t:Int×Int) (w:World) (he:ah w ao es) (hl:es.length<=4611686018427387904):
 Calls prog 32 #[az n ao es.length cap,fT t] w fun e w'=>(∃r:Int,Si.Oc n es t r/\e= .returned (.int .i64 r))/\Below w.heap.size w w':=by
 have HE:=ζ he;have jC:=fun W (hb:Below w.heap.size w W)=>eW n ao cap es W (he.later hb) hl
 unfold az at jC ⊢;unfold fT;have cS:=ζ jC;clear he jC;have dJ:Below w.heap.size w ((w.alloc (.cells #[.int .i64 n,.slice ao es.length cap] 24)).alloc (.cells #[.int .i64 t.1,.int .i64 t.2] 66)):=((aae _ _).alloc (aad _) _).alloc (by simp) _;have bR:=ζ dJ;clear dJ;cases hv:Si.valid n es with
 |false=>
  rw[hv] at cS;have UI:¬Si.Val n es:=fun h=>by rw[Si.aK.2 h] at hv;cases hv
  go_enter func32,ntmps32;go_wp2_with (go_at_call 25;refine(cS.out _ bR.out).mono ?_;rintro e w' ⟨rfl,hb⟩;refine aaj ?_);refine ζ ?_;go_wp2;go_ret;exact⟨⟨-1,.inr ⟨rfl,fun h=>UI h.1⟩,rfl⟩,bR.out.trans (hb.mono bR.out.size)⟩
 |true=>
  rw[hv] at cS;have hval:=Si.aK.1 hv;have bQ:=hval.few;have bY:=ζ hval;clear hval;go_enter func32,ntmps32;go_wp2_with (go_at_call 25;refine(cS.out _ bR.out).mono ?_;rintro e w' ⟨rfl,hb⟩;refine aaj ?_);refine ζ ?_;have cm:Below w.heap.size w w':=bR.out.trans (hb.mono bR.out.size);have hG:w'.heap[w.heap.size]? =some (.cells #[.int .i64 n,.slice ao es.length cap] 24 (0,0)):=by
   refine(hb.block _ (by simp;omega)).trans ?_;rw[aaF _ _ _ (by simp)];exact heap_alloc_new w _
  have hT:w'.heap[w.heap.size+1]? =some (.cells #[.int .i64 t.1,.int .i64 t.2] 66 (0,0)):=by
   refine(hb.block _ (by simp)).trans ?_;have:=heap_alloc_new (w.alloc (.cells #[.int .i64 n,.slice ao es.length cap] 24)) (.cells #[.int .i64 t.1,.int .i64 t.2] 66);simpa using this
  obtain⟨g0,g1,-⟩:=af hG;obtain⟨t0,t1,-⟩:=af hT;have hsT:=lt_of_block hT;have sG:=lt_of_block hG;have cH:=ζ cm;have hs0:w.heap.size<=w'.heap.size:=cm.size;clear hb cm hG hT;go_wp2;go_loopw [6] (fun c wr=>∃k:Nat,k<=es.length/\c= .int .i64 k/\(∀j,j<k->es[j]? ≠some t)/\Below w'.heap.size w' wr) (fun c _=>es.length-(intOf c).toNat)
  case atStart=>exact⟨0,aax _,rfl,fun j h=>by omega,aae _ _⟩
  case round=>
   obtain⟨k,hk,rfl,hno,hb2⟩:=hrel;have x0:=(hb2.cell (p:=⟨w.heap.size,0,none⟩) sG).trans g0;have x1:=(hb2.cell (p:=⟨w.heap.size,1,none⟩) sG).trans g1;have y0:=(hb2.cell (p:=⟨w.heap.size+1,0,none⟩) hsT).trans t0;have y1:=(hb2.cell (p:=⟨w.heap.size+1,1,none⟩) hsT).trans t1;have hsz:w'.heap.size<=wr.heap.size:=hb2.size;have Ru:w.heap.size<wr.heap.size:=by omega
   have VN:w.heap.size+1<wr.heap.size:=by omega
   have cG:=ζ hno;have aB:=ζ hb2;have Og:=ζ (cH.out.trans (hb2.mono hs0));clear hno;by_cases hlt:k<es.length
   .have aQ:(k:Int)<(es.length:Int):=by omega
    have hk0:(0:Int)<=(k:Int):=by omega
    obtain⟨p,hp⟩:∃p,es[k]? =some p:=⟨_,aac hlt⟩;obtain⟨b,o,rfl,c0,c1⟩:=(HE.out.later Og.out) k p hp;have hbl:b<wr.heap.size:=block_lt_of_cell c0;have HP:=ζ hp;obtain⟨p1,p2⟩:=p;obtain⟨s1,s2⟩:=t;dsimp only at c0 c1 y0 y1 ⊢;have X1:∀D:LW wr,D.val.cell? ⟨w.heap.size,1,none⟩=some (.slice (some ⟨b,o,none⟩) es.length cap):=fun D=>(D.h.cell (p:=⟨w.heap.size,1,none⟩) Ru).trans x1
    have Y0:∀D:LW wr,D.val.cell? ⟨w.heap.size+1,0,none⟩=some (.int .i64 s1):=fun D=>(D.h.cell (p:=⟨w.heap.size+1,0,none⟩) VN).trans y0
    have Y1:∀D:LW wr,D.val.cell? ⟨w.heap.size+1,1,none⟩=some (.int .i64 s2):=fun D=>(D.h.cell (p:=⟨w.heap.size+1,1,none⟩) VN).trans y1
    have C0:∀D:LW wr,D.val.cell? ⟨b,o+k*2,none⟩=some (.int .i64 p1):=fun D=>(D.h.cell (p:=⟨b,o+k*2,none⟩) hbl).trans c0
    have C1:∀D:LW wr,D.val.cell? ⟨b,o+k*2+1,none⟩=some (.int .i64 p2):=fun D=>(D.h.cell (p:=⟨b,o+k*2+1,none⟩) hbl).trans c1
    have hne:=LW.any wr;have iA:Hid (∀D:LW wr,Below w'.heap.size w' D.val/\Below w.heap.size w D.val):=fun D=>⟨aB.out.trans (D.h.mono aB.out.size),Og.out.trans (D.h.mono Og.out.size)⟩
    clear hp hb2 x0 y0 y1 c0 c1;by_cases e1:p1=s1
    .have q1:(p1==s1)=true:=by simp[e1]
     by_cases e2:p2=s2
     .have q2:(p2==s2)=true:=by simp[e2]
      have hpt:(p1,p2)=(s1,s2):=by rw[e1,e2]
      have HPT:=ζ hpt;clear e1 e2 hpt;go_wp2_with fail;refine aG (by kernel_rfl) (by kernel_rfl) ?_
      repeat (go_big_quiet_step (fail))
      refine wpQuiet_nil ?_;rintro _ ⟨D,rfl⟩;go_wp2;go_ret;exact⟨⟨k,.inl ⟨k,bY.out,by rw[HP.out,HPT.out],rfl⟩,rfl⟩,(iA.out D).2⟩
     .have q2:(p2==s2)=false:=by simp[e2]
      clear e1;go_wp2_with fail;refine aG (by kernel_rfl) (by kernel_rfl) ?_
      repeat (go_big_quiet_step (fail))
      refine wpQuiet_nil ?_;rintro _ ⟨D,rfl⟩;go_wp2;go_roundw
      case rel=>
       refine⟨k+1,by omega,by go_num,fun j hj h=> ?_,(iA.out D).1⟩;by_cases hjk:j=k
       .subst hjk;rw[HP.out] at h;cases h;exact e2 rfl
       .exact cG.out j (by omega) h
      case measure=>simp[intOf];omega
    .have q1:(p1==s1)=false:=by simp[e1]
     go_wp2_with fail;refine aG (by kernel_rfl) (by kernel_rfl) ?_
     repeat (go_big_quiet_step (fail))
     refine wpQuiet_nil ?_;rintro _ ⟨D,rfl⟩;go_wp2;go_roundw
     case rel=>
      refine⟨k+1,by omega,by go_num,fun j hj h=> ?_,(iA.out D).1⟩;by_cases hjk:j=k
      .subst hjk;rw[HP.out] at h;cases h;exact e1 rfl
      .exact cG.out j (by omega) h
     case measure=>simp[intOf];omega
   .have hd:¬((k:Int)<(es.length:Int)):=by omega
    clear hb2;go_wp2;go_ret;refine⟨⟨-1,.inr ⟨rfl,fun h=> ?_⟩,rfl⟩,Og.out⟩;obtain⟨j,hj⟩:=h.2;exact cG.out j (by have:=(aah.1 hj).1;omega) hj
end
end Go.Proofs.YtdbjpbjocmcpkaaGreatDoor
