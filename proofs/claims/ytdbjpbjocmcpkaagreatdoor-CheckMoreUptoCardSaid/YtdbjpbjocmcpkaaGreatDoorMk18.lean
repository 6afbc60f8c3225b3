import Derived.Test.YtdbjpbjocmcpkaaGreatDoorMk17
set_option maxHeartbeats 4000000
set_option maxRecDepth 100000
namespace Go.Proofs.YtdbjpbjocmcpkaaGreatDoor
section
open Go.Proofs.Tryz
open Go.RowKit
def Ce.oK (w:World) (ao:Option Addr) (ls:List (List Int)):Prop:=∀(k:Nat) (l:List Int),ls[k]? =some l->∃b o xa xc,ao=some ⟨b,o,none⟩/\w.cell? ⟨b,o+k,none⟩=some (.slice xa l.length xc)/\tC w xa l.length xc l/\l.length<=17592186043904
theorem Ce.oK.later {w w':World} {ao:Option Addr} {ls:List (List Int)} (h:Ce.oK w ao ls) (hb:Below w.heap.size w w'):Ce.oK w' ao ls:=fun k l hl=>by
 obtain⟨b,o,xa,xc,e,hc,hs,hn⟩:=h k l hl;exact⟨b,o,xa,xc,e,(hb.cell (p:=⟨b,o+k,none⟩) (block_lt_of_cell hc)).trans hc,hs.later hb,hn⟩
theorem n9 {W:World} {B:Nat} {e t:TypeId} {s n b:Nat} {v:Value} {xs:List Value} {arr:Array Value} {fr:Nat×Nat} (h:W.ownsRow B e s v n xs) (hb:W.heap[b]? =some (.cells arr t fr)) (hne:e≠t):v.ownBlock≠some b:=fun e'=>by
 rcases h.2 with ⟨rfl,-⟩|⟨g,cap,cur,rfl,-,hg,-⟩
 .cases e'
 .obtain rfl:g=b:=by simpa[Value.ownBlock] using e'
  rw[hb] at hg;cases hg;exact hne rfl
structure zk (w:World) (H:Nat) (pl:Bool) (ao:Option Addr) (n ca:Nat) (eo:Option Addr) (m ce:Nat) (es:List (Int×Int)) (a:Option Addr) (c:Nat) (va:Value) (vs:List Value) (l:List (List Int)) (W:World):Prop where
 low:Below w.heap.size w W
 hH:w.heap.size+2<=H
 box:W.heap[w.heap.size]? =some (.cells #[.bool pl,.slice ao n ca,.slice eo m ce] 27 (0,0))
 res:W.heap[w.heap.size+1]? =some (.cells #[.bool false,.slice none 0 0,.slice none 0 0] 27 (0,0))
 out:W.heap[H]? =some (.cells #[.bool pl,va,.slice a es.length c] 27 (0,0))
 rows:ay W (w.heap.size+2) va vs l
 tu:aL W (w.heap.size+2) (.slice a es.length c) es
section
variable {w W W':World} {H:Nat} {pl:Bool} {ao:Option Addr} {n ca:Nat} {eo:Option Addr} {m ce:Nat} {es:List (Int×Int)} {a:Option Addr} {c:Nat} {va:Value} {vs:List Value} {ls:List (List Int)}
theorem zk.later (h:zk w H pl ao n ca eo m ce es a c va vs ls W) (hb:Below W.heap.size W W'):zk w H pl ao n ca eo m ce es a c va vs ls W':=
 ⟨h.low.trans (hb.mono h.low.size),h.hH,b8 h.box hb,b8 h.res hb,b8 h.out hb,h.rows.later hb,h.tu.below hb (aaD _)⟩
theorem zk.size (h:zk w H pl ao n ca eo m ce es a c va vs ls W):w.heap.size+2<=W.heap.size:=by
 have:=lt_of_block h.res;omega
theorem zk.push (h:zk w H pl ao n ca eo m ce es a c va vs ls W) {x JM:Value} {l:List Int} {w4:World} (hx:av W (w.heap.size+2) x l) (hx1:∀(u:Nat) (y:Value) (b:Nat),vs[u]? =some y->y.ownBlock=some b->x.ownBlock≠some b)
 (h1:w4.ownsRow (w.heap.size+2) 55 1 JM (ls.length+1) (vs++[x])) (h2:(W.alloc (.cells #[x] 55)).grownBy w4 va.ownBlock) (h3:JM.ownBlock=va.ownBlock\/JM.ownBlock=some (W.heap.size+1)):
 zk w H pl ao n ca eo m ce es a c JM (vs++[x]) (ls++[l]) (w4.setCell ⟨H,1,none⟩ JM)/\w4.cell? ⟨w.heap.size,1,none⟩=some (.slice ao n ca)/\w4.cell? ⟨H,1,none⟩=some va/\w4.frozen? ⟨H,1,none⟩=false/\Below w.heap.size w w4:=by
 have hU:=h.later ((aaE W.heap.size W).alloc (aaD _) (.cells #[x] 55));have dw:∀b,va.ownBlock=some b->w.heap.size+2<=b:=fun b hb=>(aaJ h.rows.outer b hb).1
 have fH:=n9 hU.rows.outer hU.out (show(55:TypeId)≠27 by decide);have kC:=(h2.block _ (lt_of_block hU.box) (fun e=>by have:=dw _ e.symm;omega)).trans hU.box;have kR:=(h2.block _ (lt_of_block hU.res) (fun e=>by have:=dw _ e.symm;omega)).trans hU.res;have kH:=(h2.block _ (lt_of_block hU.out) (fun e=>fH e.symm)).trans hU.out;have hH:=h.hH;have hx2:∀b,va.ownBlock=some b->x.ownBlock≠some b:=fun b hb hc=>by
  rcases hx.2 with ⟨rfl,-⟩|⟨g,cap,cur,rfl,-,hg,-⟩
  .cases hc
  .obtain rfl:g=b:=by simpa[Value.ownBlock] using hc
   exact n9 h.rows.outer hg (by decide) hb
 have hr:=h.rows.grow hx hx1 hx2 h1 h2 h3;have hb4:Below w.heap.size w w4:=hU.low.grown h2 (by have:=hU.low.size;omega) (fun b hb=>by have:=dw b hb;omega);have B7:aL w4 (w.heap.size+2) (.slice a es.length c) es:=bN hU.tu fun g hg _ hl=>h2.block g hl (fun e=>by
  rcases hU.tu.2 with ⟨e1,-⟩|⟨g',cap,cur,e1,-,hg',-⟩
  .rw[e1] at hg;cases hg
  .rw[e1] at hg
   obtain rfl:g'=g:=by simpa[Value.ownBlock] using hg
   exact n9 hU.rows.outer hg' (by decide) e.symm)
 refine⟨⟨hb4.setCell (p:=⟨H,1,none⟩) (by dsimp only;omega) _,hH,?_,?_,?_,?_,?_⟩,(aR kC).2.1,(aR kH).2.1,(aR kH).2.2.2 _,hb4⟩
 .rw[heap_setCell_other _ ⟨H,1,none⟩ _ _ (by dsimp only;omega)];exact kC
 .rw[heap_setCell_other _ ⟨H,1,none⟩ _ _ (by dsimp only;omega)];exact kR
 .rw[heap_setCell_same w4 H 1 _ _ _ kH];simp
 .have fo:=n9 hr.outer kH (show(55:TypeId)≠27 by decide)
  have hs:∀g,g≠H->(w4.setCell ⟨H,1,none⟩ JM).heap[g]? =w4.heap[g]? :=fun g hg=>heap_setCell_other _ ⟨H,1,none⟩ g _ hg
  refine⟨hr.len,bN hr.outer fun g hg _ _=>hs g (fun e=>fo (by rw[hg,e])),fun u y k hy hk=>bN (hr.row u y k hy hk) fun g hg _ _=>hs g (fun e=> ?_),hr.apart,hr.far⟩;exact n9 (hr.row u y k hy hk) kH (show(3:TypeId)≠27 by decide) (by rw[hg,e])
 .exact bN B7 fun g hg _ _=>heap_setCell_other _ ⟨H,1,none⟩ g _ (fun e=>n9 B7 kH (show(66:TypeId)≠27 by decide) (by rw[hg,e]))
end
theorem Bz {w:World} {pl:Bool} {ao eo:Option Addr} {ca ce:Nat} {ls:List (List Int)} {es:List (Int×Int)} (ha:Ce.oK w ao ls) (he:ah w eo es) (h0:eo=none->ce=0) (hn:ls.length<=4398046511000) (hm:es.length<=8796093022000):
 Calls prog 12 #[.agg #[.bool pl,.slice ao ls.length ca,.slice eo es.length ce]] w fun e w'=>Below w.heap.size w w'/\∃v,e= .returned v/\rV w' w.heap.size v ⟨pl,ls,es⟩:=by
 have HA:=ζ ha;have HE:=ζ he;have H0:=ζ h0;clear ha he h0;go_enter func12,ntmps12;go_wp2_with fail;generalize hW:((w.alloc (.cells #[.bool pl,.slice ao ls.length ca,.slice eo es.length ce] 27)).alloc (.cells #[.bool false,.slice none 0 0,.slice none 0 0] 27))=W0;have hbW:Below w.heap.size w W0:=by rw[<-hW];exact((aaE _ _).alloc (aaD _) _).alloc (by simp) _
 have Ky:W0.heap.size=w.heap.size+2:=by rw[<-hW];simp
 have hC:W0.heap[w.heap.size]? =some (.cells #[.bool pl,.slice ao ls.length ca,.slice eo es.length ce] 27 (0,0)):=by
  rw[<-hW,aaO _ _ _ (by simp)];exact heap_alloc_new w _
 have hR:W0.heap[w.heap.size+1]? =some (.cells #[.bool false,.slice none 0 0,.slice none 0 0] 27 (0,0)):=by
  rw[<-hW];have:=heap_alloc_new (w.alloc (.cells #[.bool pl,.slice ao ls.length ca,.slice eo es.length ce] 27)) (.cells #[.bool false,.slice none 0 0,.slice none 0 0] 27);rwa[aa1] at this
 have HC:=ζ hC;have HR:=ζ hR;have eM:=ζ hbW;have hbd:Below W0.heap.size W0 { W0 with drawn:=W0.drawn+1 }:=(aaE _ _).drew;clear hC hR hbW hW;refine wp_region_any (by kernel_rfl) ?_;refine aI.V2 (eE W0 w.heap.size pl eo ce es) 32 rfl (by kernel_rfl) (fun ρ=>eE.start hbd) ?_ ?_
 .intro j o' Ls ρ W ev ho eI hC cA hdc cQ rA Ep Pj
  have hc:j=0\/j=1\/j=2\/j=3\/j=4\/j=5\/j=6\/j=7\/j=8:=by
   have:j<9:=(aa2.1 ho).1;omega
  have hno:∀u,(Ls u=true->Ls j=true)->Ls u=false:=fun u h=>by
   cases h':Ls u with
   |false=>rfl
   |true=>
    have:=h h';rw[eI] at this;cases this
  have dw:=hC.low;obtain⟨g0,g1,g2,-⟩:=aR (b8 HC.out dw);rcases hc with rfl|rfl|rfl|rfl|rfl|rfl|rfl|rfl|rfl<;>obtain rfl:=aaQ ho
  .have e1:ev (.tmp 1)= .pointer (some ⟨w.heap.size,0,none⟩):=rA 1 (by kernel_rfl)
   exact aI.az (v:= .pointer (some ⟨w.heap.size,0,none⟩)) (w':=W) (by simp[execOp,go_sem,e1]) hC.zero
  .have h0:Ls 0=true:=cA ⟨0,.data⟩ (by simp) rfl
   have Cf:=hC;obtain⟨_,_,_,_,_,_,_,S⟩:=hC;have e1:ev (.tmp 5)= .pointer (some ⟨w.heap.size,0,none⟩):=(cQ 0 5 (by omega) rfl (by decide)).trans (S.v0 h0);exact aI.az (v:= .bool pl) (w':=W) (by simp[execOp,go_sem,e1,g0]) Cf.one
  .exact aI.az (v:= .slice (some ⟨W.heap.size,0,none⟩) 0 0) (w':=W.alloc (.cells #[] 66)) (by simp[execOp,go_sem]) hC.two
  .have e1:ev (.tmp 1)= .pointer (some ⟨w.heap.size,0,none⟩):=rA 1 (by kernel_rfl)
   exact aI.az (v:= .pointer (some ⟨w.heap.size,2,none⟩)) (w':=W) (by simp[execOp,go_sem,e1]) hC.three
  .have h3:Ls 3=true:=cA ⟨3,.data⟩ (by simp) rfl
   have Cf:=hC;obtain⟨_,_,_,_,_,_,_,S⟩:=hC;have e1:ev (.tmp 8)= .pointer (some ⟨w.heap.size,2,none⟩):=(cQ 3 8 (by omega) rfl (by decide)).trans (S.v3 h3);exact aI.az (v:= .slice eo es.length ce) (w':=W) (by simp[execOp,go_sem,e1,g2]) Cf.four
  .have h2:Ls 2=true:=cA ⟨2,.data⟩ (by simp) rfl
   have h4:Ls 4=true:=cA ⟨4,.data⟩ (by simp) rfl;have n6:Ls 6=false:=hno 6 fun h=>hdc 6 _ rfl h ⟨5,.data⟩ (by simp) rfl
   have n8:Ls 8=false:=hno 8 fun h=>hdc 8 _ rfl h ⟨5,.chain⟩ (by simp) rfl
   have Cf:=hC;obtain⟨b,_,_,_,_,_,_,S⟩:=hC;have e1:ev (.tmp 7)= .slice (some ⟨b,0,none⟩) 0 0:=(cQ 2 7 (by omega) rfl (by decide)).trans (S.v2 h2);have e2:ev (.tmp 9)= .slice eo es.length ce:=(cQ 4 9 (by omega) rfl (by decide)).trans (S.v4 h4);obtain⟨g,c,w',hrun,hg,hown,-,cm⟩:=Gc 22 W b eo es.length ce es (S.e2 h2 eI).2 ((HE.out.later eM.out).later dw) rfl H0.out hm;refine aI.az (v:= .slice (some ⟨g,0,none⟩) es.length c) (w':=w') ?_ (Cf.five cm h2 eI n6 n8 (S.v2 h2) hg hown);simp[execOp,resolve,invoke,builtin,e1,e2,hrun,Result.andThen]
  .have h1:Ls 1=true:=cA ⟨1,.data⟩ (by simp) rfl
   have h5:Ls 5=true:=cA ⟨5,.data⟩ (by simp) rfl;obtain⟨va,vc,e2,YM⟩:=hC.six h5;obtain⟨_,_,_,_,_,_,_,S⟩:=hC;have e1:ev (.tmp 6)= .bool pl:=(cQ 1 6 (by omega) rfl (by decide)).trans (S.v1 h1);have e3:=(cQ 5 10 (by omega) rfl (by decide)).trans e2;exact aI.az (v:= .agg #[.bool pl,.slice none 0 0,.slice va es.length vc]) (w':=W) (by simp[execOp,go_sem,e1,e3]) YM
  .have n8:Ls 8=false:=hno 8 fun h=>hdc 8 _ rfl h ⟨7,.data⟩ (by simp) rfl
   exact aI.az (v:= .pointer (some ⟨W.heap.size,0,none⟩)) (w':=W.alloc (.cells #[.bool false,.slice none 0 0,.slice none 0 0] 27)) (by simp[execOp,go_sem]) (hC.seven n8 _ _ _)
  .have h7:Ls 7=true:=cA ⟨7,.data⟩ (by simp) rfl
   have h6:Ls 6=true:=cA ⟨6,.data⟩ (by simp) rfl;have h5:Ls 5=true:=cA ⟨5,.chain⟩ (by simp) rfl;obtain⟨H,va,vc,x,y,z,e2,e3,dN,YL⟩:=hC.eight h5 h6 h7 undef;have e4:=(cQ 7 3 (by omega) rfl (by decide)).trans e2;have e5:=(cQ 6 11 (by omega) rfl (by decide)).trans e3;obtain⟨q0,q1,q2,qf⟩:=aR dN;have XK:=qf 0;have XJ:=qf 1;have XI:=qf 2;exact aI.uB (by simp[execOp,go_sem,e4,e5,q0,q1,q2,XK,XJ,XI]) YL
 .intro Ls ρ W hall hC
  obtain⟨H,a,c,e7,hH,dN,hown,-,cm⟩:=hC.done hall
  have hL:zk w H pl ao ls.length ca eo es.length ce es a c (.slice none 0 0) [] [] W:=
   ⟨eM.out.trans (cm.mono eM.out.size),by omega,b8 HC.out cm,b8 HR.out cm,dN,ay.nil _ _,by rw[Ky] at hown;exact hown⟩
  have HL:=ζ hL;clear hC hall dN hown cm hL hbd hH Ky HC HR eM H0 HE;obtain⟨n,hnn⟩:∃n,ls.length=n:=⟨_,rfl⟩;have HN:=ζ hnn;rw[hnn] at hn HL ⊢;clear hnn;simp only[aI.canon,aI.dst,Array.size,abY,acL];simp[Act.put,e7];go_wp2;go_loopw [4] (fun iv wr=>∃(k:Nat) (va:Value) (vs:List Value),k<=n/\iv= .int .i64 (k:Int)/\zk w H pl ao n ca eo es.length ce es a c va vs (ls.take k) wr) (fun iv _=>n-(intOf iv).toNat)
  case atStart=>exact⟨0,_,[],aaL _,rfl,HL.out⟩
  case round=>
   obtain⟨k,va,vs,hk,rfl,hl⟩:=hrel;obtain⟨v0,v1,v2,-⟩:=aR hl.box;have nP:=ζ hl;by_cases hlt:k<n
   .have aX:(k:Int)<(n:Int):=by omega
    obtain⟨l,hlk⟩:∃l,ls[k]? =some l:=⟨_,aaC (by have:=HN.out;omega)⟩;obtain⟨b,o,xa,xc,rfl,c0,UT,fY⟩:=(HA.out.later hl.low) k l hlk;have gX:=ζ hlk;clear hlk hl;go_wp2_with fail;have hkl:(ls.take k).length=k:=by rw[abq];have:=HN.out;omega
    have q0:(0:Int)<=(k:Int):=by omega
    have hdr:Below wr.heap.size wr wr.drew:=(aaE _ _).drew;have hl0:=nP.out.later hdr;obtain⟨U1,vp⟩:∃U1,U1=wr.drew.alloc (.cells #[] 3):=⟨_,rfl⟩;have hb1:Below wr.drew.heap.size wr.drew U1:=by rw[vp];exact(aaE _ _).alloc (aaD _) _
    have sU:=hl0.later hb1;have hn1:U1.heap[wr.heap.size]? =some (.cells #[] 3 (0,0)):=by rw[vp];exact heap_alloc_new _ _
    have hs1:U1.heap.size=wr.heap.size+1:=by rw[vp];simp
    obtain⟨g,gc,U2,My,hg2,hown2,-,hb2⟩:=Gb 55 U1 wr.heap.size xa l.length xc l hn1 ((UT.later hdr).later hb1) fY;have hl2:=sU.later hb2;have hx:=hown2 (w.heap.size+2) hl0.size;have hx1:∀(u:Nat) (y:Value) (d:Nat),vs[u]? =some y->y.ownBlock=some d->(Value.slice (some ⟨g,0,none⟩) l.length gc).ownBlock≠some d:=fun u y d hy hd e=>by
     obtain⟨m',hm'⟩:=nP.out.rows.at hy;have h1:=(aaJ (nP.out.rows.row u y m' hy hm') d hd).2;obtain rfl:g=d:=by simpa[Value.ownBlock] using e
     omega
    obtain⟨U3,KJ⟩:∃U3,U3=U2.alloc (.cells #[.slice (some ⟨g,0,none⟩) l.length gc] 55):=⟨_,rfl⟩;have hb3:Below U2.heap.size U2 U3:=by rw[KJ];exact(aaE _ _).alloc (aaD _) _
    have KC:U3.heap[U2.heap.size]? =some (.cells #[.slice (some ⟨g,0,none⟩) l.length gc] 55 (0,0)):=by rw[KJ];exact heap_alloc_new _ _
    have hs3:U3.heap.size=U2.heap.size+1:=by rw[KJ];simp
    have hl3:=hl2.later hb3;have B8:=hl3.rows.outer;rw[hkl] at B8;obtain⟨va4,U4,B6,B7,hg4,AR⟩:=Ga (w.heap.size+2) va vs k (some ⟨g,0,none⟩) l.length gc B8 hl3.size U2.heap.size KC (by omega);obtain⟨g4,c4,rfl⟩:=sx B7;rw[hs3] at AR;have MZ:=hg4;rw[KJ] at MZ;have Qh:U4.ownsRow (w.heap.size+2) 55 1 (.slice (some ⟨g4,0,none⟩) (k+1) c4) ((ls.take k).length+1) (vs++[.slice (some ⟨g,0,none⟩) l.length gc]):=by rw[hkl];exact B7
    obtain⟨UY,m2,m1,mf,hb4⟩:=hl2.push hx hx1 Qh MZ AR;have hbk:∀V,V=wr.drew\/V=U1\/V=U2\/V=U3->zk w H pl (some ⟨b,o,none⟩) n ca eo es.length ce es a c va vs (ls.take k) V/\Below wr.heap.size wr V:=by
     rintro V (rfl|rfl|rfl|rfl)
     .exact⟨hl0,hdr⟩
     .exact⟨sU,hdr.trans (hb1.mono hdr.size)⟩
     .exact⟨hl2,(hdr.trans (hb1.mono hdr.size)).trans (hb2.mono (hdr.trans (hb1.mono hdr.size)).size)⟩
     .exact⟨hl3,((hdr.trans (hb1.mono hdr.size)).trans (hb2.mono (hdr.trans (hb1.mono hdr.size)).size)).trans (hb3.mono ((hdr.trans (hb1.mono hdr.size)).trans (hb2.mono (hdr.trans (hb1.mono hdr.size)).size)).size)⟩
    have HV:Hid (∀V,V=wr.drew\/V=U1\/V=U2\/V=U3\/V=U4->V.cell? ⟨H,1,none⟩=some va/\V.cell? ⟨w.heap.size,1,none⟩=some (.slice (some ⟨b,o,none⟩) n ca)/\V.cell? ⟨b,o+k,none⟩=some (.slice xa l.length xc)):=by
     rintro V (h|h|h|h|rfl)
     rotate_right
     .refine⟨m1,m2,?_⟩
      obtain⟨b',o',xa',XG,e',hc',Yl,-⟩:=(HA.out.later hb4) k l gX.out;cases e';obtain⟨b'',o'',ZT,ZR,e'',Jj,XE,-⟩:=HA.out k l gX.out;cases e'';have h1:=(hb4.cell (p:=⟨b,o+k,none⟩) (block_lt_of_cell Jj)).trans Jj;have h2:=(nP.out.low.cell (p:=⟨b,o+k,none⟩) (block_lt_of_cell Jj)).trans Jj;rw[c0] at h2;rw[h1,<-h2]
     all_goals
      obtain⟨hc,vn⟩:=hbk V (by first|exact .inl h|exact .inr (.inl h)|exact .inr (.inr (.inl h))|exact .inr (.inr (.inr h)));exact⟨(aR hc.out).2.1,(aR hc.box).2.1,(vn.cell (p:=⟨b,o+k,none⟩) (block_lt_of_cell c0)).trans c0⟩
    have yP:Hid (∀(ev:Operand->Value) (o':Oper),o'.op= .buildSlice 55 0 #[]->(execOp ev o').run prog wr.drew= .ok (.value (.slice (some ⟨wr.heap.size,0,none⟩) 0 0)) U1):=fun ev o' ho=>by rw[vp];simp[execOp,ho,go_sem]
    have qx:Hid (∀(ev:Operand->Value) (o':Oper),o'.op= .buildSlice 25 1 #[(0,.tmp 27)]->ev (.tmp 27)= .slice (some ⟨g,0,none⟩) l.length gc->(execOp ev o').run prog U2= .ok (.value (.slice (some ⟨U2.heap.size,0,none⟩) 1 1)) U3):=fun ev o' ho he=>by rw[KJ];simp[execOp,ho,go_sem,he]
    have S6:=ζ My;have S5:=ζ B6;have Tz:=ζ mf;have Zu:=ζ UY;clear hl0 sU hl2 hl3 UY hb1 hb2 hb3 hb4 hn1 KC hs1 hs3 vp KJ My B6 hx hx1 hown2 B8 B7 Qh hg4 MZ AR m1 m2 mf hbk hdr hg2 hkl;refine wp_region_any (by kernel_rfl) ?_;refine aI.V3 (fun j=>match j with|0=> .pointer (some ⟨H,1,none⟩)|1=>va|2=> .slice (some ⟨wr.heap.size,0,none⟩) 0 0|3=> .pointer (some ⟨w.heap.size,1,none⟩)|4=> .slice (some ⟨b,o,none⟩) n ca|5=> .int .i64 (k:Int)|6=> .pointer (some ⟨b,o+k,none⟩)|7=> .slice xa l.length xc|8=> .slice (some ⟨g,0,none⟩) l.length gc|9=> .slice (some ⟨U2.heap.size,0,none⟩) 1 1|10=> .slice (some ⟨g4,0,none⟩) (k+1) c4|11=> .pointer (some ⟨H,1,none⟩)|_=>undef) (AnyM.gP wr.drew [(12,(U4.setCell ⟨H,1,none⟩ (.slice (some ⟨g4,0,none⟩) (k+1) c4))),(10,U4),(9,U3),(8,U2),(2,U1)]) 32 rfl (by kernel_rfl) rfl ?_ ?_
    .intro j o' Ls V ev ho eI hC cA hdc cQ rA Ep Pj
     have hc:j=0\/j=1\/j=2\/j=3\/j=4\/j=5\/j=6\/j=7\/j=8\/j=9\/j=10\/j=11\/j=12:=by
      have:j<13:=(aa2.1 ho).1;omega
     have hst:Ls 12=false:=by
      cases h:Ls 12 with
      |false=>rfl
      |true=>
       exfalso;have hq:Ls j=true:=by
        rcases hc with rfl|rfl|rfl|rfl|rfl|rfl|rfl|rfl|rfl|rfl|rfl|rfl|rfl
        .exact hdc 12 _ rfl h ⟨0,.phase⟩ (by simp) rfl
        .exact hdc 12 _ rfl h ⟨1,.phase⟩ (by simp) rfl
        .exact hdc 12 _ rfl h ⟨2,.phase⟩ (by simp) rfl
        .exact hdc 12 _ rfl h ⟨3,.phase⟩ (by simp) rfl
        .exact hdc 12 _ rfl h ⟨4,.phase⟩ (by simp) rfl
        .exact hdc 12 _ rfl h ⟨5,.phase⟩ (by simp) rfl
        .exact hdc 12 _ rfl h ⟨6,.phase⟩ (by simp) rfl
        .exact hdc 12 _ rfl h ⟨7,.phase⟩ (by simp) rfl
        .exact hdc 12 _ rfl h ⟨8,.phase⟩ (by simp) rfl
        .exact hdc 12 _ rfl h ⟨9,.phase⟩ (by simp) rfl
        .exact hdc 12 _ rfl h ⟨10,.phase⟩ (by simp) rfl
        .exact hdc 12 _ rfl h ⟨11,.data⟩ (by simp) rfl
        .exact h
       rw[eI] at hq;cases hq
     have Yv:V=wr.drew\/V=U1\/V=U2\/V=U3\/V=U4:=by
      cases h2:Ls 2<;>cases h8:Ls 8<;>cases h9:Ls 9<;>cases h10:Ls 10<;>simp[AnyM.gP,hst,h2,h8,h9,h10] at hC<;>simp[hC]
     obtain⟨k1,k2,k3⟩:=HV.out V Yv;rcases hc with rfl|rfl|rfl|rfl|rfl|rfl|rfl|rfl|rfl|rfl|rfl|rfl|rfl<;>obtain rfl:=aaQ ho
     .have e1:ev (.tmp 3)= .pointer (some ⟨H,0,none⟩):=rA 3 (by kernel_rfl)
      exact aI.az (v:= .pointer (some ⟨H,1,none⟩)) (w':=V) (by simp[execOp,go_sem,e1]) ⟨rfl,AnyM.other rfl hC⟩
     .have e1:ev (.tmp 19)= .pointer (some ⟨H,1,none⟩):=cQ 0 19 (by omega) rfl (by decide)
      exact aI.az (v:=va) (w':=V) (by simp[execOp,go_sem,e1,k1]) ⟨rfl,AnyM.other rfl hC⟩
     .have RS:Ls 8=false:=by
       cases h:Ls 8 with
       |false=>rfl
       |true=>
        have zG:Ls 2=true:=hdc 8 _ rfl h ⟨2,.data⟩ (by simp) rfl;rw[eI] at zG;cases zG
      have GR:Ls 9=false:=by
       cases h:Ls 9 with
       |false=>rfl
       |true=>
        have MC:Ls 8=true:=hdc 9 _ rfl h ⟨8,.data⟩ (by simp) rfl;rw[RS] at MC;cases MC
      have uy:Ls 10=false:=by
       cases h:Ls 10 with
       |false=>rfl
       |true=>
        have Ee:Ls 9=true:=hdc 10 _ rfl h ⟨9,.data⟩ (by simp) rfl;rw[GR] at Ee;cases Ee
      have zL:V=wr.drew:=by
       simp only[AnyM.gP] at hC;simp only[RS,GR,uy,eI,hst,ab1,if_false] at hC;exact hC
      rw[zL];refine aI.az (v:= .slice (some ⟨wr.heap.size,0,none⟩) 0 0) (w':=U1) (yP.out ev _ rfl) ⟨rfl,?_⟩;simp[AnyM.gP,aI.bB,RS,GR,uy,hst]
     .have e1:ev (.tmp 1)= .pointer (some ⟨w.heap.size,0,none⟩):=rA 1 (by kernel_rfl)
      exact aI.az (v:= .pointer (some ⟨w.heap.size,1,none⟩)) (w':=V) (by simp[execOp,go_sem,e1]) ⟨rfl,AnyM.other rfl hC⟩
     .have e1:ev (.tmp 22)= .pointer (some ⟨w.heap.size,1,none⟩):=cQ 3 22 (by omega) rfl (by decide)
      exact aI.az (v:= .slice (some ⟨b,o,none⟩) n ca) (w':=V) (by simp[execOp,go_sem,e1,k2]) ⟨rfl,AnyM.other rfl hC⟩
     .have e1:ev (.tmp 4)= .int .i64 (k:Int):=rA 4 (by kernel_rfl)
      exact aI.az (v:= .int .i64 (k:Int)) (w':=V) (by simp[execOp,go_sem,e1]) ⟨rfl,AnyM.other rfl hC⟩
     .have e1:ev (.tmp 23)= .slice (some ⟨b,o,none⟩) n ca:=cQ 4 23 (by omega) rfl (by decide)
      have e2:ev (.tmp 24)= .int .i64 (k:Int):=cQ 5 24 (by omega) rfl (by decide);exact aI.az (v:= .pointer (some ⟨b,o+k,none⟩)) (w':=V) (by simp[execOp,go_sem,e1,e2,aX,q0]) ⟨rfl,AnyM.other rfl hC⟩
     .have e1:ev (.tmp 25)= .pointer (some ⟨b,o+k,none⟩):=cQ 6 25 (by omega) rfl (by decide)
      exact aI.az (v:= .slice xa l.length xc) (w':=V) (by simp[execOp,go_sem,e1,k3]) ⟨rfl,AnyM.other rfl hC⟩
     .have e1:ev (.tmp 21)= .slice (some ⟨wr.heap.size,0,none⟩) 0 0:=cQ 2 21 (by omega) rfl (by decide)
      have e2:ev (.tmp 26)= .slice xa l.length xc:=cQ 7 26 (by omega) rfl (by decide);have hp:Ls 2=true:=cA ⟨2,.data⟩ (by simp) rfl;have GR:Ls 9=false:=by
       cases h:Ls 9 with
       |false=>rfl
       |true=>
        have MC:Ls 8=true:=hdc 9 _ rfl h ⟨8,.data⟩ (by simp) rfl;rw[eI] at MC;cases MC
      have uy:Ls 10=false:=by
       cases h:Ls 10 with
       |false=>rfl
       |true=>
        have Ee:Ls 9=true:=hdc 10 _ rfl h ⟨9,.data⟩ (by simp) rfl;rw[GR] at Ee;cases Ee
      have zL:V=U1:=by
       simp only[AnyM.gP] at hC;simp only[GR,uy,eI,hp,hst,ab1,if_false,if_true] at hC;exact hC
      rw[zL];refine aI.az (v:= .slice (some ⟨g,0,none⟩) l.length gc) (w':=U2) (by simp[execOp,resolve,invoke,builtin,e1,e2,S6.out,Result.andThen]) ⟨rfl,?_⟩;simp[AnyM.gP,aI.bB,GR,uy,hst]
     .have e1:ev (.tmp 27)= .slice (some ⟨g,0,none⟩) l.length gc:=cQ 8 27 (by omega) rfl (by decide)
      have hp:Ls 8=true:=cA ⟨8,.data⟩ (by simp) rfl;have uy:Ls 10=false:=by
       cases h:Ls 10 with
       |false=>rfl
       |true=>
        have Ee:Ls 9=true:=hdc 10 _ rfl h ⟨9,.data⟩ (by simp) rfl;rw[eI] at Ee;cases Ee
      have zL:V=U2:=by
       simp only[AnyM.gP] at hC;simp only[uy,eI,hp,hst,ab1,if_false,if_true] at hC;exact hC
      rw[zL];refine aI.az (v:= .slice (some ⟨U2.heap.size,0,none⟩) 1 1) (w':=U3) (qx.out ev _ rfl e1) ⟨rfl,?_⟩;simp[AnyM.gP,aI.bB,uy,hst]
     .have e1:ev (.tmp 20)=va:=cQ 1 20 (by omega) rfl (by decide)
      have e2:ev (.tmp 28)= .slice (some ⟨U2.heap.size,0,none⟩) 1 1:=cQ 9 28 (by omega) rfl (by decide);have hp:Ls 9=true:=cA ⟨9,.data⟩ (by simp) rfl;have zL:V=U3:=by
       simp only[AnyM.gP] at hC;simp only[eI,hp,hst,ab1,if_false,if_true] at hC;exact hC
      rw[zL];refine aI.az (v:= .slice (some ⟨g4,0,none⟩) (k+1) c4) (w':=U4) (S5.out _ ev _ _ rfl rfl e1 e2) ⟨rfl,?_⟩;simp[AnyM.gP,aI.bB,hst]
     .have e1:ev (.tmp 3)= .pointer (some ⟨H,0,none⟩):=rA 3 (by kernel_rfl)
      exact aI.az (v:= .pointer (some ⟨H,1,none⟩)) (w':=V) (by simp[execOp,go_sem,e1]) ⟨rfl,AnyM.other rfl hC⟩
     .have e1:ev (.tmp 30)= .pointer (some ⟨H,1,none⟩):=cQ 11 30 (by omega) rfl (by decide)
      have e2:ev (.tmp 29)= .slice (some ⟨g4,0,none⟩) (k+1) c4:=cQ 10 29 (by omega) rfl (by decide);have hp:Ls 10=true:=cA ⟨10,.data⟩ (by simp) rfl;have zL:V=U4:=by
       simp only[AnyM.gP] at hC;simp only[eI,hp,ab1,if_false,if_true] at hC;exact hC
      rw[zL];rw[zL] at k1;refine aI.uB (w':=(U4.setCell ⟨H,1,none⟩ (.slice (some ⟨g4,0,none⟩) (k+1) c4))) (by simp[execOp,go_sem,e1,e2,k1,Tz.out]) ⟨rfl,?_⟩;simp[AnyM.gP,aI.bB]
    .intro Ls V hall hC
     unfold AnyM.gP at hC;rw[if_pos (hall 12 (by decide))] at hC;subst hC;simp only[aI.canon,aI.dst,Array.size,abY,acL];simp[Act.put];go_wp2_with fail;go_roundw
     case rel=>
      have htk:ls.take (k+1)=ls.take k++[l]:=by
       rw[abG,gX.out];simp
      exact⟨k+1,_,vs++[.slice (some ⟨g,0,none⟩) l.length gc],by omega,by go_num,by rw[htk];exact Zu.out⟩
     case measure=>simp[intOf];omega
   .have aX:¬((k:Int)<(n:Int)):=by omega
    obtain rfl:k=n:=by omega
    have hte:ls.take k=ls:=by rw[<-HN.out];exact abn
    rw[hte] at hl nP;obtain⟨u0,u1,u2,-⟩:=aR hl.out;obtain⟨r0,r1,r2,rf⟩:=aR hl.res;obtain⟨vo,vc,rfl⟩:=bJ hl.rows;rw[<-HN.out] at aX;have hL2:=nP.out;clear hl;have k0:=qH nP.out.res (.bool pl) (.slice vo ls.length vc) (.slice a es.length c);have Yy:Below w.heap.size w (((wr.setCell ⟨w.heap.size+1,0,none⟩ (.bool pl)).setCell ⟨w.heap.size+1,1,none⟩ (.slice vo ls.length vc)).setCell ⟨w.heap.size+1,2,none⟩ (.slice a es.length c)):=((nP.out.low.setCell (p:=⟨w.heap.size+1,0,none⟩) (by simp) _).setCell (p:=⟨w.heap.size+1,1,none⟩) (by simp) _).setCell (p:=⟨w.heap.size+1,2,none⟩) (by simp) _;have ho:∀d,d≠w.heap.size+1->(((wr.setCell ⟨w.heap.size+1,0,none⟩ (.bool pl)).setCell ⟨w.heap.size+1,1,none⟩ (.slice vo ls.length vc)).setCell ⟨w.heap.size+1,2,none⟩ (.slice a es.length c)).heap[d]? =wr.heap[d]? :=fun d hd=>by
     rw[heap_setCell_other _ ⟨w.heap.size+1,2,none⟩ d _ hd,heap_setCell_other _ ⟨w.heap.size+1,1,none⟩ d _ hd,heap_setCell_other _ ⟨w.heap.size+1,0,none⟩ d _ hd]
    have kD:Hid (rV (((wr.setCell ⟨w.heap.size+1,0,none⟩ (.bool pl)).setCell ⟨w.heap.size+1,1,none⟩ (.slice vo ls.length vc)).setCell ⟨w.heap.size+1,2,none⟩ (.slice a es.length c)) w.heap.size (.agg #[.bool pl,.slice vo ls.length vc,.slice a es.length c]) ⟨pl,ls,es⟩):=
     ⟨_,_,vs,rfl,(hL2.rows.same fun d h1 _=>ho d (by omega)).lower (by omega),aL.lower (bN hL2.tu fun d _ h1 _=>ho d (by omega)) (by omega)⟩
    clear hL2 ho;go_wp2;refine bodyPost_ret (v:= .agg #[.bool pl,.slice vo ls.length vc,.slice a es.length c]) (results_cell_row (p:=2) (ty:=27) results12 _ _ (w.heap.size+1) 27 _ (0,0) _ rfl k0 Tryz.underlying27 rfl (by kernel_rfl)) rfl ?_;exact⟨Yy,_,rfl,kD.out⟩
end
section
namespace Pa
open Nu (Tok)
structure St where
 begun:Bool
 n:Int
 m:Int
 pairs:List (Int×Int)
def s0:St:=⟨false,0,0,[]⟩
def tk (l:List Tok) (i:Nat):Tok:=l.getD i ⟨0,0,0,0⟩
def header (s:St) (l:List Tok):Except (Int×Int) St:=
 if l.length≠2 then .error (20,(tk l 0).at')
 else if 1048576<(tk l 0).num then .error (21,(tk l 0).at')
 else if 2097152<(tk l 1).num then .error (22,(tk l 1).at')
 else .ok ⟨true,(tk l 0).num,(tk l 1).num,s.pairs⟩
def uE (s:St) (l:List Tok):Except (Int×Int) St:=
 if (s.pairs.length:Int)=s.m then .error (26,(tk l 0).at')
 else if l.length≠2 then .error (23,(tk l 0).at')
 else if s.n<=(tk l 0).num then .error (24,(tk l 0).at')
 else if s.n<=(tk l 1).num then .error (24,(tk l 1).at')
 else .ok ⟨s.begun,s.n,s.m,s.pairs++[((tk l 0).num,(tk l 1).num)]⟩
def line (s:St) (l:List Tok):Except (Int×Int) St:=if s.begun=true then uE s l else header s l
def fin (s:St) (a:Int):Except (Int×Int) St:=
 if s.begun=false then .error (20,a) else if (s.pairs.length:Int)<s.m then .error (25,a) else .ok s
def mG:List Tok->List Tok->List (List Tok)
 |_,[]=>[]
 |cur,t::ts=>if t.kind=1 then mG (cur++[t]) ts else if cur=[] then mG [] ts else cur::mG [] ts
def run:St->List (List Tok)->Except (Int×Int) St
 |s,[]=> .ok s
 |s,l::ls=>match line s l with
  | .error x=> .error x
  | .ok s'=>run s' ls
def Mn (ls:List (List Tok)) (n:Int):Except (Int×Int) St:=match run s0 ls with
 | .error x=> .error x
 | .ok s=>fin s n
def raw (g:Nat->Int) (n:Nat):Except (Int×Int) St:=
 if 16777216<n then .error (10,16777216)
 else match Nu.scan g n with
  | .error x=> .error (x.2,x.1)
  | .ok ts=>Mn (mG [] ts) n
def go (s:St) (ls:List (List Tok)) (n:Int):Except (Int×Int) St:=match run s ls with
 | .error x=> .error x
 | .ok s=>fin s n
theorem AV {s:St} {l:List Tok} {ls:List (List Tok)} {n:Int} {x:Int×Int} (h:line s l= .error x):go s (l::ls) n= .error x:=by simp[go,run,h]
theorem go_ok {s s':St} {l:List Tok} {ls:List (List Tok)} {n:Int} (h:line s l= .ok s'):go s (l::ls) n=go s' ls n:=by simp[go,run,h]
theorem Mg {cur ts:List Tok} {t:Tok} (h:t.kind=1):mG cur (t::ts)=mG (cur++[t]) ts:=by simp[mG,h]
theorem pT {ts:List Tok} {t:Tok} (h:t.kind≠1):mG [] (t::ts)=mG [] ts:=by simp[mG,h]
theorem kV {cur ts:List Tok} {t:Tok} (h:t.kind≠1) (hc:cur≠[]):mG cur (t::ts)=cur::mG [] ts:=by simp[mG,h,hc]
theorem DK {g:Nat->Int} {n p p':Nat} {t:Tok} (hp:p<=n) (h:Nu.next g n p= .ok (t,p')) (h3:t.kind=3):t=⟨3,n,n,0⟩:=by
 have hs:=Nu.fF Nu.ak g n p hp;by_cases h1:Nu.skip Nu.ak g n p=n
 .rw[h1] at hs
  rw[Nu.kQ hs] at h;cases h;rfl
 .have hlt:Nu.skip Nu.ak g n p<n:=acz hs.hi h1
  cases hd:Nu.isDigit (g (Nu.skip Nu.ak g n p))
  .by_cases h10:g (Nu.skip Nu.ak g n p)=10
   .rw[Nu.iY hs hlt h10] at h
    cases h;simp at h3
   .rw[Nu.iZ hs hlt hd h10] at h
    cases h
  .have hr:=Nu.fF Nu.isDigit g n (Nu.skip Nu.ak g n p) hs.hi
   by_cases hb:9<Nu.skip Nu.isDigit g n (Nu.skip Nu.ak g n p)-Nu.skip Nu.ak g n p\/(1<Nu.skip Nu.isDigit g n (Nu.skip Nu.ak g n p)-Nu.skip Nu.ak g n p/\g (Nu.skip Nu.ak g n p)=48)
   .rw[Nu.kS hs hlt hd hr hb] at h
    cases h
   .rw[Nu.kP hs hlt hd hr hb] at h
    cases h;simp at h3
theorem qL {g:Nat->Int} {n:Nat}:∀{k p:Nat} {ts:List Tok},p<=n->n-p<k->Nu.b7 g n k p= .ok ts->∃us,ts=us++[⟨3,n,n,0⟩]/\∀t∈us,t.kind=1\/t.kind=2
 |0,p,ts,_,hk,_=>by omega
 |k+1,p,ts,hp,hk,h=>by
  cases hx:Nu.next g n p with
  |error x=>rw[Nu.fG k hx] at h;cases h
  |ok y=>
   obtain⟨u,p'⟩:=y;have hm:=Nu.gM hp hx;have hf:=Nu.xd hp hx;by_cases h3:u.kind=3
   .rw[Nu.gH k hx h3] at h
    cases h;exact⟨[],by rw[DK hp hx h3];rfl,fun t ht=>by cases ht⟩
   .rw[Nu.gG k hx h3] at h
    have hlt:=hm.2 h3;cases hr:Nu.b7 g n k p' with
    |error x=>rw[hr] at h;cases h
    |ok us=>
     rw[hr] at h;cases h;obtain⟨vs,rfl,hv⟩:=qL hm.1 (by omega) hr;refine⟨u::vs,rfl,fun t ht=> ?_⟩;rcases aaW.1 ht with rfl|ht
     .have:=hf.1;omega
     .exact hv t ht
theorem Dc {g:Nat->Int} {n:Nat} {ts:List Tok} (h:Nu.scan g n= .ok ts):∃us,ts=us++[⟨3,n,n,0⟩]/\∀t∈us,t.kind=1\/t.kind=2:=
 qL (aaL _) (by omega) h
end Pa
end
end Go.Proofs.YtdbjpbjocmcpkaaGreatDoor
