import Derived.Test.YtdbjpbjocmcpkaaGreatDoorMg04
set_option maxHeartbeats 4000000
set_option maxRecDepth 100000
namespace Go.Proofs.YtdbjpbjocmcpkaaGreatDoor
section
open Go.RowKit
theorem dm {w w':World} {b:Nat} {o:Obj} (h:w.heap[b]? =some o) (hb:Below w.heap.size w w'):w'.heap[b]? =some o:=(hb.block b (aa3.1 h).1).trans h
structure CyS (w:World) (C:Nat) (pl:Bool) (eo:Option Addr) (ce:Nat) (es:List (Int×Int)) (L:Nat->Bool) (ρ:Nat->Value) (W:World) (b:Nat) (a:Option Addr) (c H:Nat) (x y z:Value):Prop where
 low:Below w.heap.size w W
 v0:L 0=true->ρ 0= .pointer (some ⟨C,0,none⟩)
 v1:L 1=true->ρ 1= .bool pl
 v2:L 2=true->ρ 2= .slice (some ⟨b,0,none⟩) 0 0
 e2:L 2=true->L 5=false->w.heap.size<=b/\W.heap[b]? =some (.cells #[] 66 (0,0))
 v3:L 3=true->ρ 3= .pointer (some ⟨C,2,none⟩)
 v4:L 4=true->ρ 4= .slice eo es.length ce
 v5:L 5=true->ρ 5= .slice a es.length c
 e5:L 5=true->bD W w.heap.size (.slice a es.length c) es
 v6:L 6=true->ρ 6= .agg #[.bool pl,.slice none 0 0,.slice a es.length c]
 v7:L 7=true->ρ 7= .pointer (some ⟨H,0,none⟩)
 e7:L 7=true->w.heap.size<=H/\W.heap[H]? =some (.cells #[x,y,z] 27 (0,0))
 f7:L 5=true->L 7=true->(Value.slice a es.length c).ownBlock≠some H
 e8:L 8=true->x= .bool pl/\y= .slice none 0 0/\z= .slice a es.length c
def fZ (w:World) (C:Nat) (pl:Bool) (eo:Option Addr) (ce:Nat) (es:List (Int×Int)) (L:Nat->Bool) (ρ:Nat->Value) (W:World):Prop:=∃b a c H x y z,CyS w C pl eo ce es L ρ W b a c H x y z
section
variable {w:World} {C:Nat} {pl:Bool} {eo:Option Addr} {ce:Nat} {es:List (Int×Int)} {L:Nat->Bool} {ρ:Nat->Value} {W W':World}
open aP
theorem fZ.low (h:fZ w C pl eo ce es L ρ W):Below w.heap.size w W:=by
 obtain⟨b,a,c,H,x,y,z,S⟩:=h;exact S.low
theorem fZ.start (hb:Below w.heap.size w W):fZ w C pl eo ce es (fun _=>false) ρ W:=
 ⟨0,none,0,0,undef,undef,undef,hb,nofun,nofun,nofun,nofun,nofun,nofun,nofun,nofun,nofun,nofun,nofun,nofun,nofun⟩
theorem fZ.zero (h:fZ w C pl eo ce es L ρ W):fZ w C pl eo ce es (bS L 0) (upd ρ 0 (.pointer (some ⟨C,0,none⟩))) W:=by
 obtain⟨b,a,c,H,x,y,z,S⟩:=h;exact⟨b,a,c,H,x,y,z,S.low,fun _=>rfl,S.v1,S.v2,S.e2,S.v3,S.v4,S.v5,S.e5,S.v6,S.v7,S.e7,S.f7,S.e8⟩
theorem fZ.one (h:fZ w C pl eo ce es L ρ W):fZ w C pl eo ce es (bS L 1) (upd ρ 1 (.bool pl)) W:=by
 obtain⟨b,a,c,H,x,y,z,S⟩:=h;exact⟨b,a,c,H,x,y,z,S.low,S.v0,fun _=>rfl,S.v2,S.e2,S.v3,S.v4,S.v5,S.e5,S.v6,S.v7,S.e7,S.f7,S.e8⟩
theorem fZ.two (h:fZ w C pl eo ce es L ρ W):fZ w C pl eo ce es (bS L 2) (upd ρ 2 (.slice (some ⟨W.heap.size,0,none⟩) 0 0)) (W.alloc (.cells #[] 66)):=by
 obtain⟨b,a,c,H,x,y,z,S⟩:=h;have hb:Below W.heap.size W (W.alloc (.cells #[] 66)):=(aae _ _).alloc (aad _) _;exact⟨W.heap.size,a,c,H,x,y,z,S.low.trans (hb.mono S.low.size),S.v0,S.v1,fun _=>rfl,fun _ _=>⟨S.low.size,heap_alloc_new _ _⟩,S.v3,S.v4,S.v5,fun h=>(S.e5 h).below hb (aad _),S.v6,S.v7,fun h=>⟨(S.e7 h).1,dm (S.e7 h).2 hb⟩,S.f7,S.e8⟩
theorem fZ.three (h:fZ w C pl eo ce es L ρ W):fZ w C pl eo ce es (bS L 3) (upd ρ 3 (.pointer (some ⟨C,2,none⟩))) W:=by
 obtain⟨b,a,c,H,x,y,z,S⟩:=h;exact⟨b,a,c,H,x,y,z,S.low,S.v0,S.v1,S.v2,S.e2,fun _=>rfl,S.v4,S.v5,S.e5,S.v6,S.v7,S.e7,S.f7,S.e8⟩
theorem fZ.four (h:fZ w C pl eo ce es L ρ W):fZ w C pl eo ce es (bS L 4) (upd ρ 4 (.slice eo es.length ce)) W:=by
 obtain⟨b,a,c,H,x,y,z,S⟩:=h;exact⟨b,a,c,H,x,y,z,S.low,S.v0,S.v1,S.v2,S.e2,S.v3,fun _=>rfl,S.v5,S.e5,S.v6,S.v7,S.e7,S.f7,S.e8⟩
theorem fZ.five (h:fZ w C pl eo ce es L ρ W) {b' g' c':Nat} (hb:Below W.heap.size W W') (h2:L 2=true) (h5:L 5=false) (h6:L 6=false) (h8:L 8=false) (hv:ρ 2= .slice (some ⟨b',0,none⟩) 0 0) (hg:g'=b'\/W.heap.size<=g') (ho:∀B,B<=b'->bD W' B (.slice (some ⟨g',0,none⟩) es.length c') es):
 fZ w C pl eo ce es (bS L 5) (upd ρ 5 (.slice (some ⟨g',0,none⟩) es.length c')) W':=by
 obtain⟨b,a,c,H,x,y,z,S⟩:=h;have e:=(S.v2 h2).symm.trans hv;obtain rfl:b=b':=by simpa using e
 obtain⟨hlo,DL⟩:=S.e2 h2 h5;refine⟨b,some ⟨g',0,none⟩,c',H,x,y,z,S.low.trans (hb.mono S.low.size),S.v0,S.v1,S.v2,fun _ h=>(by cases h),S.v3,S.v4,fun _=>rfl,fun _=>ho _ hlo,fun h=> ?_,S.v7,fun h=>⟨(S.e7 h).1,dm (S.e7 h).2 hb⟩,fun _ h7 e=> ?_,fun h=> ?_⟩
 .rw[show L 6=true from h] at h6;cases h6
 .have hH:=(S.e7 h7).2
  have hlt:=lt_of_block hH;obtain rfl:g'=H:=by simpa[Value.ownBlock] using e
  rcases hg with rfl|hg
  .rw[DL] at hH
   have:=congrArg (fun o=>match o with|some (Obj.cells _ t _)=>t|_=>27) hH;revert this;dsimp only;decide
  .omega
 .rw[show L 8=true from h] at h8;cases h8
theorem fZ.six (h:fZ w C pl eo ce es L ρ W) (h5:L 5=true):∃a c,ρ 5= .slice a es.length c/\fZ w C pl eo ce es (bS L 6) (upd ρ 6 (.agg #[.bool pl,.slice none 0 0,.slice a es.length c])) W:=by
 obtain⟨b,a,c,H,x,y,z,S⟩:=h;exact⟨a,c,S.v5 h5,b,a,c,H,x,y,z,S.low,S.v0,S.v1,S.v2,S.e2,S.v3,S.v4,S.v5,S.e5,fun _=>rfl,S.v7,S.e7,S.f7,S.e8⟩
theorem fZ.seven (h:fZ w C pl eo ce es L ρ W) (h8:L 8=false) (x' y' z':Value):fZ w C pl eo ce es (bS L 7) (upd ρ 7 (.pointer (some ⟨W.heap.size,0,none⟩))) (W.alloc (.cells #[x',y',z'] 27)):=by
 obtain⟨b,a,c,H,x,y,z,S⟩:=h;have hb:Below W.heap.size W (W.alloc (.cells #[x',y',z'] 27)):=(aae _ _).alloc (aad _) _;refine⟨b,a,c,W.heap.size,x',y',z',S.low.trans (hb.mono S.low.size),S.v0,S.v1,S.v2,fun h h'=>⟨(S.e2 h h').1,dm (S.e2 h h').2 hb⟩,S.v3,S.v4,S.v5,fun h=>(S.e5 h).below hb (aad _),S.v6,fun _=>rfl,fun _=>⟨S.low.size,heap_alloc_new _ _⟩,fun h _ e=> ?_,fun h=> ?_⟩
 .have:=(aap (S.e5 h) _ e).2
  omega
 .rw[show L 8=true from h] at h8;cases h8
theorem fZ.eight (h:fZ w C pl eo ce es L ρ W) (h2:L 5=true) (h6:L 6=true) (h7:L 7=true) (u:Value):∃H a c x y z,ρ 7= .pointer (some ⟨H,0,none⟩)/\ρ 6= .agg #[.bool pl,.slice none 0 0,.slice a es.length c]/\W.heap[H]? =some (.cells #[x,y,z] 27 (0,0))/\
 fZ w C pl eo ce es (bS L 8) (upd ρ 8 u) (((W.setCell ⟨H,0,none⟩ (.bool pl)).setCell ⟨H,1,none⟩ (.slice none 0 0)).setCell ⟨H,2,none⟩ (.slice a es.length c)):=by
 obtain⟨b,a,c,H,x,y,z,S⟩:=h;obtain⟨hH,eH⟩:=S.e7 h7;refine⟨H,a,c,x,y,z,S.v7 h7,S.v6 h6,eH,b,a,c,H,_,_,_,((S.low.setCell hH _).setCell hH _).setCell hH _,S.v0,S.v1,S.v2,fun _ h=> ?_,S.v3,S.v4,S.v5,fun h=> ?_,S.v6,S.v7,fun _=>⟨hH,vq eH _ _ _⟩,S.f7,fun _=>⟨rfl,rfl,rfl⟩⟩
 .rw[show L 5=false from h] at h2;cases h2
 .refine bV (S.e5 h) fun g hg _ _=> ?_
  have hne:g≠H:=fun e=>S.f7 h h7 (by rw[hg,e])
  rw[heap_setCell_other _ ⟨H,2,none⟩ g _ hne,heap_setCell_other _ ⟨H,1,none⟩ g _ hne,heap_setCell_other _ ⟨H,0,none⟩ g _ hne]
theorem fZ.done (h:fZ w C pl eo ce es L ρ W) (hall:∀i,i<9->L i=true):∃H a c,ρ 7= .pointer (some ⟨H,0,none⟩)/\w.heap.size<=H/\W.heap[H]? =some (.cells #[.bool pl,.slice none 0 0,.slice a es.length c] 27 (0,0))/\bD W w.heap.size (.slice a es.length c) es/\(Value.slice a es.length c).ownBlock≠some H/\Below w.heap.size w W:=by
 obtain⟨b,a,c,H,x,y,z,S⟩:=h;obtain⟨rfl,rfl,rfl⟩:=S.e8 (hall 8 (by omega));exact⟨H,a,c,S.v7 (hall 7 (by omega)),(S.e7 (hall 7 (by omega))).1,(S.e7 (hall 7 (by omega))).2,S.e5 (hall 5 (by omega)),S.f7 (hall 5 (by omega)) (hall 7 (by omega)),S.low⟩
end
end
section
open Go.Proofs.Tryz
open Go.RowKit
def Ce.mL (w:World) (ao:Option Addr) (ls:List (List Int)):Prop:=∀(k:Nat) (l:List Int),ls[k]? =some l->∃b o xa xc,ao=some ⟨b,o,none⟩/\w.cell? ⟨b,o+k,none⟩=some (.slice xa l.length xc)/\xT w xa l.length xc l/\l.length<=17592186043904
theorem Ce.mL.later {w w':World} {ao:Option Addr} {ls:List (List Int)} (h:Ce.mL w ao ls) (hb:Below w.heap.size w w'):Ce.mL w' ao ls:=fun k l hl=>by
 obtain⟨b,o,xa,xc,e,hc,hs,hn⟩:=h k l hl;exact⟨b,o,xa,xc,e,(hb.cell (p:=⟨b,o+k,none⟩) (block_lt_of_cell hc)).trans hc,hs.later hb,hn⟩
theorem Ce.mL.lists {w:World} {ao:Option Addr} {ls:List (List Int)} (h:Ce.mL w ao ls):Ce.fC w ao ls:=fun k l hl=>by
 obtain⟨b,o,xa,xc,e,hc,hs,hn⟩:=h k l hl;exact⟨b,o,xa,xc,e,hc,hs.ints⟩
theorem rM {W:World} {B:Nat} {e t:TypeId} {s n b:Nat} {v:Value} {xs:List Value} {arr:Array Value} {fr:Nat×Nat} (h:W.ownsRow B e s v n xs) (hb:W.heap[b]? =some (.cells arr t fr)) (hne:e≠t):v.ownBlock≠some b:=fun e'=>by
 rcases h.2 with ⟨rfl,-⟩|⟨g,cap,cur,rfl,-,hg,-⟩
 .cases e'
 .obtain rfl:g=b:=by simpa[Value.ownBlock] using e'
  rw[hb] at hg;cases hg;exact hne rfl
structure Da (w:World) (H:Nat) (pl:Bool) (ao:Option Addr) (n ca:Nat) (eo:Option Addr) (m ce:Nat) (es:List (Int×Int)) (a:Option Addr) (c:Nat) (va:Value) (vs:List Value) (l:List (List Int)) (W:World):Prop where
 low:Below w.heap.size w W
 hH:w.heap.size+2<=H
 box:W.heap[w.heap.size]? =some (.cells #[.bool pl,.slice ao n ca,.slice eo m ce] 27 (0,0))
 res:W.heap[w.heap.size+1]? =some (.cells #[.bool false,.slice none 0 0,.slice none 0 0] 27 (0,0))
 out:W.heap[H]? =some (.cells #[.bool pl,va,.slice a es.length c] 27 (0,0))
 rows:ay W (w.heap.size+2) va vs l
 xP:bD W (w.heap.size+2) (.slice a es.length c) es
section
variable {w W W':World} {H:Nat} {pl:Bool} {ao:Option Addr} {n ca:Nat} {eo:Option Addr} {m ce:Nat} {es:List (Int×Int)} {a:Option Addr} {c:Nat} {va:Value} {vs:List Value} {ls:List (List Int)}
theorem Da.later (h:Da w H pl ao n ca eo m ce es a c va vs ls W) (hb:Below W.heap.size W W'):Da w H pl ao n ca eo m ce es a c va vs ls W':=
 ⟨h.low.trans (hb.mono h.low.size),h.hH,dm h.box hb,dm h.res hb,dm h.out hb,h.rows.later hb,h.xP.below hb (aad _)⟩
theorem Da.size (h:Da w H pl ao n ca eo m ce es a c va vs ls W):w.heap.size+2<=W.heap.size:=by
 have:=lt_of_block h.res;omega
theorem Da.push (h:Da w H pl ao n ca eo m ce es a c va vs ls W) {x Oq:Value} {l:List Int} {w4:World} (hx:aj W (w.heap.size+2) x l) (hx1:∀(u:Nat) (y:Value) (b:Nat),vs[u]? =some y->y.ownBlock=some b->x.ownBlock≠some b)
 (h1:w4.ownsRow (w.heap.size+2) 55 1 Oq (ls.length+1) (vs++[x])) (h2:(W.alloc (.cells #[x] 55)).grownBy w4 va.ownBlock) (h3:Oq.ownBlock=va.ownBlock\/Oq.ownBlock=some (W.heap.size+1)):
 Da w H pl ao n ca eo m ce es a c Oq (vs++[x]) (ls++[l]) (w4.setCell ⟨H,1,none⟩ Oq)/\w4.cell? ⟨w.heap.size,1,none⟩=some (.slice ao n ca)/\w4.cell? ⟨H,1,none⟩=some va/\w4.frozen? ⟨H,1,none⟩=false/\Below w.heap.size w w4:=by
 have hU:=h.later ((aae W.heap.size W).alloc (aad _) (.cells #[x] 55));have dB:∀b,va.ownBlock=some b->w.heap.size+2<=b:=fun b hb=>(aap h.rows.outer b hb).1
 have fH:=rM hU.rows.outer hU.out (show(55:TypeId)≠27 by decide);have kC:=(h2.block _ (lt_of_block hU.box) (fun e=>by have:=dB _ e.symm;omega)).trans hU.box;have kR:=(h2.block _ (lt_of_block hU.res) (fun e=>by have:=dB _ e.symm;omega)).trans hU.res;have kH:=(h2.block _ (lt_of_block hU.out) (fun e=>fH e.symm)).trans hU.out;have hH:=h.hH;have hx2:∀b,va.ownBlock=some b->x.ownBlock≠some b:=fun b hb hc=>by
  rcases hx.2 with ⟨rfl,-⟩|⟨g,cap,cur,rfl,-,hg,-⟩
  .cases hc
  .obtain rfl:g=b:=by simpa[Value.ownBlock] using hc
   exact rM h.rows.outer hg (by decide) hb
 have hr:=h.rows.grow hx hx1 hx2 h1 h2 h3;have hb4:Below w.heap.size w w4:=hU.low.grown h2 (by have:=hU.low.size;omega) (fun b hb=>by have:=dB b hb;omega);have zL:bD w4 (w.heap.size+2) (.slice a es.length c) es:=bV hU.xP fun g hg _ hl=>h2.block g hl (fun e=>by
  rcases hU.xP.2 with ⟨e1,-⟩|⟨g',cap,cur,e1,-,hg',-⟩
  .rw[e1] at hg;cases hg
  .rw[e1] at hg
   obtain rfl:g'=g:=by simpa[Value.ownBlock] using hg
   exact rM hU.rows.outer hg' (by decide) e.symm)
 refine⟨⟨hb4.setCell (p:=⟨H,1,none⟩) (by dsimp only;omega) _,hH,?_,?_,?_,?_,?_⟩,(bw kC).2.1,(bw kH).2.1,(bw kH).2.2.2 _,hb4⟩
 .rw[heap_setCell_other _ ⟨H,1,none⟩ _ _ (by dsimp only;omega)];exact kC
 .rw[heap_setCell_other _ ⟨H,1,none⟩ _ _ (by dsimp only;omega)];exact kR
 .rw[heap_setCell_same w4 H 1 _ _ _ kH];simp
 .have fo:=rM hr.outer kH (show(55:TypeId)≠27 by decide)
  have hs:∀g,g≠H->(w4.setCell ⟨H,1,none⟩ Oq).heap[g]? =w4.heap[g]? :=fun g hg=>heap_setCell_other _ ⟨H,1,none⟩ g _ hg
  refine⟨hr.len,bV hr.outer fun g hg _ _=>hs g (fun e=>fo (by rw[hg,e])),fun u y k hy hk=>bV (hr.row u y k hy hk) fun g hg _ _=>hs g (fun e=> ?_),hr.apart,hr.far⟩;exact rM (hr.row u y k hy hk) kH (show(3:TypeId)≠27 by decide) (by rw[hg,e])
 .exact bV zL fun g hg _ _=>heap_setCell_other _ ⟨H,1,none⟩ g _ (fun e=>rM zL kH (show(66:TypeId)≠27 by decide) (by rw[hg,e]))
end
theorem FK {w:World} {pl:Bool} {ao eo:Option Addr} {ca ce:Nat} {ls:List (List Int)} {es:List (Int×Int)} (ha:Ce.mL w ao ls) (he:ah w eo es) (h0:eo=none->ce=0) (hn:ls.length<=4398046511000) (hm:es.length<=8796093022000):
 Calls prog 12 #[.agg #[.bool pl,.slice ao ls.length ca,.slice eo es.length ce]] w fun e w'=>Below w.heap.size w w'/\∃v,e= .returned v/\Hh w' w.heap.size v ⟨pl,ls,es⟩:=by
 have HA:=ζ ha;have HE:=ζ he;have H0:=ζ h0;clear ha he h0;go_enter func12,ntmps12;go_wp2_with fail;generalize hW:((w.alloc (.cells #[.bool pl,.slice ao ls.length ca,.slice eo es.length ce] 27)).alloc (.cells #[.bool false,.slice none 0 0,.slice none 0 0] 27))=W0;have hbW:Below w.heap.size w W0:=by rw[<-hW];exact((aae _ _).alloc (aad _) _).alloc (by simp) _
 have Ji:W0.heap.size=w.heap.size+2:=by rw[<-hW];simp
 have hC:W0.heap[w.heap.size]? =some (.cells #[.bool pl,.slice ao ls.length ca,.slice eo es.length ce] 27 (0,0)):=by
  rw[<-hW,aaF _ _ _ (by simp)];exact heap_alloc_new w _
 have hR:W0.heap[w.heap.size+1]? =some (.cells #[.bool false,.slice none 0 0,.slice none 0 0] 27 (0,0)):=by
  rw[<-hW];have:=heap_alloc_new (w.alloc (.cells #[.bool pl,.slice ao ls.length ca,.slice eo es.length ce] 27)) (.cells #[.bool false,.slice none 0 0,.slice none 0 0] 27);rwa[abk] at this
 have HC:=ζ hC;have HR:=ζ hR;have cH:=ζ hbW;have hbd:Below W0.heap.size W0 { W0 with drawn:=W0.drawn+1 }:=(aae _ _).drew;clear hC hR hbW hW;refine wp_region_any (by kernel_rfl) ?_;refine aP.ab9 (fZ W0 w.heap.size pl eo ce es) 32 rfl (by kernel_rfl) (fun ρ=>fZ.start hbd) ?_ ?_
 .intro j o' Ls ρ W ev ho fj hC dK hdc dL wj Jz UU
  have hc:j=0\/j=1\/j=2\/j=3\/j=4\/j=5\/j=6\/j=7\/j=8:=by
   have:j<9:=(aa3.1 ho).1;omega
  have hno:∀u,(Ls u=true->Ls j=true)->Ls u=false:=fun u h=>by
   cases h':Ls u with
   |false=>rfl
   |true=>
    have:=h h';rw[fj] at this;cases this
  have dB:=hC.low;obtain⟨g0,g1,g2,-⟩:=bw (dm HC.out dB);rcases hc with rfl|rfl|rfl|rfl|rfl|rfl|rfl|rfl|rfl<;>obtain rfl:=aaG ho
  .have e1:ev (.tmp 1)= .pointer (some ⟨w.heap.size,0,none⟩):=wj 1 (by kernel_rfl)
   exact aP.aD (v:= .pointer (some ⟨w.heap.size,0,none⟩)) (w':=W) (by simp[execOp,go_sem,e1]) hC.zero
  .have h0:Ls 0=true:=dK ⟨0,.data⟩ (by simp) rfl
   have Gx:=hC;obtain⟨_,_,_,_,_,_,_,S⟩:=hC;have e1:ev (.tmp 5)= .pointer (some ⟨w.heap.size,0,none⟩):=(dL 0 5 (by omega) rfl (by decide)).trans (S.v0 h0);exact aP.aD (v:= .bool pl) (w':=W) (by simp[execOp,go_sem,e1,g0]) Gx.one
  .exact aP.aD (v:= .slice (some ⟨W.heap.size,0,none⟩) 0 0) (w':=W.alloc (.cells #[] 66)) (by simp[execOp,go_sem]) hC.two
  .have e1:ev (.tmp 1)= .pointer (some ⟨w.heap.size,0,none⟩):=wj 1 (by kernel_rfl)
   exact aP.aD (v:= .pointer (some ⟨w.heap.size,2,none⟩)) (w':=W) (by simp[execOp,go_sem,e1]) hC.three
  .have h3:Ls 3=true:=dK ⟨3,.data⟩ (by simp) rfl
   have Gx:=hC;obtain⟨_,_,_,_,_,_,_,S⟩:=hC;have e1:ev (.tmp 8)= .pointer (some ⟨w.heap.size,2,none⟩):=(dL 3 8 (by omega) rfl (by decide)).trans (S.v3 h3);exact aP.aD (v:= .slice eo es.length ce) (w':=W) (by simp[execOp,go_sem,e1,g2]) Gx.four
  .have h2:Ls 2=true:=dK ⟨2,.data⟩ (by simp) rfl
   have h4:Ls 4=true:=dK ⟨4,.data⟩ (by simp) rfl;have n6:Ls 6=false:=hno 6 fun h=>hdc 6 _ rfl h ⟨5,.data⟩ (by simp) rfl
   have n8:Ls 8=false:=hno 8 fun h=>hdc 8 _ rfl h ⟨5,.chain⟩ (by simp) rfl
   have Gx:=hC;obtain⟨b,_,_,_,_,_,_,S⟩:=hC;have e1:ev (.tmp 7)= .slice (some ⟨b,0,none⟩) 0 0:=(dL 2 7 (by omega) rfl (by decide)).trans (S.v2 h2);have e2:ev (.tmp 9)= .slice eo es.length ce:=(dL 4 9 (by omega) rfl (by decide)).trans (S.v4 h4);obtain⟨g,c,w',hrun,hg,hown,-,cm⟩:=Lf 22 W b eo es.length ce es (S.e2 h2 fj).2 ((HE.out.later cH.out).later dB) rfl H0.out hm;refine aP.aD (v:= .slice (some ⟨g,0,none⟩) es.length c) (w':=w') ?_ (Gx.five cm h2 fj n6 n8 (S.v2 h2) hg hown);simp[execOp,resolve,invoke,builtin,e1,e2,hrun,Result.andThen]
  .have h1:Ls 1=true:=dK ⟨1,.data⟩ (by simp) rfl
   have h5:Ls 5=true:=dK ⟨5,.data⟩ (by simp) rfl;obtain⟨va,vc,e2,hC6⟩:=hC.six h5;obtain⟨_,_,_,_,_,_,_,S⟩:=hC;have e1:ev (.tmp 6)= .bool pl:=(dL 1 6 (by omega) rfl (by decide)).trans (S.v1 h1);have e3:=(dL 5 10 (by omega) rfl (by decide)).trans e2;exact aP.aD (v:= .agg #[.bool pl,.slice none 0 0,.slice va es.length vc]) (w':=W) (by simp[execOp,go_sem,e1,e3]) hC6
  .have n8:Ls 8=false:=hno 8 fun h=>hdc 8 _ rfl h ⟨7,.data⟩ (by simp) rfl
   exact aP.aD (v:= .pointer (some ⟨W.heap.size,0,none⟩)) (w':=W.alloc (.cells #[.bool false,.slice none 0 0,.slice none 0 0] 27)) (by simp[execOp,go_sem]) (hC.seven n8 _ _ _)
  .have h7:Ls 7=true:=dK ⟨7,.data⟩ (by simp) rfl
   have h6:Ls 6=true:=dK ⟨6,.data⟩ (by simp) rfl;have h5:Ls 5=true:=dK ⟨5,.chain⟩ (by simp) rfl;obtain⟨H,va,vc,x,y,z,e2,e3,eH,hC9⟩:=hC.eight h5 h6 h7 undef;have e4:=(dL 7 3 (by omega) rfl (by decide)).trans e2;have e5:=(dL 6 11 (by omega) rfl (by decide)).trans e3;obtain⟨q0,q1,q2,qf⟩:=bw eH;have qf0:=qf 0;have qf1:=qf 1;have qf2:=qf 2;exact aP.yS (by simp[execOp,go_sem,e4,e5,q0,q1,q2,qf0,qf1,qf2]) hC9
 .intro Ls ρ W hall hC
  obtain⟨H,a,c,e7,hH,eH,hown,-,cm⟩:=hC.done hall
  have hL:Da w H pl ao ls.length ca eo es.length ce es a c (.slice none 0 0) [] [] W:=
   ⟨cH.out.trans (cm.mono cH.out.size),by omega,dm HC.out cm,dm HR.out cm,eH,ay.nil _ _,by rw[Ji] at hown;exact hown⟩
  have HL:=ζ hL;clear hC hall eH hown cm hL hbd hH Ji HC HR cH H0 HE;obtain⟨n,hnn⟩:∃n,ls.length=n:=⟨_,rfl⟩;have HN:=ζ hnn;rw[hnn] at hn HL ⊢;clear hnn;simp only[aP.canon,aP.dst,Array.size,abl,abU];simp[Act.put,e7];go_wp2;go_loopw [4] (fun iv wr=>∃(k:Nat) (va:Value) (vs:List Value),k<=n/\iv= .int .i64 (k:Int)/\Da w H pl ao n ca eo es.length ce es a c va vs (ls.take k) wr) (fun iv _=>n-(intOf iv).toNat)
  case atStart=>exact⟨0,_,[],aax _,rfl,HL.out⟩
  case round=>
   obtain⟨k,va,vs,hk,rfl,hl⟩:=hrel;obtain⟨v0,v1,v2,-⟩:=bw hl.box;have nu:=ζ hl;by_cases hlt:k<n
   .have aQ:(k:Int)<(n:Int):=by omega
    obtain⟨l,hlk⟩:∃l,ls[k]? =some l:=⟨_,aac (by have:=HN.out;omega)⟩;obtain⟨b,o,xa,xc,rfl,c0,aa0,dW⟩:=(HA.out.later hl.low) k l hlk;have ew:=ζ hlk;clear hlk hl;go_wp2_with fail;have hkl:(ls.take k).length=k:=by rw[abu];have:=HN.out;omega
    have q0:(0:Int)<=(k:Int):=by omega
    have hdr:Below wr.heap.size wr wr.drew:=(aae _ _).drew;have hl0:=nu.out.later hdr;obtain⟨U1,zQ⟩:∃U1,U1=wr.drew.alloc (.cells #[] 3):=⟨_,rfl⟩;have hb1:Below wr.drew.heap.size wr.drew U1:=by rw[zQ];exact(aae _ _).alloc (aad _) _
    have mh:=hl0.later hb1;have hn1:U1.heap[wr.heap.size]? =some (.cells #[] 3 (0,0)):=by rw[zQ];exact heap_alloc_new _ _
    have hs1:U1.heap.size=wr.heap.size+1:=by rw[zQ];simp
    obtain⟨g,gc,U2,Rv,hg2,hown2,-,hb2⟩:=Le 55 U1 wr.heap.size xa l.length xc l hn1 ((aa0.later hdr).later hb1) dW;have hl2:=mh.later hb2;have hx:=hown2 (w.heap.size+2) hl0.size;have hx1:∀(u:Nat) (y:Value) (d:Nat),vs[u]? =some y->y.ownBlock=some d->(Value.slice (some ⟨g,0,none⟩) l.length gc).ownBlock≠some d:=fun u y d hy hd e=>by
     obtain⟨m',hm'⟩:=nu.out.rows.at hy;have h1:=(aap (nu.out.rows.row u y m' hy hm') d hd).2;obtain rfl:g=d:=by simpa[Value.ownBlock] using e
     omega
    obtain⟨U3,Pz⟩:∃U3,U3=U2.alloc (.cells #[.slice (some ⟨g,0,none⟩) l.length gc] 55):=⟨_,rfl⟩;have hb3:Below U2.heap.size U2 U3:=by rw[Pz];exact(aae _ _).alloc (aad _) _
    have Pr:U3.heap[U2.heap.size]? =some (.cells #[.slice (some ⟨g,0,none⟩) l.length gc] 55 (0,0)):=by rw[Pz];exact heap_alloc_new _ _
    have hs3:U3.heap.size=U2.heap.size+1:=by rw[Pz];simp
    have hl3:=hl2.later hb3;have mY:=hl3.rows.outer;rw[hkl] at mY;obtain⟨va4,U4,Gk,zL,hg4,lQ⟩:=La (w.heap.size+2) va vs k (some ⟨g,0,none⟩) l.length gc mY hl3.size U2.heap.size Pr (by omega);obtain⟨g4,c4,rfl⟩:=rL zL;rw[hs3] at lQ;have Sa:=hg4;rw[Pz] at Sa;have VP:U4.ownsRow (w.heap.size+2) 55 1 (.slice (some ⟨g4,0,none⟩) (k+1) c4) ((ls.take k).length+1) (vs++[.slice (some ⟨g,0,none⟩) l.length gc]):=by rw[hkl];exact zL
    obtain⟨BM,m2,m1,mf,hb4⟩:=hl2.push hx hx1 VP Sa lQ;have hbk:∀V,V=wr.drew\/V=U1\/V=U2\/V=U3->Da w H pl (some ⟨b,o,none⟩) n ca eo es.length ce es a c va vs (ls.take k) V/\Below wr.heap.size wr V:=by
     rintro V (rfl|rfl|rfl|rfl)
     .exact⟨hl0,hdr⟩
     .exact⟨mh,hdr.trans (hb1.mono hdr.size)⟩
     .exact⟨hl2,(hdr.trans (hb1.mono hdr.size)).trans (hb2.mono (hdr.trans (hb1.mono hdr.size)).size)⟩
     .exact⟨hl3,((hdr.trans (hb1.mono hdr.size)).trans (hb2.mono (hdr.trans (hb1.mono hdr.size)).size)).trans (hb3.mono ((hdr.trans (hb1.mono hdr.size)).trans (hb2.mono (hdr.trans (hb1.mono hdr.size)).size)).size)⟩
    have HV:Hid (∀V,V=wr.drew\/V=U1\/V=U2\/V=U3\/V=U4->V.cell? ⟨H,1,none⟩=some va/\V.cell? ⟨w.heap.size,1,none⟩=some (.slice (some ⟨b,o,none⟩) n ca)/\V.cell? ⟨b,o+k,none⟩=some (.slice xa l.length xc)):=by
     rintro V (h|h|h|h|rfl)
     rotate_right
     .refine⟨m1,m2,?_⟩
      obtain⟨b',o',xa',ZO,e',hc',aeC,-⟩:=(HA.out.later hb4) k l ew.out;cases e';obtain⟨b'',o'',agk,agj,e'',NL,ad0,-⟩:=HA.out k l ew.out;cases e'';have h1:=(hb4.cell (p:=⟨b,o+k,none⟩) (block_lt_of_cell NL)).trans NL;have h2:=(nu.out.low.cell (p:=⟨b,o+k,none⟩) (block_lt_of_cell NL)).trans NL;rw[c0] at h2;rw[h1,<-h2]
     all_goals
      obtain⟨hc,zN⟩:=hbk V (by first|exact .inl h|exact .inr (.inl h)|exact .inr (.inr (.inl h))|exact .inr (.inr (.inr h)));exact⟨(bw hc.out).2.1,(bw hc.box).2.1,(zN.cell (p:=⟨b,o+k,none⟩) (block_lt_of_cell c0)).trans c0⟩
    have CS:Hid (∀(ev:Operand->Value) (o':Oper),o'.op= .buildSlice 55 0 #[]->(execOp ev o').run prog wr.drew= .ok (.value (.slice (some ⟨wr.heap.size,0,none⟩) 0 0)) U1):=fun ev o' ho=>by rw[zQ];simp[execOp,ho,go_sem]
    have uR:Hid (∀(ev:Operand->Value) (o':Oper),o'.op= .buildSlice 25 1 #[(0,.tmp 27)]->ev (.tmp 27)= .slice (some ⟨g,0,none⟩) l.length gc->(execOp ev o').run prog U2= .ok (.value (.slice (some ⟨U2.heap.size,0,none⟩) 1 1)) U3):=fun ev o' ho he=>by rw[Pz];simp[execOp,ho,go_sem,he]
    have Y5:=ζ Rv;have Y4:=ζ Gk;have ZB:=ζ mf;have HL5:=ζ BM;clear hl0 mh hl2 hl3 BM hb1 hb2 hb3 hb4 hn1 Pr hs1 hs3 zQ Pz Rv Gk hx hx1 hown2 mY zL VP hg4 Sa lQ m1 m2 mf hbk hdr hg2 hkl;refine wp_region_any (by kernel_rfl) ?_;refine aP.acd (fun j=>match j with|0=> .pointer (some ⟨H,1,none⟩)|1=>va|2=> .slice (some ⟨wr.heap.size,0,none⟩) 0 0|3=> .pointer (some ⟨w.heap.size,1,none⟩)|4=> .slice (some ⟨b,o,none⟩) n ca|5=> .int .i64 (k:Int)|6=> .pointer (some ⟨b,o+k,none⟩)|7=> .slice xa l.length xc|8=> .slice (some ⟨g,0,none⟩) l.length gc|9=> .slice (some ⟨U2.heap.size,0,none⟩) 1 1|10=> .slice (some ⟨g4,0,none⟩) (k+1) c4|11=> .pointer (some ⟨H,1,none⟩)|_=>undef) (AnyM.iM wr.drew [(12,(U4.setCell ⟨H,1,none⟩ (.slice (some ⟨g4,0,none⟩) (k+1) c4))),(10,U4),(9,U3),(8,U2),(2,U1)]) 32 rfl (by kernel_rfl) rfl ?_ ?_
    .intro j o' Ls V ev ho fj hC dK hdc dL wj Jz UU
     have hc:j=0\/j=1\/j=2\/j=3\/j=4\/j=5\/j=6\/j=7\/j=8\/j=9\/j=10\/j=11\/j=12:=by
      have:j<13:=(aa3.1 ho).1;omega
     have hst:Ls 12=false:=by
      cases h:Ls 12 with
      |false=>rfl
      |true=>
       exfalso;have hq:Ls j=true:=by
        rcases hc with rfl|rfl|rfl|rfl|rfl|rfl|rfl|rfl|rfl|rfl|rfl|rfl|rfl
        .exact hdc 12 _ rfl h ⟨0,.phase⟩ (by simp) rfl
        .exact hdc 12 _ rfl h ⟨1,.phase⟩ (by simp) rfl
        .exact hdc 12 _ rfl h ⟨2,.phase⟩ (by simp) rfl
        .exact hdc 12 _ rfl h ⟨3,.phase⟩ (by simp) rfl
        .exact hdc 12 _ rfl h ⟨4,.phase⟩ (by simp) rfl
        .exact hdc 12 _ rfl h ⟨5,.phase⟩ (by simp) rfl
        .exact hdc 12 _ rfl h ⟨6,.phase⟩ (by simp) rfl
        .exact hdc 12 _ rfl h ⟨7,.phase⟩ (by simp) rfl
        .exact hdc 12 _ rfl h ⟨8,.phase⟩ (by simp) rfl
        .exact hdc 12 _ rfl h ⟨9,.phase⟩ (by simp) rfl
        .exact hdc 12 _ rfl h ⟨10,.phase⟩ (by simp) rfl
        .exact hdc 12 _ rfl h ⟨11,.data⟩ (by simp) rfl
        .exact h
       rw[fj] at hq;cases hq
     have hcV:V=wr.drew\/V=U1\/V=U2\/V=U3\/V=U4:=by
      cases h2:Ls 2<;>cases h8:Ls 8<;>cases h9:Ls 9<;>cases h10:Ls 10<;>simp[AnyM.iM,hst,h2,h8,h9,h10] at hC<;>simp[hC]
     obtain⟨k1,k2,k3⟩:=HV.out V hcV;rcases hc with rfl|rfl|rfl|rfl|rfl|rfl|rfl|rfl|rfl|rfl|rfl|rfl|rfl<;>obtain rfl:=aaG ho
     .have e1:ev (.tmp 3)= .pointer (some ⟨H,0,none⟩):=wj 3 (by kernel_rfl)
      exact aP.aD (v:= .pointer (some ⟨H,1,none⟩)) (w':=V) (by simp[execOp,go_sem,e1]) ⟨rfl,AnyM.other rfl hC⟩
     .have e1:ev (.tmp 19)= .pointer (some ⟨H,1,none⟩):=dL 0 19 (by omega) rfl (by decide)
      exact aP.aD (v:=va) (w':=V) (by simp[execOp,go_sem,e1,k1]) ⟨rfl,AnyM.other rfl hC⟩
     .have XP:Ls 8=false:=by
       cases h:Ls 8 with
       |false=>rfl
       |true=>
        have qF:Ls 2=true:=hdc 8 _ rfl h ⟨2,.data⟩ (by simp) rfl;rw[fj] at qF;cases qF
      have Ma:Ls 9=false:=by
       cases h:Ls 9 with
       |false=>rfl
       |true=>
        have RB:Ls 8=true:=hdc 9 _ rfl h ⟨8,.data⟩ (by simp) rfl;rw[XP] at RB;cases RB
      have yP:Ls 10=false:=by
       cases h:Ls 10 with
       |false=>rfl
       |true=>
        have Jl:Ls 9=true:=hdc 10 _ rfl h ⟨9,.data⟩ (by simp) rfl;rw[Ma] at Jl;cases Jl
      have DN:V=wr.drew:=by
       simp only[AnyM.iM] at hC;simp only[XP,Ma,yP,fj,hst,acX,if_false] at hC;exact hC
      rw[DN];refine aP.aD (v:= .slice (some ⟨wr.heap.size,0,none⟩) 0 0) (w':=U1) (CS.out ev _ rfl) ⟨rfl,?_⟩;simp[AnyM.iM,aP.bS,XP,Ma,yP,hst]
     .have e1:ev (.tmp 1)= .pointer (some ⟨w.heap.size,0,none⟩):=wj 1 (by kernel_rfl)
      exact aP.aD (v:= .pointer (some ⟨w.heap.size,1,none⟩)) (w':=V) (by simp[execOp,go_sem,e1]) ⟨rfl,AnyM.other rfl hC⟩
     .have e1:ev (.tmp 22)= .pointer (some ⟨w.heap.size,1,none⟩):=dL 3 22 (by omega) rfl (by decide)
      exact aP.aD (v:= .slice (some ⟨b,o,none⟩) n ca) (w':=V) (by simp[execOp,go_sem,e1,k2]) ⟨rfl,AnyM.other rfl hC⟩
     .have e1:ev (.tmp 4)= .int .i64 (k:Int):=wj 4 (by kernel_rfl)
      exact aP.aD (v:= .int .i64 (k:Int)) (w':=V) (by simp[execOp,go_sem,e1]) ⟨rfl,AnyM.other rfl hC⟩
     .have e1:ev (.tmp 23)= .slice (some ⟨b,o,none⟩) n ca:=dL 4 23 (by omega) rfl (by decide)
      have e2:ev (.tmp 24)= .int .i64 (k:Int):=dL 5 24 (by omega) rfl (by decide);exact aP.aD (v:= .pointer (some ⟨b,o+k,none⟩)) (w':=V) (by simp[execOp,go_sem,e1,e2,aQ,q0]) ⟨rfl,AnyM.other rfl hC⟩
     .have e1:ev (.tmp 25)= .pointer (some ⟨b,o+k,none⟩):=dL 6 25 (by omega) rfl (by decide)
      exact aP.aD (v:= .slice xa l.length xc) (w':=V) (by simp[execOp,go_sem,e1,k3]) ⟨rfl,AnyM.other rfl hC⟩
     .have e1:ev (.tmp 21)= .slice (some ⟨wr.heap.size,0,none⟩) 0 0:=dL 2 21 (by omega) rfl (by decide)
      have e2:ev (.tmp 26)= .slice xa l.length xc:=dL 7 26 (by omega) rfl (by decide);have hp:Ls 2=true:=dK ⟨2,.data⟩ (by simp) rfl;have Ma:Ls 9=false:=by
       cases h:Ls 9 with
       |false=>rfl
       |true=>
        have RB:Ls 8=true:=hdc 9 _ rfl h ⟨8,.data⟩ (by simp) rfl;rw[fj] at RB;cases RB
      have yP:Ls 10=false:=by
       cases h:Ls 10 with
       |false=>rfl
       |true=>
        have Jl:Ls 9=true:=hdc 10 _ rfl h ⟨9,.data⟩ (by simp) rfl;rw[Ma] at Jl;cases Jl
      have DN:V=U1:=by
       simp only[AnyM.iM] at hC;simp only[Ma,yP,fj,hp,hst,acX,if_false,if_true] at hC;exact hC
      rw[DN];refine aP.aD (v:= .slice (some ⟨g,0,none⟩) l.length gc) (w':=U2) (by simp[execOp,resolve,invoke,builtin,e1,e2,Y5.out,Result.andThen]) ⟨rfl,?_⟩;simp[AnyM.iM,aP.bS,Ma,yP,hst]
     .have e1:ev (.tmp 27)= .slice (some ⟨g,0,none⟩) l.length gc:=dL 8 27 (by omega) rfl (by decide)
      have hp:Ls 8=true:=dK ⟨8,.data⟩ (by simp) rfl;have yP:Ls 10=false:=by
       cases h:Ls 10 with
       |false=>rfl
       |true=>
        have Jl:Ls 9=true:=hdc 10 _ rfl h ⟨9,.data⟩ (by simp) rfl;rw[fj] at Jl;cases Jl
      have DN:V=U2:=by
       simp only[AnyM.iM] at hC;simp only[yP,fj,hp,hst,acX,if_false,if_true] at hC;exact hC
      rw[DN];refine aP.aD (v:= .slice (some ⟨U2.heap.size,0,none⟩) 1 1) (w':=U3) (uR.out ev _ rfl e1) ⟨rfl,?_⟩;simp[AnyM.iM,aP.bS,yP,hst]
     .have e1:ev (.tmp 20)=va:=dL 1 20 (by omega) rfl (by decide)
      have e2:ev (.tmp 28)= .slice (some ⟨U2.heap.size,0,none⟩) 1 1:=dL 9 28 (by omega) rfl (by decide);have hp:Ls 9=true:=dK ⟨9,.data⟩ (by simp) rfl;have DN:V=U3:=by
       simp only[AnyM.iM] at hC;simp only[fj,hp,hst,acX,if_false,if_true] at hC;exact hC
      rw[DN];refine aP.aD (v:= .slice (some ⟨g4,0,none⟩) (k+1) c4) (w':=U4) (Y4.out _ ev _ _ rfl rfl e1 e2) ⟨rfl,?_⟩;simp[AnyM.iM,aP.bS,hst]
     .have e1:ev (.tmp 3)= .pointer (some ⟨H,0,none⟩):=wj 3 (by kernel_rfl)
      exact aP.aD (v:= .pointer (some ⟨H,1,none⟩)) (w':=V) (by simp[execOp,go_sem,e1]) ⟨rfl,AnyM.other rfl hC⟩
     .have e1:ev (.tmp 30)= .pointer (some ⟨H,1,none⟩):=dL 11 30 (by omega) rfl (by decide)
      have e2:ev (.tmp 29)= .slice (some ⟨g4,0,none⟩) (k+1) c4:=dL 10 29 (by omega) rfl (by decide);have hp:Ls 10=true:=dK ⟨10,.data⟩ (by simp) rfl;have DN:V=U4:=by
       simp only[AnyM.iM] at hC;simp only[fj,hp,acX,if_false,if_true] at hC;exact hC
      rw[DN];rw[DN] at k1;refine aP.yS (w':=(U4.setCell ⟨H,1,none⟩ (.slice (some ⟨g4,0,none⟩) (k+1) c4))) (by simp[execOp,go_sem,e1,e2,k1,ZB.out]) ⟨rfl,?_⟩;simp[AnyM.iM,aP.bS]
    .intro Ls V hall hC
     unfold AnyM.iM at hC;rw[if_pos (hall 12 (by decide))] at hC;subst hC;simp only[aP.canon,aP.dst,Array.size,abl,abU];simp[Act.put];go_wp2_with fail;go_roundw
     case rel=>
      have htk:ls.take (k+1)=ls.take k++[l]:=by
       rw[ab5,ew.out];simp
      exact⟨k+1,_,vs++[.slice (some ⟨g,0,none⟩) l.length gc],by omega,by go_num,by rw[htk];exact HL5.out⟩
     case measure=>simp[intOf];omega
   .have aQ:¬((k:Int)<(n:Int)):=by omega
    obtain rfl:k=n:=by omega
    have hte:ls.take k=ls:=by rw[<-HN.out];exact abW
    rw[hte] at hl nu;obtain⟨u0,u1,u2,-⟩:=bw hl.out;obtain⟨r0,r1,r2,rf⟩:=bw hl.res;obtain⟨vo,vc,rfl⟩:=bG hl.rows;rw[<-HN.out] at aQ;have hL2:=nu.out;clear hl;have k0:=vq nu.out.res (.bool pl) (.slice vo ls.length vc) (.slice a es.length c);have Yl:Below w.heap.size w (((wr.setCell ⟨w.heap.size+1,0,none⟩ (.bool pl)).setCell ⟨w.heap.size+1,1,none⟩ (.slice vo ls.length vc)).setCell ⟨w.heap.size+1,2,none⟩ (.slice a es.length c)):=((nu.out.low.setCell (p:=⟨w.heap.size+1,0,none⟩) (by simp) _).setCell (p:=⟨w.heap.size+1,1,none⟩) (by simp) _).setCell (p:=⟨w.heap.size+1,2,none⟩) (by simp) _;have ho:∀d,d≠w.heap.size+1->(((wr.setCell ⟨w.heap.size+1,0,none⟩ (.bool pl)).setCell ⟨w.heap.size+1,1,none⟩ (.slice vo ls.length vc)).setCell ⟨w.heap.size+1,2,none⟩ (.slice a es.length c)).heap[d]? =wr.heap[d]? :=fun d hd=>by
     rw[heap_setCell_other _ ⟨w.heap.size+1,2,none⟩ d _ hd,heap_setCell_other _ ⟨w.heap.size+1,1,none⟩ d _ hd,heap_setCell_other _ ⟨w.heap.size+1,0,none⟩ d _ hd]
    have sR:Hid (Hh (((wr.setCell ⟨w.heap.size+1,0,none⟩ (.bool pl)).setCell ⟨w.heap.size+1,1,none⟩ (.slice vo ls.length vc)).setCell ⟨w.heap.size+1,2,none⟩ (.slice a es.length c)) w.heap.size (.agg #[.bool pl,.slice vo ls.length vc,.slice a es.length c]) ⟨pl,ls,es⟩):=
     ⟨_,_,vs,rfl,(hL2.rows.same fun d h1 _=>ho d (by omega)).lower (by omega),bD.lower (bV hL2.xP fun d _ h1 _=>ho d (by omega)) (by omega)⟩
    clear hL2 ho;go_wp2;refine bodyPost_ret (v:= .agg #[.bool pl,.slice vo ls.length vc,.slice a es.length c]) (results_cell_row (p:=2) (ty:=27) results12 _ _ (w.heap.size+1) 27 _ (0,0) _ rfl k0 Tryz.underlying27 rfl (by kernel_rfl)) rfl ?_;exact⟨Yl,_,rfl,sR.out⟩
end
end Go.Proofs.YtdbjpbjocmcpkaaGreatDoor
