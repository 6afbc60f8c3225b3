import Derived.Test.YtdbjpbjocmcpkaaGreatDoorMk15
import Derived.Deep.Cut
import Derived.Test.YtdbjpbjocmcpkaaGreatDoorChecked
import Derived.JoinedCond
import Derived.Test.YtdbjpbjocmcpkaaGreatDoorCards
import Derived.Test.YtdbjpbjocmcpkaaGreatDoorTie
set_option maxHeartbeats 8000000
set_option maxRecDepth 100000
namespace Go.Proofs.YtdbjpbjocmcpkaaGreatDoor
section
open Go.RowKit Go.Sort
def Fv (a0:Option Addr) (l:List (Int×Int)) (w:World) (e:Ending) (w':World):Prop:=
 ∃ao cap,e= .returned (.slice ao l.length cap)/\ah w' ao l/\Below w.heap.size w w'/\(ao=a0\/∀x,ao=some x->w.heap.size<=x.block)
theorem Ae {l:List (Int×Int)} {i k:Nat} {t:Int×Int} (hk:i<=k) (hkl:k<=l.length):(l.take i++t::(l.drop i).take (k-i)).length=k+1:=by
 simp;omega
theorem F7 {l:List (Int×Int)} {i k:Nat} {t p:Int×Int} (hk:i<=k) (hp:l[k]? =some p):l.take i++t::(l.drop i).take (k+1-i)=(l.take i++t::(l.drop i).take (k-i))++[p]:=by
 have e:k+1-i=(k-i)+1:=by omega
 have hkl:k<l.length:=(aaF.1 hp).1;have hd:(l.drop i)[k-i]? =some p:=by rw[acS];rw[<-hp];congr 1;omega
 rw[e,abr,abC]
 congr 2
 have hlt:k-i<(l.drop i).length:=(aaF.1 hd).1;rw[acD hlt];rw[aaC hlt] at hd;cases hd;rfl
theorem Ds (ao:Option Addr) (cap:Nat) (l:List (Int×Int)) (t:Int×Int) (w:World) (he:ah w ao l) (hl:(l.length+1)*16<=140737488355328):
 Calls Tryz.prog 49 #[.slice ao l.length cap,dx t] w (Fv ao (Si.put l t) w):=by
 obtain⟨i0,hi,hz0,hz1,hz2⟩:=info_parts Tryz.ox;have HE:=ζ he;clear he;unfold dx Fv;go_enter Tryz.func49,Tryz.ntmps49;go_wp2;go_loopw [5,6] (fun v c wr=>∃i:Nat,i<=l.length/\c= .int .i64 i/\(∀(j:Nat) (x:Int×Int),j<i->l[j]? =some x->Si.lt x t)/\aL wr (w.heap.size+1) v (l.take i)/\wr.heap[w.heap.size]? =some (.cells #[.int .i64 t.1,.int .i64 t.2] 66 (0,0))/\Below w.heap.size w wr) (fun _ c _=>l.length-(intOf c).toNat)
 case atStart=>exact⟨0,aaL _,rfl,fun j x h=>by omega,aL.nil _ _,heap_alloc_new w _,(aaE _ _).alloc (aaD _) _⟩
 case round=>
  obtain⟨i,hil,rfl,dw,hrow,htb,hb⟩:=hrel;have Jd:=lt_of_block htb;obtain⟨t0,t1,-⟩:=af htb;have hk0:(0:Int)<=(i:Int):=by omega
  have RI:(l.take i).length=i:=by simp;omega
  have dP:=ζ dw;have iG:=ζ htb;have HB:=ζ hb;have bM:=ζ hrow;have CE:=ζ RI;clear dw htb hrow RI;by_cases hlt:i<l.length
  .have aX:(i:Int)<(l.length:Int):=by omega
   obtain⟨p,hp⟩:∃p,l[i]? =some p:=⟨_,aaC hlt⟩;obtain⟨b,o,rfl,c0,c1⟩:=(HE.out.later hb) i p hp;have hbl:b<wr.heap.size:=block_lt_of_cell c0;have hca:=fun W=>AK p t W
   unfold dx at hca;have HP:=ζ hp;clear hp hb;by_cases q4:Si.lt p t
   .have hd:decide (Si.lt p t)=true:=by simp[q4]
    rw[hd] at hca;have kD:=ζ hca;clear hca hd;go_wp2
    go_region_held3 (fun w'=>w'.cell? ⟨b,o+i*2,none⟩=some (.int .i64 p.1)/\w'.cell? ⟨b,o+i*2+1,none⟩=some (.int .i64 p.2)/\w'.cell? ⟨w.heap.size,0,none⟩=some (.int .i64 t.1)/\w'.cell? ⟨w.heap.size,1,none⟩=some (.int .i64 t.2))
     (first
       |go_keep
       |(go_split_ands
         refine⟨?_,?_,?_,?_⟩<;>(refine(hb2.cell (p:=⟨_,_,none⟩) ?_).trans ?_<;>first|assumption|(simp;omega))))
     ((go_at_call 48;refine(kD.out _).mono ?_;rintro e w2 ⟨rfl,hgr⟩;have hb2:Below wr.heap.size wr w2:=(aaE wr.heap.size wr).drew.trans (dZ hgr)))
    have bH:=ζ (bM.out.below hb2 (aaD _));have lg:=ζ ((hb2.block _ Jd).trans iG.out);have hs2:wr.heap.size<=w2.heap.size:=hb2.size;have mZ:w.heap.size<w2.heap.size:=by omega
    have aC:=ζ (HB.out.trans (hb2.mono HB.out.size));have pK:w.heap.size<=w2.heap.size:=aC.out.size;obtain⟨x0,x1,-⟩:=af lg.out;have d0:=(hb2.cell (p:=⟨b,o+i*2,none⟩) hbl).trans c0;have d1:=(hb2.cell (p:=⟨b,o+i*2+1,none⟩) hbl).trans c1;have QB:b<w2.heap.size:=by omega
    clear hb2 hgr c0 c1 t0 t1;go_wp2_with (at_builtin;refine wpList_append_own _ rfl _ _ 22 rfl (w.heap.size+1) 66 i0 (.agg #[.int .i64 0,.int .i64 0]) 2 16 Tryz.underlying22 hi hz0 hz1 hz2 rfl (by decide) _ _ _ rfl (abe bH.out _) ⟨w2.heap.size,0,none⟩ 1 1 [.int .i64 p.1,.int .i64 p.2] rfl rfl (fj _ _ rfl _ _ _) (by simp[Value.oneCell']) (by rw[CE.out];unfold maxLen;omega) (by rw[CE.out];omega) (by simp;omega) ?_;refine aaH ?_);refine ζ ?_;intro v' w3 hrow3 hg3 _;have mq:Hid (aL w3 (w.heap.size+1) v' (l.take (i+1))):=by
     unfold aL;have e:(l.take i++[p]).length=i+1:=by rw[aaN,CE.out];rfl
     rw[Si.e9 HP.out,cK,e];exact hrow3
    have Wj:=ζ ((hg3.block _ (by simp;omega) (fun h=>bH.out.far (Nat.lt_succ_self _) h.symm)).trans ((aaO _ _ _ mZ).trans lg.out));have aK:=ζ ((aC.out.alloc pK _).grown hg3 (by simp;omega) (fun j hj=>by have:=(aaJ bH.out j hj).1;omega));clear hrow3 hg3;go_wp2;go_roundw
    case rel=>
     refine⟨i+1,by omega,by go_num,fun j x hj hx=> ?_,mq.out,Wj.out,aK.out⟩;by_cases hji:j=i
     .subst hji;rw[HP.out] at hx;cases hx;exact q4
     .exact dP.out j x (by omega) hx
    case measure=>simp[intOf];omega
   .have hd:decide (Si.lt p t)=false:=by simp[q4]
    rw[hd] at hca;have kD:=ζ hca;have hput:=Si.BC l t i hil dP.out (fun x hx=>by rw[HP.out] at hx;cases hx;exact q4);clear hca hd;by_cases KB:p=t
    .rw[if_pos (by rw[HP.out,KB])] at hput
     have FC:=ζ hput;clear hput;have gQ:(p.1==t.1&&p.2==t.2)=true:=by rw[KB];simp
     have HPT:=ζ KB;clear KB;go_wp2
     go_region_held3 (fun w'=>w'.cell? ⟨b,o+i*2,none⟩=some (.int .i64 p.1)/\w'.cell? ⟨b,o+i*2+1,none⟩=some (.int .i64 p.2)/\w'.cell? ⟨w.heap.size,0,none⟩=some (.int .i64 t.1)/\w'.cell? ⟨w.heap.size,1,none⟩=some (.int .i64 t.2))
      (first
        |go_keep
        |(go_split_ands
          refine⟨?_,?_,?_,?_⟩<;>(refine(hb2.cell (p:=⟨_,_,none⟩) ?_).trans ?_<;>first|assumption|(simp;omega))))
      ((go_at_call 48;refine(kD.out _).mono ?_;rintro e w2 ⟨rfl,hgr⟩;have hb2:Below wr.heap.size wr w2:=(aaE wr.heap.size wr).drew.trans (dZ hgr)))
     have bH:=ζ (bM.out.below hb2 (aaD _));have lg:=ζ ((hb2.block _ Jd).trans iG.out);have hs2:wr.heap.size<=w2.heap.size:=hb2.size;have mZ:w.heap.size<w2.heap.size:=by omega
     have aC:=ζ (HB.out.trans (hb2.mono HB.out.size));have pK:w.heap.size<=w2.heap.size:=aC.out.size;obtain⟨x0,x1,-⟩:=af lg.out;have d0:=(hb2.cell (p:=⟨b,o+i*2,none⟩) hbl).trans c0;have d1:=(hb2.cell (p:=⟨b,o+i*2+1,none⟩) hbl).trans c1;have QB:b<w2.heap.size:=by omega
     clear hb2 hgr c0 c1 t0 t1;go_wp2_with fail;have tj:=lY;go_quiet (fail);clear tj;go_wp2;go_ret
     try rw[FC.out]
     exact⟨_,_,rfl,HE.out.later (below_drewN aC.out _),below_drewN aC.out _,.inl rfl⟩
    .rw[if_neg (by rw[HP.out];intro h;cases h;exact KB rfl)] at hput
     have FC:=ζ hput;clear hput;have gQ:(p.1==t.1&&p.2==t.2)=false:=by
      by_cases h1:p.1=t.1
      .have:p.2≠t.2:=fun h2=>KB (Prod.ext h1 h2)
       simp[this]
      .simp[h1]
     go_wp2
     go_region_held3 (fun w'=>w'.cell? ⟨b,o+i*2,none⟩=some (.int .i64 p.1)/\w'.cell? ⟨b,o+i*2+1,none⟩=some (.int .i64 p.2)/\w'.cell? ⟨w.heap.size,0,none⟩=some (.int .i64 t.1)/\w'.cell? ⟨w.heap.size,1,none⟩=some (.int .i64 t.2))
      (first
        |go_keep
        |(go_split_ands
          refine⟨?_,?_,?_,?_⟩<;>(refine(hb2.cell (p:=⟨_,_,none⟩) ?_).trans ?_<;>first|assumption|(simp;omega))))
      ((go_at_call 48;refine(kD.out _).mono ?_;rintro e w2 ⟨rfl,hgr⟩;have hb2:Below wr.heap.size wr w2:=(aaE wr.heap.size wr).drew.trans (dZ hgr)))
     have bH:=ζ (bM.out.below hb2 (aaD _));have lg:=ζ ((hb2.block _ Jd).trans iG.out);have hs2:wr.heap.size<=w2.heap.size:=hb2.size;have mZ:w.heap.size<w2.heap.size:=by omega
     have aC:=ζ (HB.out.trans (hb2.mono HB.out.size));have pK:w.heap.size<=w2.heap.size:=aC.out.size;obtain⟨x0,x1,-⟩:=af lg.out;have d0:=(hb2.cell (p:=⟨b,o+i*2,none⟩) hbl).trans c0;have d1:=(hb2.cell (p:=⟨b,o+i*2+1,none⟩) hbl).trans c1;have QB:b<w2.heap.size:=by omega
     clear hb2 hgr c0 c1 t0 t1;go_wp2_with fail;have tj:=lY;go_quiet (fail);clear tj;have bH:=ζ (bH.out.below (below_drewN (aaE w2.heap.size w2) nq) (aaD _));have lg:Hid ((w2.drewN nq).heap[w.heap.size]? =some (.cells #[.int .i64 t.1,.int .i64 t.2] 66 (0,0))):=lg.out;have aC:=ζ (below_drewN aC.out nq);have pK:w.heap.size<=(w2.drewN nq).heap.size:=pK;have mZ:w.heap.size<(w2.drewN nq).heap.size:=mZ;generalize w2.drewN nq=w3 at bH lg aC pK mZ ⊢;obtain⟨x0,x1,-⟩:=af lg.out;have hw3:=aC.out;have aC:=ζ hw3;clear hw3;go_wp2_with (at_builtin;refine wpList_append_own _ rfl _ _ 22 rfl (w.heap.size+1) 66 i0 (.agg #[.int .i64 0,.int .i64 0]) 2 16 Tryz.underlying22 hi hz0 hz1 hz2 rfl (by decide) _ _ _ rfl (abe bH.out _) ⟨w3.heap.size,0,none⟩ 1 1 [.int .i64 t.1,.int .i64 t.2] rfl rfl (fj _ _ rfl _ _ _) (by simp[Value.oneCell']) (by rw[CE.out];unfold maxLen;omega) (by rw[CE.out];omega) (by simp;omega) ?_;refine aaH ?_);refine ζ ?_;intro v' w4 hrow4 hg4 _;have Ip:Hid (aL w4 (w.heap.size+1) v' (l.take i++[t])):=by
      unfold aL;have e:(l.take i++[t]).length=i+1:=by rw[aaN,CE.out];rfl
      rw[cK,e];exact hrow4
     have eZ:=ζ ((aC.out.alloc pK _).grown hg4 (by simp;omega) (fun j hj=>by have:=(aaJ bH.out j hj).1;omega));clear hrow4 hg4 x0 x1;go_wp2;go_loopw [5,6] (fun v c wr=>∃(k:Nat) (L:List (Int×Int)),i<=k/\k<=l.length/\c= .int .i64 k/\L=l.take i++t::(l.drop i).take (k-i)/\aL wr (w.heap.size+1) v L/\Below w.heap.size w wr) (fun _ c _=>l.length-(intOf c).toNat)
     case atStart=>exact⟨i,_,aaD _,hil,rfl,by simp,Ip.out,eZ.out⟩
     case round=>
      obtain⟨k,L,hik,hkl,rfl,hL,hrow,hb⟩:=hrel;have qc:L.length=k+1:=by rw[hL];exact Ae hik hkl
      have HL:=ζ hL;have bM:=ζ hrow;have gY:=ζ hb;have jI:=ζ qc;have hs5:w.heap.size<=wr.heap.size:=hb.size;clear hL hrow qc;by_cases hlk:k<l.length
      .have aah:(k:Int)<(l.length:Int):=by omega
       have aai:(0:Int)<=(k:Int):=by omega
       obtain⟨p',hp'⟩:∃p',l[k]? =some p':=⟨_,aaC hlk⟩;obtain⟨b',o',hao,y0,y1⟩:=(HE.out.later hb) k p' hp';cases hao;have M7:=block_lt_of_cell y0;dsimp only at M7;have tF:=ζ (F7 (t:=t) hik hp');clear hb hp';go_wp2_with (at_builtin;refine wpList_append_own _ rfl _ _ 22 rfl (w.heap.size+1) 66 i0 (.agg #[.int .i64 0,.int .i64 0]) 2 16 Tryz.underlying22 hi hz0 hz1 hz2 rfl (by decide) _ _ _ rfl (abe bM.out _) ⟨wr.heap.size,0,none⟩ 1 1 [.int .i64 p'.1,.int .i64 p'.2] rfl rfl (fj _ _ rfl _ _ _) (by simp[Value.oneCell']) (by rw[jI.out];unfold maxLen;omega) (by rw[jI.out];omega) (by simp;omega) ?_;refine aaH ?_);refine ζ ?_;intro v6 w6 Mz Vj _;have S7:Hid (aL w6 (w.heap.size+1) v6 (L++[p'])):=by
        unfold aL;rw[cK,aaN];exact Mz
       have tK:=ζ ((gY.out.alloc hs5 _).grown Vj (by simp;omega) (fun j hj=>by have:=(aaJ bM.out j hj).1;omega));clear Mz Vj;go_wp2;go_roundw
       case rel=>exact⟨k+1,_,by omega,by omega,by go_num,by rw[tF.out,HL.out],S7.out,tK.out⟩
       case measure=>simp[intOf];omega
      .have Sg:¬((k:Int)<(l.length:Int)):=by omega
       have En:k=l.length:=by omega
       have rE:L=l.take i++t::l.drop i:=by
        rw[HL.out,En]
        congr 2
        exact aa3 (by simp)
       obtain⟨zR,cap',rfl,_,_,xT,MI⟩:=bM.out.form;have jC:=ζ rE;clear rE;have FP:=ζ xT;have Tc:Hid (∀x,zR=some x->w.heap.size<=x.block):=fun x hx=>by have:=(MI x hx).1;omega
       clear xT hb MI;go_wp2;go_ret
       try rw[FC.out]
       rw[<-jC.out];exact⟨zR,⟨cap',rfl⟩,FP.out,gY.out,.inr Tc.out⟩
  .have hd:¬((i:Int)<(l.length:Int)):=by omega
   have hno:l[i]? =none:=aaS (by omega);have hput:=Si.BC l t i hil dP.out (fun x hx=>by rw[hno] at hx;cases hx);rw[if_neg (by rw[hno];simp)] at hput;have FC:=ζ hput;clear hput hno hb;have tj:=lY;go_wp2_with fail;go_quiet (fail);clear tj;have bH:=ζ (bM.out.below (below_drewN (aaE wr.heap.size wr) nq) (aaD _));have lg:Hid ((wr.drewN nq).heap[w.heap.size]? =some (.cells #[.int .i64 t.1,.int .i64 t.2] 66 (0,0))):=iG.out;have aC:=ζ (below_drewN HB.out nq);have pK:w.heap.size<=(wr.drewN nq).heap.size:=HB.out.size;have mZ:w.heap.size<(wr.drewN nq).heap.size:=Jd;generalize wr.drewN nq=w3 at bH lg aC pK mZ ⊢;obtain⟨x0,x1,-⟩:=af lg.out;have hw3:=aC.out;have aC:=ζ hw3;clear hw3;go_wp2_with (at_builtin;refine wpList_append_own _ rfl _ _ 22 rfl (w.heap.size+1) 66 i0 (.agg #[.int .i64 0,.int .i64 0]) 2 16 Tryz.underlying22 hi hz0 hz1 hz2 rfl (by decide) _ _ _ rfl (abe bH.out _) ⟨w3.heap.size,0,none⟩ 1 1 [.int .i64 t.1,.int .i64 t.2] rfl rfl (fj _ _ rfl _ _ _) (by simp[Value.oneCell']) (by rw[CE.out];unfold maxLen;omega) (by rw[CE.out];omega) (by simp;omega) ?_;refine aaH ?_);refine ζ ?_;intro v' w4 hrow4 hg4 _;have Ip:Hid (aL w4 (w.heap.size+1) v' (l.take i++[t])):=by
    unfold aL;have e:(l.take i++[t]).length=i+1:=by rw[aaN,CE.out];rfl
    rw[cK,e];exact hrow4
   have eZ:=ζ ((aC.out.alloc pK _).grown hg4 (by simp;omega) (fun j hj=>by have:=(aaJ bH.out j hj).1;omega));clear hrow4 hg4 x0 x1;go_wp2;go_loopw [5,6] (fun v c wr=>∃(k:Nat) (L:List (Int×Int)),i<=k/\k<=l.length/\c= .int .i64 k/\L=l.take i++t::(l.drop i).take (k-i)/\aL wr (w.heap.size+1) v L/\Below w.heap.size w wr) (fun _ c _=>l.length-(intOf c).toNat)
   case atStart=>exact⟨i,_,aaD _,hil,rfl,by simp,Ip.out,eZ.out⟩
   case round=>
    obtain⟨k,L,hik,hkl,rfl,hL,hrow,hb⟩:=hrel;have qc:L.length=k+1:=by rw[hL];exact Ae hik hkl
    have HL:=ζ hL;have bM:=ζ hrow;have gY:=ζ hb;have jI:=ζ qc;have hs5:w.heap.size<=wr.heap.size:=hb.size;clear hL hrow qc;by_cases hlk:k<l.length
    .exact absurd hlk (by omega)
    .have Sg:¬((k:Int)<(l.length:Int)):=by omega
     have En:k=l.length:=by omega
     have rE:L=l.take i++t::l.drop i:=by
      rw[HL.out,En]
      congr 2
      exact aa3 (by simp)
     obtain⟨zR,cap',rfl,_,_,xT,MI⟩:=bM.out.form;have jC:=ζ rE;clear rE;have FP:=ζ xT;have Tc:Hid (∀x,zR=some x->w.heap.size<=x.block):=fun x hx=>by have:=(MI x hx).1;omega
     clear xT hb MI;go_wp2;go_ret
     try rw[FC.out]
     rw[<-jC.out];exact⟨zR,⟨cap',rfl⟩,FP.out,gY.out,.inr Tc.out⟩
end
section
open Go.Proofs.Tryz
open Go.RowKit Go.Sort
theorem EZ {w:World} {ao:Option Addr} {l:List (Int×Int)} (h:ah w ao l) {g:Nat} {x:Value} {a:Option Addr} {n c:Nat} {t:TypeId} (hG:w.heap[g]? =some (.cells #[x,.slice a n c] t (0,0))) (x' y':Value):
 ah ((w.setCell ⟨g,0,none⟩ x').setCell ⟨g,1,none⟩ y') ao l:=fun j p hj=>by
 obtain⟨b,o,e,h0,h1⟩:=h j p hj;have hne:b≠g:=by
  intro e;subst e;simp only[World.cell?,hG] at h1;rcases(show o+j*2+1=1\/2<=o+j*2+1 by omega) with h2|h2
  .rw[h2] at h1
   simp at h1
  .rw[ab0 (by simpa using h2)] at h1
   cases h1
 have hb:((w.setCell ⟨g,0,none⟩ x').setCell ⟨g,1,none⟩ y').heap[b]? =w.heap[b]? :=by
  rw[heap_setCell_other _ ⟨g,1,none⟩ b y' hne,heap_setCell_other _ ⟨g,0,none⟩ b x' hne]
 refine⟨b,o,e,?_,?_⟩
 .simp only[World.cell?,hb] at h0 ⊢
  exact h0
 .simp only[World.cell?,hb] at h1 ⊢
  exact h1
def Ie (n:Int) (ps:List (Int×Int)) (w:World) (e:Ending) (w':World):Prop:=
 ∃ao cap,e= .returned (.tuple #[.agg #[.int .i64 (Si.mk n ps).1,.slice ao (Si.mk n ps).2.1.length cap],.int .i64 (Si.mk n ps).2.2])/\ah w' ao (Si.mk n ps).2.1/\Below w.heap.size w w'
def eK (n:Int) (ps:List (Int×Int)) (w:World) (e:Ending) (w':World):Prop:=
 ∃ao cap,e= .returned (.tuple #[.agg #[.int .i64 (Si.mk n ps).1,.slice ao (Si.mk n ps).2.1.length cap],.int .i64 (Si.mk n ps).2.2])/\ah w' ao (Si.mk n ps).2.1/\Below w.heap.size w w'/\∀x,ao=some x->w.heap.size<=x.block
theorem I3 {w wr:World} {bo H7:Option Addr} (h:∀x,bo=some x->w.heap.size<=x.block) (hs:w.heap.size<=wr.heap.size) (h2:H7=bo\/∀x,H7=some x->wr.heap.size<=x.block):∀x,H7=some x->w.heap.size<=x.block:=fun x hx=>by
 rcases h2 with rfl|h2
 .exact h x hx
 .exact aaM hs (h2 x hx)
theorem wJ (n:Int) (ao:Option Addr) (cap:Nat) (ps:List (Int×Int)) (w:World) (he:ah w ao ps) (hl:(ps.length+1)*16<=140737488355328):
 Calls prog 27 #[.int .i64 n,.slice ao ps.length cap] w (eK n ps w):=by
 have HE:=ζ he;clear he;have Qx:Below w.heap.size w (w.alloc (.cells #[.int .i64 0,.slice none 0 0] 24)):=(aaE _ _).alloc (aaD _) _;have Ol:=ζ Qx;clear Qx;by_cases h1:n<0
 .have HM:Hid (Si.mk n ps=(0,[],2)):=by show Si.mk n ps=_;unfold Si.mk;rw[if_pos (.inl h1)]
  go_enter func27,ntmps27;go_wp2;refine bodyPost_ret (v:= .tuple #[.agg #[.int .i64 0,.slice none 0 0],.int .i64 2]) (by simp[results,results27,go_sem]) rfl ?_;unfold eK;rw[HM.out];exact⟨_,_,rfl,ah.nil _ _,Ol.out,fun x h=>by cases h⟩
 by_cases h2:1048576<n
 .have HM:Hid (Si.mk n ps=(0,[],2)):=by show Si.mk n ps=_;unfold Si.mk;rw[if_pos (.inr (.inl h2))]
  go_enter func27,ntmps27;go_wp2;refine bodyPost_ret (v:= .tuple #[.agg #[.int .i64 0,.slice none 0 0],.int .i64 2]) (by simp[results,results27,go_sem]) rfl ?_;unfold eK;rw[HM.out];exact⟨_,_,rfl,ah.nil _ _,Ol.out,fun x h=>by cases h⟩
 go_enter func27,ntmps27;go_wp2;go_loopw [6] (fun c wr=>∃k:Nat,k<=ps.length/\c= .int .i64 k/\(∀(j:Nat) (p:Int×Int),j<k->ps[j]? =some p->Si.xF n p)/\wr.heap[w.heap.size]? =some (.cells #[.int .i64 0,.slice none 0 0] 24 (0,0))/\Below w.heap.size w wr) (fun c _=>ps.length-(intOf c).toNat)
 case atStart=>exact⟨0,aaL _,rfl,fun j p h=>by omega,heap_alloc_new w _,Ol.out⟩
 case round=>
  obtain⟨k,hk,rfl,hin,hG,hb⟩:=hrel;have hs:=lt_of_block hG;obtain⟨g0,g1,gf⟩:=af hG;have zW:=ζ hin;have HG:=ζ hG;have HB:=ζ hb;clear hin hG;by_cases hlt:k<ps.length
  .have aX:(k:Int)<(ps.length:Int):=by omega
   have hk0:(0:Int)<=(k:Int):=by omega
   obtain⟨p,hp⟩:∃p,ps[k]? =some p:=⟨_,aaC hlt⟩;obtain⟨b,o,rfl,c0,c1⟩:=(HE.out.later hb) k p hp;have hbl:b<wr.heap.size:=block_lt_of_cell c0;have HP:=ζ hp;clear hp hb;by_cases hi:Si.xF n p
   .have hi':=hi
    unfold Si.xF at hi';obtain⟨⟨i0,i1⟩,i2,i3⟩:=hi';have i0':¬(p.1<0):=by omega
    have i2':¬(p.2<0):=by omega
    go_wp2;go_roundw
    case rel=>
     refine⟨k+1,by omega,by go_num,fun j q hj hq=> ?_,HG.out,HB.out⟩;by_cases hjk:j=k
     .subst hjk;rw[HP.out] at hq;cases hq;exact hi
     .exact zW.out j q (by omega) hq
    case measure=>simp[intOf];omega
   .have hv:=Si.Gz HP.out (n:=n) hi
    have HM:Hid (Si.mk n ps=(0,[],2)):=by
     show Si.mk n ps=(0,[],2);unfold Si.mk;rw[if_pos (.inr (.inr hv))]
    clear hv;by_cases q1:p.1<0
    .go_wp2
     obtain⟨r0,r1,-⟩:=af (bS HG.out (.int .i64 0) (.slice none 0 0));refine bodyPost_ret (v:= .tuple #[.agg #[.int .i64 0,.slice none 0 0],.int .i64 2]) (by simp[results,results27,go_sem,r0,r1]) rfl ?_;unfold eK;rw[HM.out];exact⟨_,_,rfl,ah.nil _ _,(HB.out.setCell (by simp) _).setCell (by simp) _,fun x h=>by cases h⟩
    .by_cases q2:p.1<n
     .by_cases q3:p.2<0
      .go_wp2
       obtain⟨r0,r1,-⟩:=af (bS HG.out (.int .i64 0) (.slice none 0 0));refine bodyPost_ret (v:= .tuple #[.agg #[.int .i64 0,.slice none 0 0],.int .i64 2]) (by simp[results,results27,go_sem,r0,r1]) rfl ?_;unfold eK;rw[HM.out];exact⟨_,_,rfl,ah.nil _ _,(HB.out.setCell (by simp) _).setCell (by simp) _,fun x h=>by cases h⟩
      .have q4:¬(p.2<n):=fun q4=>hi (by unfold Si.xF;omega)
       go_wp2;obtain⟨r0,r1,-⟩:=af (bS HG.out (.int .i64 0) (.slice none 0 0));refine bodyPost_ret (v:= .tuple #[.agg #[.int .i64 0,.slice none 0 0],.int .i64 2]) (by simp[results,results27,go_sem,r0,r1]) rfl ?_;unfold eK;rw[HM.out];exact⟨_,_,rfl,ah.nil _ _,(HB.out.setCell (by simp) _).setCell (by simp) _,fun x h=>by cases h⟩
     .go_wp2
      obtain⟨r0,r1,-⟩:=af (bS HG.out (.int .i64 0) (.slice none 0 0));refine bodyPost_ret (v:= .tuple #[.agg #[.int .i64 0,.slice none 0 0],.int .i64 2]) (by simp[results,results27,go_sem,r0,r1]) rfl ?_;unfold eK;rw[HM.out];exact⟨_,_,rfl,ah.nil _ _,(HB.out.setCell (by simp) _).setCell (by simp) _,fun x h=>by cases h⟩
  .have hkl:k=ps.length:=by omega
   have Qn:Si.inside n ps=true:=Si.uu (fun j p hj=>zW.out j p (by rcases abk j ps.length with h'|h';omega;rw[aaS h'] at hj;cases hj) hj);have Iw:=ζ (show Si.mk n ps=_ from by unfold Si.mk;rw[if_neg (by simp[Qn];omega)]);have hd:¬((k:Int)<(ps.length:Int)):=by omega
   clear Qn hb g0 g1 gf;go_wp2;go_loopw [9,10] (fun v c wr=>∃(k cp:Nat) (bo:Option Addr) (l:List (Int×Int)),k<=ps.length/\c= .int .i64 k/\l=Si.made [] (ps.take k)/\v= .slice bo l.length cp/\ah wr bo l/\(∀x,bo=some x->w.heap.size<=x.block)/\wr.heap[w.heap.size]? =some (.cells #[.int .i64 0,.slice none 0 0] 24 (0,0))/\Below w.heap.size w wr) (fun _ c _=>ps.length-(intOf c).toNat)
   case atStart=>exact⟨0,0,none,[],aaL _,rfl,by simp[Si.made],rfl,ah.nil _ _,(fun x h=>by cases h),HG.out,HB.out⟩
   case round=>
    obtain⟨k,cp,bo,l,hk,rfl,hl0,rfl,xT,hnew,hG,hb⟩:=hrel;have jB:=ζ hnew;clear hnew;have hsw:w.heap.size<=wr.heap.size:=hb.size;have hs:=lt_of_block hG;obtain⟨g0,g1,gf⟩:=af hG;have HG:=ζ hG;have HB:=ζ hb;have FP:=ζ xT;have yZ:=ζ hl0;have fY:l.length<=k:=by
     rw[hl0];have:=(Si.iC (ps.take k) []).2;simp at this ⊢;omega
    clear hG xT hl0;by_cases hlt:k<ps.length
    .have aX:(k:Int)<(ps.length:Int):=by omega
     have hk0:(0:Int)<=(k:Int):=by omega
     obtain⟨p,hp⟩:∃p,ps[k]? =some p:=⟨_,aaC hlt⟩;obtain⟨b,o,hao,c0,c1⟩:=(HE.out.later hb) k p hp;cases hao;have hbl:=block_lt_of_cell c0;dsimp only at hbl;have sP:Si.made [] (ps.take (k+1))=if p.1=p.2 then l else Si.put l (Si.norm p):=by rw[Si.e9 hp,Si.xj,<-yZ.out]
     clear hp hb;rcases Int.lt_or_le p.1 p.2 with h3|h3
     .have hno:Si.norm p=(p.1,p.2):=by unfold Si.norm;ext<;>dsimp only<;>omega
      rw[if_neg (by omega),hno] at sP;have tF:=ζ sP;have hpa:=Ds bo cp l (p.1,p.2) wr FP.out (by omega);unfold dx at hpa;dsimp only at hpa;have PS:=ζ hpa;have h3':¬(p.2<p.1):=by omega
      clear hno sP hpa;go_wp2_with (go_at_call 49;refine PS.out.mono ?_;refine aaH ?_);refine ζ ?_;rintro e w2 ⟨H7,SL,rfl,Es,hb2,Eh⟩;have PV:=ζ (I3 jB.out hsw Eh);clear Eh;have Oe:=ζ Es;have aC:=ζ (HB.out.trans (hb2.mono HB.out.size));have dF:=ζ ((hb2.block _ hs).trans HG.out);clear Es hb2;go_wp2;go_roundw
      case rel=>exact⟨k+1,SL,H7,_,by omega,by go_num,tF.out.symm,rfl,Oe.out,PV.out,dF.out,aC.out⟩
      case measure=>simp[intOf];omega
     .rcases Int.lt_or_le p.2 p.1 with h4|h4
      .have hno:Si.norm p=(p.2,p.1):=by unfold Si.norm;ext<;>dsimp only<;>omega
       rw[if_neg (by omega),hno] at sP;have tF:=ζ sP;have hpa:=Ds bo cp l (p.2,p.1) wr FP.out (by omega);unfold dx at hpa;dsimp only at hpa;have PS:=ζ hpa;have h3':¬(p.1<p.2):=by omega
       clear hno sP hpa;go_wp2_with (go_at_call 49;refine PS.out.mono ?_;refine aaH ?_);refine ζ ?_;rintro e w2 ⟨H7,SL,rfl,Es,hb2,Eh⟩;have PV:=ζ (I3 jB.out hsw Eh);clear Eh;have Oe:=ζ Es;have aC:=ζ (HB.out.trans (hb2.mono HB.out.size));have dF:=ζ ((hb2.block _ hs).trans HG.out);clear Es hb2;go_wp2;go_roundw
       case rel=>exact⟨k+1,SL,H7,_,by omega,by go_num,tF.out.symm,rfl,Oe.out,PV.out,dF.out,aC.out⟩
       case measure=>simp[intOf];omega
      .rw[if_pos (by omega)] at sP
       have tF:=ζ sP;have h3':¬(p.1<p.2):=by omega
       have h4':¬(p.2<p.1):=by omega
       clear sP;go_wp2;go_roundw
       case rel=>exact⟨k+1,cp,bo,l,by omega,by go_num,tF.out.symm,rfl,FP.out,jB.out,HG.out,HB.out⟩
       case measure=>simp[intOf];omega
    .have hd:¬((k:Int)<(ps.length:Int)):=by omega
     have hle:l=Si.made [] ps:=by rw[yZ.out,show k=ps.length by omega,abn]
     have jC:=ζ hle;clear hle hb;by_cases hbig:4194304<l.length
     .have sX:(4194304:Int)<(l.length:Int):=by omega
      have HM:Hid (Si.mk n ps=(0,[],141)):=by
       show Si.mk n ps=_;rw[Iw.out,if_pos (by rw[<-jC.out];exact hbig)]
      go_wp2;obtain⟨r0,r1,-⟩:=af (bS HG.out (.int .i64 0) (.slice none 0 0));refine bodyPost_ret (v:= .tuple #[.agg #[.int .i64 0,.slice none 0 0],.int .i64 141]) (by simp[results,results27,go_sem,r0,r1]) rfl ?_;unfold eK;rw[HM.out];exact⟨_,_,rfl,ah.nil _ _,(HB.out.setCell (by simp) _).setCell (by simp) _,fun x h=>by cases h⟩
     .have sX:¬((4194304:Int)<(l.length:Int)):=by omega
      have HM:Hid (Si.mk n ps=(n,l,0)):=by
       show Si.mk n ps=_;rw[Iw.out,<-jC.out,if_neg hbig]
      go_wp2;obtain⟨r0,r1,-⟩:=af (bS HG.out (.int .i64 n) (.slice bo l.length cp));refine bodyPost_ret (v:= .tuple #[.agg #[.int .i64 n,.slice bo l.length cp],.int .i64 0]) (by simp[results,results27,go_sem,r0,r1]) rfl ?_;unfold eK;rw[HM.out];exact⟨_,_,rfl,EZ FP.out HG.out _ _,(HB.out.setCell (by simp) _).setCell (by simp) _,jB.out⟩
theorem Gf (n:Int) (ao:Option Addr) (cap:Nat) (ps:List (Int×Int)) (w:World) (he:ah w ao ps) (hl:(ps.length+1)*16<=140737488355328):
 Calls prog 27 #[.int .i64 n,.slice ao ps.length cap] w (Ie n ps w):=
 (wJ n ao cap ps w he hl).mono fun _ _ ⟨a,c,h1,h2,h3,_⟩=>⟨a,c,h1,h2,h3⟩
end
section
open Go.RowKit Go.Sort
theorem Si.gS.first {n:Int} {es:List (Int×Int)} {l p:Int×Int} (h:Si.gS n es 0 l) (ho:Si.ok n p):Si.lt l p:=by
 rcases h.2.2 with ⟨_,rfl⟩|⟨k',hk,_⟩
 .unfold Si.ok at ho
  unfold Si.lt;dsimp only;omega
 .omega
theorem Si.gS.last {n:Int} {es:List (Int×Int)} {k:Nat} {l:Int×Int} (h:Si.gS n es (k+1) l):es[k]? =some l:=by
 rcases h.2.2 with ⟨h0,_⟩|⟨k',hk,hl⟩
 .omega
 .obtain rfl:k=k':=by omega
  exact hl
end
section
open Go.Proofs.Tryz
open Go.RowKit Go.Sort
theorem De (n:Int) (ao:Option Addr) (cap:Nat) (es:List (Int×Int)) (w:World) (he:ah w ao es) (hl:es.length<=4611686018427387904):
 Calls prog 25 #[aD n ao es.length cap] w fun e w'=>e= .returned (.bool (Si.valid n es))/\Below w.heap.size w w':=by
 have HE:=ζ he;clear he;unfold aD;by_cases h1:n<0
 .have hv:=Si.bR (n:=n) (es:=es) (fun h=>by have:=h.lo;omega)
  rw[hv];go_enter func25,ntmps25;go_wp2;go_ret;exact⟨rfl,(aaE _ _).alloc (aaD _) _⟩
 by_cases h2:1048576<n
 .have hv:=Si.bR (n:=n) (es:=es) (fun h=>by have:=h.hi;omega)
  rw[hv];go_enter func25,ntmps25;go_wp2;go_ret;exact⟨rfl,(aaE _ _).alloc (aaD _) _⟩
 by_cases h3:4194304<(es.length:Int)
 .have hv:=Si.bR (n:=n) (es:=es) (fun h=>by have:=h.few;omega)
  rw[hv];go_enter func25,ntmps25;go_wp2;go_ret;exact⟨rfl,(aaE _ _).alloc (aaD _) _⟩
 go_enter func25,ntmps25;go_wp2;go_loopw [3] (fun c wr=>∃(k:Nat) (l:Int×Int),k<=es.length/\c= .int .i64 k/\Si.gS n es k l/\wr.heap[w.heap.size]? =some (.cells #[.int .i64 n,.slice ao es.length cap] 24 (0,0))/\Below w.heap.size w wr) (fun c _=>es.length-(intOf c).toNat)
 case atStart=>exact⟨0,(0,0),aaL _,rfl,Si.gS.start n es,heap_alloc_new w _,(aaE _ _).alloc (aaD _) _⟩
 case round=>
  obtain⟨k,l,hk,rfl,vg,hgb,hb⟩:=hrel;obtain⟨g0,g1,-⟩:=af hgb;have kY:=lt_of_block hgb;have zY:=ζ hgb;have nM:=ζ vg;have HB:=ζ hb;clear hgb vg;by_cases hlt:k<es.length
  .have aX:(k:Int)<(es.length:Int):=by omega
   have hk0:(0:Int)<=(k:Int):=by omega
   obtain⟨p,hp⟩:∃p,es[k]? =some p:=⟨_,aaC hlt⟩;obtain⟨b,o,rfl,c0,c1⟩:=(HE.out.later hb) k p hp;have hbl:b<wr.heap.size:=block_lt_of_cell c0;have HP:=ζ hp;clear hp;by_cases q1:p.1<0
   .have hv:=Si.bR (n:=n) (es:=es) (fun h=>by have:=(nM.out.must h HP.out).1.1;omega)
    clear hb;go_wp2;go_ret;exact⟨by first|rfl|exact congrArg (fun b=>Ending.returned (.bool b)) hv.symm,HB.out.alloc (by omega) _⟩
   by_cases q2:p.1<p.2
   rotate_left
   .have hv:=Si.bR (n:=n) (es:=es) (fun h=>by have:=(nM.out.must h HP.out).1.2.1;omega)
    clear hb;go_wp2;go_ret;exact⟨by first|rfl|exact congrArg (fun b=>Ending.returned (.bool b)) hv.symm,HB.out.alloc (by omega) _⟩
   by_cases q3:p.2<n
   rotate_left
   .have hv:=Si.bR (n:=n) (es:=es) (fun h=>by have:=(nM.out.must h HP.out).1.2.2;omega)
    clear hb;go_wp2;go_ret;exact⟨by first|rfl|exact congrArg (fun b=>Ending.returned (.bool b)) hv.symm,HB.out.alloc (by omega) _⟩
   have hok:Si.ok n p:=⟨by omega,q2,q3⟩;have mJ:Below wr.heap.size wr (wr.alloc (.cells #[.int .i64 p.1,.int .i64 p.2] 66)):=(aaE _ _).alloc (aaD _) _;by_cases RZ:k=0
   .have hkn:¬((0:Int)<(k:Int)):=by omega
    have Qk:Si.lt l p:=by
     have:=nM.out;rw[RZ] at this;exact this.first hok
    have HST:=ζ (nM.out.step HP.out hok Qk);have CT:=ζ (HB.out.trans (mJ.mono HB.out.size));have dF:=ζ ((mJ.block _ kY).trans zY.out);clear hok mJ hb RZ Qk;go_wp2;go_roundw
    case rel=>exact⟨k+1,p,by omega,by go_num,HST.out,dF.out,CT.out⟩
    case measure=>simp[intOf];omega
   .obtain⟨k',hk'⟩:∃k',k=k'+1:=⟨k-1,by omega⟩
    have hl':es[k']? =some l:=by
     have:=nM.out;rw[hk'] at this;exact this.last
    obtain⟨b2,o2,e2,d0,d1⟩:=(HE.out.later hb) k' l hl';cases e2;have hk1:(k:Int)-1=(k':Int):=by omega
    have hkw:IntKind.i64.wrap (k':Int)=(k':Int):=by simp[IntKind.wrap,IntKind.bits,IntKind.signed];omega
    have aak:(0:Int)<=(k':Int):=by omega
    have aaj:(k':Int)<(es.length:Int):=by omega
    have hkp:(0:Int)<(k:Int):=by omega
    have hca:=fun W=>AK l p W
    unfold dx at hca;have HK:=ζ hk';clear hk' hl' RZ hb;have CT:=ζ mJ;have y0:=(mJ.cell (p:=⟨b,o+k'*2,none⟩) hbl).trans d0;have y1:=(mJ.cell (p:=⟨b,o+k'*2+1,none⟩) hbl).trans d1;have z0:=(mJ.cell (p:=⟨w.heap.size,0,none⟩) kY).trans g0;have z1:=(mJ.cell (p:=⟨w.heap.size,1,none⟩) kY).trans g1;obtain⟨p0,p1,-⟩:=af (heap_alloc_new wr (.cells #[.int .i64 p.1,.int .i64 p.2] 66));have GK:(wr.alloc (.cells #[.int .i64 p.1,.int .i64 p.2] 66)).heap.size=wr.heap.size+1:=by simp
    by_cases q4:Si.lt l p
    .have hd:decide (Si.lt l p)=true:=by simp[q4]
     rw[hd] at hca;have kD:=ζ hca;have HST:=ζ (nM.out.step HP.out hok q4);clear hca hd hok mJ d0 d1;go_wp2_with fail;generalize hX:wr.alloc (.cells #[.int .i64 p.1,.int .i64 p.2] 66)=X at y0 y1 z0 z1 p0 p1 GK CT ⊢;clear hX c0 c1 g0 g1
     go_region_held3 (fun w'=>w'.cell? ⟨b,o+k'*2,none⟩=some (.int .i64 l.1)/\w'.cell? ⟨b,o+k'*2+1,none⟩=some (.int .i64 l.2)/\w'.cell? ⟨w.heap.size,1,none⟩=some (.slice (some ⟨b,o,none⟩) es.length cap)/\w'.cell? ⟨wr.heap.size,0,none⟩=some (.int .i64 p.1)/\w'.cell? ⟨wr.heap.size,1,none⟩=some (.int .i64 p.2))
      (first
        |go_keep
        |(go_split_ands
          refine⟨?_,?_,?_,?_,?_⟩<;>(refine(hb2.cell (p:=⟨_,_,none⟩) ?_).trans ?_<;>first|assumption|(simp;omega))))
      ((go_at_call 48;refine(kD.out _).mono ?_;rintro e w2 ⟨rfl,hgr⟩;have hb2:Below X.heap.size X w2:=(aaE X.heap.size X).drew.trans (dZ hgr)))
     have hb3:Below wr.heap.size wr w2:=CT.out.trans (hb2.mono (by omega));have aK:=ζ (HB.out.trans (hb3.mono HB.out.size));have kj:=ζ ((hb3.block _ kY).trans zY.out);clear hb2 hb3 hgr;go_wp2;go_roundw
     case rel=>exact⟨k+1,p,by omega,by go_num,HST.out,kj.out,aK.out⟩
     case measure=>simp[intOf];omega
    .have hv:=Si.bR (n:=n) (es:=es) (fun h=>q4 (nM.out.must h HP.out).2)
     have HV:=ζ hv;have hd:decide (Si.lt l p)=false:=by simp[q4]
     rw[hd] at hca;have kD:=ζ hca;clear hca hd hok mJ d0 d1 hv;go_wp2_with fail;generalize hX:wr.alloc (.cells #[.int .i64 p.1,.int .i64 p.2] 66)=X at y0 y1 z0 z1 p0 p1 GK CT ⊢;clear hX c0 c1 g0 g1
     go_region_held3 (fun w'=>w'.cell? ⟨b,o+k'*2,none⟩=some (.int .i64 l.1)/\w'.cell? ⟨b,o+k'*2+1,none⟩=some (.int .i64 l.2)/\w'.cell? ⟨w.heap.size,1,none⟩=some (.slice (some ⟨b,o,none⟩) es.length cap)/\w'.cell? ⟨wr.heap.size,0,none⟩=some (.int .i64 p.1)/\w'.cell? ⟨wr.heap.size,1,none⟩=some (.int .i64 p.2))
      (first
        |go_keep
        |(go_split_ands
          refine⟨?_,?_,?_,?_,?_⟩<;>(refine(hb2.cell (p:=⟨_,_,none⟩) ?_).trans ?_<;>first|assumption|(simp;omega))))
      ((go_at_call 48;refine(kD.out _).mono ?_;rintro e w2 ⟨rfl,hgr⟩;have hb2:Below X.heap.size X w2:=(aaE X.heap.size X).drew.trans (dZ hgr)))
     have hb3:Below wr.heap.size wr w2:=CT.out.trans (hb2.mono (by omega));have aK:=ζ (HB.out.trans (hb3.mono HB.out.size));clear hb2 hb3 hgr;go_wp2;go_ret;exact⟨by rw[HV.out];rfl,aK.out⟩
  .have hd:¬((k:Int)<(es.length:Int)):=by omega
   obtain rfl:k=es.length:=by omega
   have hv:=Si.aJ.2 (nM.out.done (by omega) (by omega) (by omega));have HV:=ζ hv;clear hb hv;go_wp2;go_ret;exact⟨by rw[HV.out];rfl,HB.out⟩
end
section
open Go
namespace Q9
theorem inPlace:(Rows.checkMoreUptoRow.inPlace==Tryz.pinned.checked.prog.inPlace 8)=true:=by kernel_rfl
theorem unfollowed:(Rows.checkMoreUptoRow.unfollowed==Tryz.pinned.checked.prog.unfollowed 8)=true:=by kernel_rfl
theorem recurses:(Rows.checkMoreUptoRow.recurses==Tryz.pinned.checked.prog.recurses 8)=true:=by kernel_rfl
theorem named:(Rows.checkMoreUptoRow.named==Tryz.pinned.checked.prog.varsNamed 8)=true:=by kernel_rfl
theorem closed:joinedFacts Tryz.pinned.checked.prog 8 Tryz.f8 (Rows.OpenSpec.upto Rows.checkMoreSpec).bare Rows.checkMoreUptoRow=true:=by
 unfold joinedFacts;rw[inPlace,unfollowed,recurses,named]
 kernel_rfl
end Q9
end
section
open Go.Proofs.Tryz
open Go.ChangeShapes Go.WideShapes Go.ChangeAt Go.RowKit
theorem VT:prog.globalNamed "internal/strconv.uint64pow10"=some 0:=by kernel_rfl
theorem KN:(prog.globals[0]?).map (·.type)=some 363:=by kernel_rfl
theorem K4:prog.cellsOf 363=20:=by kernel_rfl
theorem K3:prog.cellsOf 269=1:=by kernel_rfl
theorem KX:(Rows.laid_internal_strconv_uint64pow10:DataW Unit)=Lib.tabData .u64 Lib.pow10Tab:=by kernel_rfl
def listed:List (String×DataW Unit):=[("math/bits.deBruijn32tab",Rows.laid_math_bits_deBruijn32tab),("math/bits.deBruijn64tab",Rows.laid_math_bits_deBruijn64tab),("internal/strconv.uint64pow10",Rows.laid_internal_strconv_uint64pow10)]
theorem table {W:World} (h:laidMet prog listed W):iE W:=by
 obtain⟨ps,⟨_,_,_,_,_,_,_,_,_,_,⟨_,_,_,_,_,_,_,_,_,_,⟨g,t,cs,fuel,p,q,hg,ht,Us,hd,_,_⟩,_⟩,_⟩,_⟩:=h;obtain rfl:=aaQ (VT.symm.trans hg);obtain rfl:=aaQ (KN.symm.trans ht);rw[KX] at hd;unfold iE Lib.TabIs;rw[Us,<-Lib.cells_of_tab Tryz.underlying363 Tryz.underlying269 K3 K4 hd]
def sG:DataW Unit->Array Value
 | .agg l=>(l.map fun
   | .lit (.int k n)=>Value.int k n
   |_=> .bool false).toArray
 |_=> #[]
def mP (c:Array Value):Obj->Obj
 | .cells _ t frozen=> .cells c t frozen
 |o=>o
noncomputable def pU (os:Os):World:=
 { World.holding prog os ⟨#[],#[],[]⟩ with heap:=(((World.holding prog os ⟨#[],#[],[]⟩).heap.modify 0 (mP (sG Rows.laid_internal_strconv_uint64pow10))).modify 1 (mP (sG Rows.laid_math_bits_deBruijn32tab))).modify 2 (mP (sG Rows.laid_math_bits_deBruijn64tab)) }
end
end Go.Proofs.YtdbjpbjocmcpkaaGreatDoor
