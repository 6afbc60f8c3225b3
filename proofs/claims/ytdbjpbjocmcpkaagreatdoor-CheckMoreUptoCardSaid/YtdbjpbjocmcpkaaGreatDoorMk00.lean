import Derived.Below
import Derived.Calls
import Derived.ChangeArms
import Derived.DataReads
import Derived.Deep.AppendLies
import Derived.Deep.QuietTactic
import Derived.Deep.Slices
import Derived.Laws.AppendOwn
import Derived.Laws.Bits64
import Derived.Laws.BitsLemmas
import Derived.Laws.Sem
import Derived.Laws.World
import Derived.Lib.AppendIntMem
import Derived.Lib.ItoaNum
import Derived.WalkMore
import GoSem.Core.Value
import Init
import Derived.Test.YtdbjpbjocmcpkaaGreatDoorProg
import Derived.WalkKit
import Derived.WalkSpells
import Derived.WalkLawsBesides
import Derived.Laws.OwnMore
import Derived.Sort.Grow
import Derived.Deep.RegionHeld3
set_option maxHeartbeats 4000000
set_option maxRecDepth 100000
namespace Go.Proofs.YtdbjpbjocmcpkaaGreatDoor
abbrev aaC := @List.getElem?_eq_getElem
abbrev aaD := @Nat.le_refl
abbrev aaE := @Go.RowKit.Below.refl
abbrev aaF := @List.getElem?_eq_some_iff
abbrev aaG := @List.mem_of_getElem?
abbrev aaH := @Go.RowKit.Hid.out
abbrev aaI := @List.getD_eq_getElem?_getD
abbrev aaJ := @Go.World.ownsRow.lt
abbrev aaK := @Go.IntKind.wrap_i64
abbrev aaL := @Nat.zero_le
abbrev aaM := @Nat.le_trans
abbrev aaN := @List.length_append
abbrev aaO := @Go.RowKit.Below.heap_alloc
abbrev aaP := @List.length_map
abbrev aaQ := @Option.some.inj
abbrev aaR := @List.getElem?_set
abbrev aaS := @List.getElem?_eq_none
abbrev aaT := @List.mem_iff_getElem
abbrev aaU := @List.getElem?_append_left
abbrev aaV := @List.all_eq_true
abbrev aaW := @List.mem_cons
abbrev aaX := @List.mem_range
abbrev aaY := @List.getElem?_map
abbrev aaZ := @Bool.and_eq_true
abbrev aa0 := @Nat.lt_of_lt_of_le
abbrev aa1 := @Go.World.size_alloc
abbrev aa2 := @Array.getElem?_eq_some_iff
abbrev aa3 := @List.take_of_length_le
abbrev aa4 := @List.getElem?_append_right
abbrev aa5 := @Array.getElem?_setIfInBounds_ne
abbrev aa6 := @List.mem_singleton
abbrev aa7 := @Nat.zero_add
abbrev aa8 := @List.pairwise_iff_getElem
abbrev aa9 := @Classical.byContradiction
abbrev abb := @Int.toNat_natCast
abbrev abd := @Nat.mod_eq_of_lt
abbrev abe := @Go.World.ownsRow.alloc
abbrev abf := @List.getElem?_of_mem
abbrev abg := @Option.map_eq_some_iff
abbrev abh := @List.map_append
abbrev abj := @Int.tdiv_eq_ediv_of_nonneg
abbrev abk := @Nat.lt_or_ge
abbrev abl := @List.mem_append
abbrev abm := @List.pairwise_cons
abbrev abn := @List.take_length
abbrev abo := @List.length_eq_zero_iff
abbrev abp := @List.append_nil
abbrev abq := @List.length_take
abbrev abr := @List.append_assoc
abbrev abt := @Nat.mod_two_eq_zero_or_one
abbrev abu := @List.mem_map
abbrev abv := @Nat.add_zero
abbrev abw := @Bool.or_eq_true
abbrev abx := @List.any_eq_true
abbrev aby := @List.map_congr_left
abbrev abz := @List.ext_getElem?
abbrev abA := @List.nil_append
abbrev abB := @List.getElem?_replicate
abbrev abC := @List.cons_append
abbrev abD := @Go.World.cell?_of_block
abbrev abE := @Array.getElem?_setIfInBounds_self_of_lt
abbrev abF := @Nat.lt_trichotomy
abbrev abG := @List.take_add_one
abbrev abH := @Go.World.grownBy_alloc
abbrev abI := @List.length_replicate
abbrev abJ := @List.count_pos_iff
abbrev abK := @Go.RowKit.Below.alloc
abbrev abL := @Go.RowKit.Below.trans
abbrev abM := @Ne.symm
abbrev abN := @List.getElem?_cons_succ
abbrev abO := @Bool.eq_iff_iff
abbrev abP := @Go.World.ownsRow.cells
abbrev abQ := @Go.Calls.quiet_of_same
abbrev abR := @List.setIfInBounds_toArray
abbrev abS := @List.not_mem_nil
abbrev abT := @Array.all_eq_true_iff_forall_mem
abbrev abU := @Go.RowKit.Below.drew
abbrev abV := @List.length_set
abbrev abW := @List.eq_of_mem_replicate
abbrev abX := @Go.World.ownsRow_nil
abbrev abY := @List.length_cons
abbrev abZ := @List.drop_of_length_le
abbrev ab0 := @Array.getElem?_eq_none
abbrev ab1 := @Bool.false_eq_true
abbrev ab2 := @List.cons.injEq
abbrev ab3 := @List.contains_iff_mem
abbrev ab4 := @Array.toList_setIfInBounds
abbrev ab5 := @List.mem_append_left
abbrev ab6 := @List.getElem_mem
abbrev ab7 := @Go.World.news_of_block
abbrev ab8 := @List.getElem?_range
abbrev ab9 := @List.map_cons
abbrev acd := @Nat.mod_lt
abbrev ace := @List.mem_filter
abbrev acf := @Go.Exit.noGoto_ret
abbrev acg := @List.getElem?_take
abbrev ach := @List.Nodup.length_le_of_subset
abbrev aci := @Int.le_refl
abbrev acj := @List.pairwise_map
abbrev ack := @List.take_append_drop
abbrev acm := @Go.RowKit.Below.size
abbrev acn := @Option.getD_some
abbrev aco := @List.mem_cons_of_mem
abbrev acp := @List.getElem?_set_ne
abbrev acq := @Nat.add_assoc
abbrev acr := @Int.tmod_eq_emod_of_nonneg
abbrev acs := @List.nodup_iff_pairwise_ne
abbrev acu := @List.length_pos_iff
abbrev acv := @List.length_reverse
abbrev acw := @List.range_succ
abbrev acy := @Go.World.cell?_setCell_other
abbrev acz := @Nat.lt_of_le_of_ne
abbrev acA := @List.filter_append
abbrev acB := @List.Pairwise.imp_of_mem
abbrev acC := @List.length_drop
abbrev acD := @List.take_succ_eq_append_getElem
abbrev acE := @List.mem_iff_getElem?
abbrev acF := @List.getElem?_reverse
abbrev acG := @List.mem_of_mem_head?
abbrev acH := @Go.Lib.tabBelow_of_tabIs
abbrev acI := @List.map_map
abbrev acJ := @Nat.le_antisymm
abbrev acK := @List.nodup_cons
abbrev acL := @List.length_nil
abbrev acM := @Go.Lib.decDigits_length
abbrev acN := @List.Pairwise.filter
abbrev acO := @List.pairwise_append
abbrev acP := @List.eq_nil_iff_forall_not_mem
abbrev acQ := @List.count_set
abbrev acR := @List.map_replicate
abbrev acS := @List.getElem?_drop
abbrev acT := @Go.Addr.mk.injEq
abbrev acU := @Go.RowKit.Below.setCell
abbrev acV := @Array.getElem?_append_left
abbrev acW := @Go.Result.andThen_ok
abbrev acX := @Go.DataW.trod_struct
abbrev acY := @List.drop_eq_getElem_cons
abbrev acZ := @Decidable.byContradiction
abbrev ac0 := @List.getLast?_eq_getElem?
abbrev ac1 := @Nat.succ_mul
abbrev ac2 := @List.map_nil
abbrev ac3 := @Go.IntKind.wrap_u64
abbrev ac4 := @List.nodup_range
abbrev ac5 := @Nat.add_mod_left
abbrev ac6 := @List.map_toArray
abbrev ac7 := @Go.World.cell?_spot
abbrev ac8 := @Nat.mod_add_mod
abbrev ac9 := @Go.Oper.upon_value
abbrev ada := @Go.Deep.open_slice
abbrev adb := @Nat.mul_le_mul
namespace Nu
def ak (c:Int):Bool:=c==32||(c==9||c==13)
def isDigit (c:Int):Bool:=decide (48<=c)&&decide (c<=57)
structure cN (f:Int->Bool) (g:Nat->Int) (n p q:Nat):Prop where
 lo:p<=q
 hi:q<=n
 all:∀i,p<=i->i<q->f (g i)=true
 stop:q<n->f (g q)=false
theorem cN.uniq {f:Int->Bool} {g:Nat->Int} {n p q r:Nat} (h:cN f g n p q) (k:cN f g n p r):q=r:=by
 rcases abF q r with l|l|l
 .have:=k.all q h.lo l
  rw[h.stop (aa0 l k.hi)] at this;cases this
 .exact l
 .have:=h.all r k.lo l
  rw[k.stop (aa0 l h.hi)] at this;cases this
def sq (f:Int->Bool) (g:Nat->Int) (n:Nat):Nat->Nat->Nat
 |0,p=>p
 |k+1,p=>if p<n/\f (g p)=true then sq f g n k (p+1) else p
def skip (f:Int->Bool) (g:Nat->Int) (n p:Nat):Nat:=sq f g n (n-p) p
theorem Aj (f:Int->Bool) (g:Nat->Int) (n:Nat):∀k p,p<=n->n-p<=k->cN f g n p (sq f g n k p)
 |0,p,hp,hk=>⟨aaD _,hp,fun i h1 h2=>by simp[sq] at h2;omega,fun h=>by simp[sq] at h;omega⟩
 |k+1,p,hp,hk=>by
  unfold sq;by_cases h:p<n/\f (g p)=true
  .rw[if_pos h]
   have ih:=Aj f g n k (p+1) (by omega) (by omega);refine⟨by have:=ih.lo;omega,ih.hi,fun i h1 h2=> ?_,ih.stop⟩;by_cases e:i=p
   .subst e;exact h.2
   .exact ih.all i (by omega) h2
  .rw[if_neg h]
   refine⟨aaD _,hp,fun i h1 h2=>by omega,fun hn=> ?_⟩;cases hb:f (g p)
   .rfl
   .exact absurd ⟨hn,hb⟩ h
theorem fF (f:Int->Bool) (g:Nat->Int) (n p:Nat) (hp:p<=n):cN f g n p (skip f g n p):=Aj f g n (n-p) p hp (aaD _)
theorem cN.eq {f:Int->Bool} {g:Nat->Int} {n p q:Nat} (h:cN f g n p q):q=skip f g n p:=h.uniq (fF f g n p (aaM h.lo h.hi))
def val (g:Nat->Int) (q:Nat):Nat->Int
 |0=>0
 |k+1=>10*val g q k+(g (q+k)-48)
def fV:Nat->Int
 |0=>1
 |k+1=>10*fV k
theorem vY (g:Nat->Int) (q:Nat):∀k,(∀i,i<k->48<=g (q+i)/\g (q+i)<=57)->0<=val g q k/\val g q k<fV k
 |0,_=>by simp[val,fV]
 |k+1,h=>by
  have ih:=vY g q k (fun i hi=>h i (by omega));have hk:=h k (by omega);simp only[val,fV];omega
theorem wS:∀k,0<fV k
 |0=>by simp[fV]
 |k+1=>by have:=wS k;simp only[fV];omega
theorem Du {a b:Nat} (h:a<=b):fV a<=fV b:=by
 induction b with
 |zero=>have:a=0:=by omega
        subst this;exact aci _
 |succ b ih=>
  by_cases e:a=b+1
  .subst e;exact aci _
  .have:=ih (by omega)
   have:=wS b;simp only[fV];omega
theorem Aa (g:Nat->Int) (q k:Nat) (hk:k<=9) (h:∀i,i<k->48<=g (q+i)/\g (q+i)<=57):0<=val g q k/\val g q k<1000000000:=by
 have h1:=vY g q k h;have h2:fV k<=fV 9:=Du hk;have h3:fV 9=1000000000:=by decide
 omega
structure Tok where
 kind:Int
 at':Int
 fin:Int
 num:Int
def next (g:Nat->Int) (n p:Nat):Except (Nat×Int) (Tok×Nat):=
 if skip ak g n p=n then .ok (⟨3,n,n,0⟩,n)
 else if isDigit (g (skip ak g n p))=true then
  if 9<skip isDigit g n (skip ak g n p)-skip ak g n p\/(1<skip isDigit g n (skip ak g n p)-skip ak g n p/\g (skip ak g n p)=48) then .error (skip ak g n p,12)
  else .ok (⟨1,skip ak g n p,skip isDigit g n (skip ak g n p),val g (skip ak g n p) (skip isDigit g n (skip ak g n p)-skip ak g n p)⟩,skip isDigit g n (skip ak g n p))
 else if g (skip ak g n p)=10 then .ok (⟨2,skip ak g n p,skip ak g n p+1,0⟩,skip ak g n p+1)
 else .error (skip ak g n p,11)
theorem kQ {g:Nat->Int} {n p:Nat} (h:cN ak g n p n):next g n p= .ok (⟨3,n,n,0⟩,n):=by
 unfold next;rw[<-h.eq];simp
theorem iY {g:Nat->Int} {n p q:Nat} (h:cN ak g n p q) (hq:q<n) (h10:g q=10):next g n p= .ok (⟨2,q,q+1,0⟩,q+1):=by
 unfold next
 rw[<-h.eq,if_neg (by omega),if_neg (by rw[h10];decide),if_pos h10]
theorem iZ {g:Nat->Int} {n p q:Nat} (h:cN ak g n p q) (hq:q<n) (hd:isDigit (g q)=false) (h10:g q≠10):next g n p= .error (q,11):=by
 unfold next
 rw[<-h.eq,if_neg (by omega),if_neg (by rw[hd];decide),if_neg h10]
theorem kS {g:Nat->Int} {n p q r:Nat} (h:cN ak g n p q) (hq:q<n) (hd:isDigit (g q)=true) (hr:cN isDigit g n q r) (hb:9<r-q\/(1<r-q/\g q=48)):next g n p= .error (q,12):=by
 unfold next
 rw[<-h.eq,if_neg (by omega),if_pos hd,<-hr.eq,if_pos hb]
theorem kP {g:Nat->Int} {n p q r:Nat} (h:cN ak g n p q) (hq:q<n) (hd:isDigit (g q)=true) (hr:cN isDigit g n q r) (hb:¬(9<r-q\/(1<r-q/\g q=48))):next g n p= .ok (⟨1,q,r,val g q (r-q)⟩,r):=by
 unfold next
 rw[<-h.eq,if_neg (by omega),if_pos hd,<-hr.eq,if_neg hb]
def b7 (g:Nat->Int) (n:Nat):Nat->Nat->Except (Nat×Int) (List Tok)
 |0,_=> .ok []
 |k+1,p=>match next g n p with
  | .error x=> .error x
  | .ok (t,p')=>if t.kind=3 then .ok [t] else match b7 g n k p' with
    | .error x=> .error x
    | .ok ts=> .ok (t::ts)
def scan (g:Nat->Int) (n:Nat):Except (Nat×Int) (List Tok):=b7 g n (n+1) 0
end Nu
section
open Go.RowKit
theorem ζ {p:Prop} (h:p):Hid p:=h
def aM (w:World) (ao:Option Addr) (n:Nat) (g:Nat->Int):Prop:=
 ∀i,i<n->(0<=g i/\g i<=255)/\∃tb to,ao=some ⟨tb,to,none⟩/\w.cell? ⟨tb,to+i,none⟩=some (.int .u8 (g i))
def Apart (ao:Option Addr) (b:Nat):Prop:=∀x,ao=some x->x.block≠b
section
variable {w w':World} {b:Nat} {ao:Option Addr} {n cap p:Nat} {g:Nat->Int}
theorem grownBy_setCell {w0:World} (h:w0.grownBy w (some b)) (i:Nat) (v:Value):w0.grownBy (w.setCell ⟨b,i,none⟩ v) (some b):=by
 refine⟨h.os,h.tape,h.output,by simpa using h.size,fun k hk hne=> ?_⟩;rw[heap_setCell_other w ⟨b,i,none⟩ k v (fun e=>hne (by rw[e])),h.block k hk hne]
theorem ct {w0 w1 w2:World} {r:Option Nat} (h:w0.grownBy w1 r) (k:w1.grownBy w2 r):w0.grownBy w2 r:=
 ⟨k.os.trans h.os,k.tape.trans h.tape,k.output.trans h.output,aaM h.size k.size,fun i hi hne=>(k.block i (aa0 hi h.size) hne).trans (h.block i hi hne)⟩
theorem bD {w0:World} {r:Option Nat} (h:w0.grownBy w r) (k:Nat):w0.grownBy (w.drewN k) r:=⟨h.os,h.tape,h.output,h.size,h.block⟩
theorem zN {w0:World} {r:Option Nat} (h:w0.grownBy w r):w0.grownBy w.drew r:=⟨h.os,h.tape,h.output,h.size,h.block⟩
theorem ig {w0:World} {r:Option Nat} (h:w0.grownBy w r) (o:Obj):w0.grownBy (w.alloc o) r:=ct h (abH w o r)
def jK (w:World) (B:Nat) (a b c d:Value):World:=(((w.setCell ⟨B,0,none⟩ a).setCell ⟨B,1,none⟩ b).setCell ⟨B,2,none⟩ c).setCell ⟨B,3,none⟩ d
theorem iX {B:Nat} {t:TypeId} {x0 x1 x2 x3:Value} (h:w.heap[B]? =some (.cells #[x0,x1,x2,x3] t (0,0))) (a b c d:Value):(jK w B a b c d).heap[B]? =some (.cells #[a,b,c,d] t (0,0)):=by
 have h1:=heap_setCell_same w B 0 _ t a h;have h2:=heap_setCell_same _ B 1 _ t b h1;have h3:=heap_setCell_same _ B 2 _ t c h2;have h4:=heap_setCell_same _ B 3 _ t d h3;unfold jK;simpa using h4
theorem tW {B k:Nat} (hk:k≠B) (a b c d:Value):(jK w B a b c d).heap[k]? =w.heap[k]? :=by
 unfold jK;rw[heap_setCell_other _ ⟨B,3,none⟩ k d hk,heap_setCell_other _ ⟨B,2,none⟩ k c hk,heap_setCell_other _ ⟨B,1,none⟩ k b hk,heap_setCell_other _ ⟨B,0,none⟩ k a hk]
theorem Gi (B:Nat) (a b c d:Value):(jK w B a b c d).heap.size=w.heap.size:=by simp[jK]
theorem eV {w0:World} {r:Option Nat} (h:w0.grownBy w r) {B:Nat} (hB:w0.heap.size<=B) (x0 x1 x2 x3:Value):w0.grownBy (jK w B x0 x1 x2 x3) r:=
 ⟨h.os,h.tape,h.output,by rw[Gi];exact h.size,fun k hk hne=>(tW (by omega) x0 x1 x2 x3).trans (h.block k hk hne)⟩
theorem aM.grown (h:aM w ao n g) (hg:w.grownBy w' (some b)) (ha:Apart ao b):aM w' ao n g:=by
 intro i hi;obtain⟨hb,tb,to,e,hc⟩:=h i hi;exact⟨hb,tb,to,e,hg.cell hc (by simpa using ha _ e)⟩
theorem aM.alloc (h:aM w ao n g) (o:Obj):aM (w.alloc o) ao n g:=by
 intro i hi;obtain⟨hb,tb,to,e,hc⟩:=h i hi;exact⟨hb,tb,to,e,(abH w o none).cell hc (by simp)⟩
theorem aM.drewN (h:aM w ao n g) (k:Nat):aM (w.drewN k) ao n g:=h
theorem aM.vI (h:aM w ao n g) (hg:w.grownBy w' none):aM w' ao n g:=by
 intro i hi;obtain⟨hb,tb,to,e,hc⟩:=h i hi;exact⟨hb,tb,to,e,hg.cell hc (by simp)⟩
theorem aM.later (h:aM w ao n g) (hg:Below w.heap.size w w'):aM w' ao n g:=by
 intro i hi;obtain⟨hb,tb,to,e,hc⟩:=h i hi;exact⟨hb,tb,to,e,(hg.cell (p:=⟨tb,to+i,none⟩) (block_lt_of_cell hc)).trans hc⟩
theorem aM.below {B:Nat} (h:aM w ao n g) (hg:Below B w w') (ha:∀x,ao=some x->x.block<B):aM w' ao n g:=by
 intro i hi;obtain⟨hb,tb,to,e,hc⟩:=h i hi;exact⟨hb,tb,to,e,(hg.cell (p:=⟨tb,to+i,none⟩) (show tb<B from ha _ e)).trans hc⟩
end
end
section
open Go.RowKit
theorem Tryz.ck:(Tryz.prog.info? 3).map (fun i=>(i.zero,i.size,i.bytes))=some (some (.int .i64 0),1,8):=by kernel_rfl
def aq (w:World) (g:Nat) (l:List Int):Prop:=w.heap[g]? =some (.cells (l.map (Value.int .i64)).toArray 3 (0,0))
section
variable {w w':World} {g:Nat} {l:List Int}
theorem aq.lt (h:aq w g l):g<w.heap.size:=lt_of_block h
theorem aq.cell (h:aq w g l) {i:Nat} {x:Int} (hx:l[i]? =some x):w.cell? ⟨g,i,none⟩=some (.int .i64 x):=by
 unfold aq at h;simp[World.cell?,h,hx]
theorem aq.free (h:aq w g l) (i:Nat):w.frozen? ⟨g,i,none⟩=false:=by
 unfold aq at h;simp[World.frozen?,h]
theorem aq.set (h:aq w g l) (i:Nat) (x:Int):aq (w.setCell ⟨g,i,none⟩ (.int .i64 x)) g (l.set i x):=by
 unfold aq at h ⊢;rw[heap_setCell_same w g i _ _ _ h];simp[List.map_set]
theorem aq.later (h:aq w g l) (hb:Below w.heap.size w w'):aq w' g l:=(hb.block g h.lt).trans h
theorem aq.alloc (h:aq w g l) (o:Obj):aq (w.alloc o) g l:=(aaO w o g h.lt).trans h
end
theorem dz (n:Nat):(madeCells #[.int .i64 0] n).toList=(List.replicate n (0:Int)).map (Value.int .i64):=by
 rw[toList_madeCells_one,acR]
theorem fJ {w:World} {B g n:Nat} {xs:List Int} (h:w.ownsRow B 3 1 (.slice (some ⟨g,0,none⟩) n n) n (xs.map (Value.int .i64))):aq w g xs:=by
 rcases h.2 with ⟨h,_⟩|⟨g',cap,cur,e,_,hh,_,_,hs,ht⟩
 .cases h
 cases e;have e1:cur.toList=xs.map (Value.int .i64):=by
  rw[<-ht];exact(aa3 (by simp;omega)).symm
 unfold aq;rw[hh,<-e1]
end
section
open Go.RowKit
def aZ (w:World) (ao:Option Addr) (l:List Int):Prop:=∀(j:Nat) (x:Int),l[j]? =some x->∃b o:Nat,ao=some ⟨b,o,none⟩/\w.cell? ⟨b,o+j,none⟩=some (.int .i64 x)
theorem aZ.later {w w':World} {ao:Option Addr} {l:List Int} (h:aZ w ao l) (hb:Below w.heap.size w w'):aZ w' ao l:=fun j x hj=>by
 obtain⟨b,o,e,h0⟩:=h j x hj;exact⟨b,o,e,(hb.cell (p:=⟨b,o+j,none⟩) (block_lt_of_cell h0)).trans h0⟩
theorem aZ.nil (w:World) (ao:Option Addr):aZ w ao []:=fun j p hj=>by simp at hj
theorem aq.at {w:World} {g:Nat} {l:List Int} (h:aq w g l):aZ w (some ⟨g,0,none⟩) l:=fun j x hj=>⟨g,0,rfl,by rw[aa7];exact h.cell hj⟩
end
section
open Go.RowKit
def aB (w:World) (g:Nat) (l:List Int):Prop:=∃rest:List Value,w.heap[g]? =some (.cells (l.map (Value.int .i64)++rest).toArray 3 (0,0))
section
variable {w w':World} {g:Nat} {l:List Int}
theorem aB.lt (h:aB w g l):g<w.heap.size:=by
 obtain⟨rest,h⟩:=h;exact lt_of_block h
theorem aB.cell (h:aB w g l) {i:Nat} {x:Int} (hx:l[i]? =some x):w.cell? ⟨g,i,none⟩=some (.int .i64 x):=by
 obtain⟨rest,h⟩:=h;have hl:=(aaF.1 hx).1;have:(l.map (Value.int .i64)++rest)[i]? =some (.int .i64 x):=by
  rw[aaU (by simpa using hl),aaY,hx];rfl
 simp[World.cell?,h];simpa using this
theorem aB.free (h:aB w g l) (i:Nat):w.frozen? ⟨g,i,none⟩=false:=by
 obtain⟨rest,h⟩:=h;simp[World.frozen?,h]
theorem aB.set (h:aB w g l) {i:Nat} (hi:i<l.length) (x:Int):aB (w.setCell ⟨g,i,none⟩ (.int .i64 x)) g (l.set i x):=by
 obtain⟨rest,h⟩:=h;refine⟨rest,?_⟩;rw[heap_setCell_same w g i _ _ _ h];have e:((l.map (Value.int .i64)++rest).toArray.setIfInBounds i (.int .i64 x))=((l.set i x).map (Value.int .i64)++rest).toArray:=by
  rw[abR,List.set_append_left _ _ (by simpa using hi),List.map_set]
 rw[e]
theorem aB.other (h:aB w g l) {b i:Nat} (hb:g≠b) (x:Value):aB (w.setCell ⟨b,i,none⟩ x) g l:=by
 obtain⟨rest,h⟩:=h;exact⟨rest,(heap_setCell_other w ⟨b,i,none⟩ g x hb).trans h⟩
theorem aB.later (h:aB w g l) (hb:Below w.heap.size w w'):aB w' g l:=by
 have hl:=h.lt;obtain⟨rest,h⟩:=h;exact⟨rest,(hb.block g hl).trans h⟩
theorem aB.alloc (h:aB w g l) (o:Obj):aB (w.alloc o) g l:=by
 have hl:=h.lt;obtain⟨rest,h⟩:=h;exact⟨rest,(aaO w o g hl).trans h⟩
theorem aB.drew (h:aB w g l):aB w.drew g l:=h
theorem aq.ins (h:aq w g l):aB w g l:=⟨[],by rw[abp];exact h⟩
end
theorem B3 {w:World} {B g n c:Nat} {xs:List Int} (h:w.ownsRow B 3 1 (.slice (some ⟨g,0,none⟩) n c) n (xs.map (Value.int .i64))):aB w g xs:=by
 rcases h.2 with ⟨h,_⟩|⟨g',cap,cur,e,_,hh,_,_,hs,ht⟩
 .cases h
 cases e;refine⟨cur.toList.drop (n*1),?_⟩;rw[<-ht,ack];exact hh
structure aj (S:Nat->Prop) (w w':World):Prop where
 os:w'.os=w.os
 tape:w'.tape=w.tape
 output:w'.output=w.output
 size:w.heap.size<=w'.heap.size
 block:∀k,k<w.heap.size->¬S k->w'.heap[k]? =w.heap[k]?
section
variable {S:Nat->Prop} {w w' w0:World}
theorem aj.refl (S:Nat->Prop) (w:World):aj S w w:=⟨rfl,rfl,rfl,aaD _,fun _ _ _=>rfl⟩
theorem aj.trans (h:aj S w0 w) (k:aj S w w'):aj S w0 w':=
 ⟨k.os.trans h.os,k.tape.trans h.tape,k.output.trans h.output,aaM h.size k.size,fun i hi hn=>(k.block i (aa0 hi h.size) hn).trans (h.block i hi hn)⟩
theorem aj.setCell (h:aj S w0 w) {b i:Nat} (hb:S b) (x:Value):aj S w0 (w.setCell ⟨b,i,none⟩ x):=
 ⟨h.os,h.tape,h.output,by simpa using h.size,fun k hk hn=>(heap_setCell_other w ⟨b,i,none⟩ k x (fun e=>hn (by rw[e];exact hb))).trans (h.block k hk hn)⟩
theorem aj.drew (h:aj S w0 w):aj S w0 w.drew:=⟨h.os,h.tape,h.output,h.size,h.block⟩
theorem aj.drewN (h:aj S w0 w) (k:Nat):aj S w0 (w.drewN k):=⟨h.os,h.tape,h.output,h.size,h.block⟩
theorem aj.later (h:aj S w0 w) (hb:Below w.heap.size w w'):aj S w0 w':=
 ⟨hb.os.trans h.os,hb.tape.trans h.tape,hb.output.trans h.output,aaM h.size hb.size,fun k hk hn=>(hb.block k (aa0 hk h.size)).trans (h.block k hk hn)⟩
theorem aj.alloc (h:aj S w0 w) (o:Obj):aj S w0 (w.alloc o):=h.later ((aaE _ _).alloc (aaD _) o)
theorem aj.below {B:Nat} (h:aj S w w') (hB:B<=w.heap.size) (hS:∀k,S k->B<=k):Below B w w':=
 ⟨h.os,h.tape,h.output,h.size,fun k hk=>h.block k (aa0 hk hB) (fun hs=>by have:=hS k hs;omega)⟩
theorem aj.ints {g:Nat} {l:List Int} (h:aj S w w') (hi:aB w g l) (hg:¬S g):aB w' g l:=by
 have hl:=hi.lt;obtain⟨rest,hi⟩:=hi;exact⟨rest,(h.block g hl hg).trans hi⟩
theorem aj.mono {S':Nat->Prop} (h:aj S w w') (hS:∀k,k<w.heap.size->S k->S' k):aj S' w w':=
 ⟨h.os,h.tape,h.output,h.size,fun k hk hn=>h.block k hk (fun hs=>hn (hS k hk hs))⟩
end
end
section
open Go.RowKit
def av (w:World) (B:Nat) (v:Value) (l:List Int):Prop:=w.ownsRow B 3 1 v l.length (l.map (Value.int .i64))
section
variable {w w':World} {B:Nat} {v:Value} {l:List Int}
theorem av.nil (w:World) (B:Nat):av w B (.slice none 0 0) []:=abX _ _ _ _
theorem av.form (h:av w B v l):∃ao cap,v= .slice ao l.length cap/\aZ w ao l/\(∀x,ao=some x->B<=x.block/\x.block<w.heap.size):=by
 rcases h.2 with ⟨rfl,h0⟩|⟨g,cap,cur,rfl,hB,hh,_⟩
 .refine⟨none,0,by rw[h0],fun j x hj=> ?_,fun x hx=>by cases hx⟩
  have:=(aaF.1 hj).1;omega
 .refine⟨_,_,rfl,fun j x hj=> ?_,fun x hx=>by cases hx;exact⟨hB,lt_of_block hh⟩⟩
  refine⟨g,0,rfl,?_⟩;have:=abP h (g:=g) rfl j (.int .i64 x) (by rw[aaY,hj];rfl);have e:((⟨g,0,none⟩:Addr).add j)=⟨g,0+j,none⟩:=by
   by_cases h0:j=0<;>simp[Addr.add,h0]
  rw[e] at this;exact this
theorem av.same (h:av w B v l) (hb:∀g,v.ownBlock=some g->g<w.heap.size->w'.heap[g]? =w.heap[g]?):av w' B v l:=by
 refine⟨h.1,?_⟩;rcases h.2 with h|⟨g,cap,cur,e1,hgB,hh,hr⟩
 .exact .inl h
 .exact .inr ⟨g,cap,cur,e1,hgB,(hb g (by rw[e1];rfl) (lt_of_block hh)).trans hh,hr⟩
theorem av.later (h:av w B v l) (hb:Below w.heap.size w w'):av w' B v l:=h.same fun g _ hl=>hb.block g hl
theorem av.lower {B':Nat} (h:av w B v l) (hB:B'<=B):av w B' v l:=by
 refine⟨h.1,?_⟩;rcases h.2 with h|⟨g,cap,cur,e1,hgB,hr⟩
 .exact .inl h
 .exact .inr ⟨g,cap,cur,e1,aaM hB hgB,hr⟩
theorem aq.own {g n:Nat} (h:aq w g l) (hB:B<=g) (hl:l.length=n) (hm:n<=8388608):av w B (.slice (some ⟨g,0,none⟩) n n) l:=by
 subst hl;refine⟨by simp,.inr ⟨g,_,_,rfl,hB,h,aaD _,by unfold maxLen;omega,by simp,?_⟩⟩;rw[aa3 (by simp)]
end
end
section
namespace Si
def lt (a b:Int×Int):Prop:=a.1<b.1\/(a.1=b.1/\a.2<b.2)
instance (a b:Int×Int):Decidable (lt a b):=by unfold lt;infer_instance
def cf (a b:Int×Int):Int:=if a.1<b.1 then -1 else if b.1<a.1 then 1 else if a.2<b.2 then -1 else if b.2<a.2 then 1 else 0
theorem Ju {a b:Int×Int}:cf a b<0↔lt a b:=by
 unfold cf lt
 split
 .simp;omega
 .split
  .simp;omega
  .split
   .simp;omega
   .split
    .simp;omega
    .simp;omega
theorem lt_irrefl (a:Int×Int):¬lt a a:=by unfold lt;omega
theorem lt_trans {a b c:Int×Int} (h:lt a b) (k:lt b c):lt a c:=by unfold lt at *;omega
theorem Kg (a b:Int×Int):lt a b\/a=b\/lt b a:=by
 unfold lt;by_cases h:a=b
 .exact .inr (.inl h)
 .have:a.1≠b.1\/a.2≠b.2:=by
   by_cases h1:a.1=b.1
   .exact .inr fun h2=>h (Prod.ext h1 h2)
   .exact .inl h1
  omega
theorem lt_asymm {a b:Int×Int} (h:lt a b):¬lt b a:=fun k=>lt_irrefl a (lt_trans h k)
theorem Md {a b:Int×Int} (h:lt a b):a≠b:=fun e=>lt_irrefl a (by rw[e] at h ⊢;exact h)
def ok (n:Int) (e:Int×Int):Prop:=0<=e.1/\e.1<e.2/\e.2<n
structure Val (n:Int) (es:List (Int×Int)):Prop where
 lo:0<=n
 hi:n<=1048576
 few:es.length<=4194304
 each:∀(j:Nat) (p:Int×Int),es[j]? =some p->ok n p
 up:∀(j:Nat) (p q:Int×Int),es[j]? =some p->es[j+1]? =some q->lt p q
open Classical in
noncomputable def valid (n:Int) (es:List (Int×Int)):Bool:=decide (Val n es)
theorem aJ {n:Int} {es:List (Int×Int)}:valid n es=true↔Val n es:=by unfold valid;exact @decide_eq_true_iff _ (Classical.propDecidable _)
theorem bR {n:Int} {es:List (Int×Int)} (h:¬Val n es):valid n es=false:=by
 cases hv:valid n es
 .rfl
 .exact absurd (aJ.1 hv) h
theorem Val.mono {n:Int} {es:List (Int×Int)} (h:Val n es):∀(j i:Nat) (p q:Int×Int),i<j->es[i]? =some p->es[j]? =some q->lt p q
 |0,_,_,_,hij,_,_=>by omega
 |j+1,i,p,q,hij,hp,hq=>by
  have hl:j+1<es.length:=by
   rcases abk (j+1) es.length with hl|hl
   .exact hl
   .rw[aaS hl] at hq;cases hq
  have hr:es[j]? =some es[j]:=aaC (by omega);have h1:=h.up j _ q hr hq;by_cases Vd:i=j
  .subst Vd
   rw[hp] at hr;cases hr;exact h1
  .exact lt_trans (h.mono j i p _ (by omega) hp hr) h1
theorem Val.place {n:Int} {es:List (Int×Int)} (h:Val n es) {i j:Nat} {p:Int×Int} (hi:es[i]? =some p) (hj:es[j]? =some p):i=j:=by
 rcases abF i j with a|a|a
 .exact absurd (h.mono j i p p a hi hj) (lt_irrefl p)
 .exact a
 .exact absurd (h.mono i j p p a hj hi) (lt_irrefl p)
noncomputable def ends (n:Int) (es:List (Int×Int)) (h:Int):Int×Int×Bool:=
 if valid n es=true/\0<=h/\h<2*es.length then
  (if h%2=1 then ((es.getD (h/2).toNat (0,0)).2,(es.getD (h/2).toNat (0,0)).1,true) else ((es.getD (h/2).toNat (0,0)).1,(es.getD (h/2).toNat (0,0)).2,true))
 else (0,0,false)
def bump (l:List Int) (v:Int):List Int:=l.set v.toNat (l.getD v.toNat 0+1)
def eA (n:Int):List (Int×Int)->List Int
 |es=>es.foldl (fun l e=>bump (bump l e.1) e.2) (List.replicate n.toNat 0)
def norm (p:Int×Int):Int×Int:=(min p.1 p.2,max p.1 p.2)
def vO (ps:List (Int×Int)) (l:List (Int×Int)):Prop:=l.Pairwise lt/\∀e,e∈l↔∃p∈ps,p.1≠p.2/\e=norm p
theorem tP:∀{l l':List (Int×Int)},l.Pairwise lt->l'.Pairwise lt->(∀e,e∈l↔e∈l')->l=l'
 |[],[],_,_,_=>rfl
 |[],b::l',_,_,h=>by have:=(h b).2 (by simp);simp at this
 |a::l,[],_,_,h=>by have:=(h a).1 (by simp);simp at this
 |a::l,b::l',hs,hs',h=>by
  rw[abm] at hs hs';have hab:a=b:=by
   have h1:=(h a).1 (by simp);have h2:=(h b).2 (by simp);rcases aaW.1 h1 with e|e
   .exact e
   .rcases aaW.1 h2 with e2|e2
    .exact e2.symm
    .exact absurd (hs'.1 a e) (lt_asymm (hs.1 b e2))
  subst hab
  congr 1
  refine tP hs.2 hs'.2 fun e=>⟨fun he=> ?_,fun he=> ?_⟩
  .rcases aaW.1 ((h e).1 (aco _ he)) with e1|e1
   .exact absurd e1.symm (Md (hs.1 e he))
   .exact e1
  .rcases aaW.1 ((h e).2 (aco _ he)) with e1|e1
   .exact absurd e1.symm (Md (hs'.1 e he))
   .exact e1
theorem vO.same {ps l l':List (Int×Int)} (h:vO ps l) (h':vO ps l'):l=l':=tP h.1 h'.1 fun e=>(h.2 e).trans (h'.2 e).symm
def put:List (Int×Int)->Int×Int->List (Int×Int)
 |[],e=>[e]
 |x::l,e=>if lt x e then x::put l e else if x=e then x::l else e::x::l
theorem xh:∀(l:List (Int×Int)) (e x:Int×Int),x∈put l e↔x=e\/x∈l
 |[],e,x=>by simp[put]
 |y::l,e,x=>by
  unfold put
  split
  .rw[aaW,xh l e x,aaW]
   constructor
   .rintro(h|h|h)
    .exact .inr (.inl h)
    .exact .inl h
    .exact .inr (.inr h)
   .rintro(h|h|h)
    .exact .inr (.inl h)
    .exact .inl h
    .exact .inr (.inr h)
  .split
   .rename_i h
    subst h;simp
   .rw[aaW]
theorem tT:∀(l:List (Int×Int)) (e:Int×Int),l.Pairwise lt->(put l e).Pairwise lt
 |[],e,_=>by simp[put]
 |y::l,e,h=>by
  have h':=h;rw[abm] at h;unfold put
  split
  .rename_i D8
   rw[abm];refine⟨fun z hz=> ?_,tT l e h.2⟩;rcases(xh l e z).1 hz with rfl|hz
   .exact D8
   .exact h.1 z hz
  .split
   .exact h'
   .rename_i h1 h2
    rw[abm];refine⟨fun z hz=> ?_,h'⟩;have Vm:lt e y:=by
     rcases Kg y e with a|a|a
     .exact absurd a h1
     .exact absurd a h2
     .exact a
    rcases aaW.1 hz with rfl|hz
    .exact Vm
    .exact lt_trans Vm (h.1 z hz)
theorem tU:∀(l:List (Int×Int)) (e:Int×Int),l.length<=(put l e).length/\(put l e).length<=l.length+1
 |[],e=>by simp[put]
 |y::l,e=>by
  have:=tU l e;unfold put
  split
  .simp;omega
  .split<;>simp
theorem BC:∀(l:List (Int×Int)) (e:Int×Int) (i:Nat),i<=l.length->(∀(j:Nat) (x:Int×Int),j<i->l[j]? =some x->lt x e)->(∀x,l[i]? =some x->¬lt x e)->
 put l e=if l[i]? =some e then l else l.take i++e::l.drop i
 |[],e,0,_,_,_=>by simp[put]
 |[],e,i+1,h,_,_=>by simp at h
 |y::l,e,0,_,_,h=>by
  have:=h y (by simp);unfold put;rw[if_neg this];simp
 |y::l,e,i+1,hi,h1,h2=>by
  have hy:=h1 0 y (by omega) (by simp);have ih:=BC l e i (by simpa using hi) (fun j x hj hx=>h1 (j+1) x (by omega) (by simpa using hx)) (fun x hx=>h2 x (by simpa using hx));unfold put;rw[if_pos hy,ih];simp only[abN,List.take_succ_cons,List.drop_succ_cons]
  split<;>simp
def made:List (Int×Int)->List (Int×Int)->List (Int×Int)
 |l,[]=>l
 |l,p::ps=>made (if p.1=p.2 then l else put l (norm p)) ps
theorem xj:∀(ps l:List (Int×Int)) (p:Int×Int),made l (ps++[p])=if p.1=p.2 then made l ps else put (made l ps) (norm p)
 |[],l,p=>by simp[made]
 |q::ps,l,p=>by simp only[abC,made];exact xj ps _ p
theorem xl:∀(ps l:List (Int×Int)),l.Pairwise lt->(made l ps).Pairwise lt/\∀e,e∈made l ps↔e∈l\/∃p∈ps,p.1≠p.2/\e=norm p
 |[],l,h=>⟨h,fun e=>by simp[made]⟩
 |p::ps,l,h=>by
  by_cases hp:p.1=p.2
  .obtain⟨h1,h2⟩:=xl ps l h
   simp only[made,if_pos hp];refine⟨h1,fun e=>(h2 e).trans ?_⟩;simp only[aaW,exists_eq_or_imp];constructor
   .rintro(a|a)
    .exact .inl a
    .exact .inr (.inr a)
   .rintro(a|a|a)
    .exact .inl a
    .exact absurd hp a.1
    .exact .inr a
  .obtain⟨h1,h2⟩:=xl ps (put l (norm p)) (tT l _ h)
   simp only[made,if_neg hp];refine⟨h1,fun e=>(h2 e).trans ?_⟩;rw[xh];simp only[aaW,exists_eq_or_imp];constructor
   .rintro((a|a)|a)
    .exact .inr (.inl ⟨hp,a⟩)
    .exact .inl a
    .exact .inr (.inr a)
   .rintro(a|a|a)
    .exact .inl (.inr a)
    .exact .inl (.inl a.2)
    .exact .inr a
theorem lI (ps:List (Int×Int)):vO ps (made [] ps):=by
 obtain⟨h1,h2⟩:=xl ps [] List.Pairwise.nil;exact⟨h1,fun e=>by rw[h2];simp⟩
theorem iC:∀(ps l:List (Int×Int)),l.length<=(made l ps).length/\(made l ps).length<=l.length+ps.length
 |[],l=>by simp[made]
 |p::ps,l=>by
  simp only[made]
  split
  .have:=iC ps l
   simp;omega
  .have:=iC ps (put l (norm p))
   have:=tU l (norm p);simp;omega
end Si
end
section
open Go.RowKit Go.Sort
def dx (e:Int×Int):Value:= .agg #[.int .i64 e.1,.int .i64 e.2]
theorem new2 (W:World) (k:Nat) (hk:W.heap.size=k) (x y:Value) (t:TypeId):(W.alloc (.cells #[x,y] t)).cell? ⟨k,0,none⟩=some x/\(W.alloc (.cells #[x,y] t)).cell? ⟨k,1,none⟩=some y:=by
 subst hk;constructor<;>simp
theorem LZ (W:World) (k:Nat) (hk:W.heap.size=k) (x y:Value) (t:TypeId):(W.alloc (.cells #[x,y] t)).drew.cell? ⟨k,0,none⟩=some x/\(W.alloc (.cells #[x,y] t)).drew.cell? ⟨k,1,none⟩=some y:=new2 W k hk x y t
theorem LJ (W:World) (x y:Obj):((W.alloc x).alloc y).heap.size=W.heap.size+1+1:=by simp
theorem nw (w:World) (q:Nat) (os:Array Obj):Below w.heap.size w (grow (w.drewN q) os):=by
 refine⟨rfl,rfl,rfl,by simp[grow],fun k hk=> ?_⟩;simp[grow,acV hk]
end
section
open Go.Proofs.Tryz
open Go.RowKit Go.Sort
def Si.l6 (x y:Int):Int:=if x<y then -1 else if y<x then 1 else 0
theorem E9 (x y:Int) (w:World):Calls prog 114 #[.int .i64 x,.int .i64 y] w fun e w'=>e= .returned (.int .i64 (Si.l6 x y))/\w'=w:=by
 unfold Si.l6;by_cases h1:x<y
 .rw[if_pos h1]
  go_enter func114,ntmps114;go_wp2;go_ret;exact⟨rfl,rfl⟩
 .rw[if_neg h1]
  by_cases h2:y<x
  .rw[if_pos h2]
   go_enter func114,ntmps114;go_wp2;go_ret;exact⟨rfl,rfl⟩
  .rw[if_neg h2]
   go_enter func114,ntmps114;go_wp2;go_ret;exact⟨rfl,rfl⟩
def Si.BK (p q:Int):Int:=if p≠0 then p else q
theorem SN (a b:Int×Int):Si.cf a b=Si.BK (Si.l6 a.1 b.1) (Si.l6 a.2 b.2):=by
 unfold Si.cf Si.l6 Si.BK;by_cases h1:a.1<b.1
 .simp[h1]
 .by_cases h2:b.1<a.1
  .simp[h1,h2]
  .simp[h1,h2]
theorem OV (p q:Int) (W:World) (b:Nat) (h0:W.cell? ⟨b,0,none⟩=some (.int .i64 p)) (h1:W.cell? ⟨b,1,none⟩=some (.int .i64 q)):Calls prog 113 #[.slice (some ⟨b,0,none⟩) 2 2] W fun e w'=>e= .returned (.int .i64 (Si.BK p q))/\w'=W:=by
 unfold Si.BK;by_cases hp:p=0
 .subst hp
  rw[if_neg (by simp)];by_cases hq:q=0
  .subst hq
   go_enter func113,ntmps113;go_wp2;refine wp_loop_rounds 3 ?_;rw[rounds_succ];go_wp2;rw[rounds_succ];go_wp2;rw[rounds_succ];go_wp2;go_ret;exact⟨rfl,rfl⟩
  .go_enter func113,ntmps113
   go_wp2;refine wp_loop_rounds 3 ?_;rw[rounds_succ];go_wp2;rw[rounds_succ];go_wp2;go_ret;exact⟨rfl,rfl⟩
 .rw[if_pos hp]
  go_enter func113,ntmps113;go_wp2;refine wp_loop_rounds 3 ?_;rw[rounds_succ];go_wp2;go_ret;exact⟨rfl,rfl⟩
theorem Cq (a b:Int×Int) (w:World):Calls prog 73 #[dx a,dx b] w fun e w'=>e= .returned (.int .i64 (Si.cf a b))/\∃q os',w'=grow (w.drewN q) os':=by
 rw[SN];unfold dx;go_enter func73,ntmps73;go_wp2
 go_region_held3 (fun w'=>w'.cell? ⟨w.heap.size,0,none⟩=some (.int .i64 a.1)/\w'.cell? ⟨w.heap.size,1,none⟩=some (.int .i64 a.2)/\w'.cell? ⟨w.heap.size+1,0,none⟩=some (.int .i64 b.1)/\w'.cell? ⟨w.heap.size+1,1,none⟩=some (.int .i64 b.2))
  (go_keep)
  (first
    |(go_at_call 114;refine(E9 _ _ _).mono ?_;rintro e w' ⟨rfl,rfl⟩)
    |(go_at_call 113;refine(OV (Si.l6 a.1 b.1) (Si.l6 a.2 b.2) _ _ (LZ _ _ (LJ _ _ _) _ _ _).1 (LZ _ _ (LJ _ _ _) _ _ _).2).mono ?_;rintro e w' ⟨rfl,rfl⟩))
 go_wp2;go_ret;exact⟨rfl,1,_,by rw[alloc_eq_grow,alloc_eq_grow,grow_grow,alloc_eq_grow,grow_grow];rfl⟩
end
section
open Go.RowKit
def ah (w:World) (ao:Option Addr) (es:List (Int×Int)):Prop:=
 ∀(j:Nat) (p:Int×Int),es[j]? =some p->∃b o:Nat,ao=some ⟨b,o,none⟩/\w.cell? ⟨b,o+j*2,none⟩=some (.int .i64 p.1)/\w.cell? ⟨b,o+j*2+1,none⟩=some (.int .i64 p.2)
theorem ah.later {w w':World} {ao:Option Addr} {es:List (Int×Int)} (h:ah w ao es) (hb:Below w.heap.size w w'):ah w' ao es:=fun j p hj=>by
 obtain⟨b,o,e,h0,h1⟩:=h j p hj;exact⟨b,o,e,(hb.cell (p:=⟨b,o+j*2,none⟩) (block_lt_of_cell h0)).trans h0,(hb.cell (p:=⟨b,o+j*2+1,none⟩) (block_lt_of_cell h1)).trans h1⟩
theorem ah.nil (w:World) (ao:Option Addr):ah w ao []:=fun j p hj=>by simp at hj
def aD (n:Int) (ao:Option Addr) (len cap:Nat):Value:= .agg #[.int .i64 n,.slice ao len cap]
end
end Go.Proofs.YtdbjpbjocmcpkaaGreatDoor
