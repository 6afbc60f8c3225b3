import Derived.Below
import Derived.Calls
import Derived.ChangeArms
import Derived.DataReads
import Derived.Deep.AppendLies
import Derived.Deep.QuietTactic
import Derived.Deep.Slices
import Derived.Laws.AppendOwn
import Derived.Laws.Bits64
import Derived.Laws.BitsLemmas
import Derived.Laws.Concat
import Derived.Laws.Sem
import Derived.Laws.World
import Derived.Lib.AppendIntMem
import Derived.Lib.ItoaLen
import Derived.Lib.ItoaMem
import Derived.Lib.ItoaNum
import Derived.OwnWalk
import Derived.WalkMore
import GoSem.Core.Value
import Init
import Derived.Test.YtdbjpbjocmcpkaaGreatDoorProg
import Derived.WalkKit
import Derived.WalkSpells
import Derived.WalkLawsBesides
import Derived.Sort.Grow
import Derived.Deep.RegionHeld3
import Derived.Laws.AppendOwnNone
import Derived.BigQuiet
set_option maxHeartbeats 4000000
set_option maxRecDepth 100000
namespace Go.Proofs.YtdbjpbjocmcpkaaGreatDoor
abbrev aac := @List.getElem?_eq_getElem
abbrev aad := @Nat.le_refl
abbrev aae := @Go.RowKit.Below.refl
abbrev aah := @List.getElem?_eq_some_iff
abbrev aai := @List.mem_of_getElem?
abbrev aaj := @Go.RowKit.Hid.out
abbrev aam := @Go.IntKind.wrap_i64
abbrev aao := @List.getD_eq_getElem?_getD
abbrev aap := @Go.World.ownsRow.lt
abbrev aar := @List.length_append
abbrev aax := @Nat.zero_le
abbrev aaD := @Nat.le_trans
abbrev aaE := @List.length_map
abbrev aaF := @Go.RowKit.Below.heap_alloc
abbrev aaG := @Option.some.inj
abbrev aaH := @List.getElem?_append_left
abbrev aaI := @List.getElem?_set
abbrev aaJ := @List.mem_range
abbrev aaP := @List.getElem?_map
abbrev aaR := @List.append_assoc
abbrev aaS := @List.getElem?_of_mem
abbrev aaT := @List.mem_iff_getElem
abbrev aaU := @List.mem_cons
abbrev aaV := @List.getElem?_eq_none
abbrev aaW := @List.all_eq_true
abbrev aaX := @List.take_of_length_le
abbrev aa2 := @Bool.and_eq_true
abbrev aa3 := @Array.getElem?_eq_some_iff
abbrev aa5 := @Nat.lt_of_lt_of_le
abbrev abb := @List.getElem?_append_right
abbrev abg := @List.mem_singleton
abbrev abi := @List.nil_append
abbrev abj := @List.map_append
abbrev abk := @Go.World.size_alloc
abbrev abl := @List.length_cons
abbrev abm := @List.cons_append
abbrev abo := @List.pairwise_iff_getElem
abbrev abp := @Classical.byContradiction
abbrev abq := @Go.Calls.quiet_of_same
abbrev abr := @Array.getElem?_setIfInBounds_ne
abbrev abt := @Nat.mod_eq_of_lt
abbrev abu := @List.length_take
abbrev abz := @Int.toNat_natCast
abbrev abA := @Option.map_eq_some_iff
abbrev abF := @Nat.mod_two_eq_zero_or_one
abbrev abG := @List.mem_append
abbrev abH := @Go.World.ownsRow.alloc
abbrev abI := @Nat.zero_add
abbrev abJ := @Go.World.cell?_of_block
abbrev abK := @Int.tdiv_eq_ediv_of_nonneg
abbrev abL := @List.not_mem_nil
abbrev abM := @List.length_eq_zero_iff
abbrev abN := @Nat.add_zero
abbrev abP := @List.mem_map
abbrev abQ := @List.append_nil
abbrev abR := @Bool.or_eq_true
abbrev abS := @Int.tmod_eq_emod_of_nonneg
abbrev abT := @List.map_congr_left
abbrev abU := @List.length_nil
abbrev abW := @List.take_length
abbrev abX := @Nat.lt_or_ge
abbrev abY := @List.pairwise_cons
abbrev abZ := @List.drop_of_length_le
abbrev ab0 := @List.mem_append_left
abbrev ab1 := @List.any_eq_true
abbrev ab3 := @Nat.lt_trichotomy
abbrev ab4 := @List.ext_getElem?
abbrev ab5 := @List.take_add_one
abbrev ab7 := @List.map_cons
abbrev ab8 := @List.contains_iff_mem
abbrev ach := @Bool.eq_iff_iff
abbrev aci := @List.getElem?_take
abbrev acj := @List.getElem?_replicate
abbrev acm := @Array.getElem?_setIfInBounds_self_of_lt
abbrev acn := @Go.World.grownBy_alloc
abbrev aco := @Go.World.ownsRow.cells
abbrev acq := @List.length_pos_iff
abbrev acr := @List.length_reverse
abbrev acs := @Ne.symm
abbrev acC := @List.length_replicate
abbrev acD := @List.count_pos_iff
abbrev acE := @Int.le_refl
abbrev acF := @List.setIfInBounds_toArray
abbrev acG := @List.getElem_mem
abbrev acH := @Array.all_eq_true_iff_forall_mem
abbrev acI := @Go.RowKit.Below.trans
abbrev acJ := @List.length_set
abbrev acK := @List.range_succ
abbrev acL := @List.eq_of_mem_replicate
abbrev acO := @Go.World.ownsRow_nil
abbrev acP := @List.getElem?_cons_succ
abbrev acU := @List.getElem?_range
abbrev acV := @Nat.mod_lt
abbrev acX := @Bool.false_eq_true
abbrev ac0 := @List.cons.injEq
abbrev ac3 := @List.sum_cons
abbrev ac5 := @Array.toList_setIfInBounds
abbrev ac6 := @Go.RowKit.Below.size
abbrev ac7 := @List.drop_eq_getElem_cons
abbrev ada := @List.length_drop
abbrev adb := @List.mem_filter
abbrev ade := @Go.Exit.noGoto_ret
abbrev adf := @Go.World.grownBy.refl
abbrev adi := @List.Nodup.length_le_of_subset
abbrev adl := @List.drop_eq_nil_of_le
abbrev adn := @Array.getElem?_eq_none
abbrev ado := @Go.ByteArray.mk_append_mk
abbrev adp := @List.pairwise_map
abbrev adq := @List.map_map
abbrev adr := @List.take_append_drop
abbrev ads := @List.mem_of_mem_head?
abbrev adt := @Int.natCast_emod
abbrev adu := @List.mem_cons_of_mem
abbrev adv := @List.getElem?_set_ne
abbrev adw := @List.pairwise_append
abbrev adx := @Nat.add_assoc
abbrev adz := @List.nodup_iff_pairwise_ne
abbrev adB := @Go.World.news_of_block
abbrev adD := @Go.World.cell?_setCell_other
abbrev adE := @Nat.le_of_lt
abbrev adH := @List.map_nil
abbrev adI := @Nat.lt_of_le_of_ne
abbrev adQ := @List.filter_append
abbrev adR := @List.Pairwise.imp_of_mem
abbrev ad1 := @Option.isSome_iff_exists
abbrev ad2 := @Nat.mul_le_mul
abbrev ad4 := @Go.Result.andThen_ok
abbrev ad5 := @List.flatMap_cons
abbrev ad6 := @Go.RowKit.Below.alloc
abbrev ad7 := @List.map_toArray
abbrev ad8 := @List.mem_append_right
abbrev ad9 := @List.mem_iff_getElem?
abbrev aea := @List.getElem?_reverse
abbrev aeb := @Go.Lib.tabBelow_of_tabIs
abbrev aec := @Go.RowKit.Below.drew
abbrev aed := @Nat.succ_mul
abbrev aee := @Nat.le_antisymm
abbrev aef := @List.nodup_cons
abbrev aeg := @Go.Lib.decDigits_length
abbrev aeh := @List.Pairwise.filter
abbrev aei := @List.eq_nil_iff_forall_not_mem
abbrev aej := @List.drop_append_of_le_length
abbrev aek := @List.count_set
abbrev ael := @List.map_replicate
abbrev aem := @Bool.false_ne_true
abbrev aen := @Go.Lib.itoa_length_le
abbrev aeo := @Go.Addr.mk.injEq
abbrev aep := @Array.getElem?_append_left
abbrev aer := @Go.DataW.trod_struct
abbrev aes := @Decidable.byContradiction
abbrev aeu := @List.getLast?_eq_getElem?
abbrev aev := @List.ne_nil_of_length_pos
abbrev aew := @Go.Sem.run_bind
abbrev aex := @Go.Sem.run_pure
abbrev aey := @Option.getD_some
abbrev aez := @Go.IntKind.wrap_u64
abbrev aeA := @List.nodup_range
abbrev aeB := @Nat.add_mod_left
abbrev aeD := @Go.World.cell?_spot
abbrev aeE := @Nat.mod_add_mod
abbrev aeF := @Go.Oper.upon_value
abbrev aeG := @Go.Lib.itoa_nonneg
abbrev aeH := @Go.Deep.open_slice
namespace Nu
def av (c:Int):Bool:=c==32||(c==9||c==13)
def isDigit (c:Int):Bool:=decide (48<=c)&&decide (c<=57)
structure dZ (f:Int->Bool) (g:Nat->Int) (n p q:Nat):Prop where
 lo:p<=q
 hi:q<=n
 all:∀i,p<=i->i<q->f (g i)=true
 stop:q<n->f (g q)=false
theorem dZ.uniq {f:Int->Bool} {g:Nat->Int} {n p q r:Nat} (h:dZ f g n p q) (k:dZ f g n p r):q=r:=by
 rcases ab3 q r with l|l|l
 .have:=k.all q h.lo l
  rw[h.stop (aa5 l k.hi)] at this;cases this
 .exact l
 .have:=h.all r k.lo l
  rw[k.stop (aa5 l h.hi)] at this;cases this
def xe (f:Int->Bool) (g:Nat->Int) (n:Nat):Nat->Nat->Nat
 |0,p=>p
 |k+1,p=>if p<n/\f (g p)=true then xe f g n k (p+1) else p
def skip (f:Int->Bool) (g:Nat->Int) (n p:Nat):Nat:=xe f g n (n-p) p
theorem Ep (f:Int->Bool) (g:Nat->Int) (n:Nat):∀k p,p<=n->n-p<=k->dZ f g n p (xe f g n k p)
 |0,p,hp,hk=>⟨aad _,hp,fun i h1 h2=>by simp[xe] at h2;omega,fun h=>by simp[xe] at h;omega⟩
 |k+1,p,hp,hk=>by
  unfold xe;by_cases h:p<n/\f (g p)=true
  .rw[if_pos h]
   have ih:=Ep f g n k (p+1) (by omega) (by omega);refine⟨by have:=ih.lo;omega,ih.hi,fun i h1 h2=> ?_,ih.stop⟩;by_cases e:i=p
   .subst e;exact h.2
   .exact ih.all i (by omega) h2
  .rw[if_neg h]
   refine⟨aad _,hp,fun i h1 h2=>by omega,fun hn=> ?_⟩;cases hb:f (g p)
   .rfl
   .exact absurd ⟨hn,hb⟩ h
theorem iK (f:Int->Bool) (g:Nat->Int) (n p:Nat) (hp:p<=n):dZ f g n p (skip f g n p):=Ep f g n (n-p) p hp (aad _)
theorem dZ.eq {f:Int->Bool} {g:Nat->Int} {n p q:Nat} (h:dZ f g n p q):q=skip f g n p:=h.uniq (iK f g n p (aaD h.lo h.hi))
def val (g:Nat->Int) (q:Nat):Nat->Int
 |0=>0
 |k+1=>10*val g q k+(g (q+k)-48)
def jr:Nat->Int
 |0=>1
 |k+1=>10*jr k
theorem Ax (g:Nat->Int) (q:Nat):∀k,(∀i,i<k->48<=g (q+i)/\g (q+i)<=57)->0<=val g q k/\val g q k<jr k
 |0,_=>by simp[val,jr]
 |k+1,h=>by
  have ih:=Ax g q k (fun i hi=>h i (by omega));have hk:=h k (by omega);simp only[val,jr];omega
theorem A5:∀k,0<jr k
 |0=>by simp[jr]
 |k+1=>by have:=A5 k;simp only[jr];omega
theorem Im {a b:Nat} (h:a<=b):jr a<=jr b:=by
 induction b with
 |zero=>have:a=0:=by omega
        subst this;exact acE _
 |succ b ih=>
  by_cases e:a=b+1
  .subst e;exact acE _
  .have:=ih (by omega)
   have:=A5 b;simp only[jr];omega
theorem Eg (g:Nat->Int) (q k:Nat) (hk:k<=9) (h:∀i,i<k->48<=g (q+i)/\g (q+i)<=57):0<=val g q k/\val g q k<1000000000:=by
 have h1:=Ax g q k h;have h2:jr k<=jr 9:=Im hk;have h3:jr 9=1000000000:=by decide
 omega
structure Tok where
 kind:Int
 at':Int
 fin:Int
 num:Int
def next (g:Nat->Int) (n p:Nat):Except (Nat×Int) (Tok×Nat):=
 if skip av g n p=n then .ok (⟨3,n,n,0⟩,n)
 else if isDigit (g (skip av g n p))=true then
  if 9<skip isDigit g n (skip av g n p)-skip av g n p\/(1<skip isDigit g n (skip av g n p)-skip av g n p/\g (skip av g n p)=48) then .error (skip av g n p,12)
  else .ok (⟨1,skip av g n p,skip isDigit g n (skip av g n p),val g (skip av g n p) (skip isDigit g n (skip av g n p)-skip av g n p)⟩,skip isDigit g n (skip av g n p))
 else if g (skip av g n p)=10 then .ok (⟨2,skip av g n p,skip av g n p+1,0⟩,skip av g n p+1)
 else .error (skip av g n p,11)
theorem nK {g:Nat->Int} {n p:Nat} (h:dZ av g n p n):next g n p= .ok (⟨3,n,n,0⟩,n):=by
 unfold next;rw[<-h.eq];simp
theorem lG {g:Nat->Int} {n p q:Nat} (h:dZ av g n p q) (hq:q<n) (h10:g q=10):next g n p= .ok (⟨2,q,q+1,0⟩,q+1):=by
 unfold next
 rw[<-h.eq,if_neg (by omega),if_neg (by rw[h10];decide),if_pos h10]
theorem lI {g:Nat->Int} {n p q:Nat} (h:dZ av g n p q) (hq:q<n) (hd:isDigit (g q)=false) (h10:g q≠10):next g n p= .error (q,11):=by
 unfold next
 rw[<-h.eq,if_neg (by omega),if_neg (by rw[hd];decide),if_neg h10]
theorem nL {g:Nat->Int} {n p q r:Nat} (h:dZ av g n p q) (hq:q<n) (hd:isDigit (g q)=true) (hr:dZ isDigit g n q r) (hb:9<r-q\/(1<r-q/\g q=48)):next g n p= .error (q,12):=by
 unfold next
 rw[<-h.eq,if_neg (by omega),if_pos hd,<-hr.eq,if_pos hb]
theorem nJ {g:Nat->Int} {n p q r:Nat} (h:dZ av g n p q) (hq:q<n) (hd:isDigit (g q)=true) (hr:dZ isDigit g n q r) (hb:¬(9<r-q\/(1<r-q/\g q=48))):next g n p= .ok (⟨1,q,r,val g q (r-q)⟩,r):=by
 unfold next
 rw[<-h.eq,if_neg (by omega),if_pos hd,<-hr.eq,if_neg hb]
def dh (g:Nat->Int) (n:Nat):Nat->Nat->Except (Nat×Int) (List Tok)
 |0,_=> .ok []
 |k+1,p=>match next g n p with
  | .error x=> .error x
  | .ok (t,p')=>if t.kind=3 then .ok [t] else match dh g n k p' with
    | .error x=> .error x
    | .ok ts=> .ok (t::ts)
def scan (g:Nat->Int) (n:Nat):Except (Nat×Int) (List Tok):=dh g n (n+1) 0
end Nu
section
open Go.RowKit
theorem ζ {p:Prop} (h:p):Hid p:=h
def aY (w:World) (ao:Option Addr) (n:Nat) (g:Nat->Int):Prop:=
 ∀i,i<n->(0<=g i/\g i<=255)/\∃tb to,ao=some ⟨tb,to,none⟩/\w.cell? ⟨tb,to+i,none⟩=some (.int .u8 (g i))
def Apart (ao:Option Addr) (b:Nat):Prop:=∀x,ao=some x->x.block≠b
section
variable {w w':World} {b:Nat} {ao:Option Addr} {n cap p:Nat} {g:Nat->Int}
theorem grownBy_setCell {w0:World} (h:w0.grownBy w (some b)) (i:Nat) (v:Value):w0.grownBy (w.setCell ⟨b,i,none⟩ v) (some b):=by
 refine⟨h.os,h.tape,h.output,by simpa using h.size,fun k hk hne=> ?_⟩;rw[heap_setCell_other w ⟨b,i,none⟩ k v (fun e=>hne (by rw[e])),h.block k hk hne]
theorem dD {w0 w1 w2:World} {r:Option Nat} (h:w0.grownBy w1 r) (k:w1.grownBy w2 r):w0.grownBy w2 r:=
 ⟨k.os.trans h.os,k.tape.trans h.tape,k.output.trans h.output,aaD h.size k.size,fun i hi hne=>(k.block i (aa5 hi h.size) hne).trans (h.block i hi hne)⟩
theorem bW {w0:World} {r:Option Nat} (h:w0.grownBy w r) (k:Nat):w0.grownBy (w.drewN k) r:=⟨h.os,h.tape,h.output,h.size,h.block⟩
theorem DV {w0:World} {r:Option Nat} (h:w0.grownBy w r):w0.grownBy w.drew r:=⟨h.os,h.tape,h.output,h.size,h.block⟩
theorem dO {w0:World} {r:Option Nat} (h:w0.grownBy w r) (o:Obj):w0.grownBy (w.alloc o) r:=dD h (acn w o r)
def mz (w:World) (B:Nat) (a b c d:Value):World:=(((w.setCell ⟨B,0,none⟩ a).setCell ⟨B,1,none⟩ b).setCell ⟨B,2,none⟩ c).setCell ⟨B,3,none⟩ d
theorem lD {B:Nat} {t:TypeId} {x0 x1 x2 x3:Value} (h:w.heap[B]? =some (.cells #[x0,x1,x2,x3] t (0,0))) (a b c d:Value):(mz w B a b c d).heap[B]? =some (.cells #[a,b,c,d] t (0,0)):=by
 have h1:=heap_setCell_same w B 0 _ t a h;have h2:=heap_setCell_same _ B 1 _ t b h1;have h3:=heap_setCell_same _ B 2 _ t c h2;have h4:=heap_setCell_same _ B 3 _ t d h3;unfold mz;simpa using h4
theorem yB {B k:Nat} (hk:k≠B) (a b c d:Value):(mz w B a b c d).heap[k]? =w.heap[k]? :=by
 unfold mz;rw[heap_setCell_other _ ⟨B,3,none⟩ k d hk,heap_setCell_other _ ⟨B,2,none⟩ k c hk,heap_setCell_other _ ⟨B,1,none⟩ k b hk,heap_setCell_other _ ⟨B,0,none⟩ k a hk]
theorem Lx (B:Nat) (a b c d:Value):(mz w B a b c d).heap.size=w.heap.size:=by simp[mz]
theorem gP {w0:World} {r:Option Nat} (h:w0.grownBy w r) {B:Nat} (hB:w0.heap.size<=B) (x0 x1 x2 x3:Value):w0.grownBy (mz w B x0 x1 x2 x3) r:=
 ⟨h.os,h.tape,h.output,by rw[Lx];exact h.size,fun k hk hne=>(yB (by omega) x0 x1 x2 x3).trans (h.block k hk hne)⟩
theorem aY.grown (h:aY w ao n g) (hg:w.grownBy w' (some b)) (ha:Apart ao b):aY w' ao n g:=by
 intro i hi;obtain⟨hb,tb,to,e,hc⟩:=h i hi;exact⟨hb,tb,to,e,hg.cell hc (by simpa using ha _ e)⟩
theorem aY.alloc (h:aY w ao n g) (o:Obj):aY (w.alloc o) ao n g:=by
 intro i hi;obtain⟨hb,tb,to,e,hc⟩:=h i hi;exact⟨hb,tb,to,e,(acn w o none).cell hc (by simp)⟩
theorem aY.drewN (h:aY w ao n g) (k:Nat):aY (w.drewN k) ao n g:=h
theorem aY.Ae (h:aY w ao n g) (hg:w.grownBy w' none):aY w' ao n g:=by
 intro i hi;obtain⟨hb,tb,to,e,hc⟩:=h i hi;exact⟨hb,tb,to,e,hg.cell hc (by simp)⟩
theorem aY.later (h:aY w ao n g) (hg:Below w.heap.size w w'):aY w' ao n g:=by
 intro i hi;obtain⟨hb,tb,to,e,hc⟩:=h i hi;exact⟨hb,tb,to,e,(hg.cell (p:=⟨tb,to+i,none⟩) (block_lt_of_cell hc)).trans hc⟩
theorem aY.below {B:Nat} (h:aY w ao n g) (hg:Below B w w') (ha:∀x,ao=some x->x.block<B):aY w' ao n g:=by
 intro i hi;obtain⟨hb,tb,to,e,hc⟩:=h i hi;exact⟨hb,tb,to,e,(hg.cell (p:=⟨tb,to+i,none⟩) (show tb<B from ha _ e)).trans hc⟩
end
end
section
namespace Si
def lt (a b:Int×Int):Prop:=a.1<b.1\/(a.1=b.1/\a.2<b.2)
instance (a b:Int×Int):Decidable (lt a b):=by unfold lt;infer_instance
def cf (a b:Int×Int):Int:=if a.1<b.1 then -1 else if b.1<a.1 then 1 else if a.2<b.2 then -1 else if b.2<a.2 then 1 else 0
theorem N5 {a b:Int×Int}:cf a b<0↔lt a b:=by
 unfold cf lt
 split
 .simp;omega
 .split
  .simp;omega
  .split
   .simp;omega
   .split
    .simp;omega
    .simp;omega
theorem lt_irrefl (a:Int×Int):¬lt a a:=by unfold lt;omega
theorem lt_trans {a b c:Int×Int} (h:lt a b) (k:lt b c):lt a c:=by unfold lt at *;omega
def ok (n:Int) (e:Int×Int):Prop:=0<=e.1/\e.1<e.2/\e.2<n
structure Val (n:Int) (es:List (Int×Int)):Prop where
 lo:0<=n
 hi:n<=1048576
 few:es.length<=4194304
 each:∀(j:Nat) (p:Int×Int),es[j]? =some p->ok n p
 up:∀(j:Nat) (p q:Int×Int),es[j]? =some p->es[j+1]? =some q->lt p q
open Classical in
noncomputable def valid (n:Int) (es:List (Int×Int)):Bool:=decide (Val n es)
theorem aK {n:Int} {es:List (Int×Int)}:valid n es=true↔Val n es:=by unfold valid;exact @decide_eq_true_iff _ (Classical.propDecidable _)
theorem cM {n:Int} {es:List (Int×Int)} (h:¬Val n es):valid n es=false:=by
 cases hv:valid n es
 .rfl
 .exact absurd (aK.1 hv) h
theorem Val.mono {n:Int} {es:List (Int×Int)} (h:Val n es):∀(j i:Nat) (p q:Int×Int),i<j->es[i]? =some p->es[j]? =some q->lt p q
 |0,_,_,_,hij,_,_=>by omega
 |j+1,i,p,q,hij,hp,hq=>by
  have hl:j+1<es.length:=by
   rcases abX (j+1) es.length with hl|hl
   .exact hl
   .rw[aaV hl] at hq;cases hq
  have hr:es[j]? =some es[j]:=aac (by omega);have h1:=h.up j _ q hr hq;by_cases abf:i=j
  .subst abf
   rw[hp] at hr;cases hr;exact h1
  .exact lt_trans (h.mono j i p _ (by omega) hp hr) h1
theorem Val.place {n:Int} {es:List (Int×Int)} (h:Val n es) {i j:Nat} {p:Int×Int} (hi:es[i]? =some p) (hj:es[j]? =some p):i=j:=by
 rcases ab3 i j with a|a|a
 .exact absurd (h.mono j i p p a hi hj) (lt_irrefl p)
 .exact a
 .exact absurd (h.mono i j p p a hj hi) (lt_irrefl p)
def Oc (n:Int) (es:List (Int×Int)) (e:Int×Int) (r:Int):Prop:=(∃k:Nat,Val n es/\es[k]? =some e/\r=k)\/(r= -1/\¬(Val n es/\∃k:Nat,es[k]? =some e))
noncomputable def ends (n:Int) (es:List (Int×Int)) (h:Int):Int×Int×Bool:=
 if valid n es=true/\0<=h/\h<2*es.length then
  (if h%2=1 then ((es.getD (h/2).toNat (0,0)).2,(es.getD (h/2).toNat (0,0)).1,true) else ((es.getD (h/2).toNat (0,0)).1,(es.getD (h/2).toNat (0,0)).2,true))
 else (0,0,false)
def bump (l:List Int) (v:Int):List Int:=l.set v.toNat (l.getD v.toNat 0+1)
def aS (n:Int):List (Int×Int)->List Int
 |es=>es.foldl (fun l e=>bump (bump l e.1) e.2) (List.replicate n.toNat 0)
def norm (p:Int×Int):Int×Int:=(min p.1 p.2,max p.1 p.2)
def put:List (Int×Int)->Int×Int->List (Int×Int)
 |[],e=>[e]
 |x::l,e=>if lt x e then x::put l e else if x=e then x::l else e::x::l
def made:List (Int×Int)->List (Int×Int)->List (Int×Int)
 |l,[]=>l
 |l,p::ps=>made (if p.1=p.2 then l else put l (norm p)) ps
end Si
end
section
open Go.RowKit Go.Sort
def fT (e:Int×Int):Value:= .agg #[.int .i64 e.1,.int .i64 e.2]
theorem new2 (W:World) (k:Nat) (hk:W.heap.size=k) (x y:Value) (t:TypeId):(W.alloc (.cells #[x,y] t)).cell? ⟨k,0,none⟩=some x/\(W.alloc (.cells #[x,y] t)).cell? ⟨k,1,none⟩=some y:=by
 subst hk;constructor<;>simp
theorem QZ (W:World) (k:Nat) (hk:W.heap.size=k) (x y:Value) (t:TypeId):(W.alloc (.cells #[x,y] t)).drew.cell? ⟨k,0,none⟩=some x/\(W.alloc (.cells #[x,y] t)).drew.cell? ⟨k,1,none⟩=some y:=new2 W k hk x y t
theorem QF (W:World) (x y:Obj):((W.alloc x).alloc y).heap.size=W.heap.size+1+1:=by simp
theorem qM (w:World) (q:Nat) (os:Array Obj):Below w.heap.size w (grow (w.drewN q) os):=by
 refine⟨rfl,rfl,rfl,by simp[grow],fun k hk=> ?_⟩;simp[grow,aep hk]
end
section
open Go.RowKit
def ah (w:World) (ao:Option Addr) (es:List (Int×Int)):Prop:=
 ∀(j:Nat) (p:Int×Int),es[j]? =some p->∃b o:Nat,ao=some ⟨b,o,none⟩/\w.cell? ⟨b,o+j*2,none⟩=some (.int .i64 p.1)/\w.cell? ⟨b,o+j*2+1,none⟩=some (.int .i64 p.2)
theorem ah.later {w w':World} {ao:Option Addr} {es:List (Int×Int)} (h:ah w ao es) (hb:Below w.heap.size w w'):ah w' ao es:=fun j p hj=>by
 obtain⟨b,o,e,h0,h1⟩:=h j p hj;exact⟨b,o,e,(hb.cell (p:=⟨b,o+j*2,none⟩) (block_lt_of_cell h0)).trans h0,(hb.cell (p:=⟨b,o+j*2+1,none⟩) (block_lt_of_cell h1)).trans h1⟩
theorem ah.nil (w:World) (ao:Option Addr):ah w ao []:=fun j p hj=>by simp at hj
def az (n:Int) (ao:Option Addr) (len cap:Nat):Value:= .agg #[.int .i64 n,.slice ao len cap]
end
section
open Go.RowKit
theorem Tryz.xH:(Tryz.prog.info? 66).map (fun i=>(i.zero,i.size,i.bytes))=some (some (.agg #[.int .i64 0,.int .i64 0]),2,16):=by kernel_rfl
def gF (ps:List (Int×Int)):List Value:=ps.flatMap fun p=>[.int .i64 p.1,.int .i64 p.2]
theorem qO (ps:List (Int×Int)) (p:Int×Int):gF (ps++[p])=gF ps++[.int .i64 p.1,.int .i64 p.2]:=by simp[gF]
theorem ni:∀ps:List (Int×Int),(gF ps).length=ps.length*2
 |[]=>rfl
 |p::ps=>by
  have:=ni ps;simp[gF] at this ⊢;omega
theorem nT:∀(ps:List (Int×Int)) (j:Nat) (p:Int×Int),ps[j]? =some p->(gF ps)[j*2]? =some (.int .i64 p.1)/\(gF ps)[j*2+1]? =some (.int .i64 p.2)
 |[],j,p,h=>by simp at h
 |q::ps,0,p,h=>by
  simp at h;subst h;simp[gF]
 |q::ps,j+1,p,h=>by
  simp at h;have:=nT ps j p h;have e:(j+1)*2=j*2+1+1:=by omega
  rw[e];simpa[gF] using this
theorem SZ (g j:Nat):((⟨g,0,none⟩:Addr).add j)=⟨g,j,none⟩:=by
 by_cases h:j=0
 .simp[Addr.add,h]
 .simp[Addr.add,h]
def bD (w:World) (B:Nat) (v:Value) (es:List (Int×Int)):Prop:=w.ownsRow B 66 2 v es.length (gF es)
theorem bD.form {w:World} {B:Nat} {v:Value} {es:List (Int×Int)} (h:bD w B v es):∃ao cap,v= .slice ao es.length cap/\es.length<=cap/\cap<=maxLen/\ah w ao es/\(∀x,ao=some x->B<=x.block/\x.block<w.heap.size):=by
 have h':=h;unfold bD at h';rcases h.2 with ⟨rfl,h0⟩|⟨g,cap,cur,rfl,hg,hh,hc,hm,_⟩
 .refine⟨none,0,by rw[h0],by omega,aax _,fun j p hj=> ?_,fun x h=>by cases h⟩
  rw[abM.1 h0] at hj;simp at hj
 .refine⟨_,cap,rfl,hc,hm,fun j p hj=>⟨g,0,rfl,?_⟩,fun x h=>by cases h;exact⟨hg,lt_of_block hh⟩⟩
  have hcl:=aco h' (g:=g) rfl;simp only[SZ] at hcl;obtain⟨h0,h1⟩:=nT es j p hj;rw[abI];exact⟨hcl _ _ h0,hcl _ _ h1⟩
theorem bD.below {w w':World} {B A:Nat} {v:Value} {ps:List (Int×Int)} (h:bD w B v ps) (hb:Below A w w') (hA:w.heap.size<=A):bD w' B v ps:=by
 refine⟨h.1,?_⟩;rcases h.2 with h|⟨g,cap,cur,e,hgB,hh,hr⟩
 .exact .inl h
 .exact .inr ⟨g,cap,cur,e,hgB,(hb.block g (by have:=lt_of_block hh;omega)).trans hh,hr⟩
theorem bD.alloc {w:World} {B:Nat} {v:Value} {ps:List (Int×Int)} (h:bD w B v ps) (o:Obj):bD (w.alloc o) B v ps:=abH h o
theorem bD.far {w:World} {B b:Nat} {v:Value} {ps:List (Int×Int)} (h:bD w B v ps) (hb:b<B):v.ownBlock≠Option.some b:=by
 obtain⟨ao,cap,rfl,_,_,_,hx⟩:=h.form;cases ao with
 |none=>simp[Value.ownBlock]
 |some x=>have:=hx x rfl;simp[Value.ownBlock];omega
theorem bD.Z1 {w:World} {B A b:Nat} {v:Value} {ps:List (Int×Int)} (h:bD w B v ps) (hA:A<=b/\b<B) (x y:Value):bD ((w.setCell ⟨b,0,none⟩ x).setCell ⟨b,1,none⟩ y) A v ps:=by
 refine⟨h.1,?_⟩;rcases h.2 with h|⟨g,cap,cur,e,hgB,hh,hr⟩
 .exact .inl h
 .refine .inr ⟨g,cap,cur,e,by omega,?_,hr⟩
  rw[heap_setCell_other _ ⟨b,1,none⟩ g y (by simp;omega),heap_setCell_other _ ⟨b,0,none⟩ g x (by simp;omega)];exact hh
theorem bD.lower {w:World} {B A:Nat} {v:Value} {ps:List (Int×Int)} (h:bD w B v ps) (hA:A<=B):bD w A v ps:=by
 refine⟨h.1,?_⟩;rcases h.2 with h|⟨g,cap,cur,e,hgB,hh,hr⟩
 .exact .inl h
 .exact .inr ⟨g,cap,cur,e,by omega,hh,hr⟩
theorem bD.nil (w:World) (B:Nat):bD w B (.slice none 0 0) []:=acO _ _ _ _
theorem ud (W:World) (k:Nat) (hk:W.heap.size=k) (a b:Value) (t:TypeId):∀j u,[a,b][j]? =some u->(W.alloc (.cells #[a,b] t)).cell? ((⟨k,0,none⟩:Addr).add j)=some u:=by
 subst hk;exact adB (cs:= #[a,b]) (t:=t) (fr:=(0,0)) (heap_alloc_new W _)
end
section
open Go.Proofs.Tryz
open Go.RowKit Go.Sort
def Si.oZ (x y:Int):Int:=if x<y then -1 else if y<x then 1 else 0
theorem Ke (x y:Int) (w:World):Calls prog 114 #[.int .i64 x,.int .i64 y] w fun e w'=>e= .returned (.int .i64 (Si.oZ x y))/\w'=w:=by
 unfold Si.oZ;by_cases h1:x<y
 .rw[if_pos h1]
  go_enter func114,ntmps114;go_wp2;go_ret;exact⟨rfl,rfl⟩
 .rw[if_neg h1]
  by_cases h2:y<x
  .rw[if_pos h2]
   go_enter func114,ntmps114;go_wp2;go_ret;exact⟨rfl,rfl⟩
  .rw[if_neg h2]
   go_enter func114,ntmps114;go_wp2;go_ret;exact⟨rfl,rfl⟩
def Si.FV (p q:Int):Int:=if p≠0 then p else q
theorem YO (a b:Int×Int):Si.cf a b=Si.FV (Si.oZ a.1 b.1) (Si.oZ a.2 b.2):=by
 unfold Si.cf Si.oZ Si.FV;by_cases h1:a.1<b.1
 .simp[h1]
 .by_cases h2:b.1<a.1
  .simp[h1,h2]
  .simp[h1,h2]
theorem Un (p q:Int) (W:World) (b:Nat) (h0:W.cell? ⟨b,0,none⟩=some (.int .i64 p)) (h1:W.cell? ⟨b,1,none⟩=some (.int .i64 q)):Calls prog 113 #[.slice (some ⟨b,0,none⟩) 2 2] W fun e w'=>e= .returned (.int .i64 (Si.FV p q))/\w'=W:=by
 unfold Si.FV;by_cases hp:p=0
 .subst hp
  rw[if_neg (by simp)];by_cases hq:q=0
  .subst hq
   go_enter func113,ntmps113;go_wp2;refine wp_loop_rounds 3 ?_;rw[rounds_succ];go_wp2;rw[rounds_succ];go_wp2;rw[rounds_succ];go_wp2;go_ret;exact⟨rfl,rfl⟩
  .go_enter func113,ntmps113
   go_wp2;refine wp_loop_rounds 3 ?_;rw[rounds_succ];go_wp2;rw[rounds_succ];go_wp2;go_ret;exact⟨rfl,rfl⟩
 .rw[if_pos hp]
  go_enter func113,ntmps113;go_wp2;refine wp_loop_rounds 3 ?_;rw[rounds_succ];go_wp2;go_ret;exact⟨rfl,rfl⟩
theorem GI (a b:Int×Int) (w:World):Calls prog 73 #[fT a,fT b] w fun e w'=>e= .returned (.int .i64 (Si.cf a b))/\∃q os',w'=grow (w.drewN q) os':=by
 rw[YO];unfold fT;go_enter func73,ntmps73;go_wp2
 go_region_held3 (fun w'=>w'.cell? ⟨w.heap.size,0,none⟩=some (.int .i64 a.1)/\w'.cell? ⟨w.heap.size,1,none⟩=some (.int .i64 a.2)/\w'.cell? ⟨w.heap.size+1,0,none⟩=some (.int .i64 b.1)/\w'.cell? ⟨w.heap.size+1,1,none⟩=some (.int .i64 b.2))
  (go_keep)
  (first
    |(go_at_call 114;refine(Ke _ _ _).mono ?_;rintro e w' ⟨rfl,rfl⟩)
    |(go_at_call 113;refine(Un (Si.oZ a.1 b.1) (Si.oZ a.2 b.2) _ _ (QZ _ _ (QF _ _ _) _ _ _).1 (QZ _ _ (QF _ _ _) _ _ _).2).mono ?_;rintro e w' ⟨rfl,rfl⟩))
 go_wp2;go_ret;exact⟨rfl,1,_,by rw[alloc_eq_grow,alloc_eq_grow,grow_grow,alloc_eq_grow,grow_grow];rfl⟩
end
section
open Go.Proofs.Tryz
open Go.RowKit Go.Sort
namespace Si
def jY (n:Int) (es:List (Int×Int)) (k:Nat) (l:Int×Int):Prop:=
 (∀(j:Nat) (p:Int×Int),j<k->es[j]? =some p->ok n p)/\(∀(j:Nat) (p q:Int×Int),j+1<k->es[j]? =some p->es[j+1]? =some q->lt p q)/\((k=0/\l=(0,0))\/∃k',k=k'+1/\es[k']? =some l)
theorem jY.start (n:Int) (es:List (Int×Int)):jY n es 0 (0,0):=⟨fun j p h=>by omega,fun j p q h=>by omega,.inl ⟨rfl,rfl⟩⟩
theorem jY.step {n:Int} {es:List (Int×Int)} {k:Nat} {l p:Int×Int} (h:jY n es k l) (hp:es[k]? =some p) (ho:ok n p) (hl:lt l p):jY n es (k+1) p:=by
 refine⟨fun j q hj hq=> ?_,fun j q r hj hq hr=> ?_,.inr ⟨k,rfl,hp⟩⟩
 .by_cases hjk:j=k
  .subst hjk;rw[hp] at hq;cases hq;exact ho
  .exact h.1 j q (by omega) hq
 .by_cases hjk:j+1=k
  .subst hjk
   rw[hp] at hr;cases hr;rcases h.2.2 with ⟨h0,_⟩|⟨k',hk,hl'⟩
   .omega
   .obtain rfl:j=k':=by omega
    rw[hl'] at hq;cases hq;exact hl
  .exact h.2.1 j q r (by omega) hq hr
theorem jY.must {n:Int} {es:List (Int×Int)} {k:Nat} {l p:Int×Int} (h:jY n es k l) (hv:Val n es) (hp:es[k]? =some p):ok n p/\lt l p:=by
 have ho:=hv.each k p hp;refine⟨ho,?_⟩;rcases h.2.2 with ⟨rfl,rfl⟩|⟨k',rfl,hl⟩
 .unfold ok at ho
  unfold lt;dsimp only;omega
 .exact hv.up k' l p hl hp
theorem jY.done {n:Int} {es:List (Int×Int)} {l:Int×Int} (h:jY n es es.length l) (h0:0<=n) (h1:n<=1048576) (h2:es.length<=4194304):Val n es:=by
 have lim:∀(j:Nat) (p:Int×Int),es[j]? =some p->j<es.length:=fun j p hj=>by
  rcases abX j es.length with hl|hl
  .exact hl
  .rw[aaV hl] at hj;cases hj
 exact⟨h0,h1,h2,fun j p hj=>h.1 j p (lim j p hj) hj,fun j p q hp hq=>h.2.1 j p q (lim _ _ hq) hp hq⟩
end Si
theorem af {w:World} {b:Nat} {t:TypeId} {x y:Value} (h:w.heap[b]? =some (.cells #[x,y] t (0,0))):w.cell? ⟨b,0,none⟩=some x/\w.cell? ⟨b,1,none⟩=some y/\∀i,w.frozen? ⟨b,i,none⟩=false:=by
 refine⟨by simp[World.cell?,h],by simp[World.cell?,h],fun i=>by simp[World.frozen?,h]⟩
theorem kW {w:World} {b:Nat} {t:TypeId} {x y:Value} (h:w.heap[b]? =some (.cells #[x,y] t (0,0))) (x' y':Value):((w.setCell ⟨b,0,none⟩ x').setCell ⟨b,1,none⟩ y').heap[b]? =some (.cells #[x',y'] t (0,0)):=by
 have h1:=heap_setCell_same w b 0 _ t x' h;have h2:=heap_setCell_same _ b 1 _ t y' h1;simpa using h2
theorem fy {w:World} {b k:Nat} (hk:k≠b) (x' y':Value):((w.setCell ⟨b,0,none⟩ x').setCell ⟨b,1,none⟩ y').heap[k]? =w.heap[k]? :=by
 rw[heap_setCell_other _ ⟨b,1,none⟩ k y' hk,heap_setCell_other _ ⟨b,0,none⟩ k x' hk]
theorem ow (n:Int) (ao:Option Addr) (cap:Nat) (es:List (Int×Int)) (w:World) (he:ah w ao es) (hl:es.length<=4611686018427387904):
 Calls prog 38 #[az n ao es.length cap] w fun e w'=>e= .returned (.bool (Si.valid n es))/\Below w.heap.size w w':=by
 have HE:=ζ he;clear he;unfold az;by_cases h1:n<0
 .have hv:=Si.cM (n:=n) (es:=es) (fun h=>by have:=h.lo;omega)
  rw[hv];go_enter func38,ntmps38;go_wp2;go_ret;exact⟨rfl,(aae _ _).alloc (aad _) _⟩
 .by_cases h2:1048576<n
  .have hv:=Si.cM (n:=n) (es:=es) (fun h=>by have:=h.hi;omega)
   rw[hv];go_enter func38,ntmps38;go_wp2;go_ret;exact⟨rfl,(aae _ _).alloc (aad _) _⟩
  .by_cases h3:4194304<(es.length:Int)
   .have hv:=Si.cM (n:=n) (es:=es) (fun h=>by have:=h.few;omega)
    rw[hv];go_enter func38,ntmps38;go_wp2;go_ret;exact⟨rfl,(aae _ _).alloc (aad _) _⟩
   .go_enter func38,ntmps38
    go_wp2;go_loopw [23] (fun c wr=>∃(k:Nat) (l:Int×Int),k<=es.length/\c= .int .i64 k/\Si.jY n es k l/\wr.heap[w.heap.size]? =some (.cells #[.int .i64 n,.slice ao es.length cap] 24 (0,0))/\wr.heap[w.heap.size+1]? =some (.cells #[.int .i64 l.1,.int .i64 l.2] 66 (0,0))/\Below w.heap.size w wr) (fun c _=>es.length-(intOf c).toNat)
    case atStart=>
     refine⟨0,(0,0),aax _,rfl,Si.jY.start n es,?_,?_,((aae _ _).alloc (aad _) _).alloc (by simp) _⟩
     .rw[aaF _ _ _ (by simp)]
      exact heap_alloc_new w _
     .have:=heap_alloc_new (w.alloc (.cells #[.int .i64 n,.slice ao es.length cap] 24)) (.cells #[.int .i64 0,.int .i64 0] 66)
      simpa using this
    case round=>
     obtain⟨k,l,hk,rfl,eC,hgb,hlb,hb⟩:=hrel;by_cases hlt:k<es.length
     .have aQ:(k:Int)<(es.length:Int):=by omega
      have hk0:(0:Int)<=(k:Int):=by omega
      obtain⟨p,hp⟩:∃p,es[k]? =some p:=⟨_,aac hlt⟩;obtain⟨b,o,rfl,c0,c1⟩:=(HE.out.later hb) k p hp;obtain⟨g0,-,-⟩:=af hgb;obtain⟨l0,l1,lf⟩:=af hlb;have hsz:=lt_of_block hlb;have tL:=lt_of_block hgb;have hbl:b<wr.heap.size:=block_lt_of_cell c0;have q9:=ζ eC;have HP:=ζ hp;have pM:=ζ hgb;have M4:=ζ hlb;have HB:=ζ hb;clear eC hp hgb hlb hb;by_cases q1:p.1<0
      .have hv:=Si.cM (n:=n) (es:=es) (fun h=>by have:=(q9.out.must h HP.out).1.1;omega)
       go_wp2;go_ret;exact⟨by first|rfl|exact congrArg (fun b=>Ending.returned (.bool b)) hv.symm,HB.out.alloc (by omega) _⟩
      .by_cases q2:p.1<p.2
       .by_cases q3:p.2<n
        .have hca:=fun W=>GI l p W
         unfold fT at hca;have sR:=ζ hca;clear hca;by_cases q4:Si.lt l p
         .have DK:=Si.N5.2 q4
          generalize Si.cf l p=r at sR DK;go_wp2_with (go_at_call 73;refine(sR.out _).mono ?_;rintro e w' ⟨rfl,hgr⟩;refine aaj ?_);refine ζ ?_;obtain⟨qn,os',rfl⟩:=hgr;have hb1:=qM (wr.alloc (.cells #[.int .i64 p.1,.int .i64 p.2] 66)) qn os';have hb2:Below wr.heap.size wr (grow ((wr.alloc (.cells #[.int .i64 p.1,.int .i64 p.2] 66)).drewN qn) os'):=((aae _ _).alloc (aad _) _).trans (hb1.mono (by simp));have hnew:(grow ((wr.alloc (.cells #[.int .i64 p.1,.int .i64 p.2] 66)).drewN qn) os').heap[wr.heap.size]? =some (.cells #[.int .i64 p.1,.int .i64 p.2] 66 (0,0)):=(hb1.block _ (by simp)).trans (heap_alloc_new wr _);generalize grow ((wr.alloc (.cells #[.int .i64 p.1,.int .i64 p.2] 66)).drewN qn) os'=w2 at hb2 hnew ⊢;have WJ:=ζ ((hb2.block _ hsz).trans M4.out);have adh:=ζ ((hb2.block _ tL).trans pM.out);obtain⟨m0,m1,mf⟩:=af WJ.out;obtain⟨n0,n1,-⟩:=af hnew;have hsz2:=hb2.size;have aB:=ζ (HB.out.trans (hb2.mono (by omega)));clear hb1 hb2 hnew c0 c1 g0 l0 l1 lf;go_wp2;go_roundw
          case rel=>exact⟨k+1,p,by omega,by go_num,q9.out.step HP.out ⟨by omega,q2,q3⟩ q4,(fy (by omega) _ _).trans adh.out,kW WJ.out _ _,(aB.out.setCell (by simp) _).setCell (by simp) _⟩
          case measure=>simp[intOf];omega
         .have hv:=Si.cM (n:=n) (es:=es) (fun h=>q4 (q9.out.must h HP.out).2)
          have DK:¬(Si.cf l p<0):=fun h=>q4 (Si.N5.1 h)
          generalize Si.cf l p=r at sR DK;go_wp2_with (go_at_call 73;refine(sR.out _).mono ?_;rintro e w' ⟨rfl,hgr⟩;refine aaj ?_);refine ζ ?_;obtain⟨qn,os',rfl⟩:=hgr;have hb1:=qM (wr.alloc (.cells #[.int .i64 p.1,.int .i64 p.2] 66)) qn os';generalize grow ((wr.alloc (.cells #[.int .i64 p.1,.int .i64 p.2] 66)).drewN qn) os'=w2 at hb1 ⊢;have aB:=ζ ((HB.out.alloc (by omega) _).trans (hb1.mono (by simp;omega)));clear hb1;go_wp2;go_ret;exact⟨by first|rfl|exact congrArg (fun b=>Ending.returned (.bool b)) hv.symm,aB.out⟩
        .have hv:=Si.cM (n:=n) (es:=es) (fun h=>by have:=(q9.out.must h HP.out).1.2.2;omega)
         go_wp2;go_ret;exact⟨by first|rfl|exact congrArg (fun b=>Ending.returned (.bool b)) hv.symm,HB.out.alloc (by omega) _⟩
       .have hv:=Si.cM (n:=n) (es:=es) (fun h=>by have:=(q9.out.must h HP.out).1.2.1;omega)
        go_wp2;go_ret;exact⟨by first|rfl|exact congrArg (fun b=>Ending.returned (.bool b)) hv.symm,HB.out.alloc (by omega) _⟩
     .obtain rfl:k=es.length:=by omega
      have hv:=Si.aK.2 (eC.done (by omega) (by omega) (by omega));have HB:=ζ hb;clear hb eC hgb hlb;go_wp2;go_ret;exact⟨by first|rfl|exact congrArg (fun b=>Ending.returned (.bool b)) hv.symm,HB.out⟩
end
namespace Si
theorem gW {ps:List (Int×Int)} {k:Nat} {p:Int×Int} (h:ps[k]? =some p):ps.take (k+1)=ps.take k++[p]:=by
 have hl:k<ps.length:=(aah.1 h).1;rw[List.take_succ_eq_append_getElem hl];rw[aac hl] at h;cases h;rfl
end Si
section
open Go.RowKit Go.Sort
theorem Lq (n:Int) (ao:Option Addr) (ca:Nat) (es:List (Int×Int)) (w:World) (he:ah w ao es) (hl:es.length*16<=140737488355328):
 Calls Tryz.prog 11 #[az n ao es.length ca] w fun e w'=>∃v,e= .returned (.agg #[.int .i64 n,v])/\bD w' w.heap.size v es/\Below w.heap.size w w':=by
 obtain⟨i0,hi,hz0,hz1,hz2⟩:=info_parts Tryz.xH;have HE:=ζ he;clear he;unfold az;go_enter Tryz.func11,Tryz.ntmps11;go_wp2;go_loopw [3,4] (fun v c wr=>∃(k:Nat) (L:List (Int×Int)),k<=es.length/\c= .int .i64 k/\L=es.take k/\bD wr (w.heap.size+2) v L/\wr.heap[w.heap.size]? =some (.cells #[.int .i64 n,.slice ao es.length ca] 24 (0,0))/\wr.heap[w.heap.size+1]? =some (.cells #[.int .i64 0,.slice none 0 0] 24 (0,0))/\Below w.heap.size w wr) (fun _ c _=>es.length-(intOf c).toNat)
 case atStart=>
  refine⟨0,[],aax _,rfl,by simp,bD.nil _ _,?_,?_,((aae _ _).alloc (aad _) _).alloc (by simp) _⟩
  .rw[aaF _ _ _ (by simp)]
   exact heap_alloc_new w _
  .have:=heap_alloc_new (w.alloc (.cells #[.int .i64 n,.slice ao es.length ca] 24)) (.cells #[.int .i64 0,.slice none 0 0] 24)
   simpa using this
 case round=>
  obtain⟨k,L,hk,rfl,hL,hrow,hg1,hg2,hb⟩:=hrel;obtain⟨a0,a1,-⟩:=af hg1;obtain⟨b0,b1,bf⟩:=af hg2;have hs1:=lt_of_block hg1;have hs2:=lt_of_block hg2;have Gv:L.length=k:=by rw[hL];simp;omega
  have gL:=ζ hg1;have cZ:=ζ hg2;have HL:=ζ hL;have gB:=ζ hrow;have HB:=ζ hb;have om:=ζ Gv;have hs0:w.heap.size<=wr.heap.size:=hb.size;clear hg1 hg2 hL Gv;by_cases hlt:k<es.length
  .have aQ:(k:Int)<(es.length:Int):=by omega
   have hk0:(0:Int)<=(k:Int):=by omega
   obtain⟨p,hp⟩:∃p,es[k]? =some p:=⟨_,aac hlt⟩;obtain⟨b,o,rfl,c0,c1⟩:=(HE.out.later hb) k p hp;have hbl:b<wr.heap.size:=block_lt_of_cell c0;have Tk:Hid (es.take (k+1)=L++[p]):=by
    show es.take (k+1)=L++[p];rw[HL.out];exact Si.gW hp
   clear hp hb hrow;go_wp2_with (at_builtin;refine wpList_append_own _ rfl _ _ 22 rfl (w.heap.size+2) 66 i0 (.agg #[.int .i64 0,.int .i64 0]) 2 16 Tryz.underlying22 hi hz0 hz1 hz2 rfl (by decide) _ _ _ rfl (abH gB.out _) ⟨wr.heap.size,0,none⟩ 1 1 [.int .i64 p.1,.int .i64 p.2] rfl rfl (ud _ _ rfl _ _ _) (by simp[Value.oneCell']) (by rw[om.out];unfold maxLen;omega) (by rw[om.out];omega) (by simp;omega) ?_;refine aaj ?_);refine ζ ?_;intro v' w3 hrow3 hg3 _;have iX:Hid (bD w3 (w.heap.size+2) v' (L++[p])):=by
    unfold bD;rw[qO,aar];exact hrow3
   have adk:=ζ ((hg3.block _ (by simp;omega) (fun h=>gB.out.far (by omega) h.symm)).trans ((aaF _ _ _ hs1).trans gL.out));have adj:=ζ ((hg3.block _ (by simp;omega) (fun h=>gB.out.far (by omega) h.symm)).trans ((aaF _ _ _ hs2).trans cZ.out));have aJ:=ζ ((HB.out.alloc hs0 _).grown hg3 (by simp;omega) (fun j hj=>by have:=(aap gB.out j hj).1;omega));clear hrow3 hg3;go_wp2;go_roundw
   case rel=>exact⟨k+1,_,by omega,by go_num,Tk.out.symm,iX.out,adk.out,adj.out,aJ.out⟩
   case measure=>simp[intOf];omega
  .have hd:¬((k:Int)<(es.length:Int)):=by omega
   have SA:L=es:=by
    rw[HL.out];exact aaX (by omega)
   have zY:=ζ SA;clear SA hb hrow;obtain⟨SU,cap',rfl,_,_,_,hx⟩:=gB.out.form;have HX:=ζ hx;clear hx;go_wp2;have hgr:=kW cZ.out (.int .i64 n) (.slice SU L.length cap');obtain⟨r0,r1,-⟩:=af hgr;refine bodyPost_ret (v:= .agg #[.int .i64 n,.slice SU L.length cap']) (by simp[results,Tryz.results11,go_sem,r0,r1]) rfl ?_;refine⟨_,rfl,?_,(HB.out.setCell (by simp) _).setCell (by simp) _⟩;rw[<-zY.out];exact gB.out.Z1 (by omega) _ _
end
end Go.Proofs.YtdbjpbjocmcpkaaGreatDoor
