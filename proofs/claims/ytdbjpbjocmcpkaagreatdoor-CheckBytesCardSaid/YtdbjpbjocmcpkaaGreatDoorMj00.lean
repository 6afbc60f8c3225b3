import Derived.Below
import Derived.Calls
import Derived.Deep.AppendLies
import Derived.Deep.QuietTactic
import Derived.Laws.AppendOwn
import Derived.Laws.Bits64
import Derived.Laws.BitsLemmas
import Derived.Laws.Concat
import Derived.Laws.Sem
import Derived.Laws.World
import Derived.Lib.AppendIntMem
import Derived.Lib.ItoaLen
import Derived.Lib.ItoaMem
import Derived.Lib.ItoaNum
import Derived.Maps.Own
import Derived.OwnWalk
import Derived.WalkMore
import GoSem.Core.Value
import Init
import Derived.Test.YtdbjpbjocmcpkaaGreatDoorProg
import Derived.WalkKit
import Derived.WalkSpells
import Derived.WalkLawsBesides
import Derived.Sort.Grow
import Derived.Deep.RegionHeld3
import Derived.Laws.AppendOwnNone
import Derived.Laws.OwnMore
namespace Go.Proofs.YtdbjpbjocmcpkaaGreatDoor
abbrev aaE := @List.getElem?_eq_getElem
abbrev aaF := @Nat.le_refl
abbrev aaG := @Go.RowKit.Below.refl
abbrev aaH := @List.getElem?_eq_some_iff
abbrev aaI := @Go.RowKit.Hid.out
abbrev aaJ := @List.mem_of_getElem?
abbrev aaK := @Go.IntKind.wrap_i64
abbrev aaL := @List.getD_eq_getElem?_getD
abbrev aaO := @Go.World.ownsRow.lt
abbrev aaR := @Nat.zero_le
abbrev aaZ := @List.length_append
abbrev aa0 := @Go.RowKit.Below.heap_alloc
abbrev aa1 := @Nat.le_trans
abbrev aa2 := @Classical.byContradiction
abbrev aa3 := @List.length_map
abbrev aa4 := @List.mem_cons
abbrev aa5 := @List.getElem?_append_left
abbrev aa6 := @List.getElem?_eq_none
abbrev aa7 := @Go.World.size_alloc
abbrev aa8 := @List.getElem?_set
abbrev aa9 := @Option.some.inj
abbrev abb := @List.append_assoc
abbrev abd := @Nat.lt_of_lt_of_le
abbrev abe := @List.mem_singleton
abbrev abf := @List.mem_iff_getElem
abbrev abg := @List.getElem?_of_mem
abbrev abj := @List.getElem?_map
abbrev abk := @List.getElem?_append_right
abbrev abl := @List.nil_append
abbrev abn := @List.take_of_length_le
abbrev abo := @List.mem_append
abbrev abp := @List.cons_append
abbrev abq := @List.mem_range
abbrev abr := @List.pairwise_iff_getElem
abbrev abt := @List.map_append
abbrev abu := @Int.toNat_natCast
abbrev abv := @Go.World.ownsRow.alloc
abbrev abw := @Go.Calls.quiet_of_same
abbrev abx := @List.length_cons
abbrev abB := @Bool.and_eq_true
abbrev abC := @Array.getElem?_setIfInBounds_ne
abbrev abD := @List.pairwise_cons
abbrev abE := @Nat.mod_eq_of_lt
abbrev abF := @Go.World.cell?_of_block
abbrev abG := @Nat.add_zero
abbrev abH := @List.all_eq_true
abbrev abI := @Option.map_eq_some_iff
abbrev abJ := @Nat.mod_two_eq_zero_or_one
abbrev abK := @Nat.zero_add
abbrev abL := @List.length_take
abbrev abM := @Int.tdiv_eq_ediv_of_nonneg
abbrev abN := @List.not_mem_nil
abbrev abO := @List.mem_map
abbrev abP := @List.append_nil
abbrev abQ := @List.take_length
abbrev abR := @Int.tmod_eq_emod_of_nonneg
abbrev abS := @List.map_congr_left
abbrev abV := @List.mem_append_left
abbrev abW := @Nat.lt_or_ge
abbrev abX := @Array.getElem?_eq_some_iff
abbrev abY := @List.length_eq_zero_iff
abbrev ab0 := @List.ext_getElem?
abbrev ab1 := @List.mem_cons_of_mem
abbrev ab2 := @List.drop_of_length_le
abbrev ab3 := @List.length_nil
abbrev ab4 := @Go.World.grownBy_alloc
abbrev ab5 := @Go.World.ownsRow.cells
abbrev ab6 := @Bool.or_eq_true
abbrev ab7 := @Go.World.ownsMap.alloc
abbrev ab8 := @Nat.lt_trichotomy
abbrev ab9 := @List.contains_iff_mem
abbrev acd := @Go.RowKit.Below.trans
abbrev ace := @Bool.eq_iff_iff
abbrev acf := @List.getElem?_take
abbrev acg := @Go.World.grownBy.refl
abbrev ach := @List.getElem?_replicate
abbrev aci := @Array.getElem?_setIfInBounds_self_of_lt
abbrev acj := @List.take_add_one
abbrev ack := @List.length_pos_iff
abbrev acm := @List.length_reverse
abbrev acn := @Ne.symm
abbrev aco := @List.length_replicate
abbrev acp := @List.any_eq_true
abbrev acq := @Int.le_refl
abbrev acv := @Go.RowKit.Below.size
abbrev acB := @List.map_cons
abbrev acD := @List.setIfInBounds_toArray
abbrev acE := @List.length_set
abbrev acF := @List.eq_of_mem_replicate
abbrev acG := @Go.World.ownsRow_nil
abbrev acH := @List.flatMap_cons
abbrev acI := @List.getElem?_cons_succ
abbrev acJ := @Nat.mod_lt
abbrev acK := @List.cons.injEq
abbrev acL := @List.range_succ
abbrev acM := @List.take_append_drop
abbrev acN := @Array.getElem?_append_left
abbrev acO := @List.drop_eq_getElem_cons
abbrev acP := @List.getElem_mem
abbrev acQ := @List.length_drop
abbrev acT := @List.getElem?_range
abbrev acU := @Nat.add_assoc
abbrev acV := @List.map_take
abbrev acW := @List.mem_filter
abbrev acX := @Go.Exit.noGoto_ret
abbrev acY := @List.Nodup.length_le_of_subset
abbrev ac1 := @List.drop_eq_nil_of_le
abbrev ac4 := @Go.ByteArray.mk_append_mk
abbrev ac5 := @List.pairwise_map
abbrev ac6 := @List.map_map
abbrev ac7 := @List.mem_of_mem_head?
abbrev ac8 := @Int.natCast_emod
abbrev ada := @List.getElem?_set_ne
abbrev adb := @List.pairwise_append
abbrev ade := @List.sum_cons
abbrev adf := @List.nodup_iff_pairwise_ne
abbrev adh := @Go.World.cell?_setCell_other
abbrev adi := @Nat.le_of_lt
abbrev adj := @Nat.lt_of_le_of_ne
abbrev adk := @List.count_pos_iff
abbrev adn := @List.mem_cons_self
abbrev adp := @List.filter_append
abbrev adq := @List.Pairwise.imp_of_mem
abbrev adr := @Option.isSome_iff_exists
abbrev adu := @Nat.mul_le_mul
abbrev adv := @Go.RowKit.Below.alloc
abbrev adw := @Go.Addr.mk.injEq
abbrev adx := @Array.all_eq_true_iff_forall_mem
abbrev adz := @List.mem_append_right
abbrev adA := @List.mem_iff_getElem?
abbrev adB := @List.getElem?_reverse
abbrev adC := @Go.Lib.tabBelow_of_tabIs
abbrev adD := @Go.RowKit.Below.drew
abbrev adF := @Nat.succ_mul
abbrev adG := @Nat.le_antisymm
abbrev adH := @List.nodup_cons
abbrev adJ := @Go.Lib.decDigits_length
abbrev adM := @List.Pairwise.filter
abbrev adN := @List.drop_append_of_le_length
abbrev adO := @Go.World.news_of_block
abbrev adX := @Array.length_toList
abbrev adY := @List.map_replicate
abbrev adZ := @Go.World.ownsMap_made
abbrev ad0 := @Bool.false_ne_true
abbrev ad1 := @Go.Lib.itoa_length_le
abbrev ad2 := @Nat.lt_irrefl
abbrev ad5 := @Array.toList_setIfInBounds
abbrev ad9 := @Go.Lib.decDigits_one
abbrev aea := @Go.Result.andThen_ok
abbrev aee := @Decidable.byContradiction
abbrev aef := @List.getLast?_eq_getElem?
abbrev aeh := @List.ne_nil_of_length_pos
abbrev aen := @List.map_nil
abbrev aer := @Int.lt_or_le
abbrev aew := @List.getElem_inj
abbrev aez := @Option.getD_some
abbrev aeA := @Go.IntKind.wrap_u64
abbrev aeB := @List.nodup_range
abbrev aeC := @Nat.add_mod_left
abbrev aeD := @List.map_toArray
abbrev aeG := @Nat.mod_add_mod
abbrev aeL := @Go.Oper.upon_value
abbrev aeM := @Go.Lib.itoa_nonneg
namespace Nu
def au (c:Int):Bool:=c==32||(c==9||c==13)
def isDigit (c:Int):Bool:=decide (48<=c)&&decide (c<=57)
structure bT (f:Int->Bool) (g:Nat->Int) (n p q:Nat):Prop where
 lo:p<=q
 hi:q<=n
 all:∀i,p<=i->i<q->f (g i)=true
 stop:q<n->f (g q)=false
theorem bT.uniq {f:Int->Bool} {g:Nat->Int} {n p q r:Nat} (h:bT f g n p q) (k:bT f g n p r):q=r:=by
 rcases ab8 q r with l|l|l
 .have:=k.all q h.lo l
  rw[h.stop (abd l k.hi)] at this;cases this
 .exact l
 .have:=h.all r k.lo l
  rw[k.stop (abd l h.hi)] at this;cases this
def zn (f:Int->Bool) (g:Nat->Int) (n:Nat):Nat->Nat->Nat
 |0,p=>p
 |k+1,p=>if p<n/\f (g p)=true then zn f g n k (p+1) else p
def skip (f:Int->Bool) (g:Nat->Int) (n p:Nat):Nat:=zn f g n (n-p) p
theorem Gn (f:Int->Bool) (g:Nat->Int) (n:Nat):∀k p,p<=n->n-p<=k->bT f g n p (zn f g n k p)
 |0,p,hp,hk=>⟨aaF _,hp,fun i h1 h2=>by simp[zn] at h2;omega,fun h=>by simp[zn] at h;omega⟩
 |k+1,p,hp,hk=>by
  unfold zn;by_cases h:p<n/\f (g p)=true
  .rw[if_pos h]
   have ih:=Gn f g n k (p+1) (by omega) (by omega);refine⟨by have:=ih.lo;omega,ih.hi,fun i h1 h2=> ?_,ih.stop⟩;by_cases e:i=p
   .subst e;exact h.2
   .exact ih.all i (by omega) h2
  .rw[if_neg h]
   refine⟨aaF _,hp,fun i h1 h2=>by omega,fun hn=> ?_⟩;cases hb:f (g p)
   .rfl
   .exact absurd ⟨hn,hb⟩ h
theorem gM (f:Int->Bool) (g:Nat->Int) (n p:Nat) (hp:p<=n):bT f g n p (skip f g n p):=Gn f g n (n-p) p hp (aaF _)
theorem bT.eq {f:Int->Bool} {g:Nat->Int} {n p q:Nat} (h:bT f g n p q):q=skip f g n p:=h.uniq (gM f g n p (aa1 h.lo h.hi))
def val (g:Nat->Int) (q:Nat):Nat->Int
 |0=>0
 |k+1=>10*val g q k+(g (q+k)-48)
def ko:Nat->Int
 |0=>1
 |k+1=>10*ko k
theorem vN (g:Nat->Int) (q:Nat):∀k,(∀i,i<k->48<=g (q+i)/\g (q+i)<=57)->0<=val g q k/\val g q k<ko k
 |0,_=>by simp[val,ko]
 |k+1,h=>by
  have ih:=vN g q k (fun i hi=>h i (by omega));have hk:=h k (by omega);simp only[val,ko];omega
theorem CX:∀k,0<ko k
 |0=>by simp[ko]
 |k+1=>by have:=CX k;simp only[ko];omega
theorem KC {a b:Nat} (h:a<=b):ko a<=ko b:=by
 induction b with
 |zero=>have:a=0:=by omega
        subst this;exact acq _
 |succ b ih=>
  by_cases e:a=b+1
  .subst e;exact acq _
  .have:=ih (by omega)
   have:=CX b;simp only[ko];omega
theorem zj (g:Nat->Int) (q k:Nat) (hk:k<=9) (h:∀i,i<k->48<=g (q+i)/\g (q+i)<=57):0<=val g q k/\val g q k<1000000000:=by
 have h1:=vN g q k h;have h2:ko k<=ko 9:=KC hk;have h3:ko 9=1000000000:=by decide
 omega
structure Tok where
 kind:Int
 at':Int
 fin:Int
 num:Int
def next (g:Nat->Int) (n p:Nat):Except (Nat×Int) (Tok×Nat):=
 if skip au g n p=n then .ok (⟨3,n,n,0⟩,n)
 else if isDigit (g (skip au g n p))=true then
  if 9<skip isDigit g n (skip au g n p)-skip au g n p\/(1<skip isDigit g n (skip au g n p)-skip au g n p/\g (skip au g n p)=48) then .error (skip au g n p,12)
  else .ok (⟨1,skip au g n p,skip isDigit g n (skip au g n p),val g (skip au g n p) (skip isDigit g n (skip au g n p)-skip au g n p)⟩,skip isDigit g n (skip au g n p))
 else if g (skip au g n p)=10 then .ok (⟨2,skip au g n p,skip au g n p+1,0⟩,skip au g n p+1)
 else .error (skip au g n p,11)
theorem jB {g:Nat->Int} {n p:Nat} (h:bT au g n p n):next g n p= .ok (⟨3,n,n,0⟩,n):=by
 unfold next;rw[<-h.eq];simp
theorem nj {g:Nat->Int} {n p q:Nat} (h:bT au g n p q) (hq:q<n) (h10:g q=10):next g n p= .ok (⟨2,q,q+1,0⟩,q+1):=by
 unfold next
 rw[<-h.eq,if_neg (by omega),if_neg (by rw[h10];decide),if_pos h10]
theorem nk {g:Nat->Int} {n p q:Nat} (h:bT au g n p q) (hq:q<n) (hd:isDigit (g q)=false) (h10:g q≠10):next g n p= .error (q,11):=by
 unfold next
 rw[<-h.eq,if_neg (by omega),if_neg (by rw[hd];decide),if_neg h10]
theorem mM {g:Nat->Int} {n p q r:Nat} (h:bT au g n p q) (hq:q<n) (hd:isDigit (g q)=true) (hr:bT isDigit g n q r) (hb:9<r-q\/(1<r-q/\g q=48)):next g n p= .error (q,12):=by
 unfold next
 rw[<-h.eq,if_neg (by omega),if_pos hd,<-hr.eq,if_pos hb]
theorem mL {g:Nat->Int} {n p q r:Nat} (h:bT au g n p q) (hq:q<n) (hd:isDigit (g q)=true) (hr:bT isDigit g n q r) (hb:¬(9<r-q\/(1<r-q/\g q=48))):next g n p= .ok (⟨1,q,r,val g q (r-q)⟩,r):=by
 unfold next
 rw[<-h.eq,if_neg (by omega),if_pos hd,<-hr.eq,if_neg hb]
def dJ (g:Nat->Int) (n:Nat):Nat->Nat->Except (Nat×Int) (List Tok)
 |0,_=> .ok []
 |k+1,p=>match next g n p with
  | .error x=> .error x
  | .ok (t,p')=>if t.kind=3 then .ok [t] else match dJ g n k p' with
    | .error x=> .error x
    | .ok ts=> .ok (t::ts)
def scan (g:Nat->Int) (n:Nat):Except (Nat×Int) (List Tok):=dJ g n (n+1) 0
end Nu
section
open Go.RowKit
theorem ζ {p:Prop} (h:p):Hid p:=h
def aJ (w:World) (ao:Option Addr) (n:Nat) (g:Nat->Int):Prop:=
 ∀i,i<n->(0<=g i/\g i<=255)/\∃tb to,ao=some ⟨tb,to,none⟩/\w.cell? ⟨tb,to+i,none⟩=some (.int .u8 (g i))
def Apart (ao:Option Addr) (b:Nat):Prop:=∀x,ao=some x->x.block≠b
section
variable {w w':World} {b:Nat} {ao:Option Addr} {n cap p:Nat} {g:Nat->Int}
theorem grownBy_setCell {w0:World} (h:w0.grownBy w (some b)) (i:Nat) (v:Value):w0.grownBy (w.setCell ⟨b,i,none⟩ v) (some b):=by
 refine⟨h.os,h.tape,h.output,by simpa using h.size,fun k hk hne=> ?_⟩;rw[heap_setCell_other w ⟨b,i,none⟩ k v (fun e=>hne (by rw[e])),h.block k hk hne]
theorem aj {w0 w1 w2:World} {r:Option Nat} (h:w0.grownBy w1 r) (k:w1.grownBy w2 r):w0.grownBy w2 r:=
 ⟨k.os.trans h.os,k.tape.trans h.tape,k.output.trans h.output,aa1 h.size k.size,fun i hi hne=>(k.block i (abd hi h.size) hne).trans (h.block i hi hne)⟩
theorem bC {w0:World} {r:Option Nat} (h:w0.grownBy w r) (k:Nat):w0.grownBy (w.drewN k) r:=⟨h.os,h.tape,h.output,h.size,h.block⟩
theorem FP {w0:World} {r:Option Nat} (h:w0.grownBy w r):w0.grownBy w.drew r:=⟨h.os,h.tape,h.output,h.size,h.block⟩
theorem bO {w0:World} {r:Option Nat} (h:w0.grownBy w r) (o:Obj):w0.grownBy (w.alloc o) r:=aj h (ab4 w o r)
def nZ (w:World) (B:Nat) (a b c d:Value):World:=(((w.setCell ⟨B,0,none⟩ a).setCell ⟨B,1,none⟩ b).setCell ⟨B,2,none⟩ c).setCell ⟨B,3,none⟩ d
theorem nh {B:Nat} {t:TypeId} {x0 x1 x2 x3:Value} (h:w.heap[B]? =some (.cells #[x0,x1,x2,x3] t (0,0))) (a b c d:Value):(nZ w B a b c d).heap[B]? =some (.cells #[a,b,c,d] t (0,0)):=by
 have h1:=heap_setCell_same w B 0 _ t a h;have h2:=heap_setCell_same _ B 1 _ t b h1;have h3:=heap_setCell_same _ B 2 _ t c h2;have h4:=heap_setCell_same _ B 3 _ t d h3;unfold nZ;simpa using h4
theorem AE {B k:Nat} (hk:k≠B) (a b c d:Value):(nZ w B a b c d).heap[k]? =w.heap[k]? :=by
 unfold nZ;rw[heap_setCell_other _ ⟨B,3,none⟩ k d hk,heap_setCell_other _ ⟨B,2,none⟩ k c hk,heap_setCell_other _ ⟨B,1,none⟩ k b hk,heap_setCell_other _ ⟨B,0,none⟩ k a hk]
theorem NZ (B:Nat) (a b c d:Value):(nZ w B a b c d).heap.size=w.heap.size:=by simp[nZ]
theorem iW {w0:World} {r:Option Nat} (h:w0.grownBy w r) {B:Nat} (hB:w0.heap.size<=B) (x0 x1 x2 x3:Value):w0.grownBy (nZ w B x0 x1 x2 x3) r:=
 ⟨h.os,h.tape,h.output,by rw[NZ];exact h.size,fun k hk hne=>(AE (by omega) x0 x1 x2 x3).trans (h.block k hk hne)⟩
theorem aJ.grown (h:aJ w ao n g) (hg:w.grownBy w' (some b)) (ha:Apart ao b):aJ w' ao n g:=by
 intro i hi;obtain⟨hb,tb,to,e,hc⟩:=h i hi;exact⟨hb,tb,to,e,hg.cell hc (by simpa using ha _ e)⟩
theorem aJ.alloc (h:aJ w ao n g) (o:Obj):aJ (w.alloc o) ao n g:=by
 intro i hi;obtain⟨hb,tb,to,e,hc⟩:=h i hi;exact⟨hb,tb,to,e,(ab4 w o none).cell hc (by simp)⟩
theorem aJ.drewN (h:aJ w ao n g) (k:Nat):aJ (w.drewN k) ao n g:=h
theorem aJ.Cb (h:aJ w ao n g) (hg:w.grownBy w' none):aJ w' ao n g:=by
 intro i hi;obtain⟨hb,tb,to,e,hc⟩:=h i hi;exact⟨hb,tb,to,e,hg.cell hc (by simp)⟩
theorem aJ.later (h:aJ w ao n g) (hg:Below w.heap.size w w'):aJ w' ao n g:=by
 intro i hi;obtain⟨hb,tb,to,e,hc⟩:=h i hi;exact⟨hb,tb,to,e,(hg.cell (p:=⟨tb,to+i,none⟩) (block_lt_of_cell hc)).trans hc⟩
theorem aJ.below {B:Nat} (h:aJ w ao n g) (hg:Below B w w') (ha:∀x,ao=some x->x.block<B):aJ w' ao n g:=by
 intro i hi;obtain⟨hb,tb,to,e,hc⟩:=h i hi;exact⟨hb,tb,to,e,(hg.cell (p:=⟨tb,to+i,none⟩) (show tb<B from ha _ e)).trans hc⟩
end
end
section
namespace Si
def lt (a b:Int×Int):Prop:=a.1<b.1\/(a.1=b.1/\a.2<b.2)
instance (a b:Int×Int):Decidable (lt a b):=by unfold lt;infer_instance
def cf (a b:Int×Int):Int:=if a.1<b.1 then -1 else if b.1<a.1 then 1 else if a.2<b.2 then -1 else if b.2<a.2 then 1 else 0
theorem Ch {a b:Int×Int}:cf a b<0↔lt a b:=by
 unfold cf lt
 split
 .simp;omega
 .split
  .simp;omega
  .split
   .simp;omega
   .split
    .simp;omega
    .simp;omega
theorem lt_irrefl (a:Int×Int):¬lt a a:=by unfold lt;omega
theorem lt_trans {a b c:Int×Int} (h:lt a b) (k:lt b c):lt a c:=by unfold lt at *;omega
theorem zJ (a b:Int×Int):lt a b\/a=b\/lt b a:=by
 unfold lt;by_cases h:a=b
 .exact .inr (.inl h)
 .have:a.1≠b.1\/a.2≠b.2:=by
   by_cases h1:a.1=b.1
   .exact .inr fun h2=>h (Prod.ext h1 h2)
   .exact .inl h1
  omega
theorem lt_asymm {a b:Int×Int} (h:lt a b):¬lt b a:=fun k=>lt_irrefl a (lt_trans h k)
theorem Ol {a b:Int×Int} (h:lt a b):a≠b:=fun e=>lt_irrefl a (by rw[e] at h ⊢;exact h)
def ok (n:Int) (e:Int×Int):Prop:=0<=e.1/\e.1<e.2/\e.2<n
structure Val (n:Int) (es:List (Int×Int)):Prop where
 lo:0<=n
 hi:n<=1048576
 few:es.length<=4194304
 each:∀(j:Nat) (p:Int×Int),es[j]? =some p->ok n p
 up:∀(j:Nat) (p q:Int×Int),es[j]? =some p->es[j+1]? =some q->lt p q
open Classical in
noncomputable def valid (n:Int) (es:List (Int×Int)):Bool:=decide (Val n es)
theorem aL {n:Int} {es:List (Int×Int)}:valid n es=true↔Val n es:=by unfold valid;exact @decide_eq_true_iff _ (Classical.propDecidable _)
theorem dD {n:Int} {es:List (Int×Int)} (h:¬Val n es):valid n es=false:=by
 cases hv:valid n es
 .rfl
 .exact absurd (aL.1 hv) h
theorem Val.mono {n:Int} {es:List (Int×Int)} (h:Val n es):∀(j i:Nat) (p q:Int×Int),i<j->es[i]? =some p->es[j]? =some q->lt p q
 |0,_,_,_,hij,_,_=>by omega
 |j+1,i,p,q,hij,hp,hq=>by
  have hl:j+1<es.length:=by
   rcases abW (j+1) es.length with hl|hl
   .exact hl
   .rw[aa6 hl] at hq;cases hq
  have hr:es[j]? =some es[j]:=aaE (by omega);have h1:=h.up j _ q hr hq;by_cases hij':i=j
  .subst hij'
   rw[hp] at hr;cases hr;exact h1
  .exact lt_trans (h.mono j i p _ (by omega) hp hr) h1
theorem Val.place {n:Int} {es:List (Int×Int)} (h:Val n es) {i j:Nat} {p:Int×Int} (hi:es[i]? =some p) (hj:es[j]? =some p):i=j:=by
 rcases ab8 i j with a|a|a
 .exact absurd (h.mono j i p p a hi hj) (lt_irrefl p)
 .exact a
 .exact absurd (h.mono i j p p a hj hi) (lt_irrefl p)
def Q0 (n:Int) (es:List (Int×Int)) (e:Int×Int) (r:Int):Prop:=(∃k:Nat,Val n es/\es[k]? =some e/\r=k)\/(r= -1/\¬(Val n es/\∃k:Nat,es[k]? =some e))
noncomputable def ends (n:Int) (es:List (Int×Int)) (h:Int):Int×Int×Bool:=
 if valid n es=true/\0<=h/\h<2*es.length then
  (if h%2=1 then ((es.getD (h/2).toNat (0,0)).2,(es.getD (h/2).toNat (0,0)).1,true) else ((es.getD (h/2).toNat (0,0)).1,(es.getD (h/2).toNat (0,0)).2,true))
 else (0,0,false)
def bump (l:List Int) (v:Int):List Int:=l.set v.toNat (l.getD v.toNat 0+1)
def aS (n:Int):List (Int×Int)->List Int
 |es=>es.foldl (fun l e=>bump (bump l e.1) e.2) (List.replicate n.toNat 0)
def norm (p:Int×Int):Int×Int:=(min p.1 p.2,max p.1 p.2)
def YR (ps:List (Int×Int)) (l:List (Int×Int)):Prop:=l.Pairwise lt/\∀e,e∈l↔∃p∈ps,p.1≠p.2/\e=norm p
theorem Au:∀{l l':List (Int×Int)},l.Pairwise lt->l'.Pairwise lt->(∀e,e∈l↔e∈l')->l=l'
 |[],[],_,_,_=>rfl
 |[],b::l',_,_,h=>by have:=(h b).2 (by simp);simp at this
 |a::l,[],_,_,h=>by have:=(h a).1 (by simp);simp at this
 |a::l,b::l',hs,hs',h=>by
  rw[abD] at hs hs';have hab:a=b:=by
   have h1:=(h a).1 (by simp);have h2:=(h b).2 (by simp);rcases aa4.1 h1 with e|e
   .exact e
   .rcases aa4.1 h2 with e2|e2
    .exact e2.symm
    .exact absurd (hs'.1 a e) (lt_asymm (hs.1 b e2))
  subst hab
  congr 1
  refine Au hs.2 hs'.2 fun e=>⟨fun he=> ?_,fun he=> ?_⟩
  .rcases aa4.1 ((h e).1 (ab1 _ he)) with e1|e1
   .exact absurd e1.symm (Ol (hs.1 e he))
   .exact e1
  .rcases aa4.1 ((h e).2 (ab1 _ he)) with e1|e1
   .exact absurd e1.symm (Ol (hs'.1 e he))
   .exact e1
def put:List (Int×Int)->Int×Int->List (Int×Int)
 |[],e=>[e]
 |x::l,e=>if lt x e then x::put l e else if x=e then x::l else e::x::l
theorem xK:∀(l:List (Int×Int)) (e x:Int×Int),x∈put l e↔x=e\/x∈l
 |[],e,x=>by simp[put]
 |y::l,e,x=>by
  unfold put
  split
  .rw[aa4,xK l e x,aa4]
   constructor
   .rintro(h|h|h)
    .exact .inr (.inl h)
    .exact .inl h
    .exact .inr (.inr h)
   .rintro(h|h|h)
    .exact .inr (.inl h)
    .exact .inl h
    .exact .inr (.inr h)
  .split
   .rename_i h
    subst h;simp
   .rw[aa4]
theorem AA:∀(l:List (Int×Int)) (e:Int×Int),l.Pairwise lt->(put l e).Pairwise lt
 |[],e,_=>by simp[put]
 |y::l,e,h=>by
  have h':=h;rw[abD] at h;unfold put
  split
  .rename_i uJ
   rw[abD];refine⟨fun z hz=> ?_,AA l e h.2⟩;rcases(xK l e z).1 hz with rfl|hz
   .exact uJ
   .exact h.1 z hz
  .split
   .exact h'
   .rename_i h1 h2
    rw[abD];refine⟨fun z hz=> ?_,h'⟩;have Yo:lt e y:=by
     rcases zJ y e with a|a|a
     .exact absurd a h1
     .exact absurd a h2
     .exact a
    rcases aa4.1 hz with rfl|hz
    .exact Yo
    .exact lt_trans Yo (h.1 z hz)
theorem AB:∀(l:List (Int×Int)) (e:Int×Int),l.length<=(put l e).length/\(put l e).length<=l.length+1
 |[],e=>by simp[put]
 |y::l,e=>by
  have:=AB l e;unfold put
  split
  .simp;omega
  .split<;>simp
def made:List (Int×Int)->List (Int×Int)->List (Int×Int)
 |l,[]=>l
 |l,p::ps=>made (if p.1=p.2 then l else put l (norm p)) ps
theorem De:∀(ps l:List (Int×Int)) (p:Int×Int),made l (ps++[p])=if p.1=p.2 then made l ps else put (made l ps) (norm p)
 |[],l,p=>by simp[made]
 |q::ps,l,p=>by simp only[abp,made];exact De ps _ p
theorem Dg:∀(ps l:List (Int×Int)),l.Pairwise lt->(made l ps).Pairwise lt/\∀e,e∈made l ps↔e∈l\/∃p∈ps,p.1≠p.2/\e=norm p
 |[],l,h=>⟨h,fun e=>by simp[made]⟩
 |p::ps,l,h=>by
  by_cases hp:p.1=p.2
  .obtain⟨h1,h2⟩:=Dg ps l h
   simp only[made,if_pos hp];refine⟨h1,fun e=>(h2 e).trans ?_⟩;simp only[aa4,exists_eq_or_imp];constructor
   .rintro(a|a)
    .exact .inl a
    .exact .inr (.inr a)
   .rintro(a|a|a)
    .exact .inl a
    .exact absurd hp a.1
    .exact .inr a
  .obtain⟨h1,h2⟩:=Dg ps (put l (norm p)) (AA l _ h)
   simp only[made,if_neg hp];refine⟨h1,fun e=>(h2 e).trans ?_⟩;rw[xK];simp only[aa4,exists_eq_or_imp];constructor
   .rintro((a|a)|a)
    .exact .inr (.inl ⟨hp,a⟩)
    .exact .inl a
    .exact .inr (.inr a)
   .rintro(a|a|a)
    .exact .inl (.inr a)
    .exact .inl (.inl a.2)
    .exact .inr a
theorem Df (ps:List (Int×Int)):YR ps (made [] ps):=by
 obtain⟨h1,h2⟩:=Dg ps [] List.Pairwise.nil;exact⟨h1,fun e=>by rw[h2];simp⟩
theorem mj:∀(ps l:List (Int×Int)),l.length<=(made l ps).length/\(made l ps).length<=l.length+ps.length
 |[],l=>by simp[made]
 |p::ps,l=>by
  simp only[made]
  split
  .have:=mj ps l
   simp;omega
  .have:=mj ps (put l (norm p))
   have:=AB l (norm p);simp;omega
theorem xM:∀(ps qs l:List (Int×Int)),made l (ps++qs)=made (made l ps) qs
 |[],_,_=>rfl
 |p::ps,qs,l=>by simp only[abp,made];exact xM ps qs _
theorem Oi (ps:List (Int×Int)) (k:Nat):(made [] (ps.take k)).length<=(made [] ps).length:=by
 conv=>rhs;rw[<-acM k ps,xM]
 exact(mj _ _).1
end Si
end
section
open Go.RowKit Go.Sort
def cM (e:Int×Int):Value:= .agg #[.int .i64 e.1,.int .i64 e.2]
theorem new2 (W:World) (k:Nat) (hk:W.heap.size=k) (x y:Value) (t:TypeId):(W.alloc (.cells #[x,y] t)).cell? ⟨k,0,none⟩=some x/\(W.alloc (.cells #[x,y] t)).cell? ⟨k,1,none⟩=some y:=by
 subst hk;constructor<;>simp
theorem Uk (W:World) (k:Nat) (hk:W.heap.size=k) (x y:Value) (t:TypeId):(W.alloc (.cells #[x,y] t)).drew.cell? ⟨k,0,none⟩=some x/\(W.alloc (.cells #[x,y] t)).drew.cell? ⟨k,1,none⟩=some y:=new2 W k hk x y t
theorem TW (W:World) (x y:Obj):((W.alloc x).alloc y).heap.size=W.heap.size+1+1:=by simp
theorem lz (w:World) (q:Nat) (os:Array Obj):Below w.heap.size w (grow (w.drewN q) os):=by
 refine⟨rfl,rfl,rfl,by simp[grow],fun k hk=> ?_⟩;simp[grow,acN hk]
end
section
open Go.RowKit
def ah (w:World) (ao:Option Addr) (es:List (Int×Int)):Prop:=
 ∀(j:Nat) (p:Int×Int),es[j]? =some p->∃b o:Nat,ao=some ⟨b,o,none⟩/\w.cell? ⟨b,o+j*2,none⟩=some (.int .i64 p.1)/\w.cell? ⟨b,o+j*2+1,none⟩=some (.int .i64 p.2)
theorem ah.later {w w':World} {ao:Option Addr} {es:List (Int×Int)} (h:ah w ao es) (hb:Below w.heap.size w w'):ah w' ao es:=fun j p hj=>by
 obtain⟨b,o,e,h0,h1⟩:=h j p hj;exact⟨b,o,e,(hb.cell (p:=⟨b,o+j*2,none⟩) (block_lt_of_cell h0)).trans h0,(hb.cell (p:=⟨b,o+j*2+1,none⟩) (block_lt_of_cell h1)).trans h1⟩
def aB (n:Int) (ao:Option Addr) (len cap:Nat):Value:= .agg #[.int .i64 n,.slice ao len cap]
end
section
open Go.RowKit
theorem Tryz.zP:(Tryz.prog.info? 66).map (fun i=>(i.zero,i.size,i.bytes))=some (some (.agg #[.int .i64 0,.int .i64 0]),2,16):=by kernel_rfl
def gB (ps:List (Int×Int)):List Value:=ps.flatMap fun p=>[.int .i64 p.1,.int .i64 p.2]
theorem oz (ps:List (Int×Int)) (p:Int×Int):gB (ps++[p])=gB ps++[.int .i64 p.1,.int .i64 p.2]:=by simp[gB]
theorem oQ:∀ps:List (Int×Int),(gB ps).length=ps.length*2
 |[]=>rfl
 |p::ps=>by
  have:=oQ ps;simp[gB] at this ⊢;omega
theorem mO:∀(ps:List (Int×Int)) (j:Nat) (p:Int×Int),ps[j]? =some p->(gB ps)[j*2]? =some (.int .i64 p.1)/\(gB ps)[j*2+1]? =some (.int .i64 p.2)
 |[],j,p,h=>by simp at h
 |q::ps,0,p,h=>by
  simp at h;subst h;simp[gB]
 |q::ps,j+1,p,h=>by
  simp at h;have:=mO ps j p h;have e:(j+1)*2=j*2+1+1:=by omega
  rw[e];simpa[gB] using this
theorem Pv (g j:Nat):((⟨g,0,none⟩:Addr).add j)=⟨g,j,none⟩:=by
 by_cases h:j=0
 .simp[Addr.add,h]
 .simp[Addr.add,h]
def aW (w:World) (B:Nat) (v:Value) (es:List (Int×Int)):Prop:=w.ownsRow B 66 2 v es.length (gB es)
theorem aW.form {w:World} {B:Nat} {v:Value} {es:List (Int×Int)} (h:aW w B v es):∃ao cap,v= .slice ao es.length cap/\es.length<=cap/\cap<=maxLen/\ah w ao es/\(∀x,ao=some x->B<=x.block/\x.block<w.heap.size):=by
 have h':=h;unfold aW at h';rcases h.2 with ⟨rfl,h0⟩|⟨g,cap,cur,rfl,hg,hh,hc,hm,_⟩
 .refine⟨none,0,by rw[h0],by omega,aaR _,fun j p hj=> ?_,fun x h=>by cases h⟩
  rw[abY.1 h0] at hj;simp at hj
 .refine⟨_,cap,rfl,hc,hm,fun j p hj=>⟨g,0,rfl,?_⟩,fun x h=>by cases h;exact⟨hg,lt_of_block hh⟩⟩
  have hcl:=ab5 h' (g:=g) rfl;simp only[Pv] at hcl;obtain⟨h0,h1⟩:=mO es j p hj;rw[abK];exact⟨hcl _ _ h0,hcl _ _ h1⟩
theorem aW.below {w w':World} {B A:Nat} {v:Value} {ps:List (Int×Int)} (h:aW w B v ps) (hb:Below A w w') (hA:w.heap.size<=A):aW w' B v ps:=by
 refine⟨h.1,?_⟩;rcases h.2 with h|⟨g,cap,cur,e,hgB,hh,hr⟩
 .exact .inl h
 .exact .inr ⟨g,cap,cur,e,hgB,(hb.block g (by have:=lt_of_block hh;omega)).trans hh,hr⟩
theorem aW.alloc {w:World} {B:Nat} {v:Value} {ps:List (Int×Int)} (h:aW w B v ps) (o:Obj):aW (w.alloc o) B v ps:=abv h o
theorem aW.some {w:World} {B:Nat} {v:Value} {es:List (Int×Int)} (h:aW w B v es) (hn:v≠.slice none 0 0):∃g cap,v= .slice (some ⟨g,0,none⟩) es.length cap:=by
 rcases h.2 with ⟨rfl,_⟩|⟨g,cap,cur,rfl,_⟩
 .exact absurd rfl hn
 .exact⟨g,cap,rfl⟩
theorem aW.far {w:World} {B b:Nat} {v:Value} {ps:List (Int×Int)} (h:aW w B v ps) (hb:b<B):v.ownBlock≠Option.some b:=by
 obtain⟨ao,cap,rfl,_,_,_,hx⟩:=h.form;cases ao with
 |none=>simp[Value.ownBlock]
 |some x=>have:=hx x rfl;simp[Value.ownBlock];omega
theorem aW.adW {w:World} {B A b:Nat} {v:Value} {ps:List (Int×Int)} (h:aW w B v ps) (hA:A<=b/\b<B) (x y:Value):aW ((w.setCell ⟨b,0,none⟩ x).setCell ⟨b,1,none⟩ y) A v ps:=by
 refine⟨h.1,?_⟩;rcases h.2 with h|⟨g,cap,cur,e,hgB,hh,hr⟩
 .exact .inl h
 .refine .inr ⟨g,cap,cur,e,by omega,?_,hr⟩
  rw[heap_setCell_other _ ⟨b,1,none⟩ g y (by simp;omega),heap_setCell_other _ ⟨b,0,none⟩ g x (by simp;omega)];exact hh
theorem aW.lower {w:World} {B A:Nat} {v:Value} {ps:List (Int×Int)} (h:aW w B v ps) (hA:A<=B):aW w A v ps:=by
 refine⟨h.1,?_⟩;rcases h.2 with h|⟨g,cap,cur,e,hgB,hh,hr⟩
 .exact .inl h
 .exact .inr ⟨g,cap,cur,e,by omega,hh,hr⟩
theorem aW.nil (w:World) (B:Nat):aW w B (.slice none 0 0) []:=acG _ _ _ _
theorem qx (W:World) (k:Nat) (hk:W.heap.size=k) (a b:Value) (t:TypeId):∀j u,[a,b][j]? =some u->(W.alloc (.cells #[a,b] t)).cell? ((⟨k,0,none⟩:Addr).add j)=some u:=by
 subst hk;exact adO (cs:= #[a,b]) (t:=t) (fr:=(0,0)) (heap_alloc_new W _)
end
section
open Go.RowKit
theorem Tryz.cL:(Tryz.prog.info? 3).map (fun i=>(i.zero,i.size,i.bytes))=some (some (.int .i64 0),1,8):=by kernel_rfl
def aq (w:World) (g:Nat) (l:List Int):Prop:=w.heap[g]? =some (.cells (l.map (Value.int .i64)).toArray 3 (0,0))
section
variable {w w':World} {g:Nat} {l:List Int}
theorem aq.lt (h:aq w g l):g<w.heap.size:=lt_of_block h
theorem aq.cell (h:aq w g l) {i:Nat} {x:Int} (hx:l[i]? =some x):w.cell? ⟨g,i,none⟩=some (.int .i64 x):=by
 unfold aq at h;simp[World.cell?,h,hx]
theorem aq.free (h:aq w g l) (i:Nat):w.frozen? ⟨g,i,none⟩=false:=by
 unfold aq at h;simp[World.frozen?,h]
theorem aq.set (h:aq w g l) (i:Nat) (x:Int):aq (w.setCell ⟨g,i,none⟩ (.int .i64 x)) g (l.set i x):=by
 unfold aq at h ⊢;rw[heap_setCell_same w g i _ _ _ h];simp[List.map_set]
theorem aq.later (h:aq w g l) (hb:Below w.heap.size w w'):aq w' g l:=(hb.block g h.lt).trans h
theorem aq.alloc (h:aq w g l) (o:Obj):aq (w.alloc o) g l:=(aa0 w o g h.lt).trans h
end
theorem dx (n:Nat):(madeCells #[.int .i64 0] n).toList=(List.replicate n (0:Int)).map (Value.int .i64):=by
 rw[toList_madeCells_one,adY]
theorem eR {w:World} {B g n:Nat} {xs:List Int} (h:w.ownsRow B 3 1 (.slice (some ⟨g,0,none⟩) n n) n (xs.map (Value.int .i64))):aq w g xs:=by
 rcases h.2 with ⟨h,_⟩|⟨g',cap,cur,e,_,hh,_,_,hs,ht⟩
 .cases h
 cases e;have e1:cur.toList=xs.map (Value.int .i64):=by
  rw[<-ht];exact(abn (by simp;omega)).symm
 unfold aq;rw[hh,<-e1]
end
section
open Go.RowKit
def rz (w:World) (g:Nat) (l:List (Int×Int)):Prop:=w.heap[g]? =some (.cells (gB l).toArray 66 (0,0))
section
variable {w w':World} {g:Nat} {l:List (Int×Int)}
theorem rz.cells (h:rz w g l) {i:Nat} {p:Int×Int} (hp:l[i]? =some p):w.cell? ⟨g,i*2,none⟩=some (.int .i64 p.1)/\w.cell? ⟨g,i*2+1,none⟩=some (.int .i64 p.2):=by
 obtain⟨h0,h1⟩:=mO l i p hp;unfold rz at h;simp[World.cell?,h,h0,h1]
theorem rz.at (h:rz w g l):ah w (some ⟨g,0,none⟩) l:=fun j p hj=>⟨g,0,rfl,by rw[abK];exact(h.cells hj).1,by rw[abK];exact(h.cells hj).2⟩
end
theorem Tryz.OA:(Tryz.prog.info? 4).map (fun i=>(i.zero,i.size,i.bytes))=some (some (.bool false),1,1):=by kernel_rfl
def dH (w:World) (g:Nat) (l:List Bool):Prop:=w.heap[g]? =some (.cells (l.map Value.bool).toArray 4 (0,0))
section
variable {w w':World} {g:Nat} {l:List Bool}
theorem dH.lt (h:dH w g l):g<w.heap.size:=lt_of_block h
theorem dH.cell (h:dH w g l) {i:Nat} {x:Bool} (hx:l[i]? =some x):w.cell? ⟨g,i,none⟩=some (.bool x):=by
 unfold dH at h;simp[World.cell?,h,hx]
theorem dH.free (h:dH w g l) (i:Nat):w.frozen? ⟨g,i,none⟩=false:=by
 unfold dH at h;simp[World.frozen?,h]
theorem dH.set (h:dH w g l) (i:Nat) (x:Bool):dH (w.setCell ⟨g,i,none⟩ (.bool x)) g (l.set i x):=by
 unfold dH at h ⊢;rw[heap_setCell_same w g i _ _ _ h];simp[List.map_set]
theorem dH.later (h:dH w g l) (hb:Below w.heap.size w w'):dH w' g l:=(hb.block g h.lt).trans h
theorem MS {B n:Nat} (h:w.ownsRow B 4 1 (.slice (some ⟨g,0,none⟩) n n) n (l.map Value.bool)):dH w g l:=by
 rcases h.2 with ⟨h,_⟩|⟨g',cap,cur,e,_,hh,_,_,hs,ht⟩
 .cases h
 .cases e
  rw[abn (by simp;omega)] at ht;unfold dH;rw[hh,<-ht]
end
theorem RU (n:Nat):(madeCells #[.bool false] n).toList=(List.replicate n false).map Value.bool:=by
 rw[toList_madeCells_one,adY]
end
section
open Go.RowKit
def aV (w:World) (ao:Option Addr) (l:List Int):Prop:=∀(j:Nat) (x:Int),l[j]? =some x->∃b o:Nat,ao=some ⟨b,o,none⟩/\w.cell? ⟨b,o+j,none⟩=some (.int .i64 x)
theorem aV.later {w w':World} {ao:Option Addr} {l:List Int} (h:aV w ao l) (hb:Below w.heap.size w w'):aV w' ao l:=fun j x hj=>by
 obtain⟨b,o,e,h0⟩:=h j x hj;exact⟨b,o,e,(hb.cell (p:=⟨b,o+j,none⟩) (block_lt_of_cell h0)).trans h0⟩
theorem aV.nil (w:World) (ao:Option Addr):aV w ao []:=fun j p hj=>by simp at hj
theorem aq.at {w:World} {g:Nat} {l:List Int} (h:aq w g l):aV w (some ⟨g,0,none⟩) l:=fun j x hj=>⟨g,0,rfl,by rw[abK];exact h.cell hj⟩
end
namespace Nu
def pre (ts:List Tok):Except (Nat×Int) (List Tok)->Except (Nat×Int) (List Tok)
 | .error x=> .error x
 | .ok us=> .ok (ts++us)
theorem pre_nil (r:Except (Nat×Int) (List Tok)):pre [] r=r:=by cases r<;>rfl
theorem Ub (a b:List Tok) (r:Except (Nat×Int) (List Tok)):pre a (pre b r)=pre (a++b) r:=by cases r<;>simp[pre]
theorem iG {g:Nat->Int} {n p:Nat} {x:Nat×Int} (k:Nat) (h:next g n p= .error x):dJ g n (k+1) p= .error x:=by simp[dJ,h]
theorem fN {g:Nat->Int} {n p p':Nat} {t:Tok} (k:Nat) (h:next g n p= .ok (t,p')) (h3:t.kind=3):dJ g n (k+1) p= .ok [t]:=by simp[dJ,h,h3]
theorem jw {g:Nat->Int} {n p p':Nat} {t:Tok} (k:Nat) (h:next g n p= .ok (t,p')) (h3:t.kind≠3):dJ g n (k+1) p=pre [t] (dJ g n k p'):=by
 simp only[dJ,h,if_neg h3];cases dJ g n k p'<;>rfl
theorem kY {g:Nat->Int} {n p p':Nat} {t:Tok} (hp:p<=n) (h:next g n p= .ok (t,p')):p'<=n/\(t.kind≠3->p<p'):=by
 have hs:=gM au g n p hp;by_cases h1:skip au g n p=n
 .rw[h1] at hs
  rw[jB hs] at h;cases h;exact⟨aaF _,fun h=>absurd rfl h⟩
 .have hlt:skip au g n p<n:=adj hs.hi h1
  have hlo:=hs.lo;cases hd:isDigit (g (skip au g n p))
  .by_cases h10:g (skip au g n p)=10
   .rw[nj hs hlt h10] at h
    cases h;exact⟨hlt,fun _=>by omega⟩
   .rw[nk hs hlt hd h10] at h
    cases h
  .have hr:=gM isDigit g n (skip au g n p) hs.hi
   have hrl:skip au g n p<skip isDigit g n (skip au g n p):=by
    rcases abW (skip au g n p) (skip isDigit g n (skip au g n p)) with h'|h'
    .exact h'
    .have e:=adG hr.lo h'
     have:=hr.stop (by rw[<-e];exact hlt);rw[<-e,hd] at this;cases this
   by_cases hb:9<skip isDigit g n (skip au g n p)-skip au g n p\/(1<skip isDigit g n (skip au g n p)-skip au g n p/\g (skip au g n p)=48)
   .rw[mM hs hlt hd hr hb] at h
    cases h
   .rw[mL hs hlt hd hr hb] at h
    cases h;exact⟨hr.hi,fun _=>by omega⟩
theorem vV {g:Nat->Int} {n p p':Nat} {t:Tok} (hp:p<=n) (h:next g n p= .ok (t,p')):
 (t.kind=1\/t.kind=2\/t.kind=3)/\0<=t.at'/\t.at'<=n/\0<=t.fin/\t.fin<=n/\0<=t.num/\t.num<1000000000:=by
 have hs:=gM au g n p hp;have hhi:=hs.hi;by_cases h1:skip au g n p=n
 .rw[h1] at hs
  rw[jB hs] at h;cases h;exact⟨by simp,by simp⟩
 .have hlt:skip au g n p<n:=adj hs.hi h1
  cases hd:isDigit (g (skip au g n p))
  .by_cases h10:g (skip au g n p)=10
   .rw[nj hs hlt h10] at h
    cases h;refine⟨by simp,?_⟩;dsimp only;omega
   .rw[nk hs hlt hd h10] at h
    cases h
  .have hr:=gM isDigit g n (skip au g n p) hs.hi
   have aj2:=hr.hi;by_cases hb:9<skip isDigit g n (skip au g n p)-skip au g n p\/(1<skip isDigit g n (skip au g n p)-skip au g n p/\g (skip au g n p)=48)
   .rw[mM hs hlt hd hr hb] at h
    cases h
   .rw[mL hs hlt hd hr hb] at h
    cases h;have hv:=zj g (skip au g n p) (skip isDigit g n (skip au g n p)-skip au g n p) (by omega) (fun i hi=>by
     have:=hr.all (skip au g n p+i) (by omega) (by omega);simpa[isDigit] using this)
    refine⟨by simp,?_⟩;dsimp only;omega
theorem Aw {g:Nat->Int} {n:Nat} {k p:Nat} {t:Tok} {ts:List Tok} (hp:p<=n) (h:dJ g n k p= .ok (t::ts)):
 ∃p',next g n p= .ok (t,p')/\p'<=n/\∃k',dJ g n k' p'= .ok ts:=by
 cases k with
 |zero=>simp[dJ] at h
 |succ k=>
  cases hx:next g n p with
  |error x=>rw[iG k hx] at h;cases h
  |ok y=>
   obtain⟨u,p'⟩:=y;have hm:=kY hp hx;by_cases h3:u.kind=3
   .rw[fN k hx h3] at h
    cases h;exact⟨p',rfl,hm.1,0,rfl⟩
   .rw[jw k hx h3] at h
    cases hr:dJ g n k p' with
    |error x=>rw[hr] at h;cases h
    |ok us=>
     rw[hr] at h;simp only[pre,Except.ok.injEq,abp,abl,acK] at h;obtain⟨rfl,rfl⟩:=h;exact⟨p',rfl,hm.1,k,hr⟩
theorem vh {g:Nat->Int} {n:Nat}:∀{k p:Nat} {ts:List Tok},p<=n->dJ g n k p= .ok ts->ts.length<=n-p+1
 |0,p,ts,_,h=>by simp[dJ] at h;subst h;simp
 |k+1,p,ts,hp,h=>by
  cases hx:next g n p with
  |error x=>rw[iG k hx] at h;cases h
  |ok y=>
   obtain⟨u,p'⟩:=y;have hm:=kY hp hx;by_cases h3:u.kind=3
   .rw[fN k hx h3] at h
    cases h;simp
   .rw[jw k hx h3] at h
    cases hr:dJ g n k p' with
    |error x=>rw[hr] at h;cases h
    |ok us=>
     rw[hr] at h;cases h;have ih:=vh hm.1 hr;have:=hm.2 h3;simp;omega
theorem xe {g:Nat->Int} {n:Nat} {ts:List Tok} (h:scan g n= .ok ts):ts.length<=n+1:=by
 have:=vh (aaR _) h;omega
end Nu
namespace Nu
theorem bT.here {f:Int->Bool} {g:Nat->Int} {n p:Nat} (hp:p<=n) (h:p<n->f (g p)=false):bT f g n p p:=
 ⟨aaF _,hp,fun i h1 h2=>by omega,h⟩
theorem uI {c:Int} (h:isDigit c=true):au c=false:=by
 simp[isDigit] at h;simp[au];omega
end Nu
section
namespace Nu
section
variable {g ga gb:Nat->Int} {n na nb:Nat}
def Tok.on (m:Nat) (t:Tok):Tok:=⟨t.kind,t.at'+m,t.fin+m,t.num⟩
def on (m:Nat):Except (Nat×Int) (List Tok)->Except (Nat×Int) (List Tok)
 | .error x=> .error (x.1+m,x.2)
 | .ok ts=> .ok (ts.map (Tok.on m))
end
end Nu
end
end Go.Proofs.YtdbjpbjocmcpkaaGreatDoor
