import Derived.Below
import Derived.Deep.AppendLies
import Derived.Deep.QuietTactic
import Derived.Laws.AppendOwn
import Derived.Laws.Bits64
import Derived.Laws.BitsLemmas
import Derived.Laws.Sem
import Derived.Laws.World
import Derived.RangeFuncBox
import Derived.RangeFuncFrom
import Derived.RangeFuncRecord
import Derived.RangeFuncWrites
import Init
import Derived.Test.YtbhdibflpjhpaaaGreatProg
import Derived.WalkKit
import Derived.WalkSpells
import Derived.WalkLawsBesides
import Derived.Test.YtbhdibflpjhpaaaGreatRows
import Derived.ProofKit
import Derived.OpenShut
import Derived.SizedLaws
import Derived.Deep.DeepHandedRow
import Derived.Lib.LaidTab
import Derived.Laws.AppendOwnNone
import Derived.Laws.OwnMore
import Derived.Lib.AppendZerosOnto
import Derived.Lib.SliceRun
import Derived.Sort.Grow
import Derived.Deep.RegionHeld3
set_option maxHeartbeats 4000000
set_option maxRecDepth 100000
namespace Go.Proofs.YtbhdibflpjhpaaaGreat
abbrev aac := @List.getElem?_eq_getElem
abbrev aad := @Nat.le_refl
abbrev aae := @Go.RowKit.Below.refl
abbrev aaf := @List.getElem?_eq_some_iff
abbrev aag := @List.getD_eq_getElem?_getD
abbrev aah := @List.mem_of_getElem?
abbrev aai := @List.mem_cons_self
abbrev aaj := @List.mem_cons
abbrev aak := @List.mem_cons_of_mem
abbrev aal := @Option.some.inj
abbrev aam := @List.mem_append
abbrev aan := @List.mem_singleton
abbrev aao := @Ne.symm
abbrev abv := @List.getElem?_eq_none
abbrev abO := @Classical.byContradiction
abbrev abQ := @Go.RowKit.Hid.out
abbrev abR := @Array.getElem?_eq_some_iff
abbrev abS := @List.length_cons
abbrev abT := @List.mem_map
abbrev abU := @List.getElem?_map
abbrev abZ := @List.length_append
abbrev ab0 := @List.getElem?_set
abbrev ab1 := @List.mem_range
abbrev ab2 := @Go.RowKit.Below.heap_alloc
abbrev ab6 := @Nat.zero_le
abbrev acd := @List.mem_append_right
abbrev ace := @List.append_assoc
abbrev acf := @Go.IntKind.wrap_i64
abbrev ach := @Int.toNat_natCast
abbrev aci := @List.mem_append_left
abbrev acj := @Go.World.ownsRow.lt
abbrev aco := @List.length_map
abbrev acp := @List.all_eq_true
abbrev acq := @List.mem_iff_getElem
abbrev acr := @List.nodup_cons
abbrev acs := @List.nil_append
abbrev acv := @Bool.and_eq_true
abbrev acy := @List.nodup_append
abbrev acA := @Nat.le_trans
abbrev acB := @List.nodup_iff_pairwise_ne
abbrev acC := @Go.World.size_alloc
abbrev acD := @List.length_reverse
abbrev acE := @List.pairwise_cons
abbrev acF := @List.getElem?_append_left
abbrev acG := @Int.tdiv_eq_ediv_of_nonneg
abbrev acH := @List.append_nil
abbrev acI := @Classical.choose_spec
abbrev acJ := @List.length_set
abbrev acK := @List.mem_filter
abbrev acL := @List.take_of_length_le
abbrev acM := @List.getElem?_append_right
abbrev acO := @List.ext_getElem?
abbrev acP := @List.pairwise_iff_getElem
abbrev acQ := @List.getElem?_replicate
abbrev acR := @List.any_eq_true
abbrev acS := @List.map_append
abbrev acT := @List.pairwise_append
abbrev acU := @Nat.lt_of_lt_of_le
abbrev acX := @Option.map_eq_some_iff
abbrev acY := @List.length_nil
abbrev acZ := @List.cons_append
abbrev ac0 := @List.length_eq_zero_iff
abbrev ac1 := @Go.World.ownsRow.cells
abbrev ac4 := @List.reverse_cons
abbrev ac5 := @List.getElem?_of_mem
abbrev ac6 := @List.map_cons
abbrev ac7 := @Nat.zero_add
abbrev ac8 := @List.pairwise_map
abbrev ada := @List.Pairwise.imp_of_mem
abbrev adb := @List.length_singleton
abbrev ade := @List.take_add_one
abbrev adh := @Nat.mod_eq_of_lt
abbrev adi := @List.getElem_mem
abbrev adj := @List.drop_eq_getElem_cons
abbrev adk := @List.getElem_of_mem
abbrev adn := @Nat.lt_or_ge
abbrev ado := @Nat.add_zero
abbrev adp := @List.count_pos_iff
abbrev adq := @Bool.false_eq_true
abbrev ads := @Go.World.putObj_heap_other
abbrev adu := @List.not_mem_nil
abbrev adv := @Array.all_eq_true_iff_forall_mem
abbrev adw := @Nat.mod_two_eq_zero_or_one
abbrev adx := @List.dropWhile_cons_of_neg
abbrev ady := @Bool.or_eq_true
abbrev adz := @List.mem_flatMap
abbrev adA := @Int.le_refl
abbrev adB := @Array.replicate_succ
abbrev adC := @Array.replicate_zero
abbrev adD := @Go.World.ownsRow.alloc
abbrev adE := @List.map_congr_left
abbrev adF := @List.append_toArray
abbrev adG := @List.dropWhile_cons_of_pos
abbrev adH := @Option.getD_some
abbrev adI := @List.take_length
abbrev adJ := @List.length_take
abbrev adL := @List.take_append_drop
abbrev adM := @List.mem_of_mem_head?
abbrev adN := @List.Nodup.length_le_of_subset
abbrev adO := @List.size_toArray
abbrev adP := @List.push_toArray
abbrev adQ := @List.take_append_of_le_length
abbrev adR := @List.getElem?_range
abbrev adS := @List.mem_map_of_mem
abbrev adT := @List.mem_flatten
abbrev adU := @Option.bind_some
abbrev adZ := @List.dropWhile_sublist
abbrev ad4 := @List.getElem?_reverse
abbrev ad5 := @Array.toList_setIfInBounds
abbrev ad6 := @Go.World.ownsRow_nil
abbrev ad7 := @Go.Result.andThen_ok
abbrev ad9 := @Go.RowKit.Below.size
abbrev aea := @Go.World.cell?_of_block
abbrev aed := @List.mem_erase_of_ne
abbrev aee := @List.getLastD_eq_getLast?
abbrev aeh := @Go.RowKit.Below.trans
abbrev aei := @List.map_toArray
abbrev aej := @List.length_erase_of_mem
abbrev aek := @Go.World.news_of_block
abbrev ael := @Int.toNat_of_nonneg
abbrev aem := @Go.Calls.quiet_of_same
abbrev aeo := @List.takeWhile_append_dropWhile
abbrev aep := @List.filter_cons_of_pos
abbrev aer := @Go.Boxed.new
abbrev aew := @Nat.lt_or_gt_of_ne
abbrev aex := @List.append_of_mem
abbrev aey := @List.head?_eq_getElem?
abbrev aeA := @Array.getElem?_eq_none
abbrev aeB := @List.drop_of_length_le
abbrev aeC := @Go.KeepsFrom.refl
abbrev aeF := @List.mem_of_mem_take
abbrev aeG := @Bool.true_and
abbrev aeH := @List.sum_cons
abbrev aeI := @List.setIfInBounds_toArray
abbrev aeK := @List.eraseIdx_of_length_le
abbrev aeL := @Int.tmod_eq_emod_of_nonneg
abbrev aeN := @Go.OwnFrom.and
abbrev aeO := @List.flatMap_append
abbrev aeP := @List.getElem?_eq_none_iff
abbrev aeQ := @Go.Sem.run_bind
abbrev aeR := @Go.Sem.run_pure
abbrev aeT := @List.map_nil
abbrev aeU := @List.getLastD_cons
abbrev aeV := @List.filter_append
abbrev aeZ := @Go.Boxed.cell
abbrev ae0 := @List.count_set
abbrev ae1 := @List.getElem?_cons_succ
abbrev ae2 := @List.pairwise_singleton
abbrev ae3 := @List.filter_cons_of_neg
abbrev ae4 := @Option.bind_eq_some_iff
abbrev ae5 := @Nat.lt_trichotomy
abbrev ae8 := @List.length_range
abbrev ae9 := @List.flatMap_cons
abbrev afa := @Int.ofNat.inj
abbrev afb := @List.map_reverse
abbrev afc := @List.nodup_range
abbrev afg := @List.map_flatten
abbrev afh := @List.take_prefix
abbrev afj := @List.pairwise_flatten
abbrev afk := @Nat.div_lt_of_lt_mul
abbrev afm := @List.count_le_length
abbrev afn := @Go.World.alloc_heap_new
abbrev afo := @List.eq_nil_iff_forall_not_mem
abbrev afp := @Bool.and_false
abbrev afr := @List.nodup_nil
abbrev afx := @Nat.lt_of_le_of_lt
abbrev afA := @Bool.and_comm
abbrev afE := @Nat.add_assoc
abbrev afF := @List.foldl_append
abbrev afG := @List.getElem?_inj
abbrev afH := @Bool.eq_false_iff
abbrev afI := @List.count_append
abbrev afJ := @List.getLast?_eq_getElem?
abbrev afK := @List.mem_or_eq_of_mem_set
abbrev afL := @Nat.sub_self
abbrev afM := @Nat.add_mod_left
abbrev afN := @List.getElem_inj
abbrev afO := @Go.IntKind.wrap_u64
abbrev afP := @List.filter_nil
abbrev afQ := @List.take_take
abbrev afR := @Nat.mul_le_mul
namespace Nu
def dI (c:Int):Bool:=c==32||(c==9||c==13)
def isDigit (c:Int):Bool:=decide (48<=c)&&decide (c<=57)
def TV (f:Int->Bool) (g:Nat->Int) (n:Nat):Nat->Nat->Nat
 |0,p=>p
 |k+1,p=>if p<n/\f (g p)=true then TV f g n k (p+1) else p
def skip (f:Int->Bool) (g:Nat->Int) (n p:Nat):Nat:=TV f g n (n-p) p
def val (g:Nat->Int) (q:Nat):Nat->Int
 |0=>0
 |k+1=>10*val g q k+(g (q+k)-48)
structure Tok where
 kind:Int
 WZ:Int
 fin:Int
 num:Int
def next (g:Nat->Int) (n p:Nat):Except (Nat×Int) (Tok×Nat):=
 if skip dI g n p=n then .ok (⟨3,n,n,0⟩,n)
 else if isDigit (g (skip dI g n p))=true then
  if 9<skip isDigit g n (skip dI g n p)-skip dI g n p\/(1<skip isDigit g n (skip dI g n p)-skip dI g n p/\g (skip dI g n p)=48) then .error (skip dI g n p,12)
  else .ok (⟨1,skip dI g n p,skip isDigit g n (skip dI g n p),val g (skip dI g n p) (skip isDigit g n (skip dI g n p)-skip dI g n p)⟩,skip isDigit g n (skip dI g n p))
 else if g (skip dI g n p)=10 then .ok (⟨2,skip dI g n p,skip dI g n p+1,0⟩,skip dI g n p+1)
 else .error (skip dI g n p,11)
end Nu
section
open Go.RowKit
theorem ζ {p:Prop} (h:p):Hid p:=h
section
variable {w w':World} {b:Nat} {ao:Option Addr} {n cap p:Nat} {g:Nat->Int}
def jY (w:World) (B:Nat) (a b c d:Value):World:=(((w.setCell ⟨B,0,none⟩ a).setCell ⟨B,1,none⟩ b).setCell ⟨B,2,none⟩ c).setCell ⟨B,3,none⟩ d
theorem lU {B:Nat} {t:TypeId} {x0 x1 x2 x3:Value} (h:w.heap[B]? =some (.cells #[x0,x1,x2,x3] t (0,0))) (a b c d:Value):(jY w B a b c d).heap[B]? =some (.cells #[a,b,c,d] t (0,0)):=by
 have h1:=heap_setCell_same w B 0 _ t a h;have h2:=heap_setCell_same _ B 1 _ t b h1;have h3:=heap_setCell_same _ B 2 _ t c h2;have h4:=heap_setCell_same _ B 3 _ t d h3;unfold jY;simpa using h4
theorem tK {B k:Nat} (hk:k≠B) (a b c d:Value):(jY w B a b c d).heap[k]? =w.heap[k]? :=by
 unfold jY;rw[heap_setCell_other _ ⟨B,3,none⟩ k d hk,heap_setCell_other _ ⟨B,2,none⟩ k c hk,heap_setCell_other _ ⟨B,1,none⟩ k b hk,heap_setCell_other _ ⟨B,0,none⟩ k a hk]
end
end
section
open Go.Proofs.Tryz
open Go.ChangeShapes Go.WideShapes Go.ChangeAt Go.RowKit
theorem own:ownKnob prog.godebug=none:=by kernel_rfl
theorem laidOut:laidOutB prog=true:=by kernel_rfl
noncomputable def settled (os:Os):World:=World.holding prog os ⟨#[],#[],[]⟩
def Am (k:IntKind) (bytes:Nat) (w:World) (a:Option Addr) (len cap:Nat) (zs:List Int):Prop:=
 (a=none/\len=0/\cap=0/\zs=[])\/
 ∃x,a=some x/\len<=cap/\cap*bytes<=140737488351232/\zs.length=cap/\(∀i,i<zs.length->w.cell? (x.add i)=some (.int k (zs.getD i 0)))/\∀n∈zs,(Lit.int k n).wf=true
theorem Am.take {k:IntKind} {bytes:Nat} {w:World} {a:Option Addr} {len cap:Nat} {zs:List Int} (h:Am k bytes w a len cap zs):(zs.take len).length=len:=by
 rcases h with ⟨_,rfl,_,rfl⟩|⟨_,_,hl,_,hz,_⟩
 .rfl
 .simp;omega
theorem Am.small {k:IntKind} {bytes:Nat} {w:World} {a:Option Addr} {len cap:Nat} {zs:List Int} (h:Am k bytes w a len cap zs):len*bytes<=140737488351232:=by
 rcases h with ⟨_,rfl,_,rfl⟩|⟨_,_,hl,hm,_⟩
 .simp
 .exact acA (Nat.mul_le_mul_right bytes hl) hm
theorem G7 {ops:Array Oper} {rest:List Oper} {o:Oper} {a:Act} {Q:Exit->Act->World->Prop} (hgd:o.guard=none) (s x:Operand) (t:TypeId)
 (ho:o.op= .call { callee:= .builtin .append,args:= #[s,x],argTypes:= #[t,t] }) (e:TypeId) (k:IntKind) (i0:TypeInfo) (bytes:Nat) (hu:prog.underlying t=some (.slice e)) (hi:prog.info? e=some i0)
 (hz0:i0.zero=some (.int k 0)) (hz1:i0.size=1) (hz2:i0.bytes=bytes) (hpos:0<bytes) (W:World) (ao:Option Addr) (len cap:Nat) (zs:List Int) (hs:a.eval s= .slice (some ⟨W.heap.size,0,none⟩) 0 0) (hx:a.eval x= .slice ao len cap)
 (hrow:Am k bytes W ao len cap zs)
 (h:∀gb c w',w'.ownsRow W.heap.size e 1 (.slice (some ⟨gb,0,none⟩) len c) len ((zs.take len).map (Value.int k))->W.heap.size<=gb->gb<w'.heap.size->len<=c->Below W.heap.size W w'->wpList prog ops Q rest (a.put o.dst (.slice (some ⟨gb,0,none⟩) len c)) w'):
 wpList prog ops Q (o::rest) a (W.alloc (.cells #[] e)):=by
 have xe:(W.alloc (.cells #[] e)).ownsRow W.heap.size e 1 (.slice (some ⟨W.heap.size,0,none⟩) 0 0) 0 []:=World.ownsRow_made W #[] 0 (aad _) (ab6 _) rfl;have hb0:Below W.heap.size W (W.alloc (.cells #[] e)):=(aae _ _).alloc (aad _) _;have vT:=hrow.take;have hsm:=hrow.small;rcases hrow with ⟨rfl,rfl,rfl,rfl⟩|⟨y,rfl,hl,hm,hz,hc,hw⟩
 .refine wpList_append_own_none hgd s x t ho W.heap.size e i0 1 hu hi _ 0 [] hs xe hx ?_
  exact h _ _ _ xe (aad _) (by simp) (aad _) hb0
 .have hlb:len<=140737488351232:=acA (Nat.le_mul_of_pos_right len hpos) hsm
  refine wpList_append_own _ hgd s x t ho W.heap.size e i0 (.int k 0) 1 bytes hu hi hz0 hz1 hz2 rfl (by decide) _ 0 [] hs xe y len cap ((zs.take len).map (Value.int k)) hx (by rw[aco,vT];omega) ?_ (ints_oneCell k _) (by unfold maxLen;omega) (by rw[ac7];omega) (by simp) ?_
  .intro j u hj
   rw[abU,List.getElem?_take] at hj;by_cases hjl:j<len
   .rw[if_pos hjl] at hj
    have hlt:j<zs.length:=by omega
    rw[aac hlt] at hj;simp at hj;subst hj;have Zh:=hc j hlt;rw[aag,aac hlt] at Zh;exact(World.grownBy_alloc W _ none).cell Zh (by simp)
   .rw[if_neg hjl] at hj
    simp at hj
  .intro v' w' hown' hg hiff
   rw[ac7,acs] at hown';rcases hown'.2 with ⟨hnil,_⟩|⟨gb,c,cur,rfl,hgb,hh,hlc,_⟩
   .have:=(hiff.1 hnil).1
    cases this
   .exact h gb c w' hown' hgb (lt_of_block hh) hlc (hb0.grown hg (by simp) (fun q hq=>by cases hq;exact aad _))
end
section
open Go.RowKit
theorem Tryz.cM:(Tryz.prog.info? 3).map (fun i=>(i.zero,i.size,i.bytes))=some (some (.int .i64 0),1,8):=by kernel_rfl
def af (w:World) (g:Nat) (l:List Int):Prop:=w.heap[g]? =some (.cells (l.map (Value.int .i64)).toArray 3 (0,0))
section
variable {w w':World} {g:Nat} {l:List Int}
theorem af.lt (h:af w g l):g<w.heap.size:=lt_of_block h
theorem af.cell (h:af w g l) {i:Nat} {x:Int} (hx:l[i]? =some x):w.cell? ⟨g,i,none⟩=some (.int .i64 x):=by
 unfold af at h;simp[World.cell?,h,hx]
theorem af.free (h:af w g l) (i:Nat):w.frozen? ⟨g,i,none⟩=false:=by
 unfold af at h;simp[World.frozen?,h]
theorem af.set (h:af w g l) (i:Nat) (x:Int):af (w.setCell ⟨g,i,none⟩ (.int .i64 x)) g (l.set i x):=by
 unfold af at h ⊢;rw[heap_setCell_same w g i _ _ _ h];simp[List.map_set]
theorem af.later (h:af w g l) (hb:Below w.heap.size w w'):af w' g l:=(hb.block g h.lt).trans h
theorem af.alloc (h:af w g l) (o:Obj):af (w.alloc o) g l:=(ab2 w o g h.lt).trans h
end
theorem dD (n:Nat):(madeCells #[.int .i64 0] n).toList=(List.replicate n (0:Int)).map (Value.int .i64):=by
 rw[toList_madeCells_one,List.map_replicate]
theorem eu {w:World} {B g n:Nat} {xs:List Int} (h:w.ownsRow B 3 1 (.slice (some ⟨g,0,none⟩) n n) n (xs.map (Value.int .i64))):af w g xs:=by
 rcases h.2 with ⟨h,_⟩|⟨g',cap,cur,e,_,hh,_,_,hs,ht⟩
 .cases h
 cases e;have e1:cur.toList=xs.map (Value.int .i64):=by
  rw[<-ht];exact(acL (by simp;omega)).symm
 unfold af;rw[hh,<-e1]
end
section
open Go.RowKit
def aF (w:World) (g:Nat) (l:List Int):Prop:=∃rest:List Value,w.heap[g]? =some (.cells (l.map (Value.int .i64)++rest).toArray 3 (0,0))
section
variable {w w':World} {g:Nat} {l:List Int}
theorem aF.lt (h:aF w g l):g<w.heap.size:=by
 obtain⟨rest,h⟩:=h;exact lt_of_block h
theorem aF.cell (h:aF w g l) {i:Nat} {x:Int} (hx:l[i]? =some x):w.cell? ⟨g,i,none⟩=some (.int .i64 x):=by
 obtain⟨rest,h⟩:=h;have hl:=(aaf.1 hx).1;have:(l.map (Value.int .i64)++rest)[i]? =some (.int .i64 x):=by
  rw[acF (by simpa using hl),abU,hx];rfl
 simp[World.cell?,h];simpa using this
theorem aF.free (h:aF w g l) (i:Nat):w.frozen? ⟨g,i,none⟩=false:=by
 obtain⟨rest,h⟩:=h;simp[World.frozen?,h]
theorem aF.set (h:aF w g l) {i:Nat} (hi:i<l.length) (x:Int):aF (w.setCell ⟨g,i,none⟩ (.int .i64 x)) g (l.set i x):=by
 obtain⟨rest,h⟩:=h;refine⟨rest,?_⟩;rw[heap_setCell_same w g i _ _ _ h];have e:((l.map (Value.int .i64)++rest).toArray.setIfInBounds i (.int .i64 x))=((l.set i x).map (Value.int .i64)++rest).toArray:=by
  rw[aeI,List.set_append_left _ _ (by simpa using hi),List.map_set]
 rw[e]
theorem aF.other (h:aF w g l) {b i:Nat} (hb:g≠b) (x:Value):aF (w.setCell ⟨b,i,none⟩ x) g l:=by
 obtain⟨rest,h⟩:=h;exact⟨rest,(heap_setCell_other w ⟨b,i,none⟩ g x hb).trans h⟩
theorem aF.later (h:aF w g l) (hb:Below w.heap.size w w'):aF w' g l:=by
 have hl:=h.lt;obtain⟨rest,h⟩:=h;exact⟨rest,(hb.block g hl).trans h⟩
theorem aF.alloc (h:aF w g l) (o:Obj):aF (w.alloc o) g l:=by
 have hl:=h.lt;obtain⟨rest,h⟩:=h;exact⟨rest,(ab2 w o g hl).trans h⟩
theorem aF.drew (h:aF w g l):aF w.drew g l:=h
theorem af.ins (h:af w g l):aF w g l:=⟨[],by rw[acH];exact h⟩
end
theorem yx {w:World} {B g n c:Nat} {xs:List Int} (h:w.ownsRow B 3 1 (.slice (some ⟨g,0,none⟩) n c) n (xs.map (Value.int .i64))):aF w g xs:=by
 rcases h.2 with ⟨h,_⟩|⟨g',cap,cur,e,_,hh,_,_,hs,ht⟩
 .cases h
 cases e;refine⟨cur.toList.drop (n*1),?_⟩;rw[<-ht,adL];exact hh
structure az (S:Nat->Prop) (w w':World):Prop where
 os:w'.os=w.os
 tape:w'.tape=w.tape
 output:w'.output=w.output
 size:w.heap.size<=w'.heap.size
 block:∀k,k<w.heap.size->¬S k->w'.heap[k]? =w.heap[k]?
section
variable {S:Nat->Prop} {w w' w0:World}
theorem az.refl (S:Nat->Prop) (w:World):az S w w:=⟨rfl,rfl,rfl,aad _,fun _ _ _=>rfl⟩
theorem az.trans (h:az S w0 w) (k:az S w w'):az S w0 w':=
 ⟨k.os.trans h.os,k.tape.trans h.tape,k.output.trans h.output,acA h.size k.size,fun i hi hn=>(k.block i (acU hi h.size) hn).trans (h.block i hi hn)⟩
theorem az.setCell (h:az S w0 w) {b i:Nat} (hb:S b) (x:Value):az S w0 (w.setCell ⟨b,i,none⟩ x):=
 ⟨h.os,h.tape,h.output,by simpa using h.size,fun k hk hn=>(heap_setCell_other w ⟨b,i,none⟩ k x (fun e=>hn (by rw[e];exact hb))).trans (h.block k hk hn)⟩
theorem az.drew (h:az S w0 w):az S w0 w.drew:=⟨h.os,h.tape,h.output,h.size,h.block⟩
theorem az.drewN (h:az S w0 w) (k:Nat):az S w0 (w.drewN k):=⟨h.os,h.tape,h.output,h.size,h.block⟩
theorem az.later (h:az S w0 w) (hb:Below w.heap.size w w'):az S w0 w':=
 ⟨hb.os.trans h.os,hb.tape.trans h.tape,hb.output.trans h.output,acA h.size hb.size,fun k hk hn=>(hb.block k (acU hk h.size)).trans (h.block k hk hn)⟩
theorem az.alloc (h:az S w0 w) (o:Obj):az S w0 (w.alloc o):=h.later ((aae _ _).alloc (aad _) o)
theorem az.below {B:Nat} (h:az S w w') (hB:B<=w.heap.size) (hS:∀k,S k->B<=k):Below B w w':=
 ⟨h.os,h.tape,h.output,h.size,fun k hk=>h.block k (acU hk hB) (fun hs=>by have:=hS k hs;omega)⟩
theorem az.ints {g:Nat} {l:List Int} (h:az S w w') (hi:aF w g l) (hg:¬S g):aF w' g l:=by
 have hl:=hi.lt;obtain⟨rest,hi⟩:=hi;exact⟨rest,(h.block g hl hg).trans hi⟩
theorem az.mono {S':Nat->Prop} (h:az S w w') (hS:∀k,k<w.heap.size->S k->S' k):az S' w w':=
 ⟨h.os,h.tape,h.output,h.size,fun k hk hn=>h.block k hk (fun hs=>hn (hS k hk hs))⟩
end
end
section
open Go.RowKit
def bV (w:World) (ao:Option Addr) (l:List Int):Prop:=∀(j:Nat) (x:Int),l[j]? =some x->∃b o:Nat,ao=some ⟨b,o,none⟩/\w.cell? ⟨b,o+j,none⟩=some (.int .i64 x)
theorem bV.later {w w':World} {ao:Option Addr} {l:List Int} (h:bV w ao l) (hb:Below w.heap.size w w'):bV w' ao l:=fun j x hj=>by
 obtain⟨b,o,e,h0⟩:=h j x hj;exact⟨b,o,e,(hb.cell (p:=⟨b,o+j,none⟩) (block_lt_of_cell h0)).trans h0⟩
theorem bV.nil (w:World) (ao:Option Addr):bV w ao []:=fun j p hj=>by simp at hj
theorem af.at {w:World} {g:Nat} {l:List Int} (h:af w g l):bV w (some ⟨g,0,none⟩) l:=fun j x hj=>⟨g,0,rfl,by rw[ac7];exact h.cell hj⟩
end
section
open Go.RowKit
def aH (w:World) (B:Nat) (v:Value) (l:List Int):Prop:=w.ownsRow B 3 1 v l.length (l.map (Value.int .i64))
section
variable {w w':World} {B:Nat} {v:Value} {l:List Int}
theorem aH.nil (w:World) (B:Nat):aH w B (.slice none 0 0) []:=ad6 _ _ _ _
theorem aH.form (h:aH w B v l):∃ao cap,v= .slice ao l.length cap/\bV w ao l/\(∀x,ao=some x->B<=x.block/\x.block<w.heap.size):=by
 rcases h.2 with ⟨rfl,h0⟩|⟨g,cap,cur,rfl,hB,hh,_⟩
 .refine⟨none,0,by rw[h0],fun j x hj=> ?_,fun x hx=>by cases hx⟩
  have:=(aaf.1 hj).1;omega
 .refine⟨_,_,rfl,fun j x hj=> ?_,fun x hx=>by cases hx;exact⟨hB,lt_of_block hh⟩⟩
  refine⟨g,0,rfl,?_⟩;have:=ac1 h (g:=g) rfl j (.int .i64 x) (by rw[abU,hj];rfl);have e:((⟨g,0,none⟩:Addr).add j)=⟨g,0+j,none⟩:=by
   by_cases h0:j=0<;>simp[Addr.add,h0]
  rw[e] at this;exact this
theorem aH.same (h:aH w B v l) (hb:∀g,v.ownBlock=some g->g<w.heap.size->w'.heap[g]? =w.heap[g]?):aH w' B v l:=by
 refine⟨h.1,?_⟩;rcases h.2 with h|⟨g,cap,cur,e1,hgB,hh,hr⟩
 .exact .inl h
 .exact .inr ⟨g,cap,cur,e1,hgB,(hb g (by rw[e1];rfl) (lt_of_block hh)).trans hh,hr⟩
theorem aH.later (h:aH w B v l) (hb:Below w.heap.size w w'):aH w' B v l:=h.same fun g _ hl=>hb.block g hl
theorem aH.lower {B':Nat} (h:aH w B v l) (hB:B'<=B):aH w B' v l:=by
 refine⟨h.1,?_⟩;rcases h.2 with h|⟨g,cap,cur,e1,hgB,hr⟩
 .exact .inl h
 .exact .inr ⟨g,cap,cur,e1,acA hB hgB,hr⟩
theorem af.own {g n:Nat} (h:af w g l) (hB:B<=g) (hl:l.length=n) (hm:n<=8388608):aH w B (.slice (some ⟨g,0,none⟩) n n) l:=by
 subst hl;refine⟨by simp,.inr ⟨g,_,_,rfl,hB,h,aad _,by unfold maxLen;omega,by simp,?_⟩⟩;rw[acL (by simp)]
end
end
section
open Go.RowKit
structure qW (w:World) (ao:Option Addr) (n ca:Nat) (l:List Int):Prop where
 len:l.length=n
 ints:bV w ao l
 none:ao=none->n=0/\ca=0
section
variable {w w':World} {ao:Option Addr} {n ca:Nat} {l:List Int}
theorem qW.later (h:qW w ao n ca l) (hb:Below w.heap.size w w'):qW w' ao n ca l:=⟨h.len,h.ints.later hb,h.none⟩
theorem aH.bT {B:Nat} {v:Value} (h:aH w B v l):∃ao ca,v= .slice ao l.length ca/\qW w ao l.length ca l/\(∀x,ao=some x->B<=x.block/\x.block<w.heap.size):=by
 rcases h.2 with ⟨rfl,h0⟩|⟨g,cap,cur,rfl,hB,hh,_⟩
 .refine⟨.none,0,by rw[h0],⟨rfl,fun j x hj=> ?_,fun _=>⟨h0,rfl⟩⟩,fun x hx=>by cases hx⟩
  have:=(aaf.1 hj).1;omega
 .obtain⟨ao,ca,e,ha,hb⟩:=h.form
  cases e;exact⟨_,_,rfl,⟨rfl,ha,fun e=>by cases e⟩,hb⟩
end
theorem zy {ops:Array Oper} {rest:List Oper} {o:Oper} {a:Act} {Q:Exit->Act->World->Prop} (hgd:o.guard=none) (s x:Operand)
 (ho:o.op= .call { callee:= .builtin .append,args:= #[s,x],argTypes:= #[27,27] }) (W:World) (ao:Option Addr) (n ca:Nat) (l:List Int) (hs:a.eval s= .slice (some ⟨W.heap.size,0,none⟩) 0 0) (hx:a.eval x= .slice ao n ca)
 (hr:qW W ao n ca l) (hn:n<=17592186043904)
 (h:∀gb c w',w'.ownsRow W.heap.size 3 1 (.slice (some ⟨gb,0,none⟩) n c) n (l.map (Value.int .i64))->W.heap.size<=gb->gb<w'.heap.size->n<=c->Below W.heap.size W w'->wpList Tryz.prog ops Q rest (a.put o.dst (.slice (some ⟨gb,0,none⟩) n c)) w'):
 wpList Tryz.prog ops Q (o::rest) a (W.alloc (.cells #[] 3)):=by
 obtain⟨i0,hi,hz0,hz1,hz2⟩:=info_parts Tryz.cM;have xe:(W.alloc (.cells #[] 3)).ownsRow W.heap.size 3 1 (.slice (some ⟨W.heap.size,0,none⟩) 0 0) 0 []:=World.ownsRow_made W #[] 0 (aad _) (ab6 _) rfl;have hb0:Below W.heap.size W (W.alloc (.cells #[] 3)):=(aae _ _).alloc (aad _) _;rcases ao with _|y
 .obtain⟨rfl,rfl⟩:=hr.none rfl
  have hl:l=[]:=ac0.1 hr.len;subst hl;refine wpList_append_own_none hgd s x 27 ho W.heap.size 3 i0 1 Tryz.underlying27 hi _ 0 [] hs xe hx ?_;exact h _ _ _ xe (aad _) (by simp) (aad _) hb0
 .refine wpList_append_own _ hgd s x 27 ho W.heap.size 3 i0 (.int .i64 0) 1 8 Tryz.underlying27 hi hz0 hz1 hz2 rfl (by decide) _ 0 [] hs xe y n ca (l.map (Value.int .i64)) hx (by rw[aco,hr.len];omega) ?_ (ints_oneCell .i64 _) (by unfold maxLen;omega) (by rw[ac7];omega) (by simp) ?_
  .intro j u hj
   rw[abU] at hj;cases Oe:l[j]? with
   |none=>rw[Oe] at hj;cases hj
   |some z=>
    rw[Oe] at hj;obtain rfl:=aal hj;obtain⟨b,o',e,hc⟩:=hr.ints j z Oe;cases e;have ea:((⟨b,o',none⟩:Addr).add j)=⟨b,o'+j,none⟩:=by
     by_cases h0:j=0<;>simp[Addr.add,h0]
    rw[ea];exact(World.grownBy_alloc W _ none).cell hc (by simp)
  .intro v' w' hown' hg hiff
   rw[ac7,acs] at hown';rcases hown'.2 with ⟨hnil,_⟩|⟨gb,c,cur,rfl,hgb,hh,hlc,_⟩
   .have:=(hiff.1 hnil).1
    cases this
   .exact h gb c w' hown' hgb (lt_of_block hh) hlc (hb0.grown hg (by simp) (fun q hq=>by cases hq;exact aad _))
end
section
open Go.RowKit
theorem tB {ops:Array Oper} {rest:List Oper} {o:Oper} {a:Act} {Q:Exit->Act->World->Prop} (hgd:o.guard=none) (s x:Operand)
 (ho:o.op= .call { callee:= .builtin .append,args:= #[s,x],argTypes:= #[27,27] }) (W:World) (B:Nat) (v:Value) (l xs:List Int) (hown:aH W B v l) (xo:Option Addr) (xn xc:Nat) (hx0:qW W xo xn xc xs)
 (hB:B<=W.heap.size) (hl:l.length+xs.length<=17592186044000) (hs:a.eval s=v) (hx:a.eval x= .slice xo xn xc)
 (h:∀v' w',aH w' B v' (l++xs)->Below B W w'->wpList Tryz.prog ops Q rest (a.put o.dst v') w'):
 wpList Tryz.prog ops Q (o::rest) a W:=by
 obtain⟨i0,hi,hz0,hz1,hz2⟩:=info_parts Tryz.cM;rcases xo with _|y
 .obtain⟨rfl,rfl⟩:=hx0.none rfl
  have e:xs=[]:=ac0.1 hx0.len;subst e;refine wpList_append_own_none hgd s x 27 ho B 3 i0 1 Tryz.underlying27 hi v l.length (l.map (Value.int .i64)) hs hown hx ?_;exact h v W (by rw[acH];exact hown) (aae _ _)
 .have hxl:=hx0.len
  refine wpList_append_own W hgd s x 27 ho B 3 i0 (.int .i64 0) 1 8 Tryz.underlying27 hi hz0 hz1 hz2 rfl (by decide) v l.length (l.map (Value.int .i64)) hs hown y xn xc (xs.map (Value.int .i64)) hx (by rw[aco,hx0.len];omega) ?_ (ints_oneCell .i64 _) (by unfold maxLen;omega) (by omega) hB ?_
  .intro j u hj
   rw[abU] at hj;cases Oe:xs[j]? with
   |none=>rw[Oe] at hj;cases hj
   |some z=>
    rw[Oe] at hj;obtain rfl:=aal hj;obtain⟨b,o',e,hc⟩:=hx0.ints j z Oe;cases e;have ea:((⟨b,o',none⟩:Addr).add j)=⟨b,o'+j,none⟩:=by
     by_cases h0:j=0<;>simp[Addr.add,h0]
    rw[ea];exact hc
  .intro v' w' hown' hg _
   refine h v' w' ?_ ((aae B W).grown hg hB (fun b hb=>(acj hown b hb).1));unfold aH;rw[abZ,acS,hxl];exact hown'
end
section
open Go.Proofs.Tryz
open Go.RowKit
theorem MH (n:Nat) (w:World) (h0:0<n) (hn:n<=1000):
 Calls prog 46 #[.slice none 0 0,.int .i64 (n:Int)] w fun e w'=>∃c,e= .returned (.slice (some ⟨w.heap.size,0,none⟩) 0 c)/\aH w' w.heap.size (.slice (some ⟨w.heap.size,0,none⟩) 0 c) []/\Below w.heap.size w w':=by
 obtain⟨i0,hi,hz0,hz1,hz2⟩:=info_parts Tryz.cM;have hap:∀ty,(Builtin.append_ #[27,3] ty #[.slice none 0 0,.int .i64 (n:Int)]).run prog w= .ok (.slice (some ⟨w.heap.size,0,none⟩) n (grownCap w n 0 3)) (w.drew.alloc (.cells (Builtin.zeroCells (Value.int .i64 0).cells n++Builtin.zeroCells (Value.int .i64 0).cells (grownCap w n 0 3-n)) 3)):=fun ty=>
  Lib.run_append_nil_zeros w 27 3 ty 3 i0 (.int .i64 0) .i64 .i64 Tryz.underlying27 Tryz.underlying3 hi hz0 n h0 (by omega) (by omega) (by rw[hz2];omega)
 have OA:=grownCap_ge w n 0 3;have Wn:=grownCap_le_maxLen w n 0 3 (by unfold maxLen;omega);obtain⟨G,hG⟩:∃G,grownCap w n 0 3=G:=⟨_,rfl⟩;rw[hG] at hap OA Wn;obtain⟨Z,hZ⟩:∃Z,Builtin.zeroCells (Value.int .i64 0).cells n++Builtin.zeroCells (Value.int .i64 0).cells (G-n)=Z:=⟨_,rfl⟩;have hZs:Z.size=G:=by
  rw[<-hZ];simp[Builtin.zeroCells,Value.cells];omega
 rw[hZ] at hap;have HZS:=ζ hZs;have hm:G<=9223372036854775807:=by unfold maxLen at Wn;exact Wn
 have k1:¬((n:Int)<0):=by omega
 have k2:(0:Int)<(n:Int):=by omega
 have k3:IntKind.i64.wrap (n:Int)=(n:Int):=by rw[acf];omega
 have k4:(0:Int)<=(G:Int):=by omega
 have HF:Hid (aH (w.drew.alloc (.cells Z 3)) w.heap.size (.slice (some ⟨w.heap.size,0,none⟩) 0 G) []/\Below w.heap.size w (w.drew.alloc (.cells Z 3))):=by
  refine ζ ⟨⟨by simp,.inr ⟨w.heap.size,G,Z,rfl,aad _,heap_alloc_new w.drew _,ab6 _,Wn,by omega,by simp⟩⟩,((aae w.heap.size w).drew).alloc (aad _) _⟩
 clear hZ hZs hG OA Wn;go_enter func46,ntmps46;go_wp2_with (at_builtin;refine Lib.wpList_append_run _ rfl _ _ _ _ rfl _ _ rfl rfl _ _ (hap _) ?_)
 all_goals (go_ret;exact⟨G,rfl,HF.out.1,HF.out.2⟩)
def ajN (l1 l2:List Int) (w:World) (e:Ending) (w':World):Prop:=∃v,e= .returned v/\aH w' w.heap.size v (l1++l2)/\Below w.heap.size w w'
theorem Hg (c:Nat) (a1 a2:Option Addr) (n1 n2 c1 c2:Nat) (l1 l2:List Int) (w:World) (h1:w.cell? ⟨c,0,none⟩=some (.slice a1 n1 c1)) (h2:w.cell? ⟨c,1,none⟩=some (.slice a2 n2 c2)) (qI:qW w a1 n1 c1 l1) (hl2:qW w a2 n2 c2 l2) (h0:0<n1+n2) (hn:n1+n2<=1000):
 Calls prog 31 #[.slice (some ⟨c,0,none⟩) 2 2] w (ajN l1 l2 w):=by
 have HGR:=ζ (MH (n1+n2) w h0 hn);have Mn:=ζ qI;have nj:=ζ hl2;have H1:=ζ h1;have H2:=ζ h2;have s1:IntKind.i64.wrap (n1:Int)=(n1:Int):=by rw[acf];omega
 have s2:IntKind.i64.wrap ((n1:Int)+(n2:Int))=(n1:Int)+(n2:Int):=by rw[acf];omega
 have s3:decide ((n1:Int)<0)=false:=by simp
 have s4:decide ((n1:Int)+(n2:Int)<0)=false:=by simp;omega
 have aiE:Hid (((n1+n2:Nat):Int)=(n1:Int)+(n2:Int)):=by show _=_;omega
 clear qI hl2;go_enter func31,ntmps31;go_wp2;go_loopw [3,11] (fun sv cv wr=>wr=w/\((cv= .int .i64 0/\sv= .int .i64 0)\/(cv= .int .i64 1/\sv= .int .i64 (n1:Int))\/(cv= .int .i64 2/\sv= .int .i64 ((n1:Int)+(n2:Int))))) (fun _ cv _=>2-(intOf cv).toNat)
 case atStart=>exact⟨rfl,.inl ⟨rfl,rfl⟩⟩
 case round=>
  obtain⟨hwr,gD⟩:=hrel;obtain rfl:=hwr.symm;clear hwr;rcases gD with ⟨rfl,rfl⟩|⟨rfl,rfl⟩|⟨rfl,rfl⟩
  .go_wp2
   go_roundw
   case rel=>exact⟨by first|rfl|trivial,.inr (.inl ⟨by first|rfl|go_num,by first|rfl|(simp;done)⟩)⟩
   case measure=>simp[intOf]
  .go_wp2
   go_roundw
   case rel=>exact⟨by first|rfl|trivial,.inr (.inr ⟨by first|rfl|go_num,by first|rfl|(simp;done)⟩)⟩
   case measure=>simp[intOf]
  .go_wp2_with (go_at_call 46;rw[<-aiE.out];refine HGR.out.mono ?_;refine abQ ?_)
   refine ζ ?_;rintro e w1 ⟨cg,rfl,ho1,hb1⟩;have Ml:=ζ ho1;have aY:=ζ hb1;clear ho1 hb1 h1 h2;go_wp2;go_loopw [6,27] (fun v cv wr=>Below w.heap.size w wr/\((cv= .int .i64 0/\aH wr w.heap.size v [])\/(cv= .int .i64 1/\aH wr w.heap.size v l1)\/(cv= .int .i64 2/\aH wr w.heap.size v (l1++l2)))) (fun _ cv _=>2-(intOf cv).toNat)
   case atStart=>exact⟨aY.out,.inl ⟨rfl,Ml.out⟩⟩
   case round=>
    obtain⟨hb,gD⟩:=hrel;obtain⟨U,rfl⟩:∃U,U=wr:=⟨wr,rfl⟩;have HB:=ζ hb;have hs:=hb.size;have c1':=(hb.cell (p:=⟨c,0,none⟩) (block_lt_of_cell H1.out)).trans H1.out;have c2':=(hb.cell (p:=⟨c,1,none⟩) (block_lt_of_cell H2.out)).trans H2.out;have HU1:=ζ (Mn.out.later hb);have HU2:=ζ (nj.out.later hb);have g1:=Mn.out.len;have g2:=nj.out.len;clear hb;rcases gD with ⟨rfl,ho⟩|⟨rfl,ho⟩|⟨rfl,ho⟩
    .have HO:=ζ ho
     have hlen:([]:List Int).length+l1.length<=17592186044000:=by simp;omega
     clear ho g1 g2;go_wp2_with (at_builtin;refine tB rfl _ _ rfl _ w.heap.size _ [] l1 HO.out a1 n1 c1 HU1.out hs hlen rfl rfl ?_;refine abQ ?_);refine ζ ?_;intro v' w3 hr3 hb3;have sJ:=ζ hr3;have cz:=ζ (HB.out.trans hb3);clear hr3 hb3;go_wp2;go_roundw
     case rel=>exact⟨cz.out,.inr (.inl ⟨by first|rfl|go_num,by have:=sJ.out;simpa using this⟩)⟩
     case measure=>simp[intOf]
    .have HO:=ζ ho
     have hlen:l1.length+l2.length<=17592186044000:=by omega
     clear ho g1 g2;go_wp2_with (at_builtin;refine tB rfl _ _ rfl _ w.heap.size _ l1 l2 HO.out a2 n2 c2 HU2.out hs hlen rfl rfl ?_;refine abQ ?_);refine ζ ?_;intro v' w3 hr3 hb3;have sJ:=ζ hr3;have cz:=ζ (HB.out.trans hb3);clear hr3 hb3;go_wp2;go_roundw
     case rel=>exact⟨cz.out,.inr (.inr ⟨by first|rfl|go_num,sJ.out⟩)⟩
     case measure=>simp[intOf]
    .have HO:=ζ ho
     clear ho g1 g2;go_wp2;go_ret;exact⟨_,rfl,HO.out,HB.out⟩
end
section
namespace Si
def lt (a b:Int×Int):Prop:=a.1<b.1\/(a.1=b.1/\a.2<b.2)
instance (a b:Int×Int):Decidable (lt a b):=by unfold lt;infer_instance
def cf (a b:Int×Int):Int:=if a.1<b.1 then -1 else if b.1<a.1 then 1 else if a.2<b.2 then -1 else if b.2<a.2 then 1 else 0
theorem QL {a b:Int×Int}:cf a b<0↔lt a b:=by
 unfold cf lt
 split
 .simp;omega
 .split
  .simp;omega
  .split
   .simp;omega
   .split
    .simp;omega
    .simp;omega
theorem lt_irrefl (a:Int×Int):¬lt a a:=by unfold lt;omega
theorem lt_trans {a b c:Int×Int} (h:lt a b) (k:lt b c):lt a c:=by unfold lt at *;omega
theorem RY (a b:Int×Int):lt a b\/a=b\/lt b a:=by
 unfold lt;by_cases h:a=b
 .exact .inr (.inl h)
 .have:a.1≠b.1\/a.2≠b.2:=by
   by_cases h1:a.1=b.1
   .exact .inr fun h2=>h (Prod.ext h1 h2)
   .exact .inl h1
  omega
theorem lt_asymm {a b:Int×Int} (h:lt a b):¬lt b a:=fun k=>lt_irrefl a (lt_trans h k)
theorem ack {a b:Int×Int} (h:lt a b):a≠b:=fun e=>lt_irrefl a (by rw[e] at h ⊢;exact h)
def ok (n:Int) (e:Int×Int):Prop:=0<=e.1/\e.1<e.2/\e.2<n
structure Val (n:Int) (es:List (Int×Int)):Prop where
 lo:0<=n
 hi:n<=1048576
 few:es.length<=4194304
 each:∀(j:Nat) (p:Int×Int),es[j]? =some p->ok n p
 up:∀(j:Nat) (p q:Int×Int),es[j]? =some p->es[j+1]? =some q->lt p q
open Classical in
noncomputable def valid (n:Int) (es:List (Int×Int)):Bool:=decide (Val n es)
theorem bQ {n:Int} {es:List (Int×Int)}:valid n es=true↔Val n es:=by unfold valid;exact @decide_eq_true_iff _ (Classical.propDecidable _)
theorem jX {n:Int} {es:List (Int×Int)} (h:¬Val n es):valid n es=false:=by
 cases hv:valid n es
 .rfl
 .exact absurd (bQ.1 hv) h
theorem Val.mono {n:Int} {es:List (Int×Int)} (h:Val n es):∀(j i:Nat) (p q:Int×Int),i<j->es[i]? =some p->es[j]? =some q->lt p q
 |0,_,_,_,hij,_,_=>by omega
 |j+1,i,p,q,hij,hp,hq=>by
  have hl:j+1<es.length:=by
   rcases adn (j+1) es.length with hl|hl
   .exact hl
   .rw[abv hl] at hq;cases hq
  have hr:es[j]? =some es[j]:=aac (by omega);have h1:=h.up j _ q hr hq;by_cases ag0:i=j
  .subst ag0
   rw[hp] at hr;cases hr;exact h1
  .exact lt_trans (h.mono j i p _ (by omega) hp hr) h1
noncomputable def ends (n:Int) (es:List (Int×Int)) (h:Int):Int×Int×Bool:=
 if valid n es=true/\0<=h/\h<2*es.length then
  (if h%2=1 then ((es.getD (h/2).toNat (0,0)).2,(es.getD (h/2).toNat (0,0)).1,true) else ((es.getD (h/2).toNat (0,0)).1,(es.getD (h/2).toNat (0,0)).2,true))
 else (0,0,false)
def kW (l:List Int) (v:Int):List Int:=l.set v.toNat (l.getD v.toNat 0+1)
def j9 (n:Int):List (Int×Int)->List Int
 |es=>es.foldl (fun l e=>kW (kW l e.1) e.2) (List.replicate n.toNat 0)
def norm (p:Int×Int):Int×Int:=(min p.1 p.2,max p.1 p.2)
def put:List (Int×Int)->Int×Int->List (Int×Int)
 |[],e=>[e]
 |x::l,e=>if lt x e then x::put l e else if x=e then x::l else e::x::l
def made:List (Int×Int)->List (Int×Int)->List (Int×Int)
 |l,[]=>l
 |l,p::ps=>made (if p.1=p.2 then l else put l (norm p)) ps
end Si
end
section
open Go.Proofs.Tryz
open Go.RowKit Go.Sort
def yM (e:Int×Int):Value:= .agg #[.int .i64 e.1,.int .i64 e.2]
theorem new2 (W:World) (k:Nat) (hk:W.heap.size=k) (x y:Value) (t:TypeId):(W.alloc (.cells #[x,y] t)).cell? ⟨k,0,none⟩=some x/\(W.alloc (.cells #[x,y] t)).cell? ⟨k,1,none⟩=some y:=by
 subst hk;constructor<;>simp
theorem Us (W:World) (k:Nat) (hk:W.heap.size=k) (x y:Value) (t:TypeId):(W.alloc (.cells #[x,y] t)).drew.cell? ⟨k,0,none⟩=some x/\(W.alloc (.cells #[x,y] t)).drew.cell? ⟨k,1,none⟩=some y:=new2 W k hk x y t
theorem TW (W:World) (x y:Obj):((W.alloc x).alloc y).heap.size=W.heap.size+1+1:=by simp
def Si.r8 (x y:Int):Int:=if x<y then -1 else if y<x then 1 else 0
theorem LN (x y:Int) (w:World):Calls prog 79 #[.int .i64 x,.int .i64 y] w fun e w'=>e= .returned (.int .i64 (Si.r8 x y))/\w'=w:=by
 unfold Si.r8;by_cases h1:x<y
 .rw[if_pos h1]
  go_enter func79,ntmps79;go_wp2;go_ret;exact⟨rfl,rfl⟩
 .rw[if_neg h1]
  by_cases h2:y<x
  .rw[if_pos h2]
   go_enter func79,ntmps79;go_wp2;go_ret;exact⟨rfl,rfl⟩
  .rw[if_neg h2]
   go_enter func79,ntmps79;go_wp2;go_ret;exact⟨rfl,rfl⟩
def Si.Ig (p q:Int):Int:=if p≠0 then p else q
theorem aeb (a b:Int×Int):Si.cf a b=Si.Ig (Si.r8 a.1 b.1) (Si.r8 a.2 b.2):=by
 unfold Si.cf Si.r8 Si.Ig;by_cases h1:a.1<b.1
 .simp[h1]
 .by_cases h2:b.1<a.1
  .simp[h1,h2]
  .simp[h1,h2]
theorem YJ (p q:Int) (W:World) (b:Nat) (h0:W.cell? ⟨b,0,none⟩=some (.int .i64 p)) (h1:W.cell? ⟨b,1,none⟩=some (.int .i64 q)):Calls prog 78 #[.slice (some ⟨b,0,none⟩) 2 2] W fun e w'=>e= .returned (.int .i64 (Si.Ig p q))/\w'=W:=by
 unfold Si.Ig;by_cases hp:p=0
 .subst hp
  rw[if_neg (by simp)];by_cases hq:q=0
  .subst hq
   go_enter func78,ntmps78;go_wp2;refine wp_loop_rounds 3 ?_;rw[rounds_succ];go_wp2;rw[rounds_succ];go_wp2;rw[rounds_succ];go_wp2;go_ret;exact⟨rfl,rfl⟩
  .go_enter func78,ntmps78
   go_wp2;refine wp_loop_rounds 3 ?_;rw[rounds_succ];go_wp2;rw[rounds_succ];go_wp2;go_ret;exact⟨rfl,rfl⟩
 .rw[if_pos hp]
  go_enter func78,ntmps78;go_wp2;refine wp_loop_rounds 3 ?_;rw[rounds_succ];go_wp2;go_ret;exact⟨rfl,rfl⟩
theorem Je (a b:Int×Int) (w:World):Calls prog 56 #[yM a,yM b] w fun e w'=>e= .returned (.int .i64 (Si.cf a b))/\∃q os',w'=grow (w.drewN q) os':=by
 rw[aeb];unfold yM;go_enter func56,ntmps56;go_wp2
 go_region_held3 (fun w'=>w'.cell? ⟨w.heap.size,0,none⟩=some (.int .i64 a.1)/\w'.cell? ⟨w.heap.size,1,none⟩=some (.int .i64 a.2)/\w'.cell? ⟨w.heap.size+1,0,none⟩=some (.int .i64 b.1)/\w'.cell? ⟨w.heap.size+1,1,none⟩=some (.int .i64 b.2))
  (go_keep)
  (first
    |(go_at_call 79;refine(LN _ _ _).mono ?_;rintro e w' ⟨rfl,rfl⟩)
    |(go_at_call 78;refine(YJ (Si.r8 a.1 b.1) (Si.r8 a.2 b.2) _ _ (Us _ _ (TW _ _ _) _ _ _).1 (Us _ _ (TW _ _ _) _ _ _).2).mono ?_;rintro e w' ⟨rfl,rfl⟩))
 go_wp2;go_ret;exact⟨rfl,1,_,by rw[alloc_eq_grow,alloc_eq_grow,grow_grow,alloc_eq_grow,grow_grow];rfl⟩
theorem A6 (w:World) (q:Nat) (os:Array Obj):Below w.heap.size w (grow (w.drewN q) os):=by
 refine⟨rfl,rfl,rfl,by simp[grow],fun k hk=> ?_⟩;simp[grow,Array.getElem?_append_left hk]
end
end Go.Proofs.YtbhdibflpjhpaaaGreat
