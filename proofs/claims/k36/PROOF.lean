import PyProof.Rows.All
import Wide.All
import OpenK.AllK
import Wide.FinOn
import PyProof.P3Eq
import PyProof.TupleKey
import PyProof.DictRoadsH
import PyProof.Rows.RowHeap
import Lean
import PyProof.EqAt
import PyProof.EqKinds
import PyProof.TupleCall
import KE.KDflt
import PyProof.NeData
import PyProof.ConsumeWalk
import PyProof.CompFree
import PyProof.StrWalks
import PyProof.Rows.ListMul
import PyProof.MinMaxWalk
import PyProof.WalkInts
import PyProof.SeqI3
import PyProof.WalksMore
import PyProof.Rows.Range3
import PyProof.Rows.TupTab
import KE.KRevIter
import PyProof.ListRange
import KE.KSortTup
import PyProof.Rows.StrNews2
import PyProof.Rows.StrJoin2
import KE.KNestM
import KE.KDictSum
import PyProof.Rows.EnumRows
import PyProof.ZipIter
import KE.KSortAsk
import PyProof.Rows.SetFrom
import PyProof.Rows.SortStr
import PyProof.SetRoads
import KE.KDictOf
import PyProof.AttrMissHeap
import KE.IntTextLaws
import PyProof.Rows.StrFirst
import PyProof.Rows.StrJoinMade
import PyProof.Rows.StrWeight2
import PyProof.Rows.CatFin
import PySem.Challenge.RW_stretchbook_k36_is_shelf
set_option Elab.async false
set_option compiler.extract_closed false
set_option linter.all false
set_option maxRecDepth 100000
set_option maxHeartbeats 4000000
abbrev Al2:=@PySem.wpAny_bind
abbrev Al3:=@PySem.wpAny_pure
abbrev Al4:=@List.mem_cons_of_mem
abbrev Al5:=@PySem.Heap.get?_push_of_some
abbrev Al6:=@List.mem_cons_self
abbrev Al7:=@Nat.le_refl
abbrev Al8:=@List.size_toArray
abbrev Al9:=@PySem.Heap.lt_size
abbrev Ama:=@List.length_map
abbrev Amb:=@List.getElem?_eq_getElem
abbrev Amc:=@Array.length_toList
abbrev Amd:=@Bool.false_eq_true
abbrev Ame:=@decide_eq_true
abbrev Amf:=@if_pos
abbrev Amg:=@decide_eq_false
abbrev Amh:=@List.length_cons
abbrev Ami:=@Bool.and_eq_true
abbrev Amj:=@Nat.lt_of_lt_of_le
abbrev Amk:=@List.mem_of_getElem?
abbrev Aml:=@if_neg
abbrev Amm:=@List.getElem?_append_left
abbrev Amn:=@List.length_append
abbrev Amo:=@List.getElem?_map
abbrev Amp:=@PySem.Heap.get?_push_size
abbrev Amq:=@List.not_mem_nil
abbrev Amr:=@List.map_cons
abbrev Ams:=@Nat.ne_of_lt
abbrev Amt:=@List.getElem?_append_right
abbrev Amu:=@List.mem_append_right
abbrev Amv:=@Nat.le_trans
abbrev Amw:=@List.all_cons
abbrev Amx:=@PySem.mem_of_lookup
abbrev Amy:=@List.mem_cons
abbrev Amz:=@Nat.zero_le
abbrev Am0:=@List.length_singleton
abbrev Am1:=@Bool.false_ne_true
abbrev Am2:=@Classical.byContradiction
abbrev Am3:=@Nat.lt_irrefl
abbrev Am4:=@List.length_take
abbrev Am5:=@List.getElem?_cons_succ
abbrev Am6:=@of_decide_eq_true
abbrev Am7:=@List.sizeOf_lt_of_mem
abbrev Am8:=@PySem.wpAny_newObj_type
abbrev Am9:=@List.cons_append
abbrev Ana:=@List.mem_append_left
abbrev Anb:=@PySem.wpAny_Call_Name_kw
abbrev Anc:=@decide_eq_true_eq
abbrev Ane:=@Nat.lt_succ_of_lt
abbrev Anf:=@Option.some.inj
abbrev Ang:=@List.append_nil
abbrev Anh:=@if_false
abbrev Ani:=@PySem.wpAny_holding
abbrev Anj:=@PySem.Heap.size_push
abbrev Ank:=@List.lookup_cons
abbrev Anl:=@Bool.not_true
abbrev Anm:=@List.map_nil
abbrev Ann:=@List.getElem_mem
abbrev Ano:=@List.getElem?_set_self
abbrev Anp:=@List.map_append
abbrev Anq:=@Bool.and_self
abbrev Anr:=@if_true
abbrev Ans:=@PySem.PassesOwn.never
abbrev Ant:=@Bool.not_false
abbrev Anu:=@Array.getElem?_eq_getElem
abbrev Anv:=@Option.bind_some
abbrev Anw:=@congrArg
abbrev Anx:=@Option.isSome_some
abbrev Anz:=@List.pairwise_singleton
abbrev An0:=@List.map_take
abbrev An1:=@List.length_nil
abbrev An2:=@List.getElem?_replicate
abbrev An3:=@List.getElem?_cons_zero
abbrev An4:=@List.any_cons
abbrev An5:=@Bool.true_and
abbrev An6:=@PySem.wpAny_mono
abbrev An7:=@List.take_of_length_le
abbrev An8:=@PySem.wpAny_getItem_str_slice
abbrev An9:=@List.length_drop
abbrev Aoa:=@List.getElem?_set_ne
abbrev Aob:=@PySem.wpAny_truthy_bool
abbrev Aoc:=@PySem.sizeLine_eq
abbrev Aod:=@Bool.and_true
abbrev Aoe:=@Nat.not_lt_zero
abbrev Aof:=@List.nil_append
abbrev Aog:=@Bool.eq_iff_iff
abbrev Aoh:=@List.getD_eq_getElem?_getD
abbrev Aoi:=@Option.isSome_none
abbrev Aoj:=@Option.isNone_some
abbrev Aok:=@Option.isNone_none
abbrev Aol:=@Nat.zero_add
abbrev Aom:=@Nat.le_of_lt
abbrev Aon:=@List.set_cons_zero
abbrev Aoo:=@List.set_cons_succ
abbrev Aop:=@List.mem_singleton
abbrev Aoq:=@List.all_nil
abbrev Aor:=@Bool.true_eq_false
abbrev Aos:=@List.drop_eq_getElem_cons
abbrev Aot:=@Bool.false_and
abbrev Aou:=@PySem.wpAny_passesOwn
abbrev Aov:=@List.reverse_cons
abbrev Aow:=@Bool.or_false
abbrev Aox:=@Nat.lt_succ_self
abbrev Aoy:=@Nat.ne_of_gt
noncomputable section
set_option tactic.hygienic false
section S_KTree
namespace L2
open PySem PySem.Spec
noncomputable instance pdDec:DecidableEq PyData:=fun _ _=>Classical.propDecidable _
mutual
def kOk:PyData->Bool
 |.int _=>true
 |.str x=>PyData.strOk x
 |.tuple ds=>Ie ds
 |_=>false
def Ie:List PyData->Bool
 |[]=>true
 |d::ds=>kOk d&&Ie ds
def A1 (w:World):PyData->Int
 |.int i=>hashInt i
 |.str x=>hashStr w x
 |.tuple ds=>reduceHash (Builtin.Tuple.tupleHashOf (Bh w ds))
 |_=>0
def Bh (w:World):List PyData->List Int
 |[]=>[]
 |d::ds=>A1 w d::Bh w ds
def Eu:PyData->Nat
 |.tuple ds=>Bz ds+1
 |_=>1
def Bz:List PyData->Nat
 |[]=>0
 |d::ds=>Eu d+Bz ds
def Ng:PyData->Nat
 |.tuple ds=>Mj ds+1
 |_=>0
def Mj:List PyData->Nat
 |[]=>0
 |d::ds=>max (Ng d) (Mj ds)
end
mutual
theorem Lg:∀ {d:PyData},kOk d=true->d.canLay0=true
 |.int _,_=>by simp[PyData.canLay0]
 |.str x,h=>by rw[kOk] at h;simp[PyData.canLay0,h]
 |.tuple ds,h=>by rw[kOk] at h;rw[PyData.canLay0];exact Pu h
 |.none,h=>by simp[kOk] at h
 |.bool _,h=>by simp[kOk] at h
 |.list _,h=>by simp[kOk] at h
 |.dict _,h=>by simp[kOk] at h
theorem Pu:∀ {ds:List PyData},Ie ds=true->PyData.canLayAll0 ds=true
 |[],_=>by simp[PyData.canLayAll0]
 |d::ds,h=>by
  rw[Ie,Ami] at h
  simp[PyData.canLayAll0,Lg h.1,Pu h.2]
end
set_option tactic.hygienic true in
mutual
theorem Abq:∀ {d e:PyData},kOk d=true->kOk e=true->PyData.eqv d e=decide (d=e)
 |.int i,e,h,h'=>by
  cases e<;>first|(simp[kOk] at h';done)|(simp[PyData.eqv];done)|(rename_i j;simp[PyData.eqv];by_cases q:i=j<;>simp[q])
 |.str x,e,h,h'=>by
  cases e<;>first|(simp[kOk] at h';done)|(simp[PyData.eqv];done)|(rename_i j;simp[PyData.eqv];by_cases q:x=j<;>simp[q])
 |.tuple ds,e,h,h'=>by
  cases e<;>first|(simp[kOk] at h';done)|(simp[PyData.eqv];done)|skip
  rename_i es
  rw[kOk] at h h'
  rw[PyData.eqv,Aal h h',decide_eq_decide]
  constructor
  ·intro e;rw[e]
  ·intro e;injection e
 |.none,_,h,_=>by simp[kOk] at h
 |.bool _,_,h,_=>by simp[kOk] at h
 |.list _,_,h,_=>by simp[kOk] at h
 |.dict _,_,h,_=>by simp[kOk] at h
theorem Aal:∀ {ds es:List PyData},Ie ds=true->Ie es=true->PyData.eqvAll ds es=decide (ds=es)
 |[],[],_,_=>by simp[PyData.eqvAll]
 |[],e::es,_,_=>by simp[PyData.eqvAll]
 |d::ds,[],_,_=>by simp[PyData.eqvAll]
 |d::ds,e::es,h,h'=>by
  rw[Ie,Ami] at h h'
  rw[PyData.eqvAll,Abq h.1 h'.1,Aal h.2 h'.2]
  by_cases q1:d=e<;>by_cases q2:ds=es<;>simp[q1,q2]
end
section
variable {prog:Program}{w:World}
structure HashK (prog:Program) (w:World) (d:PyData):Prop where
 out:∀ {A:Around}{E:Value->Shared->Prop}{s:Shared}{v:Value}{as:List Addr}{Q:Int->Shared->Prop},kOk d=true->A.units+Ng d < cLine->Reads s.heap v d as->Q (A1 w d) { s with toks:=s.toks+Eu d }->wpAny (model prog w) A (pyHash v) Q E s
theorem Gi {d:PyData}:∀ {ds:List PyData},d∈ds->Ng d<=Mj ds
 |e::ds,h=>by
  rw[Mj]
  rcases List.mem_cons.mp h with rfl|h
  ·lia
  ·have:=Gi h;lia
theorem D3 {d:PyData}:∀ {ds:List PyData},Ie ds=true->d∈ds->kOk d=true
 |e::ds,h,hm=>by
  rw[Ie,Ami] at h
  rcases List.mem_cons.mp hm with rfl|hm
  ·exact h.1
  ·exact D3 h.2 hm
theorem Dq:∀ (xs ys:List PyData),Bh w (xs++ys)=Bh w xs++Bh w ys
 |[],ys=>by rw[Bh];rfl
 |x::xs,ys=>by rw[Am9,Bh,Bh,Dq xs ys];rfl
theorem Dp:∀ (xs ys:List PyData),Bz (xs++ys)=Bz xs+Bz ys
 |[],ys=>by simp[Bz]
 |x::xs,ys=>by rw[Am9,Bz,Bz,Dp xs ys];lia
theorem R8 (ih:∀ d∈ds,HashK prog w d):HashK prog w (.tuple ds):=by
 constructor
 intro A E s v as Q hk hu r q
 rw[kOk] at hk
 rw[Ng] at hu
 rw[A1,Eu] at q
 cases r with
 |@tuple a o vs n xs as ho hc hd ra =>
 have hT:s.TypeIs (.ref a) "tuple":=⟨o,ho,hc⟩
 unfold pyHash
 first|unfold pyHashByItsType|skip
 first|refine Al2 (wpAny_cRoomFor_or (.inr (by lia)) ?_)|skip
 refine Al2 (wpAny_specialOf hT F.slot_tuple_hash.lookup ?_)
 show wpAny _ _ (if (some (Value.builtin "tuple.__hash__") == some Value.none)=true then _ else _) Q E s
 rw[Aml (by rw[beq_builtin_none];exact Am1)]
 refine Al2 (wpAny_specialOf hT F.slot_tuple_hash.lookup ?_)
 show wpAny _ _ (callSpecialIfBoundUnlessNone? (.ref a) "__hash__" _ >>= _) Q E s
 refine Al2 (wpAny_callSpecialIfBoundUnlessNone?_slot hT F.slot_tuple_hash (wpAny_call_entry F.slot_tuple_hash hT F.entry_tuple_hash ?_ (F.args_tuple_hash_1 _)))
 show wpAny _ _ (Builtin.Tuple.tupleItemsOf (.ref a) >>= _) _ _ s
 refine Al2 (wpAny_tupleItemsOf ho hd ?_)
 refine Al2 ?_
 rw[<- Array.forIn_toList]
 refine wpAny_forIn_list _
  (fun rest (b:Array Int) s'=>∃ done left bs,ds=done++left/\ReadsAll s.heap rest left bs/\b.toList=Bh w done/\s'={ s with toks:=s.toks+Bz done })
  _ ?_ ?_ _ _ ⟨[],ds,as,rfl,ra,by simp[Bh],by simp[Bz]⟩
 ·rintro x rest b s' ⟨done,left,bs,rfl,hl,hb,rfl⟩
  cases hl with
  |@cons _ _ d ds' as1 bs1 h1 hl' =>
   have hm:d∈done++d::ds':=by simp
   have hdp:=Gi hm
   refine Al2 ((ih d hm).out (D3 hk hm) (by show A.units+1+_ < _;lia) h1 ?_)
   have e1:b.toList++[A1 w d]=Bh w (done++[d]):=by rw[Dq,hb,Bh,Bh]
   have e2:s.toks+Bz done+Eu d=s.toks+Bz (done++[d]):=by rw[Dp,Bz,Bz];lia
   first
    |exact Al3 ⟨done++[d],ds',bs1,by simp,hl',by rw[<- e1];simp,by rw[<- e2]⟩
    |exact Al2 (Al3 (Al3 ⟨done++[d],ds',bs1,by simp,hl',by rw[<- e1];simp,by rw[<- e2]⟩))
 ·rintro b s' ⟨done,left,bs,rfl,hl,hb,rfl⟩
  cases hl
  rw[Ang] at q
  show wpAny _ _ (retInt (Builtin.Tuple.tupleHashOf b.toList)) _ _ _
  rw[hb]
  refine wpAny_ret_mkInt ?_
  show wpAny _ _ (if (decide (-(2:Int) ^ 63<=Builtin.Tuple.tupleHashOf (Bh w done))&&decide (Builtin.Tuple.tupleHashOf (Bh w done) < 2 ^ 63))=true then _ else _) Q E _
  unfold reduceHash at q
  by_cases hr:(decide (-(2:Int) ^ 63<=Builtin.Tuple.tupleHashOf (Bh w done))&&decide (Builtin.Tuple.tupleHashOf (Bh w done) < 2 ^ 63))=true
  ·rw[Amf hr]
   rw[Amf hr] at q
   exact Al3 (by simpa [Nat.add_assoc] using q)
  ·rw[Aml hr]
   rw[Aml hr] at q
   exact Al2 (wpAny_rule (Al3 (by simpa [Nat.add_assoc] using q)))
theorem Aao (d:PyData):HashK prog w d:=by
 match d with
 |.int i =>
  constructor
  intro A E s v as Q _ _ r q
  cases r with
  |int i t=>simp only[A1,Eu] at q;exact wpAny_pyHash_int q
 |.str x =>
  constructor
  intro A E s v as Q _ _ r q
  cases r with
  |str x t=>simp only[A1,Eu] at q;exact wpAny_pyHash_str q
 |.tuple ds=>exact R8 fun d hd=>Aao d
 |.none=>constructor;intro A E s v as Q h;simp[kOk] at h
 |.bool _=>constructor;intro A E s v as Q h;simp[kOk] at h
 |.list _=>constructor;intro A E s v as Q h;simp[kOk] at h
 |.dict _=>constructor;intro A E s v as Q h;simp[kOk] at h
termination_by sizeOf d
decreasing_by
 have:=Am7 hd
 simp;lia
structure QuietK (prog:Program) (w:World) (d:PyData):Prop where
 out:∀ {n:Nat}{A:Around}{E:Value->Shared->Prop}{s:Shared}{v:Value}{as:List Addr}{Q:Bool->Shared->Prop},kOk d=true->Ng d<=n->Reads s.heap v d as->Q true s->wpAny (model prog w) A (eqIsQuiet n v) Q E s
theorem Ob (ih:∀ d∈ds,QuietK prog w d):QuietK prog w (.tuple ds):=by
 constructor
 intro n A E s v as Q hk hn r q
 rw[kOk] at hk
 rw[Ng] at hn
 cases r with
 |@tuple a o vs m xs as ho hc hd ra =>
 have hT:s.TypeIs (.ref a) "tuple":=⟨o,ho,hc⟩
 obtain⟨n,rfl⟩:∃ n',n=n'+1:=⟨n - 1,by lia⟩
 unfold eqIsQuiet
 refine Al2 (wpAny_specialOf hT F.slot_tuple_eq.lookup ?_)
 show wpAny _ _ (isInstance (.ref a) (.type "tuple") >>= _) _ _ s
 refine Al2 (wpAny_isInstance hT isSubtype_tuple_tuple ?_)
 simp only[Anl,Amd,Anh]
 refine Al2 (wpAny_seqItems ho hd ?_)
 refine Al2 ?_
 show wpAny _ _ (forIn vs _ _) _ _ s
 rw[<- Array.forIn_toList]
 refine wpAny_forIn_list _ (fun rest r s'=>r.1=none/\s'=s/\∃ left bs,ReadsAll s.heap rest left bs/\∀ d∈left,d∈ds) _ ?_ ?_ _ _ ⟨rfl,rfl,ds,as,ra,fun _ h=>h⟩
 ·rintro v rest r s' ⟨hr,rfl,left,bs,hl,hall⟩
  cases hl with
  |@cons _ _ d ds' as1 bs1 h1 hl' =>
   have hm:=hall d (Al6 ..)
   refine Al2 ((ih d hm).out (D3 hk hm) (by have:=Gi hm;lia) h1 ?_)
   simp only[Anl,Amd,Anh]
   exact Al3 ⟨rfl,rfl,ds',bs1,hl',fun e he=>hall e (Al4 _ he)⟩
 ·rintro ⟨r1,r2⟩ s' ⟨hr,rfl,_⟩
  simp only at hr
  subst hr
  exact Al3 q
theorem Ln (d:PyData):QuietK prog w d:=by
 match d with
 |.int i =>
  constructor
  intro n A E s v as Q _ _ r q
  cases r with
  |int i t=>rw[eqIsQuiet_byValue _ rfl];exact Al3 q
 |.str x =>
  constructor
  intro n A E s v as Q _ _ r q
  cases r with
  |str x t=>rw[eqIsQuiet_byValue _ rfl];exact Al3 q
 |.tuple ds=>exact Ob fun d hd=>Ln d
 |.none=>constructor;intro n A E s v as Q h;simp[kOk] at h
 |.bool _=>constructor;intro n A E s v as Q h;simp[kOk] at h
 |.list _=>constructor;intro n A E s v as Q h;simp[kOk] at h
 |.dict _=>constructor;intro n A E s v as Q h;simp[kOk] at h
termination_by sizeOf d
decreasing_by
 have:=Am7 hd
 simp;lia
mutual
theorem Mz {es ep} (ho₀:h.get? d₀=some o₀) (hd₀:o₀.data=.dict es ep) (hs:Heap.SameBut d₀ h h') {d:PyData}{v:Value}{as:List Addr} (hk:kOk d=true) (r:Reads h v d as):Reads h' v d as:=by
 cases r with
 |int i t=>exact .int i t
 |str i t=>exact .str i t
 |@tuple a o _ _ _ _ ho hc hd ra =>
  refine .tuple ((hs.2 a ?_).trans ho) hc hd (Ey ho₀ hd₀ hs (by rw[kOk] at hk;exact hk) ra)
  rintro rfl
  cases ho.symm.trans ho₀
  cases hd₀.symm.trans hd
 |_=>simp[kOk] at hk
theorem Ey {es ep} (ho₀:h.get? d₀=some o₀) (hd₀:o₀.data=.dict es ep) (hs:Heap.SameBut d₀ h h') {ds:List PyData}{vs:List Value}{as:List Addr} (hk:Ie ds=true) (r:ReadsAll h vs ds as):ReadsAll h' vs ds as:=by
 cases r with
 |nil=>exact .nil
 |cons r rs =>
  rw[Ie,Ami] at hk
  exact .cons (Mz ho₀ hd₀ hs hk.1 r) (Ey ho₀ hd₀ hs hk.2 rs)
end
mutual
theorem Nr:∀ {d:PyData},kOk d=true->d.depth<=Ng d+1
 |.int _,_=>by simp[PyData.depth]
 |.str _,_=>by simp[PyData.depth]
 |.tuple ds,h=>by rw[kOk] at h;rw[Ng];have:=Pq h;simp[PyData.depth];lia
 |.none,h=>by simp[kOk] at h
 |.bool _,h=>by simp[kOk] at h
 |.list _,h=>by simp[kOk] at h
 |.dict _,h=>by simp[kOk] at h
theorem Pq:∀ {ds:List PyData},Ie ds=true->PyData.depthAll ds<=Mj ds+1
 |[],_=>by simp[PyData.depthAll]
 |d::ds,h=>by
  rw[Ie,Ami] at h
  have h1:=Nr h.1
  have h2:=Pq h.2
  rw[Mj];simp[PyData.depthAll];lia
end
def B3 (h:Heap) (d:PyData) (a:Addr):Prop:=kOk d=true/\Ng d<=6/\(∃ ds,d=.tuple ds)/\∃ as,Reads h (.ref a) d as
noncomputable def Dl (prog:Program) (w:World):HeapKind prog w PyData where
 is:=B3
 hash:=A1 w
 draws:=Eu
 room:=fun A=>A.units+10 < cLine
 inj:=fun hx hy=>by
  obtain⟨k1,_,_,as,r⟩:=hx
  obtain⟨_,_,_,bs,r'⟩:=hy
  exact SeqAt.Reads.unique _ _ _ _ _ (Lg k1) r r'
 keeps:=fun x ho hd hs=>by
  obtain⟨h1,h2,h3,as,r⟩:=x
  exact⟨h1,h2,h3,as,Mz ho hd hs h1 r⟩
 pyHash:=fun hu hk h=>by
  obtain⟨h1,h2,_,as,r⟩:=hk
  exact (Aao _).out h1 (by lia) r h
 eqBool:=fun hu hx hy h=>by
  obtain⟨h1,h2,_,as,r⟩:=hx
  obtain⟨h3,h4,_,bs,r'⟩:=hy
  refine SeqAt.eqBoolOverData _ _ _ _ _ _ _ _ _ _ _ _ r r' (Lg h1) (Lg h3) ?_ ?_
  ·have d1:=Nr h1
   have d2:=Nr h3
   lia
  ·rw[Abq h1 h3];exact h
 quiet:=fun hk h=>by
  obtain⟨h1,h2,_,as,r⟩:=hk
  exact (Ln _).out h1 (by lia) r h
end
end L2
end S_KTree
section S_LayL
namespace L2
open PySem PySem.Spec PyProof.Rows
abbrev Key:=Sum Int Str
noncomputable def Afp:Key->Value->Bool
 |.inl k,v=>Value.isInt k v
 |.inr x,v=>Value.isStrOf x v
noncomputable def Alq (w:World):Key->Int
 |.inl k=>hashInt k
 |.inr x=>hashStr w x
theorem Ba:∀ {k:Key}{v:Value},Afp k v=true->(∃ i t,k=Sum.inl i/\v=Value.int i t)\/(∃ x t,k=Sum.inr x/\v=Value.str x t)
 |.inl i,v,h=>by
  obtain⟨t,e⟩:=Value.isInt_shape (k:=i) (v:=v) h
  exact .inl ⟨i,t,rfl,e⟩
 |.inr x,v,h=>by
  obtain⟨t,e⟩:=Value.isStrOf_shape (x:=x) (v:=v) h
  exact .inr ⟨x,t,rfl,e⟩
theorem Afr (a b:Int):decide ((Sum.inl a:Key)=Sum.inl b)=(a == b):=by
 by_cases e:a=b
 ·subst e;simp
 ·have h:¬ (Sum.inl a:Key)=Sum.inl b:=fun q=>e (Sum.inl.inj q)
  rw[Amg h]
  exact (beq_eq_false_iff_ne.mpr e).symm
theorem Afu (a b:Str):decide ((Sum.inr a:Key)=Sum.inr b)=decide (a=b):=by
 by_cases e:a=b
 ·subst e;simp
 ·have h:¬ (Sum.inr a:Key)=Sum.inr b:=fun q=>e (Sum.inr.inj q)
  rw[Amg h,Amg e]
theorem Afs (a:Int) (b:Str):decide ((Sum.inl a:Key)=Sum.inr b)=false:=Amg (fun q=>nomatch q)
theorem Aft (a:Str) (b:Int):decide ((Sum.inr a:Key)=Sum.inl b)=false:=Amg (fun q=>nomatch q)
def Va (prog:Program) (w:World):PySem.KeyKind prog w Key where
 is:=Afp
 hash:=Alq w
 inj:=fun v a b ha hb=>by
  rcases Ba ha with ⟨i,t,rfl,rfl⟩|⟨x,t,rfl,rfl⟩
  ·rcases Ba hb with ⟨j,u,rfl,e⟩|⟨y,u,rfl,e⟩
   ·injection e with e1 _;rw[e1]
   ·exact nomatch e
  ·rcases Ba hb with ⟨j,u,rfl,e⟩|⟨y,u,rfl,e⟩
   ·exact nomatch e
   ·injection e with e1 _;rw[e1]
 byValue:=fun k v h=>by
  rcases Ba h with ⟨i,t,rfl,rfl⟩|⟨x,t,rfl,rfl⟩<;>rfl
 pyHash:=fun hv h=>by
  rcases Ba hv with ⟨i,t,rfl,rfl⟩|⟨x,t,rfl,rfl⟩
  ·exact wpAny_pyHash_int h
  ·exact wpAny_pyHash_str h
 eqBool:=fun hu hv h=>by
  rcases Ba hu with ⟨i,t,rfl,rfl⟩|⟨x,t,rfl,rfl⟩
  ·rcases Ba hv with ⟨j,u,rfl,rfl⟩|⟨y,u,rfl,rfl⟩
   ·rw[Afr] at h;exact wpAny_eqBool_int h
   ·rw[Afs] at h;exact SeqAt.EqAt.int_str i t y u _ _ _ _ h
  ·rcases Ba hv with ⟨j,u,rfl,rfl⟩|⟨y,u,rfl,rfl⟩
   ·rw[Aft] at h;exact SeqAt.EqAt.str_int x t j u _ _ _ _ h
   ·rw[Afu] at h;exact wpAny_eqBool_str h
 «strs»:=fun k x t v h=>by
  rcases Ba h with ⟨i,u,rfl,e⟩|⟨y,u,rfl,e⟩
  ·exact nomatch e
  ·injection e with e1 _
   subst e1
   cases v<;>rfl
inductive V where
 |non|bl (b:Bool)|int (i:Int)|str (x:Str)|byt (b:Array UInt8)|flt (b:UInt64)|ref (a:Addr)|ty (n:String)
 deriving DecidableEq
noncomputable def RelV:V->Value->Prop
 |.non,u=>u=Value.none
 |.bl b,u=>u=Value.bool b
 |.int i,u=>∃ t,u=Value.int i t
 |.str x,u=>∃ t,u=Value.str x t
 |.byt b,u=>∃ t,u=Value.bytes b t
 |.flt b,u=>∃ t,u=Value.float b t
 |.ref a,u=>u=Value.ref a
 |.ty n,u=>u=Value.type n
abbrev Vals:List V->List Value->Prop:=Paired RelV
theorem Vals.length {xs:List V}{us:List Value} (r:Vals xs us):xs.length=us.length:=Paired.length r
theorem Vals.get:∀ {xs:List V}{us:List Value}{i:Nat}{x:V},Vals xs us->xs[i]?=some x->∃ u,us[i]?=some u/\RelV x u
 |_,_,_,_,.nil,e=>by simp at e
 |_,_,0,_,.cons r _,e=>by simp at e;subst e;exact⟨_,rfl,r⟩
 |_,_,i+1,x,.cons _ t,e=>by
  obtain⟨u,h1,h2⟩:=Vals.get (i:=i) (x:=x) t (by simpa using e)
  exact⟨u,by simpa using h1,h2⟩
theorem Vals.append:∀ {xs ys:List V}{us ws:List Value},Vals xs us->Vals ys ws->Vals (xs++ys) (us++ws)
 |_,_,_,_,.nil,s=>s
 |_,_,_,_,.cons r t,s=>.cons r (Vals.append t s)
theorem Vals.take:∀ {xs:List V}{us:List Value} (n:Nat),Vals xs us->Vals (xs.take n) (us.take n)
 |_,_,0,_=>.nil
 |_,_,_+1,.nil=>.nil
 |_,_,n+1,.cons r t=>.cons r (Vals.take n t)
theorem Vals.drop:∀ {xs:List V}{us:List Value} (n:Nat),Vals xs us->Vals (xs.drop n) (us.drop n)
 |_,_,0,r=>r
 |_,_,_+1,.nil=>.nil
 |_,_,n+1,.cons _ t=>Vals.drop n t
def Ajb:Option V->Option Value->Prop
 |some v,some u=>RelV v u
 |none,none=>True
 |_,_=>False
def KV {κ:Type}:List (κ×V)->List (κ×Value)->Prop:=Paired fun (p:κ×V) (q:κ×Value)=>p.1=q.1/\RelV p.2 q.2
inductive HO where
 /-- a list -/
 |lst (xs:List V)
 /-- a tuple (never changes) -/
 |tup (xs:List V)
 /-- a dict whose keys are ints and texts;one whose keys are tuples of ints and texts (the empty one is both) -/
 |dK (kvs:List (Key×V))|dT (kvs:List (PyData×V))
 /-- a set of ints: its members,its size -/
 |set (S:Int->Bool) (n:Nat)
 /-- an instance of the class at C,its dict at dx,its attributes -/
 |ins (C dx:Addr) (fs:List (Str×V))
 /-- the dict of the instance at x -/
 |own (x:Addr)
 /-- the dict of an exception -/
 |xd (fs:List (Str×V))
 /-- a bound method,f of x -/
 |met (f x:Addr)
 /-- a range object lo,lo+1,.. below hi -/
 |rng (lo hi:Int)
 /-- a thing that is known to the object (the script;a dict while a loop walks it): read,never written while it is so -/
 |frz (o:Obj) (u:HO)
 /-- a code object's table -/
 |tbl (ps:Array Value)
 /-- any other thing,by what is true of its one object (a def of one's own: SetO a S n:=HO.ext fun h=>..) -/
 |ext (φ:Heap->Prop)
abbrev Hp:=Addr->Option HO
noncomputable def upd (H:Hp) (a:Addr) (o:HO):Hp:=fun b=>if b=a then some o else H b
theorem A8 {H:Hp}{a:Addr}{o:HO}:upd H a o a=some o:=by unfold upd;rw[Amf rfl]
theorem Az {H:Hp}{a b:Addr}{o:HO} (h:b≠a):upd H a o b=H b:=by unfold upd;rw[Aml h]
theorem Ar {H:Hp}{a b:Addr}{o:HO} (h:H a=some o) (h':H b=none):a≠b:=by
 intro e;subst e;rw[h] at h';cases h'
def TupD (h:Heap) (a:Addr) (items:Array Value):Prop:=∃ o,h.get? a=some o/\o.cls=.type "tuple"/\∃ n,o.data=.seq items n/\o.dict=none
theorem TupD.is {h:Heap}{a:Addr}{items:Array Value} (x:TupD h a items):IsTup h a items:=let ⟨o,h1,h2,n,h3,_⟩:=x;⟨o,h1,h2,n,h3⟩
theorem TupD.new (h:Heap) (items:Array Value):TupD (h.push { cls:=.type "tuple",data:=.seq items }) h.objs.size items:=⟨_,Amp _ rfl,rfl,_,rfl,rfl⟩
theorem TupD.lt {h:Heap}{a:Addr}{items:Array Value} (x:TupD h a items):a < h.objs.size:=let ⟨_,h1,_⟩:=x;Al9 h1
def Rd (H:Hp) (a:Addr) (u:HO):Prop:=H a=some u\/∃ o,H a=some (.frz o u)
def SqT (K:W.Frag) (H:Hp) (a:Addr) (xs:List V):Prop :=
 Rd H a (.tup xs) \/
  ∃ (o:Obj) (its:Array Value) (n:Nat),K.lookup a=some o/\o.cls=.type "tuple"/\o.data=.seq its n/\its.size<=sizeLine/\Vals xs its.toList/\o.dict=none
inductive KeyH (K:W.Frag) (H:Hp):PyData->V->Prop where
 |int (i:Int):KeyH K H (.int i) (.int i)
 |str (x:Str):KeyH K H (.str x) (.str x)
 |tup {ds:List PyData}{a:Addr}{vs:List V}:SqT K H a vs->Paired (KeyH K H) ds vs->KeyH K H (.tuple ds) (.ref a)
def KeyT (K:W.Frag) (H:Hp) (d:PyData) (b:Addr):Prop:=kOk d=true/\Ng d<=6/\(∃ ds,d=.tuple ds)/\KeyH K H d (.ref b)
def Aaf (oc:Obj) (q:Str):Prop:=∃ (vs:Array Value) (t:Nat),oc.data=.fields vs/\vs[1]?=some (.str q t)
def Ajc (H:Hp) (h:Heap) (a:Addr) (qs:Array Value):Prop:=∃ ps:Array Value,h.get? a=some (W.tabObj ps)/\TriplesOk ps.toList /\
 ∀ (pos:Pos) (cv:Value),codeAmong pos ps.toList=some cv->∃ (c:Addr) (oc:Obj) (u:HO) (q:Str) (t:Nat),qs[0]?=some (.str q t)/\cv=.ref c/\H c=some (.frz oc u)/\Aaf oc q
section
variable (P:Program) (w:World) (K:W.Frag)
def ObjOk (H:Hp) (h:Heap) (a:Addr):HO->Prop
 |.lst xs=>xs.length<=sizeLine/\∃ (its:List Value) (n:Nat),Vals xs its/\h.get? a=some { cls:=.type "list",data:=.seq its.toArray n }
 |.tup xs=>xs.length<=sizeLine/\∃ its:List Value,Vals xs its/\TupD h a its.toArray
 |.dK kvs=>kvs.length<=sizeLine/\(a == sysModules)=false/\∃ vs,KV kvs vs/\h.DictOf (Va P w) a vs
 |.dT kvs=>kvs.length<=sizeLine/\(a == sysModules)=false/\∃ xs:List (PyData×Addr×Value),
   Paired (fun (p:PyData×V) (q:PyData×Addr×Value)=>p.1=q.1/\KeyT K H q.1 q.2.1/\RelV p.2 q.2.2) kvs xs /\
   ∃ o es ep,h.get? a=some o/\o.ExactDict/\o.data=.dict es ep/\es.toList=xs.map (entryOfKey (Dl P w))/\(xs.map (·.1)).Nodup
 |.set S n=>h.SetOf (intKind P w) a S n
 |.ins C dx fs=>H dx=some (.own a)/\fs.length<=1000/\dx≠a/\h.get? a=some (W.instObj C dx) /\
   ∃ mA,h.Ns1 dx mA/\(∀ f,Ajb (fs.lookup f) (mA f))/\PySem.Within mA (fs.map (·.1))
 |.own _=>∃ o,h.get? a=some o
 |.xd fs=>∃ mA,h.Ns1 a mA/\∀ f,Ajb (fs.lookup f) (mA f)
 |.rng lo hi=>∃ t u v,h.get? a=some { cls:=.type "range",data:=.fields #[.int lo t,.int hi u,.int 1 v] }
 |.frz o u=>h.get? a=some o/\ObjOk H h a u
 |.tbl ps=>Ajc H h a ps
 |.met f x=>h.get? a=some (W.methodObj (.ref f) (.ref x))
 |.ext φ=>φ h/\(∃ o,h.get? a=some o)/\∀ h1 h2:Heap,φ h1->(∀ o,h1.get? a=some o->h2.get? a=some o)->φ h2
def HOk (H:Hp) (h:Heap):Prop:=∀ a o,H a=some o->ObjOk P w K H h a o
end
section
variable {P:Program}{w:World}{K:W.Frag}{H H':Hp}{h h':Heap}{a:Addr}{o:HO}
theorem ObjOk.lt (x:ObjOk P w K H h a o):a < h.objs.size:=by
 cases o with
 |lst xs=>obtain⟨_,_,_,_,e⟩:=x;exact Al9 e
 |tup xs=>obtain⟨_,_,_,p⟩:=x;exact p.lt
 |dK kvs=>obtain⟨_,_,_,_,o,_,_,e,_⟩:=x;exact Al9 e
 |dT kvs=>obtain⟨_,_,_,_,o,_,_,e,_⟩:=x;exact Al9 e
 |set S n=>obtain⟨o,_,_,_,e,_⟩:=x;exact Al9 e
 |ins C dx fs=>obtain⟨_,_,_,e,_⟩:=x;exact Al9 e
 |own y=>obtain⟨_,e⟩:=x;exact Al9 e
 |xd fs=>obtain⟨_,⟨_,_,_,e,_⟩,_⟩:=x;exact Al9 e
 |rng lo hi=>obtain⟨_,_,_,e⟩:=x;exact Al9 e
 |frz ob u=>obtain⟨e,_⟩:=x;exact Al9 e
 |tbl ps=>obtain⟨_,e,_⟩:=x;exact Al9 e
 |met f y=>exact Al9 (show h.get? a=some _ from x)
 |ext φ=>obtain⟨_,⟨_,e⟩,_⟩:=x;exact Al9 e
theorem Paired.mapP {α β:Type}{F G:α->β->Prop}:∀ {l₁:List α}{l₂:List β},Paired F l₁ l₂->(∀ a b,F a b->G a b)->Paired G l₁ l₂
 |_,_,.nil,_=>.nil
 |_,_,.cons r t,f=>.cons (f _ _ r) (Paired.mapP t f)
theorem SqT.upR {K:W.Frag}{H H':Hp} (ht:∀ b xs,Rd H b (.tup xs)->Rd H' b (.tup xs)) {a:Addr}{xs:List V} (h:SqT K H a xs):SqT K H' a xs:=h.elim (fun z=>.inl (ht _ _ z)) .inr
theorem KeyH.up {K:W.Frag}{H H':Hp} (ht:∀ b xs,Rd H b (.tup xs)->Rd H' b (.tup xs)) (d:PyData):∀ {v:V},KeyH K H d v->KeyH K H' d v:=by
 match d with
 |.int i=>intro v h;cases h;exact .int _
 |.str x=>intro v h;cases h;exact .str _
 |.tuple ds =>
  intro v h
  cases h with
  |@tup _ a vs hs hp =>
  refine .tup (SqT.upR ht hs) ?_
  have go:∀ (es:List PyData) (us:List V),(∀ e∈es,e∈ds)->Paired (KeyH K H) es us->Paired (KeyH K H') es us:=by
   intro es us hm q
   induction q with
   |nil=>exact .nil
   |@cons e u es us h1 h2 ih=>exact .cons (KeyH.up ht e h1) (ih fun x hx=>hm x (Al4 _ hx))
  exact go ds vs (fun _ h=>h) hp
 |.none=>intro v h;cases h
 |.bool _=>intro v h;cases h
 |.list _=>intro v h;cases h
 |.dict _=>intro v h;cases h
termination_by sizeOf d
decreasing_by
 have:=Am7 (hm e (Al6 ..))
 simp;lia
theorem KeyT.up {K:W.Frag}{H H':Hp} (ht:∀ b xs,Rd H b (.tup xs)->Rd H' b (.tup xs)) {d:PyData}{b:Addr} (h:KeyT K H d b):KeyT K H' d b:=⟨h.1,h.2.1,h.2.2.1,h.2.2.2.up ht⟩
theorem Rd.upd_none {H:Hp}{p:Addr}{o u:HO} (hn:H p=none) {c:Addr} (q:Rd H c u):Rd (upd H p o) c u:=by
 rcases q with q|⟨x,q⟩
 ·exact .inl (by rw[Az (Ar q hn)];exact q)
 ·exact .inr ⟨x,by rw[Az (Ar q hn)];exact q⟩
theorem ObjOk.stay (x:ObjOk P w K H h a o) (k:∀ b u,(b=a\/H b=some (.own a))->h.get? b=some u->h'.get? b=some u)
  (ho:∀ b,H b=some (.own a)->H' b=some (.own a)) (ht:∀ b xs,Rd H b (.tup xs)->Rd H' b (.tup xs)) (hf:∀ b x u,H b=some (.frz x u)->H' b=some (.frz x u)):ObjOk P w K H' h' a o:=by
 induction o with
 |lst xs=>obtain⟨z,its,n,r,e⟩:=x;exact⟨z,its,n,r,k _ _ (.inl rfl) e⟩
 |tup xs=>obtain⟨z,its,r,ob,e,c⟩:=x;exact⟨z,its,r,ob,k _ _ (.inl rfl) e,c⟩
 |dK kvs=>obtain⟨z,y,vs,r,ob,es,ep,e,c⟩:=x;exact⟨z,y,vs,r,ob,es,ep,k _ _ (.inl rfl) e,c⟩
 |dT kvs =>
  obtain⟨z,y,xs,r,ob,es,ep,e,c⟩:=x
  exact⟨z,y,xs,Paired.mapP r fun p q z=>⟨z.1,z.2.1.up ht,z.2.2⟩,ob,es,ep,k _ _ (.inl rfl) e,c⟩
 |set S n=>obtain⟨ob,es,ep,t,e,c⟩:=x;exact⟨ob,es,ep,t,k _ _ (.inl rfl) e,c⟩
 |ins C dx fs =>
  obtain⟨d,z,ne,e,mA,⟨od,es,ep,e2,c⟩,r⟩:=x
  exact⟨ho _ d,z,ne,k _ _ (.inl rfl) e,mA,⟨od,es,ep,k _ _ (.inr d) e2,c⟩,r⟩
 |own y=>obtain⟨ob,e⟩:=x;exact⟨ob,k _ _ (.inl rfl) e⟩
 |xd fs=>obtain⟨mA,⟨od,es,ep,e,c⟩,r⟩:=x;exact⟨mA,⟨od,es,ep,k _ _ (.inl rfl) e,c⟩,r⟩
 |rng lo hi=>obtain⟨t,u,v,e⟩:=x;exact⟨t,u,v,k _ _ (.inl rfl) e⟩
 |frz ob u ih=>obtain⟨e,q⟩:=x;exact⟨k _ _ (.inl rfl) e,ih q⟩
 |tbl ps =>
  obtain⟨qs,e,t,c⟩:=x
  exact⟨qs,k _ _ (.inl rfl) e,t,fun pos cv z=>let ⟨c',oc,u,q,t',z1,z2,z3,z4⟩:=c pos cv z;⟨c',oc,u,q,t',z1,z2,hf _ _ _ z3,z4⟩⟩
 |met f y =>
  have e:h.get? a=some (W.methodObj (.ref f) (.ref y)):=x
  show h'.get? a=some (W.methodObj (.ref f) (.ref y))
  exact k a _ (.inl rfl) e
 |ext φ=>obtain⟨p,⟨o,e⟩,st⟩:=x;exact⟨st _ _ p fun o q=>k _ _ (.inl rfl) q,⟨o,k _ _ (.inl rfl) e⟩,st⟩
theorem HOk.lt (x:HOk P w K H h) (e:H a=some o):a < h.objs.size:=(x a o e).lt
theorem HOk.fresh (x:HOk P w K H h) (e:h.objs.size<=a):H a=none:=by
 cases q:H a with
 |none=>rfl
 |some u=>exact absurd (Amj (x.lt q) e) (Am3 _)
theorem HOk.kept (x:HOk P w K H h) (k:∀ b u,h.get? b=some u->h'.get? b=some u):HOk P w K H h':=fun a o e =>
 (x a o e).stay (fun b u _ q=>k b u q) (fun _ q=>q) (fun _ _ q=>q) fun _ _ _ q=>q
theorem HOk.laid (x:HOk P w K H h) (k:∀ b u,h.get? b=some u->h'.get? b=some u) (hp:h.objs.size<=a) (new:ObjOk P w K (upd H a o) h' a o):HOk P w K (upd H a o) h':=fun b u e=>by
 have hn:=x.fresh hp
 by_cases hb:b=a
 ·subst hb;rw[A8] at e;cases e;exact new
 ·rw[Az hb] at e
  exact (x b u e).stay (fun c v _ q=>k c v q) (fun c q=>by rw[Az (Ar q hn)];exact q) (fun c xs q=>Rd.upd_none hn q) fun c x u q=>by rw[Az (Ar q hn)];exact q
end
theorem Rd.ok {P:Program}{w:World}{K:W.Frag}{H:Hp}{h:Heap}{a:Addr}{u:HO} (r:Rd H a u) (x:HOk P w K H h):ObjOk P w K H h a u:=by
 rcases r with r|⟨o,r⟩
 ·exact x a u r
 ·obtain⟨_,q⟩:=x a _ r
  exact q
noncomputable def Mut:Option HO->Prop
 |some (.lst _)=>True
 |some (.dK _)=>True
 |some (.dT _)=>True
 |some (.set _ _)=>True
 |some (.ins _ _ _)=>True
 |some (.ext _)=>True
 |_=>False
theorem Rd.upd_mut {H:Hp}{x:Addr}{o:HO} (mu:Mut (H x)) {c:Addr}{xs:List V} (q:Rd H c (.tup xs)):Rd (upd H x o) c (.tup xs):=by
 rcases q with q|⟨y,q⟩
 ·exact .inl (by rw[Az (fun z=>by subst z;rw[q] at mu;exact mu)];exact q)
 ·exact .inr ⟨y,by rw[Az (fun z=>by subst z;rw[q] at mu;exact mu)];exact q⟩
section
variable {P:Program}{w:World}{K:W.Frag}{H:Hp}{h h':Heap}{x e:Addr}{o':HO}
theorem HOk.write (ok:HOk P w K H h) (mu:Mut (H x)) (he:e=x\/H e=some (.own x)) (k:∀ b u,b≠e->h.get? b=some u->h'.get? b=some u) (heo:∃ u,h'.get? e=some u)
  (new:ObjOk P w K (upd H x o') h' x o'):HOk P w K (upd H x o') h':=fun b u q=>by
 have nown:∀ c y,H c=some (.own y)->c≠x:=fun c y r z=>by subst z;rw[r] at mu;exact mu
 have ntup:∀ c xs,H c=some (.tup xs)->c≠x:=fun c xs r z=>by subst z;rw[r] at mu;exact mu
 by_cases hb:b=x
 ·subst hb;rw[A8] at q;cases q;exact new
 ·rw[Az hb] at q
  by_cases hbe:b=e
  ·have q':H b=some (.own x):=by
    rcases he with z|z
    ·exact absurd (hbe.trans z) hb
    ·rw[hbe];exact z
   rw[q] at q';cases q'
   obtain⟨v,hv⟩:=heo
   exact⟨v,by rw[hbe];exact hv⟩
  ·refine (ok b u q).stay (fun c v hc r=>k c v ?_ r) (fun c r=>by rw[Az (nown c b r)];exact r) (fun c xs r=>Rd.upd_mut mu r) fun c y u r=>by rw[Az (fun z=>by subst z;rw[r] at mu;exact mu)];exact r
   rcases hc with rfl|hc
   ·exact hbe
   ·rintro rfl
    rcases he with z|z
    ·exact nown c b hc z
    ·rw[hc] at z;cases z;exact hb rfl
end
structure Un (fs ex:List Addr) (H H':Hp) (h h':Heap):Prop where
 keep:∀ b o,h.get? b=some o->H b=none->b∉fs->b∉ex->h'.get? b=some o
 slot:∀ b o,h.get? b=some o->H b=none->b∈fs->b∉ex->∃ sl,h'.get? b=some { o with slots:=sl }
 free:∀ b o,h.get? b=some o->H b=none->b∉ex->H' b=none
 there:∀ b o,h.get? b=some o->b∉ex->∃ o',h'.get? b=some o'
 tups:∀ b xs,H b=some (.tup xs)->H' b=some (.tup xs)
 frzs:∀ b o u,H b=some (.frz o u)->H' b=some (.frz o u)
 tbls:∀ b ps,H b=some (.tbl ps)->∃ more,H' b=some (.tbl (ps++more))
section
variable {fs fs' ex ex':List Addr}{H H1 H2:Hp}{h h1 h2 h':Heap}{a x e:Addr}{o:HO}
theorem Un.any (u:Un fs ex H H1 h h1) {b:Addr}{ob:Obj} (q:h.get? b=some ob) (n:H b=none) (hx:b∉ex):∃ sl,h1.get? b=some { ob with slots:=sl }:=by
 by_cases hb:b∈fs
 ·exact u.slot b ob q n hb hx
 ·exact⟨ob.slots,u.keep b ob q n hb hx⟩
theorem Un.kept (k:∀ b u,h.get? b=some u->h'.get? b=some u):Un fs ex H H h h' :=
 ⟨fun b ob q _ _ _=>k b ob q,fun b ob q _ _ _=>⟨ob.slots,k b ob q⟩,fun _ _ _ n _=>n,fun b ob q _=>⟨ob,k b ob q⟩,fun _ _ q=>q,fun _ _ _ q=>q,fun _ ps q=>⟨#[],by rw[q];simp⟩⟩
theorem Un.refl:Un fs ex H H h h:=Un.kept fun _ _ q=>q
theorem Un.laid (k:∀ b u,h.get? b=some u->h'.get? b=some u) (hp:h.objs.size<=a) (hn:H a=none):Un fs ex H (upd H a o) h h' where
 keep:=fun b u q _ _ _=>k b u q
 slot:=fun b u q _ _ _=>⟨u.slots,k b u q⟩
 free:=fun b u q n _=>by rw[Az (Ams (Amj (Al9 q) hp))];exact n
 there:=fun b u q _=>⟨u,k b u q⟩
 tups:=fun b xs q=>by rw[Az (Ar q hn)];exact q
 frzs:=fun b u xs q=>by rw[Az (Ar q hn)];exact q
 tbls:=fun b ps q=>⟨#[],by rw[Az (Ar q hn),q];simp⟩
theorem Un.write (mu:Mut (H x)) (he:e=x\/H e=some (.own x)) (k:∀ b u,b≠e->h.get? b=some u->h'.get? b=some u) (heo:∃ u,h'.get? e=some u):Un fs ex H (upd H x o) h h':=by
 have hx:∀ b,H b=none->b≠x:=fun b n z=>by subst z;rw[n] at mu;exact mu
 have hb:∀ b,H b=none->b≠e:=fun b n z=>by
  subst z
  rcases he with r|r
  ·exact hx b n r
  ·rw[n] at r;cases r
 have hm:∀ b u,H b=some u->¬ Mut (some u)->b≠x:=fun b u q nm z=>by subst z;rw[q] at mu;exact nm mu
 refine⟨fun b u q n _ _=>k b u (hb b n) q,fun b u q n _ _=>⟨u.slots,k b u (hb b n) q⟩,fun b u q n _=>by rw[Az (hx b n)];exact n,fun b u q _=>?_,
  fun b xs q=>by rw[Az (hm b _ q fun z=>z)];exact q,fun b u xs q=>by rw[Az (hm b _ q fun z=>z)];exact q,fun b ps q=>⟨#[],by rw[Az (hm b _ q fun z=>z),q];simp⟩⟩
 by_cases hbe:b=e
 ·subst hbe;exact heo
 ·exact⟨u,k b u hbe q⟩
end
noncomputable def trk (h:Heap) (H:Hp):List Addr:=(List.range h.objs.size).filter fun a=>(H a).isSome
def Y2 (h:Heap) (H:Hp):Heap:=W.hideAll h (trk h H)
theorem Uu (h:Heap) (H:Hp):(Y2 h H).objs.size=h.objs.size:=W.hideAll_size _ _
theorem Y3 {h:Heap}{H:Hp}{b:Addr}{o:Obj} (e:h.get? b=some o) (n:H b=none):(Y2 h H).get? b=some o :=
 W.hideAll_get _ e fun hm=>by
  have q:(H b).isSome=true:=(List.mem_filter.mp hm).2
  rw[n] at q;simp at q
theorem Acj {h:Heap}{H:Hp}{b:Addr}{o:Obj} (e:(Y2 h H).get? b=some o):h.get? b=some o/\H b=none:=by
 have e':h.get? b=some o:=W.of_hideAll (trk h H) e
 refine⟨e',?_⟩
 cases q:H b with
 |none=>rfl
 |some x =>
  have hm:b∈trk h H:=List.mem_filter.mpr ⟨List.mem_range.mpr (Al9 e'),by simp[q]⟩
  have z:(Y2 h H).get? b=none:=W.hideAll_none (trk h H) hm
  rw[z] at e;cases e
structure Mod (K:W.Frag) (mg:Str->Option Value) (base:Heap):Prop where
 kin:K.In base
 glob:base.Ns mainGlobals mg
 blt:∃ mb,base.Ns builtinsNs mb/\∀ x:Str,x≠"__name__"->mb x=bootBuiltins x
 nolimit:base.NoLimit
structure Cx where
 prog:Program
 w:World
 K:W.Frag
 mg:Str->Option Value
 base:Heap
 A:Around
 N:List Str
 s₀:Shared
 H₀:Hp
 env:Env
 outer:List Env
 stack:List Env
 ex:List Addr
 fn:Str->Bool
 calm:Bool
 pn:List (Addr×Obj)
 xe:Value->Shared->Prop
noncomputable def frs (l:List Env):List Addr:=l.filterMap (·.frame)
abbrev Cx.fs (X:Cx):List Addr:=frs X.outer
def Vis (sc:Scope) (x:Str):Prop:=sc.names.lookup x=some .local\/sc.names.lookup x=some .cell\/sc.names.lookup x=some .free
def Loc (sc:Scope) (x:Str):Prop:=sc.names.lookup x=some .local\/sc.names.lookup x=some .cell
def Ali (env:Env) (h:Heap) (m:Str->Option Value) (x:Str) (u:Value):Prop :=
 (env.kindOf x=some .local/\m x=some u)\/((env.kindOf x=some .cell\/env.kindOf x=some .free)/\∃ c,env.cells.lookup x=some c/\h.IsCell c (some u))
structure Cx.Ok (X:Cx):Prop where
 mod:Mod X.K X.mg X.base
 kind:X.env.scope.kind=.function
 glob:X.env.globals=mainGlobals
 blt:X.env.builtins=builtinsNs
 above:X.s₀.heap.objs.size<=X.env.locals
 inj:∀ x y c,X.env.cells.lookup x=some c->X.env.cells.lookup y=some c->x=y
 has:∀ x,(X.env.kindOf x=some .cell\/X.env.kindOf x=some .free)->∃ c,X.env.cells.lookup x=some c
 cab:∀ x c,X.fn x=true->X.env.cells.lookup x=some c->X.s₀.heap.objs.size<=c
 hd:X.calm=true->X.A.handled=none
 frames:X.A.frames=some X.stack
 stk:X.stack=X.outer\/(X.stack=X.env::X.outer/\X.env.frame=some X.env.locals)
 exf:∀ b∈X.ex,b≠X.env.locals/\∀ x c,X.env.cells.lookup x=some c->c≠b
 bs:∀ b o,X.base.get? b=some o->X.s₀.heap.get? b=some o/\X.H₀ b=none
 bsz:X.base.objs.size<=X.s₀.heap.objs.size
 noex:∀ b o,X.base.get? b=some o->b∉X.ex
 exfs:∀ b∈X.ex,b∉X.fs
 funs:X.s₀.heap.FunFrames X.base X.outer
 frf:∀ b∈X.fs,X.H₀ b=none
structure Inv (X:Cx) (pins:List (Addr×Obj)) (σ:List (Option V)) (H:Hp) (s:Shared):Prop where
 ok:X.Ok
 os:s.os=X.s₀.os
 bare:AllBare s.gens
 base:Un X.fs X.ex X.H₀ H X.s₀.heap s.heap
 loc:∃ m,s.heap.Ns X.env.locals m/\∀ (i:Nat) (x:Str) (v:V),X.N[i]?=some x->σ[i]?=some (some v)->Vis X.env.scope x->∃ u,RelV v u/\Ali X.env s.heap m x u
 cell:∀ x c,X.env.cells.lookup x=some c->∃ v,s.heap.IsCell c v
 free:H X.env.locals=none
 freeC:∀ x c,X.env.cells.lookup x=some c->H c=none
 pin:∀ p∈X.pn++pins,s.heap.get? p.1=some p.2/\H p.1=none/\p.1≠X.env.locals/\p.1∉X.fs/\∀ v,p.2.data≠.cell v
 hok:HOk X.prog X.w X.K H s.heap
 len:σ.length=X.N.length
section
variable {X:Cx}{pins:List (Addr×Obj)}{σ:List (Option V)}{H H':Hp}{s:Shared}{h':Heap}
theorem Cx.Ok.nofr (ok:X.Ok) {b:Addr}{o:Obj} (e:X.base.get? b=some o):b∉X.fs:=fun hb=>by
 have:=(ok.funs.mem hb).1
 rw[e] at this;cases this
theorem Inv.bs (I:Inv X pins σ H s):∀ b o,X.base.get? b=some o->s.heap.get? b=some o/\H b=none:=fun b o e =>
 ⟨I.base.keep b o (I.ok.bs b o e).1 (I.ok.bs b o e).2 (I.ok.nofr e) (I.ok.noex b o e),I.base.free b o (I.ok.bs b o e).1 (I.ok.bs b o e).2 (I.ok.noex b o e)⟩
theorem Inv.bk (I:Inv X pins σ H s):∀ b o,X.base.get? b=some o->s.heap.get? b=some o:=fun b o e=>(I.bs b o e).1
theorem Inv.mod (I:Inv X pins σ H s):Mod X.K X.mg X.base:=I.ok.mod
theorem Inv.kIn (I:Inv X pins σ H s):X.K.In s.heap:=I.ok.mod.kin.keeps I.bk
theorem Inv.lt (I:Inv X pins σ H s):X.env.locals < s.heap.objs.size:=let ⟨_,hn,_⟩:=I.loc;hn.lt
theorem Inv.sz (I:Inv X pins σ H s):X.s₀.heap.objs.size<=s.heap.objs.size:=Amv I.ok.above (Aom I.lt)
theorem Inv.nofs (I:Inv X pins σ H s) {a:Addr} (h:s.heap.objs.size<=a):a∉X.fs:=fun hb=>by
 obtain⟨_,o,ho,_⟩:=I.ok.funs.mem hb
 exact absurd (Amj (Al9 ho) (Amv I.sz h)) (Am3 _)
theorem Inv.cne (I:Inv X pins σ H s):∀ x c,X.env.cells.lookup x=some c->c≠X.env.locals:=fun x c e z=>by
 obtain⟨v,o,ho,hd⟩:=I.cell x c e
 obtain⟨m,⟨o',es,ep,ho',hd',_⟩,_⟩:=I.loc
 rw[z,ho'] at ho;cases ho;rw[hd'] at hd;cases hd
theorem Inv.funs (I:Inv X pins σ H s):s.heap.FunFrames X.base X.outer:=by
 have all:∀ (l:List Env),(∀ b∈frs l,b∈X.fs)->X.s₀.heap.FunFrames X.base l->s.heap.FunFrames X.base l:=by
  intro l
  induction l with
  |nil=>intro _ _;trivial
  |cons env r ih =>
   intro hs hl
   obtain⟨hk,⟨L,o,hf,hn,ho,hd⟩,hr⟩:=hl
   have hL:L∈X.fs:=hs L (by unfold frs;rw[List.filterMap_cons,hf];exact Al6)
   obtain⟨sl,e⟩:=I.base.slot L o ho (I.ok.frf L hL) hL fun z=>I.ok.exfs L z hL
   exact⟨hk,⟨L,_,hf,hn,e,hd⟩,ih (fun b hb=>hs b (by unfold frs;rw[List.filterMap_cons,hf];exact Al4 _ hb)) hr⟩
 exact all X.outer (fun _ hb=>hb) I.ok.funs
theorem Inv.stack (I:Inv X pins σ H s):s.heap.FunFrames X.base X.stack:=by
 rcases I.ok.stk with e|⟨e,hf⟩
 ·rw[e];exact I.funs
 ·rw[e]
  obtain⟨m,hn,_⟩:=I.loc
  refine .cons (by rw[I.ok.kind];decide) hf hn ?_ I.funs
  exact Heap.get?_none_of_le (Amv I.ok.bsz I.ok.above)
theorem Inv.stkSub (I:Inv X pins σ H s):∀ b∈frs X.stack,b∈X.env.locals::X.fs:=fun b hb=>by
 rcases I.ok.stk with e|⟨e,hf⟩
 ·rw[e] at hb;exact Al4 _ hb
 ·rw[e] at hb
  unfold frs at hb
  rw[List.filterMap_cons,hf] at hb
  exact hb
theorem Inv.stkFree (I:Inv X pins σ H s):∀ b∈frs X.stack,H b=none:=fun b hb=>by
 rcases List.mem_cons.mp (I.stkSub b hb) with e|hb
 ·rw[e];exact I.free
 ·obtain⟨_,o,ho,_⟩:=I.ok.funs.mem hb
  exact I.base.free b o ho (I.ok.frf b hb) fun z=>I.ok.exfs b z hb
theorem Inv.step {g':Array GenState}{t':Nat}{d':Drawn}{ch:List Addr} (I:Inv X pins σ H s)
  (hch:∀ b∈ch,(b∈X.ex\/X.s₀.heap.objs.size<=b)/\b≠X.env.locals/\(∀ x c,X.env.cells.lookup x=some c->c≠b)/\∀ p∈X.pn++pins,p.1≠b)
  (keep:∀ b o,b≠X.env.locals->b∉X.fs->b∉ch->s.heap.get? b=some o->H b=none->h'.get? b=some o)
  (slot:∀ b o,b≠X.env.locals->b∈X.fs->b∉ch->s.heap.get? b=some o->H b=none->∃ sl,h'.get? b=some { o with slots:=sl }) (free:∀ b o,b∉ch->s.heap.get? b=some o->H b=none->H' b=none)
  (there:∀ b o,b∉ch->s.heap.get? b=some o->∃ o',h'.get? b=some o')
  (tups:∀ b xs,H b=some (.tup xs)->H' b=some (.tup xs)) (frzs:∀ b o u,H b=some (.frz o u)->H' b=some (.frz o u)) (tbls:∀ b ps,H b=some (.tbl ps)->∃ more,H' b=some (.tbl (ps++more)))
  (ns:∀ m,s.heap.Ns X.env.locals m->h'.Ns X.env.locals m) (hok:HOk X.prog X.w X.K H' h') (hg:AllBare g') :
  Inv X pins σ H' { s with heap:=h',gens:=g',drawn:=d',toks:=t' }:=by
 have neL:∀ b o,X.s₀.heap.get? b=some o->b≠X.env.locals:=fun b o e=>Ams (Amj (Al9 e) I.ok.above)
 have neC:∀ b o,X.s₀.heap.get? b=some o->b∉X.ex->b∉ch:=fun b o e hx hb=>by
  rcases (hch b hb).1 with z|z
  ·exact hx z
  ·exact absurd (Amj (Al9 e) z) (Am3 _)
 have cellK:∀ x c,X.env.cells.lookup x=some c->∀ v,s.heap.IsCell c v->h'.IsCell c v:=fun x c e v ⟨o,ho,hd⟩=>by
  have nch:c∉ch:=fun z=>(hch c z).2.2.1 x c e rfl
  by_cases hc:c∈X.fs
  ·obtain⟨sl,q⟩:=slot c o (I.cne x c e) hc nch ho (I.freeC x c e)
   exact⟨_,q,hd⟩
  ·exact⟨o,keep c o (I.cne x c e) hc nch ho (I.freeC x c e),hd⟩
 refine⟨I.ok,I.os,hg,⟨fun b o e n hb hx=>?_,fun b o e n hb hx=>?_,fun b o e n hx=>?_,fun b o e hx=>?_,fun b xs e=>tups b xs (I.base.tups b xs e),fun b o xs e=>frzs b o xs (I.base.frzs b o xs e),fun b ps e=>?_⟩,?_,fun x c e=>?_,?_,fun x c e=>?_,fun p hp=>?_,hok,I.len⟩
 ·exact keep b o (neL b o e) hb (neC b o e hx) (I.base.keep b o e n hb hx) (I.base.free b o e n hx)
 ·obtain⟨sl,e1⟩:=I.base.slot b o e n hb hx
  obtain⟨sl',e2⟩:=slot b _ (neL b o e) hb (neC b o e hx) e1 (I.base.free b o e n hx)
  exact⟨sl',e2⟩
 ·obtain⟨o',e1⟩:=I.base.there b o e hx
  exact free b o' (neC b o e hx) e1 (I.base.free b o e n hx)
 ·obtain⟨o',e1⟩:=I.base.there b o e hx
  exact there b o' (neC b o e hx) e1
 ·obtain⟨m1,e1⟩:=I.base.tbls b ps e
  obtain⟨m2,e2⟩:=tbls b _ e1
  exact⟨m1++m2,by rw[e2,Array.append_assoc]⟩
 ·obtain⟨m,hn,hl⟩:=I.loc
  refine⟨m,ns m hn,fun i x v e1 e2 e3=>?_⟩
  obtain⟨u,r,l⟩:=hl i x v e1 e2 e3
  refine⟨u,r,?_⟩
  rcases l with l|⟨k,c,e,z⟩
  ·exact .inl l
  ·exact .inr ⟨k,c,e,cellK x c e _ z⟩
 ·obtain⟨v,z⟩:=I.cell x c e
  exact⟨v,cellK x c e v z⟩
 ·obtain⟨m,⟨o,_,_,ho,_⟩,_⟩:=I.loc
  exact free _ o (fun z=>(hch _ z).2.1 rfl) ho I.free
 ·obtain⟨v,o,ho,hd⟩:=I.cell x c e
  exact free c o (fun z=>(hch c z).2.2.1 x c e rfl) ho (I.freeC x c e)
 ·obtain⟨e,n,ne,nf,d⟩:=I.pin p hp
  have nch:p.1∉ch:=fun z=>(hch p.1 z).2.2.2 p hp rfl
  exact⟨keep p.1 p.2 ne nf nch e n,free p.1 p.2 nch e n,ne,nf,d⟩
theorem Inv.un {t':Nat} (I:Inv X pins σ H s) (u:Un X.fs [] H H' s.heap h') (hok:HOk X.prog X.w X.K H' h'):Inv X pins σ H' { s with heap:=h',toks:=t' }:=by
 obtain⟨m,⟨o,es,ep,ho,r⟩,_⟩:=id I.loc
 obtain⟨sl,hL⟩:=u.any ho I.free (by simp)
 exact I.step (g':=s.gens) (d':=s.drawn) (ch:=[]) (fun _ z=>nomatch z) (fun b o _ hb _ e n=>u.keep b o e n hb (by simp)) (fun b o _ hb _ e n=>u.slot b o e n hb (by simp)) (fun b o _ e n=>u.free b o e n (by simp)) (fun b o _ e=>u.there b o e (by simp)) u.tups u.frzs u.tbls (fun m' hm=>by
  obtain⟨o',es',ep',ho',r'⟩:=hm
  rw[ho] at ho';cases ho'
  exact⟨_,es',ep',hL,r'⟩) hok I.bare
theorem Inv.call {g':Array GenState}{t':Nat}{d':Drawn}{ch:List Addr} (I:Inv X pins σ H s) (u:Un (frs X.stack) ch H H' s.heap h') (hok:HOk X.prog X.w X.K H' h') (hg:AllBare g')
  (hch:∀ b∈ch,(b∈X.ex\/X.s₀.heap.objs.size<=b)/\b≠X.env.locals/\(∀ x c,X.env.cells.lookup x=some c->c≠b)/\∀ p∈X.pn++pins,p.1≠b) :
  Inv X pins σ H' { s with heap:=h',gens:=g',drawn:=d',toks:=t' }:=by
 obtain⟨m,⟨o,es,ep,ho,r⟩,_⟩:=id I.loc
 obtain⟨sl,hL⟩:=u.any ho I.free fun z=>(hch _ z).2.1 rfl
 exact I.step (ch:=ch) hch (fun b o hL hb hc e n=>u.keep b o e n (fun z=>(List.mem_cons.mp (I.stkSub b z)).elim hL hb) hc) (fun b o _ _ hc e n=>u.any e n hc) (fun b o hc e n=>u.free b o e n hc) (fun b o hc e=>u.there b o e hc) u.tups u.frzs u.tbls (fun m' hm=>by
  obtain⟨o',es',ep',ho',r'⟩:=hm
  rw[ho] at ho';cases ho'
  exact⟨_,es',ep',hL,r'⟩) hok hg
theorem Inv.turned {t':Nat}{it:Addr} (I:Inv X pins σ H s) (k:∀ b o,b≠it->s.heap.get? b=some o->h'.get? b=some o) (hn:H it=none) (hL:it≠X.env.locals)
  (h1:it∈X.ex\/X.s₀.heap.objs.size<=it) (h2:∀ x c,X.env.cells.lookup x=some c->c≠it) (h3:∀ p∈X.pn++pins,p.1≠it):Inv X pins σ H { s with heap:=h',toks:=t' }:=by
 have nit:∀ b u,H b=some u->b≠it:=fun b u e z=>by rw[z,hn] at e;cases e
 refine I.step (g':=s.gens) (d':=s.drawn) (ch:=[it]) (fun b hb=>?_) (fun b o _ _ hc e _=>k b o (fun z=>hc (by simp[z])) e) (fun b o _ _ hc e _=>⟨o.slots,k b o (fun z=>hc (by simp[z])) e⟩) (fun _ _ _ _ n=>n)
  (fun b o hc e=>⟨o,k b o (fun z=>hc (by simp[z])) e⟩) (fun _ _ e=>e) (fun _ _ _ e=>e) (fun b ps e=>⟨#[],by rw[e];simp⟩) (fun m hm=>?_) (fun b u e=>?_) I.bare
 ·have e:b=it:=by simpa using hb
  subst e
  exact⟨h1,hL,h2,h3⟩
 ·obtain⟨o,es,ep,ho,r⟩:=hm
  exact⟨o,es,ep,k _ o (Ne.symm hL) ho,r⟩
 ·refine (I.hok b u e).stay (fun c v hc q=>k c v ?_ q) (fun _ q=>q) (fun _ _ q=>q) fun _ _ _ q=>q
  rcases hc with z|z
  ·rw[z];exact nit b u e
  ·exact nit c _ z
theorem Inv.tok (I:Inv X pins σ H s) (t:Nat):Inv X pins σ H { s with toks:=t }:=I.un (h':=s.heap) (t':=t) Un.refl I.hok
theorem Inv.kept {t':Nat} (I:Inv X pins σ H s) (k:∀ b u,s.heap.get? b=some u->h'.get? b=some u):Inv X pins σ H { s with heap:=h',toks:=t' }:=I.un (Un.kept k) (I.hok.kept k)
theorem Inv.laid {a:Addr}{o:HO}{t':Nat} (I:Inv X pins σ H s) (k:∀ b u,s.heap.get? b=some u->h'.get? b=some u) (hp:s.heap.objs.size<=a) (new:ObjOk X.prog X.w X.K (upd H a o) h' a o) :
  Inv X pins σ (upd H a o) { s with heap:=h',toks:=t' }:=I.un (Un.laid k hp (I.hok.fresh hp)) (I.hok.laid k hp new)
theorem Inv.write {x e:Addr}{o:HO}{t':Nat} (I:Inv X pins σ H s) (mu:Mut (H x)) (he:e=x\/H e=some (.own x)) (k:∀ b u,b≠e->s.heap.get? b=some u->h'.get? b=some u) (heo:∃ u,h'.get? e=some u)
  (new:ObjOk X.prog X.w X.K (upd H x o) h' x o):Inv X pins σ (upd H x o) { s with heap:=h',toks:=t' }:=I.un (Un.write mu he k heo) (I.hok.write mu he k heo new)
theorem Inv.pins_of {pins':List (Addr×Obj)} (I:Inv X pins σ H s) (h:∀ p∈pins',s.heap.get? p.1=some p.2/\H p.1=none/\p.1≠X.env.locals/\p.1∉X.fs/\∀ v,p.2.data≠.cell v):Inv X pins' σ H s :=
 ⟨I.ok,I.os,I.bare,I.base,I.loc,I.cell,I.free,I.freeC,fun p hp=>(List.mem_append.mp hp).elim (fun z=>I.pin p (Ana _ z)) (h p),I.hok,I.len⟩
theorem Rb {N:List Str} (hN:N.Nodup) {i j:Nat}{x:Str} (a:N[i]?=some x) (b:N[j]?=some x):i=j:=by
 obtain⟨h1,e1⟩:=List.getElem?_eq_some_iff.mp a
 obtain⟨h2,e2⟩:=List.getElem?_eq_some_iff.mp b
 exact (List.getElem_inj hN).mp (e1.trans e2.symm)
theorem M8 {M:Model}{A:Around}{E:Value->Shared->Prop}{i:Nat}{x:Str}{v:V}{u:Value}{Q:Unit->Shared->Prop} (I:Inv X pins σ H s) (hN:X.N.Nodup) (hi:X.N[i]?=some x) (hx:Loc X.env.scope x) (r:RelV v u)
  (h:∀ s',Inv X pins (σ.set i (some v)) H s'->(∃ a,Heap.SameBut a s.heap s'.heap/\(a=X.env.locals\/X.env.cells.lookup x=some a))->Q () s') (hf:X.fn x=true\/X.env.scope.names.lookup x=some .local:=by first|exact .inl rfl|exact .inr rfl|assumption):wpAny M A (storeName X.env x u) Q E s:=by
 obtain⟨m,hn,hl⟩:=id I.loc
 have hcls:(X.env.scope.kind == .class||(X.env.scope.kind == .module&&X.env.locals != X.env.globals))=false:=by rw[I.ok.kind];rfl
 have hiσ:i < σ.length:=by rw[I.len];exact (List.getElem?_eq_some_iff.mp hi).1
 have cne:=I.cne
 have tracked:∀ {a:Addr}{h':Heap},(∃ o,s.heap.get? a=some o/\H a=none)->Heap.SameBut a s.heap h'->HOk X.prog X.w X.K H h':=fun {a h'} ha hs b ob e=>by
  obtain⟨_,_,hfree⟩:=ha
  refine (I.hok b ob e).stay (fun c w' hc q=>(hs.2 c ?_).trans q) (fun _ q=>q) (fun _ _ q=>q) fun _ _ _ q=>q
  rintro rfl
  rcases hc with rfl|hc
  ·rw[hfree] at e;cases e
  ·rw[hfree] at hc;cases hc
 rcases hx with hk|hk
 ·refine wpAny_storeName_local hk hn (fun h' hn' hs=>?_) hcls
  obtain⟨oL,_,_,hoL,_⟩:=id hn
  refine h _ ⟨I.ok,I.os,I.bare,⟨fun b o e n hb hx=>?_,fun b o e n hb hx=>?_,I.base.free,fun b o e hx=>?_,I.base.tups,I.base.frzs,I.base.tbls⟩,⟨_,hn',fun j y v' e1 e2 e3=>?_⟩,fun y c e=>?_,I.free,I.freeC,fun p hp=>?_,tracked ⟨oL,hoL,I.free⟩ hs,by simpa using I.len⟩ ⟨_,hs,.inl rfl⟩
  ·exact (hs.2 b (Ams (Amj (Al9 e) I.ok.above))).trans (I.base.keep b o e n hb hx)
  ·obtain⟨sl,e1⟩:=I.base.slot b o e n hb hx
   exact⟨sl,(hs.2 b (Ams (Amj (Al9 e) I.ok.above))).trans e1⟩
  ·obtain⟨o',e1⟩:=I.base.there b o e hx
   exact⟨o',(hs.2 b (Ams (Amj (Al9 e) I.ok.above))).trans e1⟩
  ·by_cases hj:j=i
   ·subst hj
    rw[hi] at e1;cases e1
    rw[Ano hiσ] at e2
    cases e2
    exact⟨u,r,.inl ⟨hk,by simp⟩⟩
   ·rw[Aoa (Ne.symm hj)] at e2
    obtain⟨u',r',q⟩:=hl j y v' e1 e2 e3
    refine⟨u',r',?_⟩
    rcases q with ⟨k,e⟩|⟨k,c,e,z⟩
    ·refine .inl ⟨k,?_⟩
     have:y≠x:=fun e=>hj (Rb hN e1 (e ▸ hi))
     simp[this,e]
    ·exact .inr ⟨k,c,e,z.sameBut hs (cne y c e)⟩
  ·obtain⟨w',z⟩:=I.cell y c e
   exact⟨w',z.sameBut hs (cne y c e)⟩
  ·obtain⟨e,n,ne,nf,d⟩:=I.pin p hp
   exact⟨(hs.2 p.1 ne).trans e,n,ne,nf,d⟩
 ·have hfn:X.fn x=true:=by
   rcases hf with z|z
   ·exact z
   ·rw[z] at hk;cases hk
  obtain⟨c,hc⟩:=I.ok.has x (.inl hk)
  obtain⟨w',z⟩:=I.cell x c hc
  refine wpAny_storeName_cell I.ok.kind hk hc z (fun h' hc' hs=>?_)
  obtain⟨oc,hoc,hocd⟩:=id z
  refine h { s with heap:=h' } ⟨I.ok,I.os,I.bare,⟨fun b o e n hb hx=>?_,fun b o e n hb hx=>?_,I.base.free,fun b o e hx=>?_,I.base.tups,I.base.frzs,I.base.tbls⟩,⟨m,hn.sameBut hs (Ne.symm (cne x c hc)),fun j y v' e1 e2 e3=>?_⟩,fun y c' e=>?_,I.free,I.freeC,fun p hp=>?_,tracked ⟨oc,hoc,I.freeC x c hc⟩ hs,by simpa using I.len⟩ ⟨c,hs,.inr hc⟩
  ·exact (hs.2 b (Ams (Amj (Al9 e) (I.ok.cab x c hfn hc)))).trans (I.base.keep b o e n hb hx)
  ·obtain⟨sl,e1⟩:=I.base.slot b o e n hb hx
   exact⟨sl,(hs.2 b (Ams (Amj (Al9 e) (I.ok.cab x c hfn hc)))).trans e1⟩
  ·obtain⟨o',e1⟩:=I.base.there b o e hx
   exact⟨o',(hs.2 b (Ams (Amj (Al9 e) (I.ok.cab x c hfn hc)))).trans e1⟩
  ·by_cases hj:j=i
   ·subst hj
    rw[hi] at e1;cases e1
    rw[Ano hiσ] at e2
    cases e2
    exact⟨u,r,.inr ⟨.inl hk,c,hc,hc'⟩⟩
   ·rw[Aoa (Ne.symm hj)] at e2
    obtain⟨u',r',q⟩:=hl j y v' e1 e2 e3
    refine⟨u',r',?_⟩
    rcases q with q|⟨k,c',e,z'⟩
    ·exact .inl q
    ·refine .inr ⟨k,c',e,z'.sameBut hs ?_⟩
     rintro rfl
     exact hj (Rb hN e1 (I.ok.inj _ _ _ e hc ▸ hi))
  ·by_cases hcc:c'=c
   ·subst hcc;exact⟨_,hc'⟩
   ·obtain⟨w2,z2⟩:=I.cell y c' e
    exact⟨w2,z2.sameBut hs hcc⟩
  ·obtain⟨e,n,ne,nf,d⟩:=I.pin p hp
   refine⟨(hs.2 p.1 ?_).trans e,n,ne,nf,d⟩
   intro q
   rw[q,hoc] at e
   have q':oc=p.2:=Anf e
   exact d w' (by rw[<- q'];exact hocd)
theorem Rq {M:Model}{A:Around}{E:Value->Shared->Prop}{i:Nat}{x:Str}{v:V}{u:Value}{Q:Unit->Shared->Prop} (I:Inv X pins σ H s) (hN:X.N.Nodup) (hi:X.N[i]?=some x) (hx:Loc X.env.scope x) (r:RelV v u)
  (h:∀ s',Inv X pins (σ.set i (some v)) H s'->Q () s') (hf:X.fn x=true\/X.env.scope.names.lookup x=some .local:=by first|exact .inl rfl|exact .inr rfl|assumption):wpAny M A (storeName X.env x u) Q E s :=
 M8 I hN hi hx r (fun s' I' _=>h s' I') hf
theorem Inv.call' {s':Shared}{ch:List Addr} (I:Inv X pins σ H s) (ho:s'.os=s.os) (u:Un (frs X.stack) ch H H' s.heap s'.heap) (hok:HOk X.prog X.w X.K H' s'.heap) (hg:AllBare s'.gens)
  (hch:∀ b∈ch,(b∈X.ex\/X.s₀.heap.objs.size<=b)/\b≠X.env.locals/\(∀ x c,X.env.cells.lookup x=some c->c≠b)/\∀ p∈X.pn++pins,p.1≠b):Inv X pins σ H' s':=by
 obtain⟨h',g',d',t',o'⟩:=s'
 have e:o'=s.os:=ho
 subst e
 exact I.call (g':=g') (t':=t') (d':=d') u hok hg hch
end
abbrev XK:=Value->Option Addr->Hp->Prop
abbrev St:=List (Option V)
abbrev VK:=V->Hp->Prop
abbrev TE:=St->Hp->VK->Prop
abbrev TT:=St->Hp->(Bool->Hp->Prop)->Prop
abbrev TA:=St->Hp->(List V->Hp->Prop)->Prop
structure Ends where
 nx:St->Hp->Prop
 rt:VK
 bk:St->Hp->Prop:=fun _ _=>False
 ct:St->Hp->Prop:=fun _ _=>False
abbrev TS:=Ends->St->Hp->Prop
def EP (X:Cx) (pins:List (Addr×Obj)) (σ:St) (Q:VK) (u:Value) (s':Shared):Prop:=∃ v H',Inv X pins σ H' s'/\RelV v u/\Q v H'
def TP (X:Cx) (pins:List (Addr×Obj)) (σ:St) (Q:Bool->Hp->Prop) (b:Bool) (s':Shared):Prop:=∃ H',Inv X pins σ H' s'/\Q b H'
def AP (X:Cx) (pins:List (Addr×Obj)) (σ:St) (Q:List V->Hp->Prop) (us:List Value) (s':Shared):Prop:=∃ vs H',Inv X pins σ H' s'/\Vals vs us/\Q vs H'
def SP (X:Cx) (pins:List (Addr×Obj)) (D:Ends) (f:Flow) (s':Shared):Prop :=
 match f with
 |.next=>∃ σ' H',Inv X pins σ' H' s'/\D.nx σ' H'
 |.brk=>∃ σ' H',Inv X pins σ' H' s'/\D.bk σ' H'
 |.cont=>∃ σ' H',Inv X pins σ' H' s'/\D.ct σ' H'
 |.ret u=>∃ v σ' H',Inv X pins σ' H' s'/\RelV v u/\D.rt v H'
def PE (X:Cx) (e:Expr) (t:TE):Prop :=
 ∀ (pins:List (Addr×Obj)) (s:Shared) (σ:St) (H:Hp) (Q:VK),Inv X pins σ H s->t σ H Q->wpAny (model X.prog X.w) X.A (eval e X.env) (EP X pins σ Q) X.xe s
def PT (X:Cx) (e:Expr) (t:TT):Prop :=
 ∀ (pins:List (Addr×Obj)) (s:Shared) (σ:St) (H:Hp) (Q:Bool->Hp->Prop),Inv X pins σ H s->t σ H Q->wpAny (model X.prog X.w) X.A (isTrue e X.env (eval e X.env)) (TP X pins σ Q) X.xe s
def PW (X:Cx) (e:Expr) (t:TT):Prop :=
 ∀ (whole:Sem Value) (pins:List (Addr×Obj)) (s:Shared) (σ:St) (H:Hp) (Q:Bool->Hp->Prop),Inv X pins σ H s->t σ H Q->wpAny (model X.prog X.w) X.A (isTrue e X.env whole) (TP X pins σ Q) X.xe s
theorem PW.pt {X:Cx}{e:Expr}{t:TT} (h:PW X e t):PT X e t:=h _
def PA (X:Cx) (es:List Expr) (t:TA):Prop :=
 ∀ (pos:Pos) (pins:List (Addr×Obj)) (s:Shared) (σ:St) (H:Hp) (Q:List V->Hp->Prop),Inv X pins σ H s->t σ H Q->wpAny (model X.prog X.w) X.A (spliced (backTo pos (starEach es X.env))) (AP X pins σ Q) X.xe s
def PS (X:Cx) (st:Stmt) (t:TS):Prop :=
 ∀ (pins:List (Addr×Obj)) (s:Shared) (σ:St) (H:Hp) (D:Ends),Inv X pins σ H s->t D σ H->wpAny (model X.prog X.w) X.A (exec st X.env) (SP X pins D) X.xe s
def PSs (X:Cx) (st:List Stmt) (t:TS):Prop :=
 ∀ (pins:List (Addr×Obj)) (s:Shared) (σ:St) (H:Hp) (D:Ends),Inv X pins σ H s->t D σ H->wpAny (model X.prog X.w) X.A (execs st X.env) (SP X pins D) X.xe s
theorem thn {α:Type}{t:Sem α}{Q Q':α->Shared->Prop}{M:Model}{A:Around}{E:Value->Shared->Prop}{s:Shared} (h:wpAny M A t Q E s) (hQ:∀ a s,Q a s->Q' a s):wpAny M A t Q' E s:=An6 h hQ fun _ _ x=>x
section
variable {X:Cx}
noncomputable def Al1 (i:Nat):TE:=fun σ H Q=>∃ v,σ[i]?=some (some v)/\Q v H
noncomputable def tC (v:V):TE:=fun _ H Q=>Q v H
theorem Ag0 {i:Nat}{x:Str}{pos:Pos} (hN:X.N[i]?=some x) (hv:Vis X.env.scope x) (hd:(x == ("__debug__":Str))=false:=by decide) (hcd:(x == ("__classdict__":Str))=false:=by decide):PE X (.Name x pos) (Al1 i):=by
 intro pins s σ H Q I h
 obtain⟨v,e,h⟩:=h
 obtain⟨m,hn,hl⟩:=I.loc
 obtain⟨u,r,l⟩:=hl i x v hN e hv
 have fin:EP X pins σ Q u s:=⟨v,H,I,r,h⟩
 rcases l with ⟨hk,hm⟩|⟨hk,c,hc,hcell⟩
 ·exact wpAny_Name (wpAny_loadName_local I.ok.kind hk hn hm fin) hd
 ·rcases hk with hk|hk
  ·exact wpAny_Name (wpAny_loadName_cell I.ok.kind hk hc hcell fin) hd
  ·exact wpAny_Name (wpAny_loadName_free I.ok.kind hk hc hcell fin hcd) hd
theorem Aaz {i j pos}:PE X (.Constant (.int i) j pos) (tC (.int i)):=fun _ _ _ H _ I h=>wpAny_Constant_int ⟨.int i,H,I.tok _,⟨_,rfl⟩,h⟩
theorem Akd {b j pos}:PE X (.Constant (.bool b) j pos) (tC (.bl b)):=fun _ _ _ H _ I h=>Constant_bool ⟨.bl b,H,I,rfl,h⟩
theorem Agv {j pos}:PE X (.Constant .none j pos) (tC .non):=fun _ _ _ H _ I h=>Constant_none ⟨.non,H,I,rfl,h⟩
theorem Agy {x j pos}:PE X (.Constant (.str x) j pos) (tC (.str x)):=fun _ _ _ H _ I h=>Calls.Constant_str ⟨.str x,H,I.tok _,⟨_,rfl⟩,h⟩
def Gl (X:Cx) (x:Str):Prop:=X.env.kindOf x=some .globalImplicit
theorem U3 {E:Value->Shared->Prop}{pins:List (Addr×Obj)}{s:Shared}{σ:St}{H:Hp}{x:Str}{u:Value}{pos:Pos}{Q:Value->Shared->Prop} (I:Inv X pins σ H s) (hg:Gl X x) (hm:X.mg x=some u) (h:Q u s)
  (hd:(x == ("__debug__":Str))=false:=by decide):wpAny (model X.prog X.w) X.A (eval (.Name x pos) X.env) Q E s :=
 Calls.Name_function_global I.ok.kind hg (Calls.loadGlobal_global (by rw[I.ok.glob];exact I.mod.glob.keeps I.bk) hm h) hd
theorem D4 {E:Value->Shared->Prop}{pins:List (Addr×Obj)}{s:Shared}{σ:St}{H:Hp}{x:Str}{u:Value}{pos:Pos}{Q:Value->Shared->Prop} (I:Inv X pins σ H s) (hg:Gl X x) (hm:X.mg x=none) (hv:bootBuiltins x=some u) (h:Q u s)
  (hn:x≠"__name__":=by decide) (hd:(x == ("__debug__":Str))=false:=by decide):wpAny (model X.prog X.w) X.A (eval (.Name x pos) X.env) Q E s:=by
 obtain⟨mb,h1,h2⟩:=I.mod.blt
 exact Calls.Name_function_global I.ok.kind hg (Calls.loadGlobal_builtin (by rw[I.ok.glob];exact I.mod.glob.keeps I.bk) hm (by rw[I.ok.blt];exact h1.keeps I.bk) ((h2 x hn).trans hv) h) hd
theorem Ac1 {x:Str}{v:V}{u:Value}{pos:Pos} (hg:Gl X x) (hm:X.mg x=some u) (r:RelV v u) (hd:(x == ("__debug__":Str))=false:=by decide):PE X (.Name x pos) (tC v) :=
 fun _ _ _ H _ I h=>U3 I hg hm ⟨v,H,I,r,h⟩ hd
theorem Ac0 {x:Str}{v:V}{u:Value}{pos:Pos} (hg:Gl X x) (hm:X.mg x=none) (hv:bootBuiltins x=some u) (r:RelV v u) (hn:x≠"__name__":=by decide) (hd:(x == ("__debug__":Str))=false:=by decide):PE X (.Name x pos) (tC v) :=
 fun _ _ _ H _ I h=>D4 I hg hm hv ⟨v,H,I,r,h⟩ hn hd
variable {a b:Expr}{ta tb:TE}{pos:Pos}
variable {tA tB':TT}{rest:List Expr}
noncomputable def Ale (t u:TT):TT:=fun σ H Q=>t σ H fun c H1=>if c=true then u σ H1 Q else Q false H1
noncomputable def tOr (t u:TT):TT:=fun σ H Q=>t σ H fun c H1=>if c=true then Q true H1 else u σ H1 Q
noncomputable def Aly (t:TT):TT:=fun σ H Q=>t σ H fun c H1=>Q (!c) H1
theorem Adp (ha:PT X a tA):PW X (.BoolOp .And [a] pos) tA:=by
 intro wh pins s σ H Q I h
 refine isTrue_and (thn (ha pins s σ H Q I h) fun c s1 e=>?_)
 cases c with
 |true=>exact isTrue_and_nil e
 |false=>exact e
theorem Ahc (ha:PT X a tA):PW X (.BoolOp .Or [a] pos) tA:=by
 intro wh pins s σ H Q I h
 refine isTrue_or (thn (ha pins s σ H Q I h) fun c s1 e=>?_)
 cases c with
 |false=>exact isTrue_or_nil e
 |true=>exact e
theorem Aha (ha:PT X a tA) (hb:PW X (.BoolOp .And (b::rest) pos) tB'):PW X (.BoolOp .And (a::b::rest) pos) (Ale tA tB'):=by
 intro wh pins s σ H Q I h
 refine isTrue_and (thn (ha pins s σ H _ I h) fun c s1 ⟨H1,I1,q1⟩=>?_)
 cases c with
 |true=>exact hb wh pins s1 σ H1 Q I1 q1
 |false=>exact⟨H1,I1,q1⟩
theorem Akj (ha:PT X a tA) (hb:PW X (.BoolOp .Or (b::rest) pos) tB'):PW X (.BoolOp .Or (a::b::rest) pos) (tOr tA tB'):=by
 intro wh pins s σ H Q I h
 refine isTrue_or (thn (ha pins s σ H _ I h) fun c s1 ⟨H1,I1,q1⟩=>?_)
 cases c with
 |true=>exact⟨H1,I1,q1⟩
 |false=>exact hb wh pins s1 σ H1 Q I1 q1
theorem Ag8 (ha:PT X a tA):PT X (.UnaryOp .Not a pos) (Aly tA):=by
 intro pins s σ H Q I h
 exact isTrue_not (ha pins s σ H (fun c H1=>Q (!c) H1) I h)
noncomputable def Aku (ta tb:TE):TE:=fun σ H Q=>ta σ H fun x H1=>∃ c,x=.bl c/\if c=true then tb σ H1 Q else Q (.bl false) H1
theorem Agw {op}{t:TE} (h:PE X a t):PE X (.BoolOp op [a] pos) t:=fun pins s σ H Q I hw=>BoolOp_one (h pins s σ H Q I hw)
theorem Agt (ha:PE X a ta) (hb:PE X (.BoolOp .And (b::rest) pos) tb):PE X (.BoolOp .And (a::b::rest) pos) (Aku ta tb):=by
 intro pins s σ H Q I h
 refine BoolOp_and (thn (ha pins s σ H _ I h) fun v s1 ⟨x,H1,I1,r1,q1⟩=>?_)
 obtain⟨c,rfl,q1⟩:=q1
 cases r1
 refine Aob ?_
 cases c with
 |true=>exact hb pins s1 σ H1 Q I1 q1
 |false=>exact⟨.bl false,H1,I1,rfl,q1⟩
noncomputable def tIf (t:TT) (ta tb:TE):TE:=fun σ H Q=>t σ H fun c H1=>if c=true then ta σ H1 Q else tb σ H1 Q
theorem Zn {c:Expr} (hc:PT X c tA) (ha:PE X a ta) (hb:PE X b tb):PE X (.IfExp c a b pos) (tIf tA ta tb):=by
 intro pins s σ H Q I h
 refine wpAny_IfExp (thn (hc pins s σ H _ I h) fun d s1 ⟨H1,I1,q1⟩=>?_)
 cases d with
 |true=>exact ha pins s1 σ H1 Q I1 q1
 |false=>exact hb pins s1 σ H1 Q I1 q1
end
def SqL (K:W.Frag) (H:Hp) (a:Addr) (xs:List V):Prop :=
 Rd H a (.lst xs) \/
  ∃ (o:Obj) (its:Array Value) (n:Nat),K.lookup a=some o/\o.cls=.type "list"/\o.dict=none/\o.data=.seq its n/\its.size<=sizeLine/\Vals xs its.toList
noncomputable def Alm:Value->Option V
 |.none=>some .non
 |.bool b=>some (.bl b)
 |.int i _=>some (.int i)
 |.str x _=>some (.str x)
 |.bytes b _=>some (.byt b)
 |.float b _=>some (.flt b)
 |.ref a=>some (.ref a)
 |.type n=>some (.ty n)
 |_=>none
theorem RelV.abs {x:V}{u:Value} (r:RelV x u):Alm u=some x:=by
 cases x with
 |non=>cases r;rfl
 |bl _=>cases r;rfl
 |int _=>obtain⟨t,rfl⟩:=r;rfl
 |str _=>obtain⟨t,rfl⟩:=r;rfl
 |byt _=>obtain⟨t,rfl⟩:=r;rfl
 |flt _=>obtain⟨t,rfl⟩:=r;rfl
 |ref _=>cases r;rfl
 |ty _=>cases r;rfl
theorem RelV.inj {x y:V}{u:Value} (r:RelV x u) (q:RelV y u):x=y:=Anf (r.abs.symm.trans q.abs)
theorem Vals.inj:∀ {xs ys:List V}{us:List Value},Vals xs us->Vals ys us->xs=ys
 |_,_,_,.nil,.nil=>rfl
 |_,_,_,.cons r t,.cons r' t'=>by rw[r.inj r',Vals.inj t t']
section
variable {X:Cx}{pins:List (Addr×Obj)}{σ:St}{H:Hp}{s:Shared}{a:Addr}{xs ys:List V}
theorem SqL.of {K:W.Frag} (h:H a=some (.lst xs)):SqL K H a xs:=.inl (.inl h)
inductive LstR (h:Heap) (a:Addr) (xs:List V):Prop where
 |mk (its:List Value) (r:Vals xs its) (p:PlainL h a its.toArray) (z:xs.length<=sizeLine)
inductive TupR (h:Heap) (a:Addr) (xs:List V):Prop where
 |mk (its:List Value) (r:Vals xs its) (p:IsTup h a its.toArray) (z:xs.length<=sizeLine)
theorem Inv.list (I:Inv X pins σ H s) (h:SqL X.K H a xs):LstR s.heap a xs:=by
 rcases h with h|⟨o,its,n,hk,hc,hd,hs,hz,r⟩
 ·obtain⟨z,its,n,r,e⟩:=h.ok I.hok
  exact⟨its,r,⟨_,n,e,rfl,rfl,rfl⟩,z⟩
 ·refine⟨its.toList,r,⟨o,n,I.kIn a o hk,hc,hd,by simpa using hs⟩,?_⟩
  have e:=r.length
  simp only[Amc] at e
  lia
theorem Inv.tuple (I:Inv X pins σ H s) (h:SqT X.K H a xs):TupR s.heap a xs:=by
 rcases h with h|⟨o,its,n,hk,hc,hs,hz,r,_⟩
 ·obtain⟨z,its,r,p⟩:=h.ok I.hok
  exact⟨its,r,p.is,z⟩
 ·refine⟨its.toList,r,⟨o,I.kIn a o hk,hc,n,by simpa using hs⟩,?_⟩
  have e:=r.length
  simp only[Amc] at e
  lia
theorem Inv.list_inj (I:Inv X pins σ H s) (h:SqL X.K H a xs) (h':SqL X.K H a ys):xs=ys:=by
 obtain⟨its,r,⟨o,n,e,_,_,d⟩,_⟩:=I.list h
 obtain⟨its',r',⟨o',n',e',_,_,d'⟩,_⟩:=I.list h'
 rw[e] at e';cases e'
 rw[d] at d'
 injection d' with d1 _
 have:its=its':=by simpa using Anw Array.toList d1
 subst this
 exact r.inj r'
theorem Inv.tuple_inj (I:Inv X pins σ H s) (h:SqT X.K H a xs) (h':SqT X.K H a ys):xs=ys:=by
 obtain⟨its,r,⟨o,e,_,n,d⟩,_⟩:=I.tuple h
 obtain⟨its',r',⟨o',e',_,n',d'⟩,_⟩:=I.tuple h'
 rw[e] at e';cases e'
 rw[d] at d'
 injection d' with d1 _
 have:its=its':=by simpa using Anw Array.toList d1
 subst this
 exact r.inj r'
end
abbrev Cx.wish (X:Cx) (E:Value->Shared->Prop):Cx:={ X with xe:=E }
abbrev Cx.nox (X:Cx):Cx:=X.wish fun _ _=>False
theorem Cx.Ok.wish {X:Cx} (ok:X.Ok) (E:Value->Shared->Prop):(X.wish E).Ok :=
 ⟨ok.mod,ok.kind,ok.glob,ok.blt,ok.above,ok.inj,ok.has,ok.cab,ok.hd,ok.frames,ok.stk,ok.exf,ok.bs,ok.bsz,ok.noex,ok.exfs,ok.funs,ok.frf⟩
theorem Cx.Ok.unwish {X:Cx}{E:Value->Shared->Prop} (ok:(X.wish E).Ok):X.Ok :=
 ⟨ok.mod,ok.kind,ok.glob,ok.blt,ok.above,ok.inj,ok.has,ok.cab,ok.hd,ok.frames,ok.stk,ok.exf,ok.bs,ok.bsz,ok.noex,ok.exfs,ok.funs,ok.frf⟩
section
variable {X:Cx}{pins:List (Addr×Obj)}{σ:St}{H:Hp}{s:Shared}{E:Value->Shared->Prop}
theorem Inv.wish (I:Inv X pins σ H s) (E:Value->Shared->Prop):Inv (X.wish E) pins σ H s:=⟨I.ok.wish E,I.os,I.bare,I.base,I.loc,I.cell,I.free,I.freeC,I.pin,I.hok,I.len⟩
theorem Inv.unwish (I:Inv (X.wish E) pins σ H s):Inv X pins σ H s:=⟨I.ok.unwish,I.os,I.bare,I.base,I.loc,I.cell,I.free,I.freeC,I.pin,I.hok,I.len⟩
theorem SP.unwish {D:Ends}{f:Flow}{s':Shared} (h:SP (X.wish E) pins D f s'):SP X pins D f s':=by
 cases f with
 |next=>obtain⟨σ',H',I,q⟩:=h;exact⟨σ',H',I.unwish,q⟩
 |brk=>obtain⟨σ',H',I,q⟩:=h;exact⟨σ',H',I.unwish,q⟩
 |cont=>obtain⟨σ',H',I,q⟩:=h;exact⟨σ',H',I.unwish,q⟩
 |ret u=>obtain⟨v,σ',H',I,r,q⟩:=h;exact⟨v,σ',H',I.unwish,r,q⟩
theorem PSs.nox {st:List Stmt}{t:TS} (h:PSs X.nox st t):PSs X st t:=fun pins s σ H D I hw =>
 An6 (h pins s σ H D (I.wish _) hw) (fun _ _ q=>q.unwish) fun _ _ z=>False.elim z
end
section
variable {X:Cx}{st:Stmt}{rest:List Stmt}{t u:TS}{e:Expr}{te:TE}{pos:Pos}
noncomputable def Akx:TS:=fun D σ H=>D.nx σ H
noncomputable def Alh (t u:TS):TS:=fun D σ H=>t { D with nx:=u D } σ H
theorem Adl:PSs X [] Akx:=fun _ _ σ H _ I h=>wpAny_execs_nil ⟨σ,H,I,h⟩
theorem Zx (h1:PS X st t) (h2:PSs X rest u):PSs X (st::rest) (Alh t u):=by
 intro pins s σ H D I h
 refine wpAny_execs_cons (thn (h1 pins s σ H { D with nx:=u D } I h) fun f s1 q=>?_)
 cases f with
 |next =>
  obtain⟨σ',H',I',q⟩:=q
  exact h2 pins s1 σ' H' D I' q
 |ret v=>exact q
 |brk=>exact q
 |cont=>exact q
theorem Adm (h1:PS X st t):PSs X [st] t:=by
 intro pins s σ H D I h
 refine wpAny_execs_cons (thn (h1 pins s σ H D I h) fun f s1 q=>?_)
 cases f with
 |next=>exact wpAny_execs_nil q
 |ret v=>exact q
 |brk=>exact q
 |cont=>exact q
theorem Inv.quiet {pins:List (Addr×Obj)}{σ:St}{H:Hp}{s:Shared} (I:Inv X pins σ H s):interactive X.env=false:=by simp[interactive,I.ok.kind]
noncomputable def Akw (te:TE):TS:=fun D σ H=>te σ H fun _ H1=>D.nx σ H1
theorem Adc (he:PE X e te) (hs:swapsWith e none pos.line X.env=pure false:=by rfl):PS X (.Expr e pos) (Akw te):=by
 intro pins s σ H D I h
 exact wpAny_Expr_any (thn (he pins s σ H _ I h) fun v s1 ⟨x,H1,I1,r1,q1⟩=>⟨σ,H1,I1,q1⟩) I.quiet hs
noncomputable def Alz (te:TE):TS:=fun D σ H=>te σ H D.rt
theorem Aa0 (he:PE X e te):PS X (.Return (some e) pos) (Alz te):=by
 intro pins s σ H D I h
 exact wpAny_Return_some (thn (he pins s σ H _ I h) fun v s1 ⟨x,H1,I1,r1,q1⟩=>⟨x,σ,H1,I1,r1,q1⟩)
noncomputable def Alw (c:TT) (t u:TS):TS:=fun D σ H=>c σ H fun b H1=>if b=true then t D σ H1 else u D σ H1
theorem Aki {c:Expr}{a b:List Stmt}{tc:TT} (hc:PT X c tc) (ha:PSs X a t) (hb:PSs X b u):PS X (.If c a b pos) (Alw tc t u):=by
 intro pins s σ H D I h
 refine wpAny_If (thn (hc pins s σ H _ I h) fun d s1 ⟨H1,I1,q1⟩=>?_)
 cases d with
 |true=>exact ha pins s1 σ H1 D I1 q1
 |false=>exact hb pins s1 σ H1 D I1 q1
end
abbrev TG:=V->St->Hp->(St->Hp->Prop)->Prop
abbrev TGs:=List V->St->Hp->(St->Hp->Prop)->Prop
def PG (X:Cx) (target:Expr) (t:TG):Prop :=
 ∀ (pins:List (Addr×Obj)) (s:Shared) (σ:St) (H:Hp) (v:V) (u:Value) (Q:St->Hp->Prop),Inv X pins σ H s->RelV v u->t v σ H Q ->
  wpAny (model X.prog X.w) X.A (assign target X.env u) (fun _ s'=>∃ σ' H',Inv X pins σ' H' s'/\Q σ' H') X.xe s
def PGs (X:Cx) (ts:List Expr) (t:TGs):Prop :=
 ∀ (pins:List (Addr×Obj)) (s:Shared) (σ:St) (H:Hp) (vs:List V) (us:List Value) (Q:St->Hp->Prop),Inv X pins σ H s->Vals vs us->t vs σ H Q ->
  wpAny (model X.prog X.w) X.A (assignInOrder ((assignEach ts X.env).map (·.2)) us) (fun _ s'=>∃ σ' H',Inv X pins σ' H' s'/\Q σ' H') X.xe s
section
variable {X:Cx}{pos:Pos}
noncomputable def Ur (i:Nat):TG:=fun v σ H Q=>Q (σ.set i (some v)) H
theorem Ac6 {i:Nat}{x:Str} (hN:X.N.Nodup) (hi:X.N[i]?=some x) (hx:Loc X.env.scope x) (hf:X.fn x=true\/X.env.scope.names.lookup x=some .local:=by first|exact .inl rfl|exact .inr rfl|assumption):PG X (.Name x pos) (Ur i):=by
 intro pins s σ H v u Q I r h
 exact wpAny_assign_Name (Rq I hN hi hx r (fun s' I'=>⟨_,H,I',h⟩) hf)
noncomputable def Alo:TGs:=fun vs σ H Q=>vs=[]/\Q σ H
noncomputable def Aji (t:TG) (u:TGs):TGs:=fun vs σ H Q=>∃ v r,vs=v::r/\t v σ H fun σ' H'=>u r σ' H' Q
theorem Ac8:PGs X [] Alo:=by
 intro pins s σ H vs us Q I r h
 obtain⟨e,h⟩:=h
 subst e
 cases r
 exact assignInOrder_nil ⟨σ,H,I,h⟩
theorem Zp {e:Expr}{es:List Expr}{t:TG}{u:TGs} (h1:PG X e t) (h2:PGs X es u)
  (hs:(assignEach (e::es) X.env).map (·.2)=assign e X.env::(assignEach es X.env).map (·.2):=by rfl):PGs X (e::es) (Aji t u):=by
 intro pins s σ H vs us Q I r h
 obtain⟨v,vr,e1,h⟩:=h
 subst e1
 cases r with
 |cons r rr =>
  rw[hs]
  refine assignInOrder_cons (thn (h1 pins s σ H _ _ _ I r h) fun _ s1 ⟨σ1,H1,I1,q1⟩=>?_)
  exact h2 pins s1 σ1 H1 _ _ Q I1 rr q1
noncomputable def Alp (K:W.Frag) (n:Nat) (t:TGs):TG:=fun v σ H Q=>∃ a xs,v=.ref a/\SqT K H a xs/\xs.length=n/\t xs σ H Q
theorem Ag3 {es:List Expr}{k:Nat}{t:TGs}{n:Nat} (hc:X.calm=true) (h:PGs X es t)
  (hn:(assignEach es X.env).length=n:=by rfl) (hst:(assignEach es X.env).findIdx? (·.1)=none:=by rfl):PG X (.Tuple es k pos) (Alp X.K n t):=by
 intro pins s σ H v u Q I r hw
 obtain⟨a,xs,e1,hq,hl,hw⟩:=hw
 subst e1
 cases r
 obtain⟨its,rv,ht,hz⟩:=I.tuple hq
 refine assign_Tuple_tuple (I.ok.hd hc) ht (by simp[hn,<- hl,rv.length]) hst fun h' hx=>?_
 have I1:Inv X pins σ H { s with heap:=h' }:=I.kept (t':=s.toks) fun b o e=>hx b o (Ams (Al9 e)) e
 exact h pins _ σ H xs _ Q I1 (by simpa using rv) hw
noncomputable def Ahz (te:TE) (g:TG):TS:=fun D σ H=>te σ H fun x H1=>g x σ H1 D.nx
theorem Ag5 {tg e:Expr}{te:TE}{g:TG} (he:PE X e te) (hg:PG X tg g) (hs:swapsWithSole [tg] e pos.line X.env=pure false:=by rfl) (hw:swappedStores [tg] e X.env=pure none:=by rfl)
  (h1:(assignEach [tg] X.env).map (·.2)=[assign tg X.env]:=by rfl):PS X (.Assign [tg] e pos) (Ahz te g):=by
 intro pins s σ H D I h
 refine wpAny_Assign_stores (thn (he pins s σ H _ I h) fun v s1 ⟨x,H1,I1,r1,q1⟩=>?_) hs hw
 rw[h1]
 exact thn (hg pins s1 σ H1 x v _ I1 r1 q1) fun _ s2 q=>q
theorem Aa1 {i:Nat}{x:Str}{e:Expr}{te:TE}{pos':Pos} (hN:X.N.Nodup) (hi:X.N[i]?=some x) (hx:Loc X.env.scope x) (he:PE X e te) (hs:swapsWith e (some (.Name x pos')) pos.line X.env=pure false:=by rfl) (hf:X.fn x=true\/X.env.scope.names.lookup x=some .local:=by first|exact .inl rfl|exact .inr rfl|assumption) :
  PS X (.Assign [.Name x pos'] e pos) (Ahz te (Ur i)):=by
 intro pins s σ H D I h
 refine wpAny_Assign_Name (thn (he pins s σ H _ I h) fun v s1 ⟨y,H1,I1,r1,q1⟩=>?_) hs
 exact Rq I1 hN hi hx r1 (fun s2 I2=>⟨_,H1,I2,q1⟩) hf
end
section
variable {X:Cx}{pos:Pos}
end
structure It where
 go:Nat->Hp->Prop
 yld:Nat->Hp->V->Hp->Prop
 stop:Nat->Hp->Prop
def Aag (X:Cx) (pins:List (Addr×Obj)) (H:Hp) (b:Addr):Prop :=
 H b=none/\b≠X.env.locals/\b∉X.fs/\(b∈X.ex\/X.s₀.heap.objs.size<=b)/\(∀ x c,X.env.cells.lookup x=some c->c≠b)/\∀ p∈X.pn++pins,p.1≠b
theorem Inv.fpOk {X:Cx}{pins:List (Addr×Obj)}{σ:St}{H H':Hp}{s:Shared}{b:Addr} (I:Inv X pins σ H s) (hb:s.heap.objs.size<=b) (hn:H' b=none):Aag X pins H' b:=by
 refine⟨hn,Aoy (Amj I.lt hb),I.nofs hb,.inr (Amv I.sz hb),fun x c e z=>?_,fun p hp z=>?_⟩
 ·obtain⟨v,q⟩:=I.cell x c e
  exact absurd (Amj q.lt (by rw[z];exact hb)) (Am3 _)
 ·exact absurd (Amj (Al9 (I.pin p hp).1) (by rw[z];exact hb)) (Am3 _)
structure Turn (P:Program) (w:World) (K:W.Frag) (tg:Expr) (J:It) (fp:List Addr) (it:Addr) (tn:Nat->Heap->Prop):Prop where
 mem:it∈fp
 obj:∀ i h,tn i h->∀ b∈fp,∃ o,h.get? b=some o/\∀ v,o.data≠.cell v
 keep:∀ i h h',tn i h->(∀ b∈fp,∀ o,h.get? b=some o->h'.get? b=some o)->tn i h'
 item:∀ (X:Cx),X.prog=P->X.w=w->X.K=K->X.calm=true->∀ (i:Nat) (pins:List (Addr×Obj)) (s:Shared) (σ:St) (H:Hp) (E:Value->Shared->Prop),Inv X pins σ H s->(∀ b∈fp,Aag X pins H b)->tn i s.heap->J.go i H ->
  wpAny (model P w) X.A (pyNext (.ref it)) (fun r s1=>∃ u,r=some u /\
   wpAny (model P w) X.A (letOwnedTupleGo tg (.ref it) u) (fun _ s2=>∃ x H',Inv X pins σ H' s2/\RelV x u/\J.yld i H x H'/\tn (i+1) s2.heap/\∀ b∈fp,H' b=none) E s1) E s
 done:∀ (X:Cx),X.prog=P->X.w=w->X.K=K->X.calm=true->∀ (i:Nat) (pins:List (Addr×Obj)) (s:Shared) (σ:St) (H:Hp) (E:Value->Shared->Prop),Inv X pins σ H s->(∀ b∈fp,Aag X pins H b)->tn i s.heap->J.stop i H ->
  wpAny (model P w) X.A (pyNext (.ref it)) (fun r s1=>r=none/\Inv X pins σ H s1) E s
 self:∀ (A:Around) (i:Nat) (s:Shared) (Q:Value->Shared->Prop) (E:Value->Shared->Prop),tn i s.heap->Q (.ref it) s->wpAny (model P w) A (pyIter (.ref it)) Q E s
abbrev TI:=St->Hp->(It->Hp->Prop)->Prop
def PIE (X:Cx) (pins:List (Addr×Obj)) (σ:St) (tg:Expr) (R:It->Hp->Prop) (itv:Value) (s2:Shared):Prop :=
 ∃ (it:Addr) (fp:List Addr) (tn:Nat->Heap->Prop) (J:It) (H':Hp),itv=.ref it/\Inv X pins σ H' s2/\Turn X.prog X.w X.K tg J fp it tn/\tn 0 s2.heap/\(∀ b∈fp,Aag X pins H' b)/\R J H'
def PI (X:Cx) (tg iter:Expr) (wi:TI):Prop :=
 ∀ (pins:List (Addr×Obj)) (s:Shared) (σ:St) (H:Hp) (R:It->Hp->Prop),Inv X pins σ H s->wi σ H R ->
  wpAny (model X.prog X.w) X.A (eval iter X.env) (fun v s1=>wpAny (model X.prog X.w) X.A (pyIter v) (PIE X pins σ tg R) X.xe s1) X.xe s
theorem Yz {M:Model}{A:Around}{E:Value->Shared->Prop}{s:Shared}{tg:Expr}{it:Addr}{u:Value}{o:Obj}{n:String}{vs:Array Value}{Q:Unit->Shared->Prop} (ho:s.heap.get? it=some o) (hc:o.cls=.type n) (hd:o.data=.fields vs)
  (hn:["enumerate","zip","dict_itemiterator","dict_reverseitemiterator","odict_iterator","itertools.zip_longest","itertools.pairwise"].contains n=false) (hQ:Q () s):wpAny M A (letOwnedTupleGo tg (.ref it) u) Q E s:=by
 unfold letOwnedTupleGo
 cases tg<;>first
  |exact Al3 hQ
  |(cases u<;>first
    |exact Al3 hQ
    |(refine Al2 (wpAny_load ho ?_)
      rw[hc,hd]
      show wpAny M A (if (["enumerate","zip","dict_itemiterator","dict_reverseitemiterator","odict_iterator","itertools.zip_longest","itertools.pairwise"].contains n&&vs[0]? == some (rawInt _))=true then _ else _) Q E s
      rw[Aml (by intro h;rw[hn,Aot] at h;cases h)]
      exact Al3 hQ))
noncomputable def Itl (K:W.Frag) (a:Addr):It :=
 ⟨fun i H=>∃ xs x,SqL K H a xs/\xs[i]?=some x,fun i H x H'=>H'=H/\∀ xs,SqL K H a xs->xs[i]?=some x,fun i H=>∃ xs,SqL K H a xs/\xs.length<=i⟩
noncomputable def Itt (K:W.Frag) (a:Addr):It :=
 ⟨fun i H=>∃ xs x,SqT K H a xs/\xs[i]?=some x,fun i H x H'=>H'=H/\∀ xs,SqT K H a xs->xs[i]?=some x,fun i H=>∃ xs,SqT K H a xs/\xs.length<=i⟩
noncomputable def Itr (lo:Int) (n:Nat):It:=⟨fun i _=>i < n,fun i H x H'=>H'=H/\x=.int (lo+i),fun i _=>n<=i⟩
theorem Xc {P:Program}{w:World}{K:W.Frag}{tg:Expr} (a it:Addr):Turn P w K tg (Itl K a) [it] it (fun i h=>h.IsListIter it a i) where
 mem:=by simp
 obj:=fun i h st b hb=>by
  have e:b=it:=by simpa using hb
  subst e
  obtain⟨o,e,c,d⟩:=st
  exact⟨o,e,fun v z=>by rw[d] at z;cases z⟩
 keep:=fun i h h' st k=>st.at fun o e=>k it (by simp) o e
 item:=by
  intro X hP hw hK hc i pins s σ H E I hf st hg
  subst hP hw hK
  obtain⟨xs,x,hq,hx⟩:=hg
  obtain⟨its,rv,p,hz⟩:=I.list hq
  obtain⟨u,hu,ru⟩:=rv.get hx
  obtain⟨f0,f1,f2,f3,f4,f5⟩:=hf it (by simp)
  refine wpAny_pyNext_list_item st p.isList (x:=u) (by simpa using hu) fun h' st' sb=>?_
  have I1:Inv X pins σ H { s with heap:=h' }:=I.turned (t':=s.toks) (fun b o hb e=>(sb.2 b hb).trans e) f0 f1 f3 f4 f5
  obtain⟨o,e,c,d⟩:=id st'
  exact⟨u,rfl,Yz (s:={ s with heap:=h' }) e c d (by decide) ⟨x,H,I1,ru,⟨rfl,fun ys hy=>by rw[I.list_inj hy hq];exact hx⟩,st',fun b hb=>(hf b hb).1⟩⟩
 done:=by
  intro X hP hw hK hc i pins s σ H E I hf st hg
  subst hP hw hK
  obtain⟨xs,hq,hx⟩:=hg
  obtain⟨its,rv,p,hz⟩:=I.list hq
  obtain⟨f0,f1,f2,f3,f4,f5⟩:=hf it (by simp)
  have hl:=rv.length
  exact wpAny_pyNext_list_end (I.ok.hd hc) st p.isList (by simp;lia) fun h' eb=>⟨rfl,I.turned (t':=s.toks) (fun b o hb e=>eb b o hb e) f0 f1 f3 f4 f5⟩
 self:=fun _ _ _ _ _ st h=>wpAny_pyIter_listiter st h
theorem Ts {P:Program}{w:World}{K:W.Frag}{tg:Expr} (a it:Addr):Turn P w K tg (Itt K a) [it] it (fun i h=>h.IsTupleIter it a i) where
 mem:=by simp
 obj:=fun i h st b hb=>by
  have e:b=it:=by simpa using hb
  subst e
  obtain⟨o,e,c,d⟩:=st
  exact⟨o,e,fun v z=>by rw[d] at z;cases z⟩
 keep:=fun i h h' st k=>st.at fun o e=>k it (by simp) o e
 item:=by
  intro X hP hw hK hc i pins s σ H E I hf st hg
  subst hP hw hK
  obtain⟨xs,x,hq,hx⟩:=hg
  obtain⟨its,rv,p,hz⟩:=I.tuple hq
  obtain⟨u,hu,ru⟩:=rv.get hx
  obtain⟨f0,f1,f2,f3,f4,f5⟩:=hf it (by simp)
  refine wpAny_pyNext_tuple_item st (show s.heap.IsTuple a its.toArray from p) (x:=u) (by simpa using hu) fun h' st' sb=>?_
  have I1:Inv X pins σ H { s with heap:=h' }:=I.turned (t':=s.toks) (fun b o hb e=>(sb.2 b hb).trans e) f0 f1 f3 f4 f5
  obtain⟨o,e,c,d⟩:=id st'
  exact⟨u,rfl,Yz (s:={ s with heap:=h' }) e c d (by decide) ⟨x,H,I1,ru,⟨rfl,fun ys hy=>by rw[I.tuple_inj hy hq];exact hx⟩,st',fun b hb=>(hf b hb).1⟩⟩
 done:=by
  intro X hP hw hK hc i pins s σ H E I hf st hg
  subst hP hw hK
  obtain⟨xs,hq,hx⟩:=hg
  obtain⟨its,rv,p,hz⟩:=I.tuple hq
  obtain⟨f0,f1,f2,f3,f4,f5⟩:=hf it (by simp)
  have hl:=rv.length
  exact wpAny_pyNext_tuple_end (I.ok.hd hc) st (show s.heap.IsTuple a its.toArray from p) (by simp;lia) fun h' eb=>⟨rfl,I.turned (t':=s.toks) (fun b o hb e=>eb b o hb e) f0 f1 f3 f4 f5⟩
 self:=fun _ _ _ _ _ st h=>wpAny_pyIter_tupleiter st h
theorem Tr {P:Program}{w:World}{K:W.Frag}{tg:Expr} (it:Addr) (lo:Int) (n:Nat):Turn P w K tg (Itr lo n) [it] it (fun i h=>IsRangeIter h it (lo+(i:Nat) * 1) ((n:Int) - (i:Nat)) 1) where
 mem:=by simp
 obj:=fun i h st b hb=>by
  have e:b=it:=by simpa using hb
  subst e
  exact⟨_,st,fun v z=>by
   have z':Data.fields _=Data.cell v:=z
   cases z'⟩
 keep:=fun i h h' st k=>k it (by simp) _ st
 item:=by
  intro X hP hw hK hc i pins s σ H E I hf st hg
  subst hP hw hK
  obtain⟨f0,f1,f2,f3,f4,f5⟩:=hf it (by simp)
  have W:=Walks.range (prog:=X.prog) (w:=X.w) (I.ok.hd hc) it lo 1 n
  refine W.item i s _ _ hg st fun v h' tk hv st' kk=>?_
  obtain⟨t,rfl⟩:=hv
  have I1:Inv X pins σ H { s with heap:=h',toks:=tk }:=I.turned (fun b o hb e=>kk b o (by simpa using hb) e) f0 f1 f3 f4 f5
  refine⟨_,rfl,Yz (s:={ s with heap:=h',toks:=tk }) (n:="range_iterator") st' rfl rfl (by decide) ⟨.int (lo+i),H,I1,⟨t,?_⟩,⟨rfl,rfl⟩,st',fun b hb=>(hf b hb).1⟩⟩
  rw[Int.mul_one]
 done:=by
  intro X hP hw hK hc i pins s σ H E I hf st hg
  subst hP hw hK
  obtain⟨f0,f1,f2,f3,f4,f5⟩:=hf it (by simp)
  exact wpAny_pyNext_range_end (I.ok.hd hc) st (by have:n<=i:=hg;lia) fun h' eb=>⟨rfl,I.turned (t':=s.toks) (fun b o hb e=>eb b o hb e) f0 f1 f3 f4 f5⟩
 self:=fun _ _ _ _ _ st h=>wpAny_pyIter_rangeiter st h
section
variable {X:Cx}{tg:Expr}
theorem Z1 {pins:List (Addr×Obj)}{σ:St}{H:Hp}{s:Shared}{R:It->Hp->Prop}{E:Value->Shared->Prop}{lo hi:Int}{t u v:Tok}{tk:Nat} (I:Inv X pins σ H s) (h1:-(2 ^ 62)<=lo) (h2:lo < 2 ^ 62) (h3:-(2 ^ 62)<=hi) (h4:hi < 2 ^ 62)
  (q:R (Itr lo (hi - lo).toNat) H):wpAny (model X.prog X.w) X.A (pyIter (.ref s.heap.objs.size)) (PIE X pins σ tg R) E { s with heap:=s.heap.push { cls:=.type "range",data:=.fields #[.int lo t,.int hi u,.int 1 v] },toks:=tk }:=by
 refine wpAny_pyIter_range (IsRange.new ..) (small_one h1 h2 h3 h4) ?_
 have I1:Inv X pins σ H { s with heap:=s.heap.push { cls:=.type "range",data:=.fields #[.int lo t,.int hi u,.int 1 v] },toks:=tk }:=I.kept fun b o e=>Al5 _ e
 refine⟨(s.heap.push { cls:=.type "range",data:=.fields #[.int lo t,.int hi u,.int 1 v] }).objs.size,[(s.heap.push { cls:=.type "range",data:=.fields #[.int lo t,.int hi u,.int 1 v] }).objs.size],_,_,H,rfl,
  I1.kept (t':=tk) fun b o e=>Al5 _ e,Tr _ lo (hi - lo).toNat,?_,fun b hb=>?_,q⟩
 ·have e1:lo+((0:Nat):Int) * 1=lo:=by simp
  have e2:(((hi - lo).toNat:Nat):Int) - ((0:Nat):Int)=Builtin.Range.rangeSize lo hi 1:=by rw[rangeSize_one];split<;>lia
  show IsRangeIter _ _ (lo+((0:Nat):Int) * 1) ((((hi - lo).toNat:Nat):Int) - ((0:Nat):Int)) 1
  rw[e1,e2]
  exact Amp _ rfl
 ·have e:b=(s.heap.push { cls:=.type "range",data:=.fields #[.int lo t,.int hi u,.int 1 v] }).objs.size:=by simpa using hb
  subst e
  exact I1.fpOk (Al7 _) (I1.hok.fresh (Al7 _))
def Ajt (ta:TA):TI:=fun σ H R=>ta σ H fun vs H1=>∃ j:Int,vs=[.int j]/\-(2 ^ 62)<=j/\j < 2 ^ 62/\R (Itr 0 j.toNat) H1
theorem Vp {a:Expr}{ta:TA}{p pos:Pos} (hg:Gl X "range") (hm:X.mg "range"=none) (ha:PA X [a] ta) (hs:starEach [a] X.env=[(false,eval a X.env)]:=by rfl):PI X tg (.Call (.Name "range" p) [a] [] pos) (Ajt ta):=by
 intro pins s σ H R I h
 refine Call_ (D4 I hg hm boot_range (PyProof.Rows.callWith_type1 (thn (ha pos pins s σ H _ I h) fun us s1 ⟨vs,H1,I1,r1,q1⟩=>?_) hs rfl))
 obtain⟨j,e,q1,q2,q⟩:=q1
 subst e
 cases r1 with
 |cons r rr =>
  cases rr
  obtain⟨t,rfl⟩:=r
  exact call_range_1 (Z1 I1 (by lia) (by lia) q1 q2 (by simpa using q))
noncomputable def Alv (wi:TI) (g:TG) (tb:TS):TS:=fun D σ H=>wi σ H fun J H1=>∃ W:Nat->Nat->St->Hp->Prop,(∃ m,W 0 m σ H1)/\∀ i m σ H,W i m σ H ->
 (J.stop i H/\D.nx σ H)\/(J.go i H/\∃ N:St->Hp->Prop,(∀ σ' H',N σ' H'->∃ m',m' < m/\W (i+1) m' σ' H')/\∀ x H',J.yld i H x H'->g x σ H' fun σ2 H2=>tb { D with nx:=N,ct:=N,bk:=D.nx } σ2 H2)
noncomputable def Mu (fp:List Addr) (h:Heap):List (Addr×Obj):=fp.filterMap fun b=>(h.get? b).map fun o=>(b,o)
theorem Ek {fp:List Addr}{h:Heap}{b:Addr}{o:Obj} (hb:b∈fp) (e:h.get? b=some o):(b,o)∈Mu fp h:=List.mem_filterMap.mpr ⟨b,hb,by rw[e];rfl⟩
theorem Vg {fp:List Addr}{h:Heap}{p:Addr×Obj} (hp:p∈Mu fp h):p.1∈fp/\h.get? p.1=some p.2:=by
 obtain⟨b,hb,e⟩:=List.mem_filterMap.mp hp
 cases q:h.get? b with
 |none=>rw[q] at e;cases e
 |some o =>
  rw[q] at e
  have e':(b,o)=p:=Anf e
  subst e'
  exact⟨hb,q⟩
theorem Inv.pinned {pins:List (Addr×Obj)}{σ:St}{H:Hp}{s:Shared}{fp:List Addr} (I:Inv X pins σ H s) (hf:∀ b∈fp,Aag X pins H b) (ho:∀ b∈fp,∃ o,s.heap.get? b=some o/\∀ v,o.data≠.cell v):Inv X (pins++Mu fp s.heap) σ H s :=
 I.pins_of fun p hp=>(List.mem_append.mp hp).elim (fun z=>I.pin p (Amu _ z)) fun z=>by
  obtain⟨hb,e⟩:=Vg z
  obtain⟨f0,f1,f2,_⟩:=hf p.1 hb
  obtain⟨o,e',d⟩:=ho p.1 hb
  rw[e] at e';cases e'
  exact⟨e,f0,f1,f2,d⟩
theorem Inv.unpinned {pins pl:List (Addr×Obj)}{σ:St}{H:Hp}{s:Shared} (I:Inv X (pins++pl) σ H s):Inv X pins σ H s:=I.pins_of fun p hp=>I.pin p (Amu _ (Ana _ hp))
theorem Ag6 {iter:Expr}{body:List Stmt}{wi:TI}{g:TG}{tb:TS}{pos:Pos} (hp:PassesOwn (model X.prog X.w) X.A X.env X.xe) (hc:X.calm=true) (hi:PI X tg iter wi) (hg:PG X tg g) (hb:PSs X body tb)
  (hs:∀ x,foldedSetIterable iter X.env x=pure x:=by intro _;rfl):PS X (.For tg iter body [] pos) (Alv wi g tb):=by
 intro pins s σ H D I h
 refine wpAny_For (thn (hi pins s σ H _ I h) fun v s1 h1=>thn h1 fun itv s2 h2=>?_) hs
 obtain⟨it,fp,tn,J,H2,e,I2,T,st2,f2,W,⟨m0,w0⟩,turn⟩:=h2
 subst e
 -- what stays true of the iterator's objects through the loop
 have stat:∀ {H':Hp},(∀ b∈fp,H' b=none)->∀ b∈fp,Aag X pins H' b:=fun hn b hb=>⟨hn b hb,(f2 b hb).2⟩
 refine codeAny_forLoop_any (fun n s'=>∃ i σ' H',Inv X pins σ' H' s'/\tn i s'.heap/\(∀ b∈fp,H' b=none)/\W i n σ' H') ?_ m0 ⟨0,σ,H2,I2,st2,fun b hb=>(f2 b hb).1,w0⟩
 rintro n s3 ⟨i,σ3,H3,I3,st3,fr3,w3⟩
 rcases turn i n σ3 H3 w3 with ⟨stop,qn⟩|⟨go,N,hN,step⟩
 ·refine Aou hp (thn (T.done X rfl rfl rfl hc i pins s3 σ3 H3 X.xe I3 (stat fr3) st3 stop) fun r s4 ⟨hr,I4⟩=>?_)
  subst hr
  exact wpAny_execs_nil ⟨σ3,H3,I4,qn⟩
 ·refine Aou hp (thn (T.item X rfl rfl rfl hc i pins s3 σ3 H3 X.xe I3 (stat fr3) st3 go) fun r s4 ⟨u,hr,h4⟩=>?_)
  subst hr
  refine Aou hp (thn h4 fun _ s5 ⟨x,H5,I5,r5,y5,st5,fr5⟩=>?_)
  have I5':=I5.pinned (stat fr5) (T.obj _ _ st5)
  refine Aou hp (thn (hg _ s5 σ3 H5 x u _ I5' r5 (step x H5 y5)) fun _ s6 ⟨σ6,H6,I6,q6⟩=>?_)
  refine Aou hp (thn (hb _ s6 σ6 H6 _ I6 q6) fun f s7 q7=>?_)
  have again:∀ {σ7:St}{H7:Hp},Inv X (pins++Mu fp s5.heap) σ7 H7 s7->N σ7 H7->∃ m,m < n/\∃ i σ' H',Inv X pins σ' H' s7/\tn i s7.heap/\(∀ b∈fp,H' b=none)/\W i m σ' H':=fun {σ7 H7} I7 n7=>by
   obtain⟨m',hm,w7⟩:=hN σ7 H7 n7
   refine⟨m',hm,i+1,σ7,H7,I7.unpinned,T.keep _ _ _ st5 fun b hb o e=>(I7.pin (b,o) (Amu _ (Amu _ (Ek hb e)))).1,fun b hb=>?_,w7⟩
   obtain⟨o,e,d⟩:=T.obj _ _ st5 b hb
   exact (I7.pin (b,o) (Amu _ (Amu _ (Ek hb e)))).2.1
  cases f with
  |next=>obtain⟨σ7,H7,I7,n7⟩:=q7;exact again I7 n7
  |cont=>obtain⟨σ7,H7,I7,n7⟩:=q7;exact again I7 n7
  |brk=>obtain⟨σ7,H7,I7,q7⟩:=q7;exact⟨σ7,H7,I7.unpinned,q7⟩
  |ret v=>obtain⟨x7,σ7,H7,I7,r7,q7⟩:=q7;exact⟨x7,σ7,H7,I7.unpinned,r7,q7⟩
end
abbrev R2:=V->V->Hp->VK->Prop
def OpR (X:Cx) (f:Value->Value->Sem Value) (r:R2):Prop :=
 ∀ (pins:List (Addr×Obj)) (s:Shared) (σ:St) (H:Hp) (x y:V) (v u:Value) (Q:VK),Inv X pins σ H s->RelV x v->RelV y u->r x y H Q ->
  wpAny (model X.prog X.w) X.A (f v u) (EP X pins σ Q) X.xe s
def UnR (X:Cx) (f:Value->Sem Value) (r:V->Hp->VK->Prop):Prop :=
 ∀ (pins:List (Addr×Obj)) (s:Shared) (σ:St) (H:Hp) (x:V) (v:Value) (Q:VK),Inv X pins σ H s->RelV x v->r x H Q ->
  wpAny (model X.prog X.w) X.A (f v) (EP X pins σ Q) X.xe s
def Tw (X:Cx) (f:Value) (r:List V->Hp->VK->Prop):Prop :=
 ∀ (pins:List (Addr×Obj)) (s:Shared) (σ:St) (H:Hp) (xs:List V) (us:List Value) (Q:VK),Inv X pins σ H s->Vals xs us->r xs H Q ->
  wpAny (model X.prog X.w) X.A (call f us) (EP X pins σ Q) X.xe s
def Alj (X:Cx) (r:V->Hp->(Bool->Hp->Prop)->Prop):Prop :=
 ∀ (pins:List (Addr×Obj)) (s:Shared) (σ:St) (H:Hp) (x:V) (v:Value) (Q:Bool->Hp->Prop),Inv X pins σ H s->RelV x v->r x H Q ->
  wpAny (model X.prog X.w) X.A (truthy v) (TP X pins σ Q) X.xe s
noncomputable def tOp (r:R2) (ta tb:TE):TE:=fun σ H Q=>ta σ H fun x H1=>tb σ H1 fun y H2=>r x y H2 Q
noncomputable def tUn (r:V->Hp->VK->Prop) (ta:TE):TE:=fun σ H Q=>ta σ H fun x H1=>r x H1 Q
noncomputable def rI (C:Int->Int->Prop) (g:Int->Int->V):R2:=fun x y H Q=>∃ i j,x=.int i/\y=.int j/\C i j/\Q (g i j) H
noncomputable def rI0 (g:Int->Int->V):R2:=fun x y H Q=>∃ i j,x=.int i/\y=.int j/\Q (g i j) H
def rU (g:Int->V):V->Hp->VK->Prop:=fun x H Q=>∃ i,x=.int i/\Q (g i) H
section
variable {X:Cx}{a b c:Expr}{ta tb tc:TE}{pos:Pos}
theorem Ak1 (ha:PE X a ta) (hb:PE X b tb) {pins:List (Addr×Obj)}{s:Shared}{σ:St}{H:Hp}{R:V->V->Hp->Prop} (I:Inv X pins σ H s)
  (h:ta σ H fun x H1=>tb σ H1 fun y H2=>R x y H2) {Q:Value->Shared->Prop}{f:Value->Value->Sem Value}
  (hf:∀ v u s2 x y H2,Inv X pins σ H2 s2->RelV x v->RelV y u->R x y H2->wpAny (model X.prog X.w) X.A (f v u) Q X.xe s2) :
  wpAny (model X.prog X.w) X.A (eval a X.env) (fun v s₁=>wpAny (model X.prog X.w) X.A (eval b X.env) (fun u s₂=>wpAny (model X.prog X.w) X.A (f v u) Q X.xe s₂) X.xe s₁) X.xe s:=by
 refine thn (ha pins s σ H _ I h) fun v s1 ⟨x,H1,I1,r1,q1⟩=>?_
 refine thn (hb pins s1 σ H1 _ I1 q1) fun u s2 ⟨y,H2,I2,r2,q2⟩=>?_
 exact hf v u s2 x y H2 I2 r1 r2 q2
theorem Agx {op:Operator}{r:R2} (ho:OpR X (binaryOp op) r) (ha:PE X a ta) (hb:PE X b tb):PE X (.BinOp a op b pos) (tOp r ta tb):=by
 intro pins s σ H Q I h
 exact wpAny_BinOp (Ak1 ha hb I h fun v u s2 x y H2 I2 rx ry q=>ho pins s2 σ H2 x y v u Q I2 rx ry q)
theorem Akg {op:UnaryOp}{r:V->Hp->VK->Prop} (ho:UnR X (unaryOp op) r) (ha:PE X a ta):PE X (.UnaryOp op a pos) (tUn r ta):=by
 intro pins s σ H Q I h
 exact UnaryOp_ (thn (ha pins s σ H _ I h) fun v s1 ⟨x,H1,I1,r1,q1⟩=>ho pins s1 σ H1 x v Q I1 r1 q1)
theorem opI {f:Value->Value->Sem Value}{C:Int->Int->Prop}{g:Int->Int->Int}
  (rule:∀ (i j:Int) (t u:Tok) (s:Shared) (Q:Value->Shared->Prop) (E:Value->Shared->Prop),C i j->Q (.int (g i j) s.toks) { s with toks:=s.toks+1 }->wpAny (model X.prog X.w) X.A (f (.int i t) (.int j u)) Q E s) :
  OpR X f (rI C fun i j=>.int (g i j)):=by
 intro pins s σ H x y v u Q I rx ry h
 obtain⟨i,j,rfl,rfl,hc,q⟩:=h
 obtain⟨t,rfl⟩:=rx
 obtain⟨t',rfl⟩:=ry
 exact rule i j t t' s _ _ hc ⟨.int (g i j),H,I.tok _,⟨_,rfl⟩,q⟩
theorem Ak7 {f:Value->Value->Sem Value}{g:Int->Int->Int}
  (rule:∀ (i j:Int) (t u:Tok) (s:Shared) (Q:Value->Shared->Prop) (E:Value->Shared->Prop),Q (.int (g i j) s.toks) { s with toks:=s.toks+1 }->wpAny (model X.prog X.w) X.A (f (.int i t) (.int j u)) Q E s) :
  OpR X f (rI0 fun i j=>.int (g i j)):=by
 intro pins s σ H x y v u Q I rx ry h
 obtain⟨i,j,rfl,rfl,q⟩:=h
 obtain⟨t,rfl⟩:=rx
 obtain⟨t',rfl⟩:=ry
 exact rule i j t t' s _ _ ⟨.int (g i j),H,I.tok _,⟨_,rfl⟩,q⟩
theorem Aj4 {f:Value->Value->Sem Value}{g:Int->Int->Bool}
  (rule:∀ (i j:Int) (t u:Tok) (s:Shared) (Q:Value->Shared->Prop) (E:Value->Shared->Prop),Q (.bool (g i j)) s->wpAny (model X.prog X.w) X.A (f (.int i t) (.int j u)) Q E s) :
  OpR X f (rI0 fun i j=>.bl (g i j)):=by
 intro pins s σ H x y v u Q I rx ry h
 obtain⟨i,j,rfl,rfl,q⟩:=h
 obtain⟨t,rfl⟩:=rx
 obtain⟨t',rfl⟩:=ry
 exact rule i j t t' s _ _ ⟨.bl (g i j),H,I,rfl,q⟩
def Akz (i j:Int):Prop:=0 < j/\j < 1073741824
def CMul (i j:Int):Prop:=(-(2 ^ 64) < i/\i < 2 ^ 64)\/(-(2 ^ 64) < j/\j < 2 ^ 64)
theorem CMul.ok {i j:Int} (h:CMul i j):IntMulOk i j:=by
 rcases h with ⟨h1,h2⟩|⟨h1,h2⟩
 ·exact .of_left (intBits_le_64 h1 h2)
 ·exact .of_right (intBits_le_64 h1 h2)
theorem op_add:OpR X (binaryOp .Add) (rI0 fun i j=>.int (i+j)):=Ak7 fun _ _ _ _ _ _ _ q=>add_int q
theorem Agd:OpR X (binaryOp .Sub) (rI0 fun i j=>.int (i - j)):=Ak7 fun _ _ _ _ _ _ _ q=>sub_int q
theorem Agb:OpR X (binaryOp .Mult) (rI CMul fun i j=>.int (i * j)):=opI fun _ _ _ _ _ _ _ hc q=>mul_int q hc.ok
theorem Acp:OpR X (binaryOp .FloorDiv) (rI Akz fun i j=>.int (i / j)):=opI fun i j _ _ _ _ _ hc q=>by
 have h1:(0:Int) < j:=hc.1
 have h2:j < 1073741824:=hc.2
 exact floordiv_int (by lia) (by rw[Int.fdiv_eq_ediv_of_nonneg i (by lia)];exact q) (.inl (PyProof.noPylong_small (by lia)))
theorem Aga:OpR X (binaryOp .Mod) (rI (fun _ j=>0 < j) fun i j=>.int (i % j)):=opI fun i j _ _ _ _ _ hc q=>by
 have h1:(0:Int) < j:=hc
 exact mod_int' (by lia) (by rw[Int.fmod_eq_emod_of_nonneg i (by lia)];exact q)
theorem unI {f:Value->Sem Value}{g:Int->Int}
  (rule:∀ (i:Int) (t:Tok) (s:Shared) (Q:Value->Shared->Prop) (E:Value->Shared->Prop),Q (.int (g i) s.toks) { s with toks:=s.toks+1 }->wpAny (model X.prog X.w) X.A (f (.int i t)) Q E s) :
  UnR X f (rU fun i=>.int (g i)):=by
 intro pins s σ H x v Q I rx h
 obtain⟨i,rfl,q⟩:=h
 obtain⟨t,rfl⟩:=rx
 exact rule i t s _ _ ⟨.int (g i),H,I.tok _,⟨_,rfl⟩,q⟩
theorem Ah4:UnR X (unaryOp .USub) (rU fun i=>.int (-i)):=unI fun _ _ _ _ _ q=>neg_int q
end
section
variable {X:Cx}{a b c:Expr}{ta tb tc:TE}{pos:Pos}
theorem Afk {pins:List (Addr×Obj)}{σ:St}{H:Hp}{s:Shared}{Q:VK}{k k':Bool} (I:Inv X pins σ H s) (q:Q (.bl k) H) (e:k=k'):EP X pins σ Q (.bool k') s:=by
 subst e
 exact⟨.bl k,H,I,rfl,q⟩
theorem op_lt:OpR X (compareOp .Lt) (rI0 fun i j=>.bl (decide (i < j))):=Aj4 fun _ _ _ _ _ _ _ q=>lt_int q
theorem Aj6:OpR X (compareOp .LtE) (rI0 fun i j=>.bl (decide (i<=j))):=Aj4 fun _ _ _ _ _ _ _ q=>le_int q
theorem Aj5:OpR X (compareOp .Gt) (rI0 fun i j=>.bl (decide (j < i))):=Aj4 fun _ _ _ _ _ _ _ q=>gt_int q
theorem Vl:OpR X (compareOp .Lt) (fun x y H Q=>∃ i j,x=.str i/\y=.str j/\Q (.bl (decide (i.cps.toList < j.cps.toList))) H):=by
 intro pins s σ H x y v u Q I rx ry h
 obtain⟨i,j,rfl,rfl,q⟩:=h
 obtain⟨t,rfl⟩:=rx
 obtain⟨t',rfl⟩:=ry
 exact lt_str (Afk I q rfl)
theorem OpR.or {f:Value->Value->Sem Value}{r r':R2} (h:OpR X f r) (h':OpR X f r'):OpR X f (fun x y H Q=>r x y H Q\/r' x y H Q):=by
 intro pins s σ H x y v u Q I rx ry q
 rcases q with q|q
 ·exact h pins s σ H x y v u Q I rx ry q
 ·exact h' pins s σ H x y v u Q I rx ry q
def Ah6 (K:W.Frag) (x:V) (H:Hp) (k:Bool):Prop :=
 match x with
 |.non=>k=false
 |.bl b=>k=b
 |.int i=>k=(i != 0)
 |.str y=>y.length<=sizeLine/\k=((y.length:Int) != 0)
 |.byt y=>y.size<=sizeLine/\k=((y.size:Int) != 0)
 |.ref p=>(∃ xs,SqL K H p xs/\k=!xs.isEmpty)\/(∃ xs,SqT K H p xs/\k=!xs.isEmpty)\/∃ kvs,H p=some (.dK kvs)/\k=!kvs.isEmpty
 |_=>False
theorem R9 {κ:Type}{kvs:List (κ×V)}{vs:List (κ×Value)} (r:KV kvs vs):(!vs.isEmpty)=!kvs.isEmpty:=by
 cases r<;>rfl
theorem Iv {xs:List V}{its:List Value} (r:Vals xs its):(!its.toArray.isEmpty)=!xs.isEmpty:=by
 cases r<;>simp
theorem Mm:(sizeLine:Nat) < 2 ^ 63:=by rw[Aoc];decide
theorem Ah2:Alj X (fun x H Q=>∃ k,Ah6 X.K x H k/\Q k H):=by
 intro pins s σ H x v Q I rx h
 obtain⟨k,e,q⟩:=h
 have hl:=Mm
 have hs:sizeLine=16777216:=Aoc
 cases x with
 |non =>
  cases rx
  have e':k=false:=e
  subst e'
  exact truthy_none ⟨H,I,q⟩
 |bl b =>
  cases rx
  have e':k=b:=e
  subst e'
  exact Aob ⟨H,I,q⟩
 |int i =>
  obtain⟨t,rfl⟩:=rx
  have e':k=(i != 0):=e
  subst e'
  exact PySem.P.truthy_int ⟨H,I,q⟩
 |str y =>
  obtain⟨t,rfl⟩:=rx
  obtain⟨hy,e'⟩:y.length<=sizeLine/\k=((y.length:Int) != 0):=e
  subst e'
  exact PySem.P.truthy_str (by lia) ⟨H,I.tok _,q⟩
 |byt y =>
  obtain⟨t,rfl⟩:=rx
  obtain⟨hy,e'⟩:y.size<=sizeLine/\k=((y.size:Int) != 0):=e
  subst e'
  exact W.truthy_bytes (by lia) ⟨H,I.tok _,q⟩
 |ref p =>
  cases rx
  have e':(∃ xs,SqL X.K H p xs/\k=!xs.isEmpty)\/(∃ xs,SqT X.K H p xs/\k=!xs.isEmpty)\/∃ kvs,H p=some (.dK kvs)/\k=!kvs.isEmpty:=e
  rcases e' with ⟨xs,hx,e'⟩|⟨xs,hx,e'⟩|⟨kvs,hx,e'⟩
  ·subst e'
   obtain⟨its,r,pl,hz⟩:=I.list hx
   have hlen:=r.length
   exact wpAny_truthy_list pl.isList (by simp only[Al8];lia) ⟨H,I.tok _,by rw[Iv r];exact q⟩
  ·subst e'
   obtain⟨its,r,pl,hz⟩:=I.tuple hx
   have hlen:=r.length
   exact truthy_tuple pl (by simp only[Al8];lia) ⟨H,I.tok _,by rw[Iv r];exact q⟩
  ·subst e'
   obtain⟨hz,hS,vs,r,m⟩:kvs.length<=sizeLine/\(p == sysModules)=false/\∃ vs,KV kvs vs/\s.heap.DictOf (Va X.prog X.w) p vs:=I.hok p _ hx
   have hlen:kvs.length=vs.length:=Paired.length r
   exact wpAny_truthy_dict hS m (by lia) ⟨H,I.tok _,by rw[R9 r];exact q⟩
 |_=>exact (show False from e).elim
theorem Zy (ha:PE X a ta) (he:∀ whole,isTrue a X.env whole=(do let v <- whole;standAt a.pos;holding [v] (truthy v))) :
  PT X a (fun σ H Q=>ta σ H fun x H'=>∃ k,Ah6 X.K x H' k/\Q k H'):=by
 intro pins s σ H Q I h
 exact isTrue_plain (thn (ha pins s σ H _ I h) fun v s1 ⟨x,H1,I1,r1,q1⟩=>Ah2 pins s1 σ H1 x v Q I1 r1 q1) (he _)
theorem op_add_str:OpR X (binaryOp .Add) (fun x y H Q=>∃ i j,x=.str i/\y=.str j/\i.length+j.length<=sizeLine/\Q (.str (i++j)) H):=by
 intro pins s σ H x y v u Q I rx ry h
 obtain⟨i,j,rfl,rfl,hz,q⟩:=h
 obtain⟨t,rfl⟩:=rx
 obtain⟨t',rfl⟩:=ry
 exact add_str (fun t' tk=>⟨.str (i++j),H,I.tok _,⟨_,rfl⟩,q⟩) hz
inductive V1 (x:V) (us:List Value):Prop where
 |mk (u:Value) (e:us=[u]) (r:RelV x u)
theorem Ij {x:V}{us:List Value} (r:Vals [x] us):V1 x us:=by
 cases r with
 |cons r1 r2=>cases r2;exact⟨_,rfl,r1⟩
theorem Ah5 {x y:V}{us:List Value} (r:Vals [x,y] us):∃ u w',us=[u,w']/\RelV x u/\RelV y w':=by
 cases r with
 |cons r1 r2 =>
  cases r2 with
  |cons r3 r4=>cases r4;exact⟨_,_,rfl,r1,r3⟩
theorem Ub (hc:X.calm=true):Tw X (.builtin "max") (fun xs H Q=>∃ i j,xs=[.int i,.int j]/\Q (.int (if j > i then j else i)) H):=by
 intro pins s σ H xs us Q I r h
 obtain⟨i,j,rfl,q⟩:=h
 obtain⟨u,w',rfl,⟨t,rfl⟩,⟨t',rfl⟩⟩:=Ah5 r
 refine max_two_ints (I.ok.hd hc) fun h' tk k=>⟨_,H,I.kept k,?_,q⟩
 by_cases hj:j > i
 ·rw[Amf hj,Amf hj];exact⟨_,rfl⟩
 ·rw[Aml hj,Aml hj];exact⟨_,rfl⟩
theorem Ma:Tw X (.type "int") (fun xs H Q=>(∃ i,xs=[.int i]/\Q (.int i) H)\/∃ k,xs=[.bl k]/\Q (.int (if k then 1 else 0)) H):=by
 intro pins s σ H xs us Q I r h
 rcases h with ⟨i,rfl,q⟩|⟨k,rfl,q⟩
 ·obtain⟨u,rfl,t,rfl⟩:=Ij r
  exact call_int_int ⟨.int i,H,I,⟨_,rfl⟩,q⟩
 ·obtain⟨u,rfl,r1⟩:=Ij r
  cases r1
  exact call_int_bool ⟨.int (if k then 1 else 0),H,I.tok _,⟨_,rfl⟩,q⟩
def Ai9 (K:W.Frag) (x:V) (H:Hp) (n:Nat):Prop :=
 match x with
 |.str y=>y.length<=sizeLine/\n=y.length
 |.byt y=>y.size<=sizeLine/\n=y.size
 |.ref p=>(∃ xs,SqL K H p xs/\n=xs.length)\/∃ xs,SqT K H p xs/\n=xs.length
 |_=>False
theorem Yl:Tw X (.builtin "len") (fun xs H Q=>∃ x n,xs=[x]/\Ai9 X.K x H n/\Q (.int n) H):=by
 intro pins s σ H xs us Q I r h
 obtain⟨x,n,rfl,e,q⟩:=h
 obtain⟨u,rfl,rx⟩:=Ij r
 have hl:=Mm
 have hs:sizeLine=16777216:=Aoc
 cases x with
 |str y =>
  obtain⟨t,rfl⟩:=rx
  obtain⟨hy,e'⟩:y.length<=sizeLine/\n=y.length:=e
  subst e'
  exact len_str (by lia) ⟨.int _,H,I.tok _,⟨_,rfl⟩,q⟩
 |byt y =>
  obtain⟨t,rfl⟩:=rx
  obtain⟨hy,e'⟩:y.size<=sizeLine/\n=y.size:=e
  subst e'
  exact W.len_bytes (by lia) ⟨.int _,H,I.tok _,⟨_,rfl⟩,q⟩
 |ref p =>
  cases rx
  have e':(∃ xs,SqL X.K H p xs/\n=xs.length)\/∃ xs,SqT X.K H p xs/\n=xs.length:=e
  rcases e' with ⟨xs,hx,e'⟩|⟨xs,hx,e'⟩
  ·subst e'
   obtain⟨its,r',pl,hz⟩:=I.list hx
   have hlen:=r'.length
   exact Calls.call_len_list pl.isList (by simp only[Al8];lia) ⟨.int xs.length,H,I.tok _,⟨_,by simp only[Al8];rw[hlen]⟩,q⟩
  ·subst e'
   obtain⟨its,r',pl,hz⟩:=I.tuple hx
   have hlen:=r'.length
   exact len_tuple pl (by simp only[Al8];lia) ⟨.int xs.length,H,I.tok _,⟨_,by simp only[Al8];rw[hlen]⟩,q⟩
 |_=>exact (show False from e).elim
end
structure ObjM (h:Heap) (x dx C:Addr) (mA:Str->Option Value):Prop where
 obj:h.get? x=some (W.instObj C dx)
 ns:h.Ns1 dx mA
 ne:dx≠x
set_option tactic.hygienic true in
theorem U4 {h:Heap}{dx:Addr}{mA:Str->Option Value} (n:h.Ns1 dx mA):∃ od,h.get? dx=some od/\∀ name,W.lookIn name od=some (mA name):=by
 obtain⟨o,es,ep,ho,hd,hk,_,hm⟩:=n
 refine⟨o,ho,fun name=>?_⟩
 have e:=hm name
 unfold nsFind findBy at e
 rw[<- Array.find?_toList] at e
 unfold W.lookIn
 rw[hd]
 dsimp only
 split
 ·rename_i y q
  rw[q] at e
  exact Anw some e
 ·rename_i q
  rw[q] at e
  have a:es.toList.any (·.refKey)=false:=by
   rw[List.any_eq_false]
   intro y hy
   obtain⟨z,t,hkey⟩:=hk y (Array.mem_toList_iff.mp hy)
   simp[DictEntry.refKey,hkey]
  have a':¬ es.toList.any (·.refKey)=true:=by rw[a];exact Am1
  rw[Aml a']
  exact Anw some e
theorem ObjM.look {h:Heap}{x dx C:Addr}{mA:Str->Option Value} (I:ObjM h x dx C mA):∃ od,W.InstAt h x (W.instObj C dx) C (some od)/\∀ name,W.lookIn name od=some (mA name) :=
 let ⟨od,ho,hl⟩:=U4 I.ns
 ⟨od,⟨I.obj,rfl,rfl,ho⟩,hl⟩
section
variable {prog:Program}{w:World}{A:Around}{E:Value->Shared->Prop}{s:Shared}{K:W.Frag}{x dx C f:Addr}{mA:Str->Option Value}{name:Str}{v:Value}
end
section
variable {P:Program}{w:World}{K:W.Frag}{H H':Hp}{h h':Heap}{a C dx:Addr}{fs fs':List (Str×V)}
theorem Ld (hok:HOk P w K H h) (e:H a=some (.ins C dx fs)):∃ mA,ObjM h a dx C mA/\(∀ f,Ajb (fs.lookup f) (mA f))/\PySem.Within mA (fs.map (·.1))/\fs.length<=1000/\H dx=some (.own a):=by
 obtain⟨d,z,ne,ob,mA,n,r,q⟩:=(show ObjOk P w K H h a (.ins C dx fs) from hok a _ e)
 exact⟨mA,⟨ob,n,ne⟩,r,q,z,d⟩
end
structure Cls (K:W.Frag) (C:Addr):Prop where
 pg:W.plainGet K C Str.empty=true
 hd:W.hasDictIn K C=true
 po:W.plainOver K C=true
 sa:W.findIn K (.ref C) "__setattr__"=some (some (.builtin "object.__setattr__"))
theorem Cls.get {K:W.Frag}{C:Addr} (c:Cls K C) (f:Str):W.plainGet K C f=true:=c.pg
section
variable {X:Cx}{pins:List (Addr×Obj)}{σ:St}{H:Hp}{s:Shared}{a C dx:Addr}{fs:List (Str×V)}{f:Str}{v:V}{A:Around}{E:Value->Shared->Prop}
end
section
variable {X:Cx}{o e value:Expr}{f:Str}{pos pos' tpos:Pos}{ta tv:TE}
end
section
variable {X:Cx}{pins:List (Addr×Obj)}{σ:St}{H:Hp}{s:Shared}{A:Around}{E:Value->Shared->Prop}{Q:Value->Shared->Prop}{c:Value}{b:Bool}
inductive TyOf (K:W.Frag) (H:Hp):V->Value->Prop where
 |non:TyOf K H .non (.type "NoneType")
 |bl (x:Bool):TyOf K H (.bl x) (.type "bool")
 |int (i:Int):TyOf K H (.int i) (.type "int")
 |str (x:Str):TyOf K H (.str x) (.type "str")
 |flt (x:UInt64):TyOf K H (.flt x) (.type "float")
 |lst {a:Addr}{xs:List V} (e:H a=some (.lst xs)):TyOf K H (.ref a) (.type "list")
 |frz {a:Addr}{o:Obj}{xs:List V} (e:H a=some (.frz o (.lst xs))):TyOf K H (.ref a) (.type "list")
 |tup {a:Addr}{xs:List V} (e:H a=some (.tup xs)):TyOf K H (.ref a) (.type "tuple")
 |dK {a:Addr}{kvs:List (Key×V)} (e:H a=some (.dK kvs)):TyOf K H (.ref a) (.type "dict")
 |dT {a:Addr}{kvs:List (PyData×V)} (e:H a=some (.dT kvs)):TyOf K H (.ref a) (.type "dict")
 |ins {a C dx:Addr}{fs:List (Str×V)} (e:H a=some (.ins C dx fs)) (cl:Cls K C) (ha:W.findIn K (.ref C) "__class__"=some (some (.builtin "object.__class__")))
   (hn:W.specialIn K (.builtin "object.__class__") "__get__"=some (some (.builtin "getset_descriptor.__get__"))) (htk:W.takesIn K (.builtin "object.__class__")=some true)
   (hm:W.mroIn K C (.type "object")=some true):TyOf K H (.ref a) (.ref C)
theorem B8 {x:V}{u t:Value} (I:Inv X pins σ H s) (rx:RelV x u) (ty:TyOf X.K H x t) (e:W.kitOne X.K t c=some b) (h:∀ tk,Q (.bool b) { s with toks:=tk }) :
  wpAny (model X.prog X.w) A (call (.builtin "isinstance") [u,c]) Q E s:=by
 cases ty with
 |non=>cases (show u=Value.none from rx);exact W.kia_one W.kitx_none I.kIn True.intro e (fun z=>nomatch z) h
 |bl y=>cases (show u=Value.bool y from rx);exact W.kia_one W.kitx_bool I.kIn True.intro e (fun z=>nomatch z) h
 |int i=>obtain⟨t,q⟩:=(show ∃ t,u=Value.int i t from rx);cases q;exact W.kia_one W.kitx_int I.kIn True.intro e (fun z=>nomatch z) h
 |str y=>obtain⟨t,q⟩:=(show ∃ t,u=Value.str y t from rx);cases q;exact W.kia_one W.kitx_str I.kIn True.intro e (fun z=>nomatch z) h
 |flt y=>obtain⟨t,q⟩:=(show ∃ t,u=Value.float y t from rx);cases q;exact W.kia_one W.kitx_float I.kIn True.intro e (fun z=>nomatch z) h
 |@lst a xs ea =>
  cases (show u=Value.ref a from rx)
  obtain⟨_,_,n,_,h1⟩:=(show ObjOk X.prog X.w X.K H s.heap a (.lst xs) from I.hok a _ ea)
  exact W.kia_one W.kitx_list I.kIn ⟨_,h1,rfl⟩ e (fun z=>nomatch z) h
 |@frz a ob xs ea =>
  cases (show u=Value.ref a from rx)
  obtain⟨_,_,_,n,_,h1⟩:=(show ObjOk X.prog X.w X.K H s.heap a (.frz ob (.lst xs)) from I.hok a _ ea)
  exact W.kia_one W.kitx_list I.kIn ⟨_,h1,rfl⟩ e (fun z=>nomatch z) h
 |@tup a xs ea =>
  cases (show u=Value.ref a from rx)
  obtain⟨_,_,_,p⟩:=(show ObjOk X.prog X.w X.K H s.heap a (.tup xs) from I.hok a _ ea)
  obtain⟨o,h1,h2,_⟩:=p
  exact W.kia_one W.kitx_tuple I.kIn ⟨o,h1,h2⟩ e (fun z=>nomatch z) h
 |@dK a kvs ea =>
  cases (show u=Value.ref a from rx)
  obtain⟨_,_,vs,_,p⟩:=(show ObjOk X.prog X.w X.K H s.heap a (.dK kvs) from I.hok a _ ea)
  obtain⟨o,es,ep,h1,h2,_⟩:=p
  exact W.kia_one W.kitx_dict I.kIn ⟨o,h1,h2.1⟩ e (fun z=>nomatch z) h
 |@dT a kvs ea =>
  cases (show u=Value.ref a from rx)
  obtain⟨_,_,xs,_,o,es,ep,h1,h2,_⟩:=(show ObjOk X.prog X.w X.K H s.heap a (.dT kvs) from I.hok a _ ea)
  exact W.kia_one W.kitx_dict I.kIn ⟨o,h1,h2.1⟩ e (fun z=>nomatch z) h
 |@ins a C dx fs ea cl ha hn htk hm =>
  cases (show u=Value.ref a from rx)
  obtain⟨mA,O,_⟩:=Ld I.hok ea
  obtain⟨od,J,_⟩:=O.look
  exact W.kia_one (W.kitx_own (cl.get _) cl.hd ha hn htk hm) I.kIn J e (fun z=>nomatch z) h
end
structure Room (k:Nat) (A:Around):Prop where
 hd:A.handled=none
 dp:A.depth+3 * k+5 < recursionLimit
 un:A.units+16 * k+200 < cLine
theorem Room.mono {j k:Nat}{A:Around} (r:Room k A) (h:j<=k):Room j A:=⟨r.hd,by have:=r.dp;lia,by have:=r.un;lia⟩
theorem Room.deeper {k:Nat}{A:Around} (r:Room (k+1) A) (env:Env):Room k (A.deeper env) :=
 ⟨r.hd,by have:=r.dp;show A.depth+1+3 * k+5 < _;lia,by have:=r.un;show A.units+3+16 * k+200 < _;lia⟩
theorem Room.depth {k:Nat}{A:Around} (r:Room k A):A.depth < recursionLimit:=by have:=r.dp;lia
theorem Room.units {k:Nat}{A:Around} (r:Room k A):A.units+64 < cLine:=by have:=r.un;lia
noncomputable def Alf:TA:=fun _ H Q=>Q [] H
noncomputable def Aed (ta:TE) (tr:TA):TA:=fun σ H Q=>ta σ H fun x H1=>tr σ H1 fun xs H2=>Q (x::xs) H2
section
variable {X:Cx}{e:Expr}{es:List Expr}{te:TE}{t:TA}{pos:Pos}
theorem Vm:PA X [] Alf:=fun _ _ _ _ H Q I h=>Calls.spliced_nil ⟨[],H,I,.nil,h⟩
theorem Lj (ha:PE X e te) (hr:PA X es t) (hs:starEach (e::es) X.env=(false,eval e X.env)::starEach es X.env:=by rfl):PA X (e::es) (Aed te t):=by
 intro pos pins s σ H Q I h
 rw[hs]
 show wpAny _ _ (spliced ((false,eval e X.env)::backTo pos (starEach es X.env))) _ _ s
 refine Calls.spliced_cons (thn (ha pins s σ H _ I h) fun u s1 ⟨x,H1,I1,r1,q1⟩=>?_)
 exact thn (hr pos pins s1 σ H1 _ I1 q1) fun us s2 ⟨xs,H2,I2,r2,q2⟩=>⟨x::xs,H2,I2,.cons r1 r2,q2⟩
def Al0 (t:TA):TE:=fun σ H Q=>t σ H fun xs H1=>xs.length<=sizeLine/\∀ p,H1 p=none->Q (.ref p) (upd H1 p (.tup xs))
def Alx (t:TA):TE:=fun σ H Q=>t σ H fun xs H1=>xs.length<=sizeLine/\∀ p,H1 p=none->Q (.ref p) (upd H1 p (.lst xs))
theorem Agz {x1} (h:PA X es t):PE X (.Tuple es x1 pos) (Al0 t):=by
 intro pins s σ H Q I hq
 refine wpAny_Tuple_spliced (thn (h pos pins s σ H _ I hq) fun us s1 ⟨xs,H1,I1,r,z,q⟩=>⟨by rw[<- r.length];exact z,?_⟩)
 have hf:H1 s1.heap.objs.size=none:=I1.hok.fresh (Al7 _)
 refine⟨.ref s1.heap.objs.size,upd H1 s1.heap.objs.size (.tup xs),I1.laid (t':=s1.toks) (fun b u e=>Al5 _ e) (Al7 _) ?_,rfl,q _ hf⟩
 exact⟨z,us,r,TupD.new _ _⟩
theorem Agu (h:PA X es t):PE X (.List es pos) (Alx t):=by
 intro pins s σ H Q I hq
 refine wpAny_List_spliced (thn (h pos pins s σ H _ I hq) fun us s1 ⟨xs,H1,I1,r,z,q⟩=>⟨by rw[<- r.length];exact z,?_⟩)
 have hf:H1 s1.heap.objs.size=none:=I1.hok.fresh (Al7 _)
 refine⟨.ref s1.heap.objs.size,upd H1 s1.heap.objs.size (.lst xs),I1.laid (t':=s1.toks) (fun b u e=>Al5 _ e) (Al7 _) ?_,rfl,q _ hf⟩
 exact⟨z,us,0,r,Amp _ rfl⟩
end
abbrev Sp:=List V->Hp->VK->XK->Prop
abbrev CXT:=List Env->Hp->Shared->XK->Value->Shared->Prop
structure Env0 (P:Program) (w:World) (K:W.Frag) (mg:Str->Option Value) (base:Heap) (A:Around) (outer:List Env) (s:Shared) (H:Hp):Prop where
 frames:A.frames=some outer
 mod:Mod K mg base
 bs:∀ b o,base.get? b=some o->s.heap.get? b=some o/\H b=none
 bsz:base.objs.size<=s.heap.objs.size
 funs:s.heap.FunFrames base outer
 frf:∀ b∈frs outer,H b=none
 hok:HOk P w K H s.heap
 bare:AllBare s.gens
def CE (outer:List Env) (P:Program) (w:World) (K:W.Frag) (H:Hp) (s:Shared) (Q:VK) (u:Value) (s':Shared):Prop :=
 ∃ v H',s'.os=s.os/\AllBare s'.gens/\Un (frs outer) [] H H' s.heap s'.heap/\HOk P w K H' s'.heap/\RelV v u/\Q v H'
def CR (CX:CXT) (outer:List Env) (P:Program) (w:World) (K:W.Frag) (H:Hp) (s:Shared) (Q:VK) (E:XK) (r:Result) (s':Shared):Prop :=
 match r with
 |.ok (.ret u)=>CE outer P w K H s Q u s'
 |.ok _=>False
 |.error e=>CX outer H s E e s'
structure FnOk (P:Program) (w:World) (K:W.Frag) (mg:Str->Option Value) (base:Heap) (CX:CXT) (k:Nat) (f:Addr) (fd:FuncData) (ps:List Str) (sp:Sp):Prop where
 len:∀ vs H Q E,sp vs H Q E->vs.length=ps.length
 run:∀ (A:Around) (outer:List Env) (s:Shared) (H:Hp) (args:Args) (us:List Value) (vs:List V) (Q:VK) (E:XK),Room k A->Env0 P w K mg base A outer s H->BindsTo s fd args (ps.zip us)->Vals vs us->sp vs H Q E ->
  codeAny (model P w) A (.call (.ref f) args) (CR CX outer P w K H s Q E) s
section
variable {X:Cx}{pins:List (Addr×Obj)}{σ:St}{H:Hp}{s s':Shared}
theorem Inv.env0 (I:Inv X pins σ H s):Env0 X.prog X.w X.K X.mg X.base X.A X.stack s H :=
 ⟨I.ok.frames,I.ok.mod,I.bs,Amv I.ok.bsz I.sz,I.stack,I.stkFree,I.hok,I.bare⟩
theorem Inv.after {Q:VK}{u:Value} (I:Inv X pins σ H s) (h:CE X.stack X.prog X.w X.K H s Q u s'):EP X pins σ Q u s':=by
 obtain⟨v,H',os,bare,un,hok,r,q⟩:=h
 obtain⟨hh,g,d,t,os'⟩:=s'
 obtain rfl:os'=s.os:=os
 exact⟨v,H',I.call (h':=hh) (g':=g) (d':=d) (t':=t) (ch:=[]) un hok bare (fun b z=>absurd z (by simp)),r,q⟩
end
noncomputable def Akv (sp:Sp) (dvs:List V) (E:XK) (t:TA):TE:=fun σ H Q=>t σ H fun vs H1=>sp (vs++dvs) H1 Q E
def Binds (K:W.Frag) (fd:FuncData) (ps:List Str) (ds:List Value):Prop :=
 ∀ (s:Shared) (us:List Value),K.In s.heap->(us++ds).length=ps.length->BindsTo s fd ⟨us,[]⟩ (ps.zip (us++ds))
theorem Binds.all {K:W.Frag}{fd:FuncData}{ps:List Str} (h:∀ us:List Value,us.length=ps.length->bindArgs fd ⟨us,[]⟩=pure (ps.zip us)):Binds K fd ps []:=fun s us _ hl=>by
 rw[Ang] at hl ⊢
 exact .of_eq (h us hl)
def Lz (CX:CXT) (X:Cx) (E:XK):Prop:=∀ (pins:List (Addr×Obj)) (σ:St) (H:Hp) (s:Shared) (e:Value) (s':Shared),Inv X pins σ H s->CX X.stack H s E e s'->X.xe e s'
section
variable {X:Cx}{CX:CXT}{k:Nat}{f C:Addr}{fd:FuncData}{ps:List Str}{sp:Sp}{dvs:List V}{ds:List Value}{E:XK}{x m:Str}{p pos apos:Pos}{e o:Expr}{es:List Expr}{ta:TE}{t:TA}
theorem Ahj {pins:List (Addr×Obj)}{σ:St}{H:Hp}{s:Shared}{Q:VK}{us:List Value}{vs:List V} (F:FnOk X.prog X.w X.K X.mg X.base CX k f fd ps sp) (hr:Room k X.A) (hb:Binds X.K fd ps ds) (hd:Vals dvs ds) (hx:Lz CX X E)
  (I:Inv X pins σ H s) (r:Vals vs us) (h:sp (vs++dvs) H Q E):wpAny (model X.prog X.w) X.A (call (.ref f) us) (EP X pins σ Q) X.xe s:=by
 have r2:Vals (vs++dvs) (us++ds):=r.append hd
 have hl:(us++ds).length=ps.length:=by rw[<- r2.length];exact F.len _ _ _ _ h
 refine wpAny_call (codeAny_mono (F.run X.A X.stack s H ⟨us,[]⟩ (us++ds) (vs++dvs) Q E hr I.env0 (hb s us I.kIn hl) r2 h) fun r s' hq=>?_)
 cases r with
 |error e=>exact hx pins σ H s e s' I hq
 |ok fl =>
  cases fl with
  |ret u=>exact I.after hq
  |next=>exact False.elim hq
  |brk=>exact False.elim hq
  |cont=>exact False.elim hq
theorem N8 (F:FnOk X.prog X.w X.K X.mg X.base CX k f fd ps sp) (hr:Room k X.A) (hg:Gl X x) (hm:X.mg x=some (.ref f)) (hk:W.keepIn X.K (.ref f)=true) (hb:Binds X.K fd ps ds) (hd:Vals dvs ds) (hx:Lz CX X E)
  (ha:PA X (e::es) t) (hdb:(x == ("__debug__":Str))=false:=by decide) (he:starEach (e::es) X.env=(false,eval e X.env)::starEach es X.env:=by rfl) (hpl:(backTo pos (starEach es X.env)).any (·.1)=false:=by rfl) :
  PE X (.Call (.Name x p) (e::es) [] pos) (Akv sp dvs E t):=by
 intro pins s σ H Q I h
 refine Anb (U3 I hg hm ?_ hdb)
 refine W.callWith_K (h₀:=X.base) I.ok.mod.kin hk (thn (ha pos pins s σ H _ I h) fun us s1 ⟨vs,H1,I1,r,q⟩=>⟨I1.kIn,?_⟩) he hpl
 exact Ahj F hr hb hd hx I1 r q
end
section
variable {X:Cx}{CX:CXT}{k:Nat}{f C:Addr}{fd:FuncData}{ps ks:List Str}{sp:Sp}{E:XK}{x m:Str}{p pos apos kpos:Pos}{e o:Expr}{es:List Expr}{kws:List Keyword}{te ta:TE}{t tk:TA}{nm:Option Str}
variable {g:List Value->List Value->List Value}{gV:List V->List V->List V}
end
structure FnScope (N P:List Str) (sc:Scope):Prop where
 kind:sc.kind=.function
 co:sc.isCoroutine=false
 gen:sc.isGenerator=false
 nd:N.Nodup
 pre:N.take P.length=P
 par:∀ x∈P,sc.names.lookup x=some .local\/sc.names.lookup x=some .cell
 nofree:∀ y∈sc.names,y.2≠.free
theorem L7 {kindOf:Str->Option NameKind}{x:Str}:∀ {binds:List (Str×Value)}{m:Str->Option Value},(∀ v,(x,v)∉binds)->bindL kindOf binds m x=m x
 |[],_,_=>rfl
 |(n,v)::r,m,h=>by
  unfold bindL
  rw[L7 fun w hw=>h w (Al4 _ hw)]
  split
  ·have:x≠n:=by rintro rfl;exact h v Al6
   simp[this]
  ·rfl
theorem L5 {kindOf:Str->Option NameKind}{x:Str}:∀ {binds:List (Str×Value)}{m:Str->Option Value},(∀ v,(x,v)∉binds)->bindC kindOf binds m x=m x
 |[],_,_=>rfl
 |(n,v)::r,m,h=>by
  unfold bindC
  rw[L5 fun w hw=>h w (Al4 _ hw)]
  split
  ·rfl
  ·have:x≠n:=by rintro rfl;exact h v Al6
   simp[this]
theorem L6 {kindOf:Str->Option NameKind}{x:Str}{v:Value}:∀ {P:List Str}{vs:List Value}{i:Nat}{m:Str->Option Value},P.Nodup->P[i]?=some x->vs[i]?=some v->kindOf x=some .local ->
  bindL kindOf (P.zip vs) m x=some v
 |[],_,_,_,_,h,_,_=>by simp at h
 |_::_,[],_,_,_,_,h,_=>by simp at h
 |p::P,w::vs,0,m,nd,h1,h2,hk=>by
  simp at h1 h2;subst h1;subst h2
  show bindL kindOf ((p,w)::P.zip vs) m p=_
  unfold bindL
  rw[L7 fun v hv=>(List.nodup_cons.mp nd).1 (List.of_mem_zip hv).1,Amf hk]
  simp
 |p::P,w::vs,i+1,m,nd,h1,h2,hk=>by
  show bindL kindOf ((p,w)::P.zip vs) m x=_
  unfold bindL
  exact L6 (i:=i) (List.nodup_cons.mp nd).2 (by simpa using h1) (by simpa using h2) hk
theorem L4 {kindOf:Str->Option NameKind}{x:Str}{v:Value}:∀ {P:List Str}{vs:List Value}{i:Nat}{m:Str->Option Value},P.Nodup->P[i]?=some x->vs[i]?=some v->kindOf x≠some .local ->
  bindC kindOf (P.zip vs) m x=some v
 |[],_,_,_,_,h,_,_=>by simp at h
 |_::_,[],_,_,_,_,h,_=>by simp at h
 |p::P,w::vs,0,m,nd,h1,h2,hk=>by
  simp at h1 h2;subst h1;subst h2
  show bindC kindOf ((p,w)::P.zip vs) m p=_
  unfold bindC
  rw[L5 fun v hv=>(List.nodup_cons.mp nd).1 (List.of_mem_zip hv).1,Aml hk]
  simp
 |p::P,w::vs,i+1,m,nd,h1,h2,hk=>by
  show bindC kindOf ((p,w)::P.zip vs) m x=_
  unfold bindC
  exact L4 (i:=i) (List.nodup_cons.mp nd).2 (by simpa using h1) (by simpa using h2) hk
noncomputable def Hr (N:List Str) (vs:List V):St:=vs.map some++List.replicate (N.length - vs.length) none
noncomputable def Ug (CX:CXT) (P:Program) (w:World) (K:W.Frag) (mg:Str->Option Value) (base:Heap) (N:List Str) (qual:Str) (scope:Scope) (f:Addr) (cd:Value) (A:Around) (outer:List Env) (s:Shared) (H:Hp) (E:XK):Cx where
 prog:=P
 w:=w
 K:=K
 mg:=mg
 base:=base
 A:=A.deeper (envOfC qual scope s.heap.objs.size f cd)
 N:=N
 s₀:=s
 H₀:=H
 env:=envOfC qual scope s.heap.objs.size f cd
 outer:=outer
 stack:=envOfC qual scope s.heap.objs.size f cd::outer
 ex:=[]
 calm:=true
 fn:=fun _=>true
 pn:=[]
 xe:=fun e s'=>wpAny (model P w) (A.deeper (envOfC qual scope s.heap.objs.size f cd)) (leaving (envOfC qual scope s.heap.objs.size f cd) e) (fun _ s''=>CX outer H s E e s'') (fun e' s''=>CX outer H s E e' s'') s'
theorem Po {sc:Scope}{n:Nat}{x:Str} (h:sc.names.lookup x=some .cell):∃ c,(cellsFrom n sc.names []).lookup x=some c:=by
 have q:=W.cellsFrom_some sc.names n [] (.inl h)
 exact Option.isSome_iff_exists.mp q
theorem Uw {CX:CXT}{P:Program}{w:World}{K:W.Frag}{mg:Str->Option Value}{base:Heap}{N ps:List Str}{qual:Str}{scope:Scope}{f:Addr}{cd:Value}{A:Around}{outer:List Env}{s s1:Shared}{H:Hp}{E:XK}{us:List Value}{vs:List V}
  (S:FnScope N ps scope) (hd:A.handled=none) (e0:Env0 P w K mg base A outer s H) (hl:vs.length=ps.length) (r:Vals vs us)
  (x:InCallC s s.heap.objs.size (bindL (envOfC qual scope s.heap.objs.size f cd).kindOf (ps.zip us) fun _=>none) (cellsFrom (s.heap.objs.size+1) scope.names []) (bindC (envOfC qual scope s.heap.objs.size f cd).kindOf (ps.zip us) fun _=>none) s1) :
  Inv (Ug CX P w K mg base N qual scope f cd A outer s H E) [] (Hr N vs) H s1:=by
 have hpl:ps.length<=N.length:=by have:=Anw List.length S.pre;rw[Am4] at this;lia
 obtain⟨h1,tk,rfl,hk⟩:=x.done
 have noA:∀ b:Addr,b∉(Ug CX P w K mg base N qual scope f cd A outer s H E).ex:=fun b z=>absurd (show b∈([]:List Addr) from z) (by simp)
 refine⟨⟨e0.mod,S.kind,rfl,rfl,Al7 _,fun y z c h1 h2=>?_,fun y hy=>?_,fun y c _ h=>?_,fun _=>hd,Around.frames_deeper e0.frames,.inr ⟨rfl,rfl⟩,fun b z=>absurd z (noA b),e0.bs,e0.bsz,fun b _ _=>noA b,fun b z=>absurd z (noA b),e0.funs,e0.frf⟩,
  rfl,e0.bare,Un.kept hk,⟨_,x.toInCall.ns,fun i y v h1 h2 h3=>?_⟩,fun y c h=>⟨_,x.cell y c h⟩,e0.hok.fresh (Al7 _),fun y c h=>?_,fun p hp=>absurd (show p∈([]:List (Addr×Obj)) from hp) (by simp),e0.hok.kept hk,?_⟩
 ·exact name_of_addr x.apart (Amx h1) (Amx h2)
 ·have hy:scope.names.lookup y=some .cell\/scope.names.lookup y=some .free:=hy
  rcases hy with hy|hy
  ·exact Po hy
  ·exact absurd rfl (S.nofree _ (Amx hy))
 ·exact Aom (x.above y c (Amx h))
 ·have hi:i < vs.length:=by
   unfold Hr at h2
   by_cases hi:i < vs.length
   ·exact hi
   ·rw[Amt (by simpa using hi)] at h2
    rw[An2] at h2
    split at h2<;>cases h2
  have ha:vs[i]?=some v:=by
   unfold Hr at h2
   rw[Amm (by simpa using hi),Amo] at h2
   cases e:vs[i]? with
   |none=>rw[e] at h2;cases h2
   |some a=>rw[e] at h2;cases h2;rfl
  obtain⟨u,hu,rv⟩:=r.get ha
  have hp:ps[i]?=some y:=by
   rw[<- S.pre,List.getElem?_take_of_lt (by lia)];exact h1
  have ndP:ps.Nodup:=by rw[<- S.pre];exact S.nd.sublist (List.take_sublist _ _)
  refine⟨u,rv,?_⟩
  rcases S.par y (Amk hp) with k|k
  ·exact .inl ⟨k,L6 ndP hp hu k⟩
  ·obtain⟨c,e⟩:=Po (n:=s.heap.objs.size+1) k
   refine .inr ⟨.inl k,c,e,?_⟩
   have q:=x.cell y c e
   rw[L4 ndP hp hu (by show scope.names.lookup y≠_;rw[k];decide)] at q
   exact q
 ·exact e0.hok.fresh (Aom (x.above y c (Amx h)))
 ·unfold Hr
  show _=N.length
  rw[Amn,Ama,List.length_replicate]
  lia
theorem Ajh {CX:CXT}{P:Program}{w:World}{K:W.Frag}{mg:Str->Option Value}{base:Heap}{k:Nat}{f:Addr}{name qual:Str}{params:Arguments}{body:List Stmt}{scope:Scope}{dV kV doc pm cdv ct oc:Value}{an od:Option Addr}
  {osl:Array (Option Value)}{N ps:List Str}{sp:Sp} (lk:K.lookup f=some ⟨oc,od,.func (W.fnOf name qual params body scope dV kV doc pm an cdv ct),osl⟩) (hcd:W.codeIn K cdv qual=true) (S:FnScope N ps scope)
  (len:∀ vs H Q E,sp vs H Q E->vs.length=ps.length)
  (hbody:∀ (A:Around) (outer:List Env) (s:Shared) (H:Hp) (vs:List V) (Q:VK) (E:XK),Room k (A.deeper (envOfC qual scope s.heap.objs.size f cdv))->sp vs H Q E ->
   ∃ t,PSs (Ug CX P w K mg base N qual scope f cdv A outer s H E) body t/\t { nx:=fun _ H'=>Q .non H',rt:=Q } (Hr N vs) H) :
  FnOk P w K mg base CX (k+1) f (W.fnOf name qual params body scope dV kV doc pm an cdv ct) ps sp:=by
 refine⟨len,fun A outer s H args us vs Q E hr e0 hb r hsp=>?_⟩
 have hl:=len _ _ _ _ hsp
 have KX:K.In s.heap:=e0.mod.kin.keeps fun b o e=>(e0.bs b o e).1
 have lim:s.heap.NoLimit:=e0.mod.nolimit.keeps fun b o e=>(e0.bs b o e).1
 have hkind:∀ y∈ps.zip us,scope.names.lookup y.1=some .local\/(scope.names.lookup y.1=some .cell/\((cellsFrom (s.heap.objs.size+1) scope.names []).lookup y.1).isSome=true):=fun⟨n,v⟩ hy=>by
  rcases S.par n (List.of_mem_zip hy).1 with q|q
  ·exact .inl q
  ·exact .inr ⟨q,W.cellsFrom_some _ _ _ (.inl q)⟩
 refine codeAny_call_function hr.depth (KX _ _ lk) rfl S.co S.gen rfl (W.codeRec_of KX hcd) (hb _ _ _ _ ?_)
 refine wpAny_newFunctionEnv_cells S.kind hkind fun env he s1 x=>?_
 subst he
 refine⟨lim.keeps x.toInCall.keep,codeAny_func ?_⟩
 obtain⟨t,ht,hq⟩:=hbody A outer s H vs Q E (hr.deeper _) hsp
 have I:Inv (Ug CX P w K mg base N qual scope f cdv A outer s H E) [] (Hr N vs) H s1:=Uw S hr.hd e0 hl r x
 refine An6 (ht [] s1 (Hr N vs) H _ I hq) (fun fl s' hs=>?_) fun e s' hs=>hs
 have fin:∀ {σ':St}{H':Hp}{v:V}{u:Value},Inv (Ug CX P w K mg base N qual scope f cdv A outer s H E) [] σ' H' s'->RelV v u->Q v H'->CE outer P w K H s Q u s' :=
  fun {σ' H' v u} J rv q=>⟨v,H',J.os,J.bare,J.base,J.hok,rv,q⟩
 cases fl with
 |ret u =>
  obtain⟨v,σ',H',J,rv,q⟩:=hs
  exact fin J rv q
 |next =>
  obtain⟨σ',H',J,q⟩:=hs
  exact fin (v:=V.non) (u:=Value.none) J rfl q
 |brk =>
  obtain⟨_,_,_,q⟩:=hs
  exact False.elim q
 |cont =>
  obtain⟨_,_,_,q⟩:=hs
  exact False.elim q
section
variable {X:Cx}{x:Str}{p pos:Pos}{e:Expr}{es:List Expr}{t:TA}{id T:String}{r:List V->Hp->VK->Prop}
end
end L2
namespace HT
open PySem PyProof.Rows
section
open PySem.SeqAt
open PySem.AutoSeq1 (wpAny_loadPart')
open PySem.MeetsSeq PySem.MeetsSeq2 PySem.MeetsSeq3
end
section
variable {prog:Program}{w:World}{A:Around}{E:Value->Shared->Prop}{s:Shared}
theorem cat_tup {t b:Addr}{vs ws:List Value}{Q:Value->Shared->Prop} (ht:IsTup s.heap t vs.toArray) (hb:IsTup s.heap b ws.toArray) (hv:vs≠[])
  (h1:ws=[]->Q (.ref t) s) (h2:ws≠[]->Q (.ref s.heap.objs.size) { s with heap:=s.heap.push { cls:=.type "tuple",data:=.seq (vs++ws).toArray } })
  (hsz:vs.length+ws.length<=sizeLine):wpAny (model prog w) A (binaryOp .Add (.ref t) (.ref b)) Q E s:=by
 obtain⟨⟨cls,dd,data,sl⟩,ho,hc,n,hd⟩:=id ht
 obtain⟨⟨cls2,dd2,data2,sl2⟩,ho2,hc2,n2,hd2⟩:=id hb
 simp only at hc hd hc2 hd2
 subst hc hd hc2 hd2
 have e:vs.toArray++ws.toArray=(vs++ws).toArray:=by simp
 by_cases hw:ws=[]
 ·exact concat_meets ⟨_,ho,rfl⟩ ⟨_,ho2,rfl⟩ noFill_tuple_add seq_tuple_add PySem.F.slot_tuple_add PySem.F.entry_tuple_add (PySem.F.args_tuple_add_2 _ _)
   (tuple_addW1 t b vs.toArray ws.toArray n n2 dd dd2 sl sl2 (by simpa using hv) (by simp[hw])) ⟨ho,ho2,h1 hw⟩
 ·refine concat_meets ⟨_,ho,rfl⟩ ⟨_,ho2,rfl⟩ noFill_tuple_add seq_tuple_add PySem.F.slot_tuple_add PySem.F.entry_tuple_add (PySem.F.args_tuple_add_2 _ _)
   (tuple_addW2 t b vs.toArray ws.toArray n n2 dd dd2 sl sl2 (by simpa using hv) (by simpa using hw) (by rw[Al8,Al8];exact hsz)) ⟨ho,ho2,?_⟩
  rw[e]
  exact h2 hw
noncomputable def sIx (n d:Nat):Option Int->Nat
 |none=>d
 |some v=>if v < 0 then (v+(n:Int)).toNat else min v.toNat n
theorem Ahk (n d:Nat) (hd:d<=n) (o:Option Int):sIx n d o<=n:=by
 cases o with
 |none=>exact hd
 |some v =>
  show (if v < 0 then (v+(n:Int)).toNat else min v.toNat n)<=n
  by_cases hv:v < 0
  ·rw[Amf hv];lia
  ·rw[Aml hv];exact Nat.min_le_right _ _
theorem Ud (v:Int) (n d:Nat):(if v < 0 then max (v+(n:Int)) 0 else min v (n:Int))=((sIx n d (some v):Nat):Int):=by
 show (if v < 0 then max (v+(n:Int)) 0 else min v (n:Int))=(((if v < 0 then (v+(n:Int)).toNat else min v.toNat n):Nat):Int)
 by_cases hv:v < 0
 ·simp only[Amf hv];lia
 ·simp only[Aml hv];lia
theorem Ry (lo hi:Option Int) (n:Nat):Builtin.Slice.sliceAdjust lo hi 1 (n:Int)=(((sIx n 0 lo:Nat):Int),((sIx n n hi:Nat):Int)):=by
 have h1:¬ ((1:Int) < 0):=by lia
 unfold Builtin.Slice.sliceAdjust
 simp only[h1,Anh]
 refine Prod.ext ?_ ?_
 ·cases lo with
  |none=>rfl
  |some v=>exact Ud v n 0
 ·cases hi with
  |none=>rfl
  |some v=>exact Ud v n n
theorem Tg (i j:Nat):Builtin.Slice.slicePlaces (i:Int) (j:Int) 1=j - i:=by
 unfold Builtin.Slice.slicePlaces
 have h1:(1:Int) > 0:=by lia
 simp only[h1,Anr,Int.ediv_one]
 split<;>lia
theorem slicePart_ {v:Value}{o:Option Int}{Q:Option Int->Shared->Prop} (p:IsPart v o) (h:Q o s):wpAny (model prog w) A (Builtin.Slice.slicePartIndex v) Q E s:=by
 cases p with
 |none=>exact slicePart_none h
 |int i t=>exact slicePart_int h
theorem sliceApplied_gen {sl:Addr}{vl vu:Value}{lo hi:Option Int}{n:Nat}{Q:Int×Int×Nat->Shared->Prop} (hs:s.heap.IsSliceOf sl vl vu .none) (pl:IsPart vl lo) (pu:IsPart vu hi)
  (h:Q (((sIx n 0 lo:Nat):Int),1,sIx n n hi - sIx n 0 lo) s):wpAny (model prog w) A (Builtin.Slice.sliceApplied (.ref sl) (pure (n:Int))) Q E s:=by
 obtain⟨os,hos,hcs,hds⟩:=id hs
 unfold Builtin.Slice.sliceApplied Builtin.Slice.sliceFields
 refine Al2 (Al2 (wpAny_field hos hds (x:=vl) rfl (Al2 (wpAny_field hos hds (x:=vu) rfl (Al2 (wpAny_field hos hds (x:=.none) rfl (Al3 ?_)))))))
 refine Al2 (slicePart_none ?_)
 show wpAny _ _ (if ((1:Int) == 0)=true then _ else _) _ _ s
 rw[Aml (by decide)]
 refine Al2 (slicePart_ pl (Al2 (slicePart_ pu (Al2 (Al3 ?_)))))
 show wpAny _ _ (match Builtin.Slice.sliceAdjust lo hi 1 (n:Int) with|(lo,hi)=>pure (lo,(1:Int),Builtin.Slice.slicePlaces lo hi 1)) _ _ s
 rw[Ry lo hi n]
 show wpAny _ _ (pure (((sIx n 0 lo:Nat):Int),(1:Int),Builtin.Slice.slicePlaces ((sIx n 0 lo:Nat):Int) ((sIx n n hi:Nat):Int) 1)) _ _ s
 rw[Tg]
 exact Al3 h
theorem Zr (xs:Array Value) (i k:Nat):((List.range k).filterMap fun (m:Nat)=>xs[((i:Int)+(m:Int) * 1).toNat]?).toArray=((xs.toList.drop i).take k).toArray:=by
 have e:(fun (m:Nat)=>xs[((i:Int)+(m:Int) * 1).toNat]?)=fun m=>xs[i+m]?:=by
  funext m
  have:((i:Int)+(m:Int) * 1).toNat=i+m:=by lia
  rw[this]
 rw[e]
 have:=pick_run xs i k
 rw[List.filterMap_map] at this
 have e2:((fun x=>xs[x]?) ∘ fun x=>i+x)=fun m=>xs[i+m]?:=rfl
 rw[e2] at this
 rw[this]
theorem getItem_tuple_cut {t sl:Addr}{items:Array Value}{vl vu:Value}{lo hi:Option Int}{Q:Value->Shared->Prop} (ht:IsTup s.heap t items) (hs:s.heap.IsSliceOf sl vl vu .none) (pl:IsPart vl lo) (pu:IsPart vu hi)
  (hw:¬ (sIx items.size 0 lo=0/\sIx items.size items.size hi=items.size))
  (h:Q (.ref s.heap.objs.size) { s with heap:=s.heap.push { cls:=.type "tuple",data:=.seq ((items.toList.drop (sIx items.size 0 lo)).take (sIx items.size items.size hi - sIx items.size 0 lo)).toArray } })
  (hsz:items.size<=sizeLine):wpAny (model prog w) A (getItem (.ref t) (.ref sl)) Q E s:=by
 have htake:sizeOk (.seq ((items.toList.drop (sIx items.size 0 lo)).take (sIx items.size items.size hi - sIx items.size 0 lo)).toArray):=by
  show ((items.toList.drop (sIx items.size 0 lo)).take (sIx items.size items.size hi - sIx items.size 0 lo)).toArray.size<=sizeLine
  rw[Al8,Am4,An9,Amc]
  lia
 have hj:sIx items.size items.size hi<=items.size:=Ahk _ _ (Al7 _) hi
 obtain⟨os,hos,hcs,hds⟩:=id hs
 have hTs:s.TypeIs (.ref sl) "slice":=⟨os,hos,hcs⟩
 unfold getItem
 try with_reducible refine Ani ?_
 first|refine Al2 (Al3 ?_)|skip
 refine Al2 (wpAny_sequenceKey ht.typeIs (by decide) ?_)
 refine Al2 (wpAny_callSpecial?_slot (name:=Str.ofString "__getitem__") ht.typeIs PyProof.Rows.slot_tuple_getitem
  (wpAny_call_entry PyProof.Rows.slot_tuple_getitem ht.typeIs entry_tuple_getitem ?_ (args_tuple_getitem _ _)))
 show wpAny _ _ (Builtin.Tuple.tupleItemsOf (.ref t) >>= _) _ _ s
 refine Al2 (tupleItemsOf_ ht ?_)
 refine Al2 (wpAny_typeOf hTs ?_)
 rw[Amf (by decide)]
 refine Al2 (sliceApplied_gen hs pl pu ?_)
 have hno:¬ ((((sIx items.size 0 lo:Nat):Int) == 0&&(1:Int) == 1&&(sIx items.size items.size hi - sIx items.size 0 lo) == items.size)=true):=by
  intro q
  rw[Ami,Ami] at q
  have q1:((sIx items.size 0 lo:Nat):Int)=0:=eq_of_beq q.1.1
  have q2:sIx items.size items.size hi - sIx items.size 0 lo=items.size:=eq_of_beq q.2
  exact hw ⟨by lia,by lia⟩
 show wpAny _ _ (if (((sIx items.size 0 lo:Nat):Int) == 0&&(1:Int) == 1&&(sIx items.size items.size hi - sIx items.size 0 lo) == items.size)=true then _ else _) _ _ s
 rw[Aml hno,Zr]
 first
  |exact Al2 (m:=Builtin.Tuple.tupleExact _) (Am8 (Al3 ⟨_,rfl,Al3 h⟩) htake)
  |exact Al2 (m:=Builtin.Tuple.tupleExact _) (Am8 (Al2 (Al3 (Al3 ⟨_,rfl,Al3 h⟩))) htake)
  |exact Al2 (Al2 (m:=Builtin.Tuple.tupleExact _) (Am8 (Al3 (Al3 ⟨_,rfl,Al3 h⟩)) htake))
  |exact Al2 (Al2 (m:=Builtin.Tuple.tupleExact _) (Am8 (Al3 ⟨_,rfl,Al3 h⟩) htake))
end
end HT
namespace L2
open PySem PySem.Spec PyProof.Rows
abbrev TO:=St->Hp->(Option Int->Hp->Prop)->Prop
def PO (X:Cx) (e:Option Expr) (t:TO):Prop :=
 ∀ (pins:List (Addr×Obj)) (s:Shared) (σ:St) (H:Hp) (Q:Option Int->Hp->Prop),Inv X pins σ H s->t σ H Q ->
  wpAny (model X.prog X.w) X.A (evalPart e X.env) (fun u s'=>∃ o H',Inv X pins σ H' s'/\IsPart u o/\Q o H') X.xe s
noncomputable def Aee:TO:=fun _ H Q=>Q none H
noncomputable def Aky (t:TE):TO:=fun σ H Q=>t σ H fun x H1=>∃ i,x=.int i/\Q (some i) H1
section
variable {X:Cx}{e:Expr}{te:TE}{lo hi:Option Expr}{tl th:TO}{pos p2:Pos}
theorem Ada:PO X none Aee:=by
 intro pins s σ H Q I h
 rw[evalPart_none]
 exact Al3 ⟨none,H,I,.none,h⟩
theorem Adb (h:PE X e te):PO X (some e) (Aky te):=by
 intro pins s σ H Q I hw
 rw[evalPart_some]
 refine thn (h pins s σ H _ I hw) fun u s1 ⟨x,H1,I1,r1,q1⟩=>?_
 obtain⟨i,rfl,q⟩:=q1
 obtain⟨t,rfl⟩:=r1
 exact⟨some i,H1,I1,.int i t,q⟩
def SlR (X:Cx) (r:V->Option Int->Option Int->Hp->VK->Prop):Prop :=
 ∀ (pins:List (Addr×Obj)) (s:Shared) (σ:St) (H:Hp) (x:V) (v vl vu:Value) (lo hi:Option Int) (sl:Addr) (Q:VK),Inv X pins σ H s->RelV x v->s.heap.IsSliceOf sl vl vu .none->IsPart vl lo->IsPart vu hi->r x lo hi H Q ->
  ∃ T id,typeLookup (.type T) "__getitem__"=pure (some (.builtin id))/\s.TypeIs v T/\wpAny (model X.prog X.w) X.A (getItem v (.ref sl)) (EP X pins σ Q) X.xe s
theorem SlR.or {r r':V->Option Int->Option Int->Hp->VK->Prop} (h:SlR X r) (h':SlR X r'):SlR X (fun x lo hi H Q=>r x lo hi H Q\/r' x lo hi H Q):=by
 intro pins s σ H x v vl vu lo hi sl Q I rx hs pl pu q
 rcases q with q|q
 ·exact h pins s σ H x v vl vu lo hi sl Q I rx hs pl pu q
 ·exact h' pins s σ H x v vl vu lo hi sl Q I rx hs pl pu q
noncomputable def tSl (r:V->Option Int->Option Int->Hp->VK->Prop) (te:TE) (tl th:TO):TE:=fun σ H Q=>te σ H fun x H1=>tl σ H1 fun l H2=>th σ H2 fun u H3=>r x l u H3 Q
theorem Re {r:V->Option Int->Option Int->Hp->VK->Prop} (hr:SlR X r) (he:PE X e te) (hl:PO X lo tl) (hu:PO X hi th):PE X (.Subscript e (.Slice lo hi none p2) pos) (tSl r te tl th):=by
 intro pins s σ H Q I h
 refine Subscript_ (thn (he pins s σ H _ I h) fun v s1 ⟨x,H1,I1,r1,q1⟩=>?_)
 refine wpAny_Slice (thn (hl pins s1 σ H1 _ I1 q1) fun vl s2 ⟨l,H2,I2,pl,q2⟩=>thn (hu pins s2 σ H2 _ I2 q2) fun vu s3 ⟨u,H3,I3,pu,q3⟩=>?_)
 rw[evalPart_none]
 refine Al3 ?_
 have I4:Inv X pins σ H3 { s3 with heap:=s3.heap.push { cls:=.type "slice",data:=.fields #[vl,vu,.none] } }:=I3.kept (t':=s3.toks) fun b ob q=>Al5 _ q
 obtain⟨T,id,hT,ht,hg⟩:=hr pins { s3 with heap:=s3.heap.push { cls:=.type "slice",data:=.fields #[vl,vu,.none] } } σ H3 x v vl vu l u s3.heap.objs.size Q I4 r1 (Heap.IsSliceOf.new ..) pl pu q3
 show wpAny (model X.prog X.w) X.A (subscriptTail e (.Slice lo hi none p2) v (.ref s3.heap.objs.size)) (EP X pins σ Q) X.xe { s3 with heap:=s3.heap.push { cls:=.type "slice",data:=.fields #[vl,vu,.none] } }
 exact tail_any (ops:=[.ref s3.heap.objs.size,v]) ht hT hg (by with_unfolding_all rfl)
def Aai (xs:List V) (lo hi:Option Int):List V:=(xs.drop (HT.sIx xs.length 0 lo)).take (HT.sIx xs.length xs.length hi - HT.sIx xs.length 0 lo)
theorem G5 (xs:List V) (lo hi:Option Int):(Aai xs lo hi).length<=xs.length:=by
 unfold Aai
 rw[Am4,An9]
 lia
def Alu (K:W.Frag):V->Option Int->Option Int->Hp->VK->Prop:=fun x lo hi H Q=>∃ a xs,x=.ref a/\SqT K H a xs /\
 ¬ (HT.sIx xs.length 0 lo=0/\HT.sIx xs.length xs.length hi=xs.length)/\∀ p,H p=none->Q (.ref p) (upd H p (.tup (Aai xs lo hi)))
theorem sl_tup:SlR X (Alu X.K):=by
 intro pins s σ H x v vl vu lo hi sl Q I rx hs pl pu h
 obtain⟨a,xs,rfl,hx,hw,q⟩:=h
 cases rx
 obtain⟨its,r,ht,hz⟩:=I.tuple hx
 have hlen:its.toArray.size=xs.length:=by rw[Al8];exact r.length.symm
 refine⟨"tuple",_,PyProof.Rows.slot_tuple_getitem.lookup,ht.typeIs,?_⟩
 refine HT.getItem_tuple_cut ht hs pl pu (by rw[hlen];exact hw) ?_ (by rw[hlen];exact hz)
 rw[hlen]
 refine⟨.ref s.heap.objs.size,_,I.laid (t':=s.toks) (o:=.tup (Aai xs lo hi)) (fun b ob q=>Al5 _ q) (Al7 _) ?_,rfl,q _ (I.hok.fresh (Al7 _))⟩
 exact⟨Amv (G5 xs lo hi) hz,_,(r.drop (HT.sIx xs.length 0 lo)).take (HT.sIx xs.length xs.length hi - HT.sIx xs.length 0 lo),TupD.new _ _⟩
def Akp (K:W.Frag):R2:=fun x y H Q=>∃ a b xs ys,x=.ref a/\y=.ref b/\SqT K H a xs/\SqT K H b ys/\xs≠[]/\xs.length+ys.length<=sizeLine /\
 (ys=[]->Q (.ref a) H)/\(ys≠[]->∀ p,H p=none->Q (.ref p) (upd H p (.tup (xs++ys))))
theorem Vals.nil_iff {xs:List V}{us:List Value} (r:Vals xs us):us=[] ↔ xs=[]:=by
 cases r with
 |nil=>simp
 |cons _ _=>simp
theorem op_catT:OpR X (binaryOp .Add) (Akp X.K):=by
 intro pins s σ H x y v u Q I rx ry h
 obtain⟨a,b,xs,ys,rfl,rfl,ha,hb,hx,hz,q1,q2⟩:=h
 cases rx
 cases ry
 obtain⟨its,r1,p1,_⟩:=I.tuple ha
 obtain⟨its2,r2,p2,_⟩:=I.tuple hb
 refine HT.cat_tup p1 p2 (fun z=>hx (r1.nil_iff.mp z)) (fun z=>⟨.ref a,H,I,rfl,q1 (r2.nil_iff.mp z)⟩) (fun z=>?_) (by rw[<- r1.length,<- r2.length];exact hz)
 refine⟨.ref s.heap.objs.size,_,I.laid (t':=s.toks) (o:=.tup (xs++ys)) (fun b ob q=>Al5 _ q) (Al7 _) ?_,rfl,q2 (fun w=>z (r2.nil_iff.mpr w)) _ (I.hok.fresh (Al7 _))⟩
 exact⟨by rw[Amn];exact hz,_,r1.append r2,TupD.new _ _⟩
end
noncomputable def ixN (n:Nat) (i:Int):Option Nat:=if 0<=i then (if i < n then some i.toNat else none) else if -(n:Int)<=i then some (i+n).toNat else none
def atI {α:Type} (xs:List α) (i:Int):Option α:=(ixN xs.length i).bind fun j=>xs[j]?
theorem Ab4 {n:Nat}{i:Int}{j:Nat} (h:ixN n i=some j):seqIndex? i n=some j/\j < n/\-(n:Int)<=i/\i < n:=by
 unfold ixN at h
 by_cases h0:0<=i
 ·rw[Amf h0] at h
  by_cases h1:i < n
  ·rw[Amf h1] at h
   have e:i.toNat=j:=Anf h
   exact⟨by rw[seqIndex_of h0 h1,e],by lia,by lia,h1⟩
  ·rw[Aml h1] at h;cases h
 ·rw[Aml h0] at h
  by_cases h1:-(n:Int)<=i
  ·rw[Amf h1] at h
   have e:(i+n).toNat=j:=Anf h
   exact⟨by rw[seqIndex_neg (by lia) h1,e],by lia,h1,by lia⟩
  ·rw[Aml h1] at h;cases h
theorem Jy {α:Type}{xs:List α}{i:Int}{v:α} (h:atI xs i=some v):∃ j,seqIndex? i xs.length=some j/\xs[j]?=some v/\j < xs.length/\-(xs.length:Int)<=i/\i < xs.length:=by
 unfold atI at h
 cases e:ixN xs.length i with
 |none=>rw[e] at h;cases h
 |some j =>
  rw[e] at h
  obtain⟨h1,h2,h3,h4⟩:=Ab4 e
  exact⟨j,h1,h,h2,h3,h4⟩
def Nj (b:Expr):Prop:=∀ o i,subscripted b false o i=operate [o,i] (getItem o i)
def IxR (X:Cx) (r:R2):Prop :=
 ∀ (value slice:Expr) (pins:List (Addr×Obj)) (s:Shared) (σ:St) (H:Hp) (x y:V) (v u:Value) (Q:VK),Inv X pins σ H s->RelV x v->RelV y u->r x y H Q ->
  subscripted slice false v u=operate [v,u] (getItem v u)->wpAny (model X.prog X.w) X.A (subscriptTail value slice v u) (EP X pins σ Q) X.xe s
def MtR (X:Cx) (id:String) (r:V->List V->Hp->VK->Prop):Prop :=
 ∀ (pins:List (Addr×Obj)) (s:Shared) (σ:St) (H:Hp) (x:V) (xs:List V) (v:Value) (us:List Value) (Q:VK),Inv X pins σ H s->RelV x v->Vals xs us->r x xs H Q ->
  wpAny (model X.prog X.w) X.A (call (.builtin id) (v::us)) (EP X pins σ Q) X.xe s
section
variable {X:Cx}{a b:Expr}{ta tb:TE}{pos:Pos}
theorem IxR.or {r r':R2} (h:IxR X r) (h':IxR X r'):IxR X (fun x y H Q=>r x y H Q\/r' x y H Q):=by
 intro value slice pins s σ H x y v u Q I rx ry q hs
 rcases q with q|q
 ·exact h value slice pins s σ H x y v u Q I rx ry q hs
 ·exact h' value slice pins s σ H x y v u Q I rx ry q hs
theorem Akf {r:R2} (hr:IxR X r) (ha:PE X a ta) (hb:PE X b tb) (hs:Nj b):PE X (.Subscript a b pos) (tOp r ta tb):=by
 intro pins s σ H Q I h
 exact Subscript_ (Ak1 ha hb I h fun v u s2 x y H2 I2 rx ry q=>hr a b pins s2 σ H2 x y v u Q I2 rx ry q (hs _ _))
def Ak9 (K:W.Frag):R2:=fun x y H Q=>∃ p xs i v,x=.ref p/\y=.int i/\SqL K H p xs/\atI xs i=some v/\Q v H
def Alb (K:W.Frag):R2:=fun x y H Q=>∃ p xs i v,x=.ref p/\y=.int i/\SqT K H p xs/\atI xs i=some v/\Q v H
def Ala:R2:=fun x y H Q=>∃ z i c,x=.str z/\y=.int i/\z.length<=sizeLine/\atI z.cps.toList i=some c/\Q (.str ⟨#[c]⟩) H
theorem ix_list:IxR X (Ak9 X.K):=by
 intro value slice pins s σ H x y v u Q I rx ry h hs
 obtain⟨p,xs,i,z,rfl,rfl,hq,he,q⟩:=h
 cases rx
 obtain⟨t,rfl⟩:=ry
 obtain⟨its,r,pl,hz⟩:=I.list hq
 obtain⟨j,h1,h2,h3,h4,h5⟩:=Jy he
 obtain⟨w,ew,rw'⟩:=r.get h2
 have hl:=r.length
 have hn:=Mm
 have fin:EP X pins σ Q w s:=⟨z,H,I,rw',q⟩
 by_cases h0:0<=i
 ·have hj:i.toNat=j:=by
   rw[seqIndex_of h0 h5] at h1
   exact Anf h1
  exact item_listR pl.isList h0 (by lia) (by rw[hj];simpa using ew) fin hs
 ·have hj:(i+(its.toArray.size:Int)).toNat=j:=by
   rw[seqIndex_neg (by lia) h4] at h1
   rw[Al8,<- hl]
   exact Anf h1
  exact subscriptTail_builtinR (x:=w) pl.isList.typeIs slot_list_getitem.lookup
   (wpAny_getItem_list_neg (Q:=fun r s'=>r=w/\EP X pins σ Q r s') pl.isList (by lia) (by rw[Al8]<;>lia) (by lia) (by rw[hj];simpa using ew) ⟨rfl,fin⟩) hs
theorem ix_tup:IxR X (Alb X.K):=by
 intro value slice pins s σ H x y v u Q I rx ry h hs
 obtain⟨p,xs,i,z,rfl,rfl,hq,he,q⟩:=h
 cases rx
 obtain⟨t,rfl⟩:=ry
 obtain⟨its,r,pl,hz⟩:=I.tuple hq
 obtain⟨j,h1,h2,h3,h4,h5⟩:=Jy he
 obtain⟨w,ew,rw'⟩:=r.get h2
 have hl:=r.length
 have hn:=Mm
 have fin:EP X pins σ Q w s:=⟨z,H,I,rw',q⟩
 exact subscriptTail_builtinR (x:=w) pl.typeIs slot_tuple_getitem.lookup
  (getItem_tuple (j:=j) (Q:=fun r s'=>r=w/\EP X pins σ Q r s') pl (by lia) (by lia) (by rw[Al8,<- hl];exact h1) (by simpa using ew) ⟨rfl,fin⟩) hs
theorem Afo:IxR X Ala:=by
 intro value slice pins s σ H x y v u Q I rx ry h hs
 obtain⟨z,i,c,rfl,rfl,hz,he,q⟩:=h
 obtain⟨t,rfl⟩:=rx
 obtain⟨t',rfl⟩:=ry
 obtain⟨j,h1,h2,h3,h4,h5⟩:=Jy he
 have hl:z.cps.toList.length=z.length:=by simp[Str.length]
 rw[hl] at h1 h4 h5
 have hn:=Mm
 exact tail_any (typeIs_str s z t) slot_str_getitem.lookup (getItem_str (c:=c) (by
  have e1:decide (i < -(2 ^ 63:Int))=false:=Amg (by lia)
  have e2:decide (i ≥ 2 ^ 63)=false:=Amg (by lia)
  rw[e1,e2,Aow]) (by rw[h1];simpa using h2) ⟨.str ⟨#[c]⟩,H,I.tok _,⟨_,rfl⟩,q⟩) hs
def rIx (K:W.Frag):R2:=fun x y H Q=>Ak9 K x y H Q\/Alb K x y H Q\/Ala x y H Q
theorem Afn:IxR X (rIx X.K):=ix_list.or (ix_tup.or Afo)
theorem M4 (lo hi:Option Int) (n:Nat):(sliceBounds lo hi none n).1=((HT.sIx n 0 lo:Nat):Int)/\(sliceBounds lo hi none n).2.1=((HT.sIx n n hi:Nat):Int)/\(sliceBounds lo hi none n).2.2=1:=by
 refine⟨?_,?_,rfl⟩
 ·cases lo with
  |none=>simp[sliceBounds,HT.sIx]
  |some i =>
   simp only[sliceBounds,HT.sIx,Option.getD_none,show (1:Int) > 0 by decide,Anr]
   by_cases h:i < 0
   ·simp only[h,Anr]<;>lia
   ·simp only[h,Anh]<;>lia
 ·cases hi with
  |none=>simp[sliceBounds,HT.sIx]
  |some i =>
   simp only[sliceBounds,HT.sIx,Option.getD_none,show (1:Int) > 0 by decide,Anr]
   by_cases h:i < 0
   ·simp only[h,Anr]<;>lia
   ·simp only[h,Anh]<;>lia
theorem Lu (its:List Value) (lo hi:Option Int):slicePick its.toArray lo hi none=((its.drop (HT.sIx its.length 0 lo)).take (HT.sIx its.length its.length hi - HT.sIx its.length 0 lo)).toArray:=by
 obtain⟨h1,h2,h3⟩:=M4 lo hi its.toArray.size
 unfold slicePick
 rw[h1,h2,h3]
 simp only[sliceRange_one,pick_run,Al8]<;>rfl
def Alc (K:W.Frag):V->Option Int->Option Int->Hp->VK->Prop:=fun x lo hi H Q=>∃ a xs,x=.ref a/\SqL K H a xs/\∀ p,H p=none->Q (.ref p) (upd H p (.lst (Aai xs lo hi)))
theorem Ad5:SlR X (Alc X.K):=by
 intro pins s σ H x v vl vu lo hi sl Q I rx hs pl pu h
 obtain⟨a,xs,rfl,hx,q⟩:=h
 cases rx
 obtain⟨its,r,ht,hz⟩:=I.list hx
 have hlen:=r.length
 refine⟨"list",_,slot_list_getitem.lookup,ht.isList.typeIs,?_⟩
 refine wpAny_getItem_list_slice ht.isList hs pl pu .none (by simp) ?_ (by rw[Al8]<;>lia)
 rw[Lu,<- hlen]
 refine⟨.ref s.heap.objs.size,_,I.laid (t':=s.toks) (o:=.lst (Aai xs lo hi)) (fun b ob q=>Al5 _ q) (Al7 _) ?_,rfl,q _ (I.hok.fresh (Al7 _))⟩
 exact⟨Amv (G5 xs lo hi) hz,_,0,(r.drop (HT.sIx xs.length 0 lo)).take (HT.sIx xs.length xs.length hi - HT.sIx xs.length 0 lo),Amp _ rfl⟩
theorem Mb:Tw X (.type "list") (fun xs H Q=>∃ p ys,xs=[.ref p]/\(SqL X.K H p ys\/SqT X.K H p ys)/\∀ l,H l=none->Q (.ref l) (upd H l (.lst ys))):=by
 intro pins s σ H xs us Q I r h
 obtain⟨p,ys,rfl,hq,q⟩:=h
 obtain⟨u,rfl,rx⟩:=Ij r
 cases rx
 have fin:∀ (its:List Value),Vals ys its->ys.length<=sizeLine->∀ (h':Heap) (c':Nat),(∀ b o',s.heap.get? b=some o'->h'.get? b=some o') ->
   h'.get? s.heap.objs.size=some { cls:=.type "list",dict:=none,data:=.seq its.toArray c',slots:=#[] }->EP X pins σ Q (.ref s.heap.objs.size) { s with heap:=h' }:=fun its r' hz h' c' kp e =>
  ⟨.ref s.heap.objs.size,_,I.laid (t':=s.toks) kp (Al7 _) (show ObjOk X.prog X.w X.K _ h' _ (.lst ys) from ⟨hz,its,c',r',e⟩),rfl,q _ (I.hok.fresh (Al7 _))⟩
 rcases hq with hq|hq
 ·obtain⟨its,r',pl,hz⟩:=I.list hq
  have hlen:=r'.length
  obtain⟨o,ho,hc,n,hd⟩:=pl.isList
  exact call_list_seq p (.inl rfl) ho hc hd (fun h' c' kp e=>fin its r' hz h' c' kp e) (by simp only[Al8]<;>lia)
 ·obtain⟨its,r',pl,hz⟩:=I.tuple hq
  have hlen:=r'.length
  obtain⟨o,ho,hc,n,hd⟩:=pl
  exact call_list_seq p (.inr rfl) ho hc hd (fun h' c' kp e=>fin its r' hz h' c' kp e) (by simp only[Al8]<;>lia)
theorem J2:Tw X (.type "tuple") (fun xs H Q=>∃ p ys,xs=[.ref p]/\((SqL X.K H p ys/\∀ l,H l=none->Q (.ref l) (upd H l (.tup ys)))\/(SqT X.K H p ys/\Q (.ref p) H))):=by
 intro pins s σ H xs us Q I r h
 obtain⟨p,ys,rfl,h⟩:=h
 obtain⟨u,rfl,rx⟩:=Ij r
 cases rx
 rcases h with ⟨hq,q⟩|⟨hq,q⟩
 ·obtain⟨its,r',pl,hz⟩:=I.list hq
  have hlen:=r'.length
  refine call_tuple_list pl.isList (fun h' kp=>?_) (by simp only[Al8]<;>lia)
  have I1:Inv X pins σ H { s with heap:=h' }:=I.kept (t':=s.toks) kp
  have I2:Inv X pins σ (upd H h'.objs.size (.tup ys)) { s with heap:=h'.push { cls:=.type "tuple",data:=.seq its.toArray } } :=
   I1.laid (t':=s.toks) (fun b o e=>Al5 _ e) (Al7 _) (show ObjOk X.prog X.w X.K _ _ _ (.tup ys) from ⟨hz,its,r',TupD.new _ _⟩)
  exact⟨.ref h'.objs.size,_,I2,rfl,q _ (I1.hok.fresh (Al7 _))⟩
 ·obtain⟨its,r',pl,hz⟩:=I.tuple hq
  exact call_tuple_same pl ⟨.ref p,H,I,rfl,q⟩
def tyV (K:W.Frag) (T:String) (x:V) (H:Hp):Prop:=match x with
 |.str _=>T="str"
 |.int _=>T="int"
 |.ref p=>(T="list"/\∃ xs,SqL K H p xs)\/(T="tuple"/\∃ o,K.lookup p=some o/\o.cls=.type "tuple"/\o.dict=none) \/
   (T="dict"/\((∃ kvs,H p=some (.dK kvs))\/∃ kvs,H p=some (.dT kvs)))\/(T="set"/\∃ S n,H p=some (.set S n))
 |_=>False
theorem Ah3 {pins:List (Addr×Obj)}{σ:St}{H:Hp}{s:Shared}{T:String}{x:V}{v:Value} (I:Inv X pins σ H s) (r:RelV x v) (ty:tyV X.K T x H) :
  s.TypeIs v T/\∀ a,v=.ref a->∃ ob,s.heap.get? a=some ob/\ob.dict=none:=by
 cases x with
 |str z =>
  obtain⟨t,rfl⟩:=r
  cases (show T="str" from ty)
  exact⟨typeIs_str s z t,fun _ e=>nomatch e⟩
 |int i =>
  obtain⟨t,rfl⟩:=r
  cases (show T="int" from ty)
  exact⟨typeIs_int s i t,fun _ e=>nomatch e⟩
 |ref p =>
  cases r
  rcases ty with ⟨rfl,xs,hq⟩|⟨rfl,o,hk,hc,hd⟩|⟨rfl,hk⟩|⟨rfl,S,n,hk⟩
  ·obtain⟨its,_,pl,_⟩:=I.list hq
   refine⟨pl.isList.typeIs,fun a e=>?_⟩
   cases e
   obtain⟨o,n,e,c,hd,_⟩:=pl
   exact⟨o,e,hd⟩
  ·refine⟨⟨o,I.kIn p o hk,hc⟩,fun a e=>?_⟩
   cases e
   exact⟨o,I.kIn _ o hk,hd⟩
  ·have z:∃ o,s.heap.get? p=some o/\o.ExactDict:=by
    rcases hk with ⟨kvs,hk⟩|⟨kvs,hk⟩
    ·obtain⟨_,_,_,_,o,_,_,e,ex,_⟩:=I.hok p _ hk
     exact⟨o,e,ex⟩
    ·obtain⟨_,_,_,_,o,_,_,e,ex,_⟩:=I.hok p _ hk
     exact⟨o,e,ex⟩
   obtain⟨o,e,ex⟩:=z
   refine⟨⟨o,e,ex.1⟩,fun a e2=>?_⟩
   cases e2
   exact⟨o,e,ex.2.1⟩
  ·obtain⟨o,_,_,_,e,ex,_⟩:=I.hok p _ hk
   refine⟨⟨o,e,ex.1⟩,fun a e2=>?_⟩
   cases e2
   exact⟨o,e,ex.2.1⟩
 |_=>exact False.elim ty
noncomputable def tBM (K:W.Frag) (T:String) (r:V->List V->Hp->VK->Prop) (to:TE) (t:TA):TE:=fun σ H Q=>to σ H fun x H1=>tyV K T x H1/\t σ H1 fun xs H2=>r x xs H2 Q
variable {o e:Expr}{es:List Expr}{to:TE}{t:TA}{name:Str}{apos cpos:Pos}{T id:String}{r:V->List V->Hp->VK->Prop}
theorem Ake (pa:PlainAttrs T) (slot:Slot T name id) (hty:typeOf (.builtin id)=pure (.type "method_descriptor")) (hm:MtR X id r) (ho:PE X o to) (ha:PA X (e::es) t)
  (hbase:attributeBase o name X.env (eval o X.env)=eval o X.env:=by rfl)
  (hfew:((backTo cpos (starEach (e::es) X.env)).all (fun x=>!x.1)&&(backToKw cpos (keywordEach [] X.env)).all (fun x=>x.1.isSome)
   &&decide ((e::es).length+([]:List Keyword).length+(if ([]:List Keyword).isEmpty then 0 else 1) < 30))=true:=by rfl)
  (hline:(apos.endLine == cpos.line)=true:=by rfl) (hs:starEach (e::es) X.env=(false,eval e X.env)::starEach es X.env:=by rfl) (hplain:(backTo cpos (starEach es X.env)).any (·.1)=false:=by rfl) :
  PE X (.Call (.Attribute o name apos) (e::es) [] cpos) (tBM X.K T r to t):=by
 intro pins s σ H Q I h
 refine wpAny_Call_method_late hbase hfew hline rfl (thn (ho pins s σ H _ I h) fun v s1 ⟨x,H1,I1,r1,ty,q1⟩=>?_)
 obtain⟨h1,h2⟩:=Ah3 I1 r1 ty
 refine⟨T,id,pa,slot,hty,h1,h2,?_⟩
 have hA:=ha cpos pins s1 σ H1 _ I1 q1
 rw[hs] at hA ⊢
 refine Calls.callWith_builtin (by show (false||(backTo cpos (starEach es X.env)).any (·.1))=false;rw[hplain]<;>rfl) (Calls.evalArgs_plain ?_)
 exact thn hA fun us s2 ⟨vs,H2,I2,r2,q2⟩=>hm pins s2 σ H2 x vs v us Q I2 r1 r2 q2
end
def MtM (X:Cx) (id:String) (r:V->List V->Hp->VK->Prop):Prop :=
 ∀ (pins:List (Addr×Obj)) (s:Shared) (σ:St) (H:Hp) (x:V) (xs:List V) (v:Value) (us:List Value) (Q:VK),Inv X pins σ H s->RelV x v->Vals xs us->r x xs H Q ->
  wpAny (model X.prog X.w) X.A (call (.builtin id) (v::us)) (EP X pins σ Q) X.xe s
theorem Vals.one:∀ {x:V}{us:List Value},Vals [x] us->∃ u,us=[u]/\RelV x u
 |_,_,.cons r .nil=>⟨_,rfl,r⟩
theorem Vals.reverse {xs:List V}{us:List Value} (h:Vals xs us):Vals xs.reverse us.reverse:=by
 induction h with
 |nil=>exact .nil
 |cons r t ih=>rw[Aov,Aov];exact Vals.append ih (.cons r .nil)
section
variable {X:Cx}{pins:List (Addr×Obj)}{σ:St}{H:Hp}{s:Shared}{l b:Addr}{xs ys zs:List V}
theorem Inv.lset {its its':List Value}{n:Nat}{f:Array Value->Array Value}{t':Nat} (I:Inv X pins σ H s) (hH:H l=some (.lst xs))
  (e:s.heap.get? l=some { cls:=.type "list",data:=.seq its.toArray n }) (hf:f its.toArray=its'.toArray) (hv:Vals ys its') (hz:ys.length<=sizeLine) :
  Inv X pins σ (upd H l (.lst ys)) { s with heap:=s.heap.update l (Obj.mapSeq f),toks:=t' }:=by
 have q:=PySem.IsL.update e f
 rw[hf] at q
 refine I.write (x:=l) (e:=l) (by rw[hH];exact trivial) (.inl rfl) (fun b' u hb hu=>(Heap.get?_update_other s.heap (Obj.mapSeq f) (Ne.symm hb)).trans hu) ⟨_,q⟩ ?_
 exact⟨hz,its',_,hv,q⟩
theorem Inv.lnew {its:List Value}{t':Nat} (I:Inv X pins σ H s) (hv:Vals ys its) (hz:ys.length<=sizeLine) :
  Inv X pins σ (upd H s.heap.objs.size (.lst ys)) { s with heap:=s.heap.push { cls:=.type "list",data:=.seq its.toArray },toks:=t' } :=
 I.laid (fun _ _ q=>Al5 _ q) (Al7 _) ⟨hz,its,0,hv,Amp _ rfl⟩
theorem Inv.fresh (I:Inv X pins σ H s):H s.heap.objs.size=none:=I.hok.fresh (Al7 _)
inductive LstM (h:Heap) (l:Addr) (xs:List V):Prop where
 |mk (z:xs.length<=sizeLine) (its:List Value) (n:Nat) (r:Vals xs its) (q:xs.length=its.length) (e:h.get? l=some { cls:=.type "list",data:=.seq its.toArray n })
theorem Inv.lstM (I:Inv X pins σ H s) (hH:H l=some (.lst xs)):LstM s.heap l xs:=by
 obtain⟨z,its,n,r,e⟩:=I.hok l _ hH
 exact⟨z,its,n,r,r.length,e⟩
end
section
variable {X:Cx}
def V3:V->List V->Hp->VK->Prop:=fun x vs H Q=>∃ l xs y,x=.ref l/\vs=[y]/\H l=some (.lst xs)/\xs.length < sizeLine/\Q .non (upd H l (.lst (xs++[y])))
theorem Vc:MtM X "list.append" V3:=by
 intro pins s σ H x vs v us Q I rx rv h
 obtain⟨l,xs,y,rfl,rfl,hH,hz,q⟩:=h
 cases rx
 obtain⟨u,rfl,ru⟩:=rv.one
 obtain⟨z,its,n,r,hl,e⟩:=I.lstM hH
 refine call_meets F.slot_list_append ⟨_,e,rfl⟩ F.entry_list_append (F.args_list_append_2 _ _) (PySem.list_append l its.toArray n u (by rw[Al8];lia)) ⟨e,?_⟩
 refine⟨.non,_,I.lset (its':=its++[u]) hH e (by simp) (r.append (.cons ru .nil)) ?_,rfl,q⟩
 rw[Amn,Am0]
 lia
end
section
variable {prog:Program}{w:World}{A:Around}{E:Value->Shared->Prop}{s:Shared}
set_option maxRecDepth 100000 in
end
section
variable {X:Cx}
end
end L2
namespace Att
open PySem PySem.W PySem.Calls PyProof.Rows
theorem Hc {P:Params}{h:Heap}:∀ (ns:List Int) (vs:List Value),WellAll P h vs (ns.map WData.int)->IntsAre vs ns:=by
 intro ns
 induction ns with
 |nil =>
  intro vs w
  rw[Anm] at w
  cases w
  exact .nil
 |cons n ns ih =>
  intro vs w
  rw[Amr] at w
  cases w with
  |cons a b =>
   cases a
   exact .cons _ _ (ih _ b)
theorem V6 {l:OpenLaw}{n:Nat} (hn:l.most=some n) {P:Params}{h:Heap}{args:List WData}{vals:List Value}
  (hpre:l.row.toRowW.claim.pre args=true) (hwl:WellAll P h vals args) :
  ∃ a vs ns,vals=[Value.ref a]/\args=[WData.list (ns.map WData.int)]/\h.get? a=some { cls:=.type "list",data:=.seq vs.toArray }/\IntsAre vs ns/\ns.length<=n:=by
 have hsh:WShape.hasAll [] args [.list .int]=true:=(pre_splitW hpre).1
 have hc:l.pre.holds [] { args:=args }=true:=(pre_splitW hpre).2
 obtain⟨d,r,rfl,h1,h2⟩:=hasAllW_cons hsh
 obtain rfl:=hasAllW_nil h2
 obtain⟨xs,rfl,h3⟩:=hasW_list h1
 obtain⟨ns,rfl⟩:=items_int h3
 have hlen:ns.length<=n:=by
  unfold OpenLaw.pre at hc
  have h4:(WTm.not (.lt (.lit (.int (n:Int))) (.len (.arg 0)))).holds [] { args:=[.list (ns.map .int)] }=true:=by
   have h4:=(holds_andW hc).1
   rw[hn] at h4
   exact h4
  have h5:=condW_of h4 (w_not (w_lt w_lit (w_len_list (w_arg rfl))))
  rw[Ama] at h5
  refine Nat.le_of_not_lt fun q=>?_
  have q':(n:Int) < ((ns.length:Nat):Int):=by lia
  first
   |(rw[Ame q'] at h5;exact absurd h5 (by decide))
   |(simp at h5;lia)
 cases hwl with
 |cons w1 w2 =>
  cases w2
  cases w1 with
  |list ho hall=>exact⟨_,_,ns,rfl,rfl,ho,Hc ns _ hall,hlen⟩
theorem Vr (l:OpenLaw) (args:List WData):l.row.toRowW.claim.post args (.bool true) args=true :=
 postW_of (r:=l.row.toRowW) (X:=(true == true))
  (show WShape.has [] (.bool true) .bool=true by first|rfl|decide|simp[WShape.has,WShape.arms,WShape.armsAll])
  (show (WTm.eq .res (.lit (.bool true))).value [] { args:=args,res:=some (.bool true),after:=args }=some (.bool (true == true)) from w_eq_bool (w_res rfl) w_lit) rfl
theorem attach_call {l:OpenLaw}{n:Nat}{q:Program}{loose:List Str}{XP:(Str->Option Value)->Heap->Prop}{YP:World->Heap->Prop}{d:DefRec}
  (hn:l.most=some n) (hdf:d.params.defaults=[])
  (call:∀ (w:World) (s₀ s₁:Shared) (mg mb:Str->Option Value) (fa:Addr) (o:Obj) (pm cd doc:Value) (a:Addr) (vs:List Value) (ns:List Int),
   Ground q loose [] XP w s₀ mg mb s₁.heap->YP w s₁.heap ->
   s₁.heap.get? fa=some o->o.data=.func (docDef d.name d.params d.body d.scope pm cd doc)->s₁.heap.CodeRec cd d.name->mg d.name=some (.ref fa) ->
   s₁.heap.get? a=some { cls:=.type "list",data:=.seq vs.toArray }->IntsAre vs ns->ns.length<=n->s₁.gens=#[] ->
   codeAny (model l.prog w) callerA (.call (.ref fa) ⟨[.ref a],[]⟩) (fun r s'=>r=.ok (.ret (.bool true))/\OldK s₁.heap s'.heap/\s'.os=s₁.os/\AllBare s'.gens) s₁) :
  WalkO q loose XP YP l.row.toRowW d [] (fun f vs=>PySem.call f vs):=by
 intro w s₀ s₁ mg mb G Y fa o pm cd doc dV kV ho hd hcd hD hmg hg args vals as hpre hlay hrd hwl hlo
 obtain rfl:dV=.none:=Dflts.none hD hdf
 obtain rfl:kV=.none:=Dflts.noKw hD
 obtain⟨a,vs,ns,rfl,rfl,hobj,hints,hlen⟩:=V6 hn hpre hwl
 refine enter_call (codeAny_mono (call w s₀ s₁ mg mb fa o pm cd doc a vs ns G Y ho (fd_plain hd) hcd hmg hobj hints hlen hg) fun r s' hq=>?_)
 obtain⟨rfl,h2,h3,h4⟩:=hq
 exact⟨.inl ⟨.bool true,.bool true,[],rfl,fun _=>rfl,.bool true,Vr l _,fun _=>⟨List.Pairwise.nil,fun _ hm=>(nomatch hm)⟩⟩,h2,h3,h4⟩
section
variable {prog:Program}{w:World}{A:Around}{E:Value->Shared->Prop}{s:Shared}{K:Frag}
end
end Att
namespace L2
open PySem PySem.Spec PyProof.Rows
theorem Na:∀ {vs:List Value}{ns:List Int},IntsAre vs ns->Vals (ns.map V.int) vs
 |_,_,.nil=>.nil
 |_,_,.cons n t h=>.cons ⟨t,rfl⟩ (Na h)
def Aja (H:Hp):Prop:=∀ b,H b=none\/∃ o xs,H b=some (.frz o (.lst xs))
theorem Y6 {P:Program}{w:World}{K:W.Frag}{mg mb:Str->Option Value}{CX:CXT}{k:Nat}{fa a:Addr}{fd:FuncData}{x:Str}{sp:Sp}{s₁:Shared}{vs:List Value}{ns:List Int}
  (KX:K.In s₁.heap) (hns:s₁.heap.Ns mainGlobals mg) (hb:s₁.heap.Ns builtinsNs mb) (hbb:∀ x:Str,x≠"__name__"->mb x=bootBuiltins x) (hlim:s₁.heap.NoLimit) (hg:s₁.gens=#[])
  (ha:s₁.heap.get? a=some { cls:=.type "list",data:=.seq vs.toArray }) (hi:IntsAre vs ns) (hl:ns.length<=sizeLine) (hr:Room k callerA)
  (F:∀ base:Heap,K.In base->base.Ns mainGlobals mg->FnOk P w K mg base CX k fa fd [x] sp) (hbind:∀ (s:Shared) (u:Value),BindsTo s fd ⟨[u],[]⟩ [(x,u)])
  (hsp:∀ H:Hp,Aja H->SqL K H a (ns.map V.int)->sp [.ref a] H (fun v _=>v=.bl true) fun _ _ _=>False)
  (hCX:∀ H e s',CX [] H s₁ (fun _ _ _=>False) e s'->False) :
  codeAny (model P w) callerA (.call (.ref fa) ⟨[.ref a],[]⟩) (fun r s'=>r=.ok (.ret (.bool true))/\OldK s₁.heap s'.heap/\s'.os=s₁.os/\AllBare s'.gens) s₁:=by
 have rv:=Na hi
 have lenV:=hi.length
 -- from an abstract heap in which nothing but the script may be tracked
 have core:∀ H:Hp,Aja H->SqL K H a (ns.map V.int)->HOk P w K H s₁.heap->(∀ b,H b≠none->b=a)->(H a≠none->K.lookup a=none) ->
   codeAny (model P w) callerA (.call (.ref fa) ⟨[.ref a],[]⟩) (fun r s'=>r=.ok (.ret (.bool true))/\OldK s₁.heap s'.heap/\s'.os=s₁.os/\AllBare s'.gens) s₁:=by
  intro H hO hS hok hA hK
  have base_of:∀ {b:Addr}{o:Obj},s₁.heap.get? b=some o->H b=none->(Y2 s₁.heap H).get? b=some o:=fun e n=>Y3 e n
  have noA:∀ {b:Addr}{o:Obj}{es:Array DictEntry}{ep:Nat},s₁.heap.get? b=some o->o.data=.dict es ep->H b=none:=fun {b o es ep} e d=>by
   cases q:H b with
   |none=>rfl
   |some u =>
    have e':b=a:=hA b (by rw[q];simp)
    subst e'
    rw[ha] at e;cases e
    have d':Data.seq vs.toArray _=Data.dict es ep:=d
    cases d'
  have nsK:∀ {b:Addr}{m:Str->Option Value},s₁.heap.Ns b m->(Y2 s₁.heap H).Ns b m:=fun {b m} ⟨o,es,ep,e,d,r⟩=>⟨o,es,ep,base_of e (noA e d),d,r⟩
  have hKb:K.In (Y2 s₁.heap H):=fun b o e=>base_of (KX b o e) (by
   cases q:H b with
   |none=>rfl
   |some u =>
    have e':b=a:=hA b (by rw[q];simp)
    subst e'
    rw[hK (by rw[q];simp)] at e;cases e)
  have hM:Mod K mg (Y2 s₁.heap H):=⟨hKb,nsK hns,⟨mb,nsK hb,hbb⟩,let ⟨mc,h1,h2⟩:=hlim;⟨mc,nsK h1,h2⟩⟩
  have e0:Env0 P w K mg (Y2 s₁.heap H) callerA [] s₁ H:=⟨rfl,hM,fun b o e=>Acj e,Nat.le_of_eq (Uu _ _),trivial,fun b hb=>absurd (show b∈([]:List Addr) from hb) (by simp),hok,.of_eq hg⟩
  refine codeAny_mono ((F _ hKb (nsK hns)).run callerA [] s₁ H ⟨[.ref a],[]⟩ [.ref a] [.ref a] _ _ hr e0 (hbind s₁ (.ref a)) (.cons rfl .nil) (hsp H hO hS)) fun r s' h=>?_
  cases r with
  |error e=>exact (hCX H e s' h).elim
  |ok fl =>
   cases fl with
   |next=>exact False.elim h
   |brk=>exact False.elim h
   |cont=>exact False.elim h
   |ret u =>
    obtain⟨v,H',os,bare,un,hok',r',q⟩:=h
    have q':v=.bl true:=q
    subst q'
    obtain rfl:u=Value.bool true:=r'
    refine⟨rfl,OldK.of_keep fun b o e=>?_,os,bare⟩
    cases q:H b with
    |none=>exact un.keep b o e q (by intro z;exact absurd (show b∈([]:List Addr) from z) (by simp)) (by simp)
    |some u =>
     rcases hO b with z|⟨ob,xs,z⟩
     ·rw[q] at z;cases z
     ·have z2:=un.frzs b ob _ z
      obtain⟨e1,_⟩:=hok b _ z
      obtain⟨e2,_⟩:=hok' b _ z2
      rw[e] at e1;cases e1
      exact e2
 cases hk:K.lookup a with
 |some o =>
  -- the script is one of the module's own objects
  have e:=KX a o hk
  rw[ha] at e
  cases e
  refine core (fun _=>none) (fun _=>.inl rfl) (.inr ⟨_,vs.toArray,_,hk,rfl,rfl,rfl,by rw[Al8,lenV];exact hl,by simpa using rv⟩) (fun b u z=>by have z':(none:Option HO)=some u:=z;cases z') (fun b z=>absurd rfl z) fun z=>absurd rfl z
 |none =>
  refine core (fun b=>if b=a then some (.frz { cls:=.type "list",data:=.seq vs.toArray } (.lst (ns.map V.int))) else none) (fun b=>?_) (.inl (.inr ⟨{ cls:=.type "list",data:=.seq vs.toArray },Amf rfl⟩)) (fun b u z=>?_) (fun b z=>?_) fun _=>hk
  ·by_cases hb:b=a
   ·exact .inr ⟨_,_,Amf hb⟩
   ·exact .inl (Aml hb)
  ·by_cases hb:b=a
   ·have z':=(Amf hb).symm.trans z
    cases z'
    subst hb
    exact⟨ha,by rw[Ama];exact hl,vs,_,rv,ha⟩
   ·have z':=(Aml hb).symm.trans z
    cases z'
  ·by_cases hb:b=a
   ·exact hb
   ·exact absurd (Aml hb) z
theorem walk_of {l:W.OpenLaw}{n k:Nat}{q:Program}{loose:List Str}{XP:(Str->Option Value)->Heap->Prop}{YP:World->Heap->Prop}{d:DefRec}{K:Params->W.Frag}{CX:World->CXT}{sp:World->Sp}{x:Str}
  (hn:l.most=some n) (hn2:n<=sizeLine) (hdf:d.params.defaults=[]) (hr:Room k callerA)
  (hY:∀ (w:World) (h:Heap),YP w h->(K w.params).In h)
  (F:∀ (w:World) (mg:Str->Option Value) (fa:Addr) (h:Heap),(K w.params).In h->h.Ns mainGlobals mg->mg d.name=some (.ref fa) ->
   ∃ fd:FuncData,(∀ (s:Shared) (u:Value),BindsTo s fd ⟨[u],[]⟩ [(x,u)]) /\
    ∀ base:Heap,(K w.params).In base->base.Ns mainGlobals mg->FnOk l.prog w (K w.params) mg base (CX w) k fa fd [x] (sp w))
  (hsp:∀ (w:World) (H:Hp) (a:Addr) (ns:List Int),ns.length<=n->Aja H->SqL (K w.params) H a (ns.map V.int)->sp w [.ref a] H (fun v _=>v=.bl true) fun _ _ _=>False)
  (hCX:∀ (w:World) (H:Hp) (s:Shared) (e:Value) (s':Shared),CX w [] H s (fun _ _ _=>False) e s'->False) :
  W.WalkO q loose XP YP l.row.toRowW d [] (fun f vs=>PySem.call f vs):=by
 refine Att.attach_call hn hdf fun w s₀ s₁ mg mb fa o pm cd doc a vs ns G Y ho hd hcd hmg hobj hints hlen hg=>?_
 have KX:=hY w _ Y
 obtain⟨fd,hb,hF⟩:=F w mg fa _ KX G.T.g hmg
 exact Y6 KX G.T.g G.T.b G.T.builtins G.T.nolimit hg hobj hints (Amv hlen hn2) hr hF hb (fun H hO hS=>hsp w H a ns hlen hO hS) fun H e s'=>hCX w H s₁ e s'
noncomputable def Dw (s:Stmt):Arguments:=match s with
 |.FunctionDef _ a _ _ _ _ _ _ _ _=>a
 |_=>{ posonlyargs:=[],args:=[],vararg:=none,kwonlyargs:=[],kw_defaults:=[],kwarg:=none,defaults:=[] }
noncomputable def B5 (s:Stmt):List Stmt:=match s with
 |.FunctionDef _ _ b _ _ _ _ _ _ _=>b
 |_=>[]
noncomputable def Ao (s:Stmt):Scope:=match s with
 |.FunctionDef _ _ _ _ _ _ sc _ _ _=>sc
 |_=>{ kind:=.function,names:=[],isGenerator:=false,isCoroutine:=false }
abbrev CX0:CXT:=fun _ _ _ _ _ _=>False
abbrev E0:XK:=fun _ _ _=>False
theorem Acw {X:Cx}:Lz CX0 X E0:=fun _ _ _ _ _ _ _ h=>h.elim
structure Fun (K:W.Frag) (x qual:Str) (st:Stmt) (f:Addr) (fd:FuncData):Prop where
 ex:∃ (oc:Value) (od:Option Addr) (kV doc pm:Value) (an:Option Addr) (cdv ct:Value) (osl:Array (Option Value)),
  fd=W.fnOf x qual (Dw st) (B5 st) (Ao st) .none kV doc pm an cdv ct/\K.lookup f=some ⟨oc,od,.func fd,osl⟩/\W.codeIn K cdv qual=true
 kp:W.keepIn K (.ref f)=true
section
variable {P:Program}{w:World}{K:W.Frag}{mg:Str->Option Value}{base:Heap}
theorem Fun.ok {x qual:Str}{st:Stmt}{f:Addr}{fd:FuncData}{N ps:List Str}{k:Nat}{sp:Sp} (F:Fun K x qual st f fd) (S:FnScope N ps (Ao st)) (len:∀ vs H Q E,sp vs H Q E->vs.length=ps.length)
  (hbody:∀ (cdv:Value) (A:Around) (outer:List Env) (s:Shared) (H:Hp) (vs:List V) (Q:VK) (E:XK),Room k (A.deeper (envOfC qual (Ao st) s.heap.objs.size f cdv))->sp vs H Q E ->
   ∃ t,PSs (Ug CX0 P w K mg base N qual (Ao st) f cdv A outer s H E).nox (B5 st) t/\t { nx:=fun _ H'=>Q .non H',rt:=Q } (Hr N vs) H):FnOk P w K mg base CX0 (k+1) f fd ps sp:=by
 obtain⟨oc,od,kV,doc,pm,an,cdv,ct,osl,rfl,lk,hcd⟩:=F.ex
 refine Ajh lk hcd S len fun A outer s H vs Q E hr hsp=>?_
 obtain⟨t,h,q⟩:=hbody cdv A outer s H vs Q E hr hsp
 exact⟨t,h.nox,q⟩
theorem Fun.binds {x qual:Str}{st:Stmt}{f:Addr}{fd:FuncData}{ps:List Str} (F:Fun K x qual st f fd)
  (h:∀ (kV doc pm:Value) (an:Option Addr) (cdv ct:Value) (us:List Value),us.length=ps.length->bindArgs (W.fnOf x qual (Dw st) (B5 st) (Ao st) .none kV doc pm an cdv ct) ⟨us,[]⟩=pure (ps.zip us)):Binds K fd ps []:=by
 obtain⟨oc,od,kV,doc,pm,an,cdv,ct,osl,rfl,lk,hcd⟩:=F.ex
 exact .all (h kV doc pm an cdv ct)
theorem Aan {x qual:Str}{st:Stmt}{f:Addr}{oc:Value}{od an:Option Addr}{osl:Array (Option Value)}{kV doc pm cdv ct:Value} (l:K.lookup f=some ⟨oc,od,.func (W.fnOf x qual (Dw st) (B5 st) (Ao st) .none kV doc pm an cdv ct),osl⟩)
  (c:W.codeIn K cdv qual=true) (k:W.keepIn K (.ref f)=true):Fun K x qual st f (W.fnOf x qual (Dw st) (B5 st) (Ao st) .none kV doc pm an cdv ct):=⟨⟨oc,od,kV,doc,pm,an,cdv,ct,osl,rfl,l,c⟩,k⟩
end
section
variable {X:Cx}
end
theorem Ak2 {A B:Prop} (h:B):if false=true then A else B:=by
 rw[Aml Am1]
 exact h
theorem Ak3 {A B:Prop} (h:A):if true=true then A else B:=by
 rw[Amf rfl]
 exact h
def Same (H H':Hp):Prop:=∀ b o,H b=some o->H' b=some o
theorem Same.refl (H:Hp):Same H H:=fun _ _ h=>h
theorem Same.trans {H H1 H2:Hp} (a:Same H H1) (b:Same H1 H2):Same H H2:=fun c o h=>b c o (a c o h)
theorem Same.free {H H':Hp} (e:Same H H') {l:Addr} (h:H' l=Option.none):H l=Option.none:=by
 cases q:H l with
 |none=>rfl
 |some o =>
  rw[e l o q] at h
  cases h
end L2
end S_LayL
section S_ML1
namespace L2
namespace ML
open PySem PySem.Spec PyProof.Rows
theorem Ae {z:α}{P:Prop} (e:none=some z):P:=nomatch e
theorem B9 {P:Prop} (e:false=true):P:=nomatch e
structure Lam where
 qual:Str
 args:Arguments
 body:Expr
 scope:Scope
inductive D where
 |non|bl (b:Bool)|int (i:Int)|str (x:Str)|tup (ds:List D)|lst (ds:List D)|ref (n:Nat)|kl (ds:List D)|dic (ks vs:List D)|fn (i:Nat) (l:Lam)|dks (ks:List Str) (vs:List D)
inductive MObj where
 |lst (ds:List D)
 |dct (ks vs:List D)
 |dcs (ks:List Str) (vs:List D)
abbrev MH:=List MObj
abbrev A2:=List (Option D)
mutual
def pyD:D->PyData
 |.non=>.none|.bl b=>.bool b|.int i=>.int i|.str x=>.str x
 |.tup ds=>.tuple (Bx ds)|.lst ds=>.list (Bx ds)|.kl ds=>.list (Bx ds)|.ref _=>.none|.dic _ _=>.none|.fn _ _=>.none|.dks _ _=>.none
def Bx:List D->List PyData
 |[]=>[]
 |d::ds=>pyD d::Bx ds
end
def KL (K:W.Frag) (H:Hp) (a:Addr) (xs:List V):Prop:=(∃ o,H a=some (.frz o (.lst xs))) \/
 ∃ (o:Obj) (its:Array Value) (n:Nat),K.lookup a=some o/\o.cls=.type "list"/\o.dict=none/\o.data=.seq its n/\its.size<=sizeLine/\Vals xs its.toList
theorem KL.sq {K:W.Frag}{H:Hp}{a:Addr}{xs:List V} (h:KL K H a xs):SqL K H a xs:=h.elim (fun z=>.inl (.inr z)) .inr
noncomputable def Lk:HO->Prop
 |.lst _=>True
 |.dT _=>True
 |.dK _=>True
 |_=>False
noncomputable def Kpt:HO->Prop
 |.tup _=>True
 |.frz _ _=>True
 |_=>False
def Ai7 (o:Obj) (l:Lam) (c:Addr):Prop:=∃ doc pm ctv:Value,o=W.kdv_obj "<lambda>" l.qual l.args (.expr l.body) l.scope [] .none doc pm c ctv
def FnAt (H:Hp) (a:Addr) (l:Lam):Prop:=∃ o u c oc u',H a=some (.frz o u)/\Ai7 o l c/\H c=some (.frz oc u')/\Aaf oc l.qual
def FnK (K:W.Frag) (H:Hp) (a:Addr) (i:Nat) (l:Lam):Prop:=(i < 1000/\FnAt H a l)\/(1000<=i/\W.nsIn K mainGlobals l.qual=some (some (.ref a)))
mutual
inductive Rep (K:W.Frag) (H:Hp) (μ:List Addr) (B:Addr->Prop):D->V->Prop where
 |non:Rep K H μ B .non .non
 |bl (b:Bool):Rep K H μ B (.bl b) (.bl b)
 |int (i:Int):Rep K H μ B (.int i) (.int i)
 |str (x:Str):PyData.strOk x=true->Rep K H μ B (.str x) (.str x)
 |tup {ds:List D}{a:Addr}{xs:List V}:SqT K H a xs->Reps K H μ B ds xs->Rep K H μ B (.tup ds) (.ref a)
 |lst {ds:List D}{a:Addr}{xs:List V}:Rd H a (.lst xs)->¬ B a->Reps K H μ B ds xs->Rep K H μ B (.lst ds) (.ref a)
 |ref {n:Nat}{a:Addr}:μ[n]?=some a->Rep K H μ B (.ref n) (.ref a)
 |kl {ds:List D}{a:Addr}{xs:List V}:KL K H a xs->Reps K H μ B ds xs->Rep K H μ B (.kl ds) (.ref a)
 |dic {ks vs:List D}{a:Addr}{kvs:List (PyData×V)}:Rd H a (.dT kvs)->¬ B a->Bx ks=kvs.map (·.1)->Reps K H μ B vs (kvs.map (·.2))->Rep K H μ B (.dic ks vs) (.ref a)
 |fn {i:Nat}{l:Lam}{a:Addr}:FnK K H a i l->Rep K H μ B (.fn i l) (.ref a)
 |dks {ks:List Str}{vs:List D}{a:Addr}{kvs:List (Key×V)}:Rd H a (.dK kvs)->¬ B a->ks.map Sum.inr=kvs.map (·.1)->Reps K H μ B vs (kvs.map (·.2))->Rep K H μ B (.dks ks vs) (.ref a)
inductive Reps (K:W.Frag) (H:Hp) (μ:List Addr) (B:Addr->Prop):List D->List V->Prop where
 |nil:Reps K H μ B [] []
 |cons {d:D}{v:V}{ds:List D}{vs:List V}:Rep K H μ B d v->Reps K H μ B ds vs->Reps K H μ B (d::ds) (v::vs)
end
section
variable {K:W.Frag}{H H':Hp}{μ μ':List Addr}{B B':Addr->Prop}
theorem SqT.up (hk:∀ a o,Kpt o->H a=some o->H' a=some o) (h:SqT K H a xs):SqT K H' a xs:=by
 rcases h with (h|⟨o,h⟩)|h
 ·exact .inl (.inl (hk _ _ trivial h))
 ·exact .inl (.inr ⟨o,hk _ _ trivial h⟩)
 ·exact .inr h
theorem FnAt.up (hk:∀ a o,Kpt o->H a=some o->H' a=some o) {l:Lam} (h:FnAt H a l):FnAt H' a l :=
 let ⟨o,u,c,oc,u',h1,h2,h3,h4⟩:=h;⟨o,u,c,oc,u',hk _ _ trivial h1,h2,hk _ _ trivial h3,h4⟩
theorem FnK.up (hk:∀ a o,Kpt o->H a=some o->H' a=some o) {l:Lam} (h:FnK K H a i l):FnK K H' a i l:=h.imp (fun⟨h1,h2⟩=>⟨h1,h2.up hk⟩) id
theorem KL.up (hk:∀ a o,Kpt o->H a=some o->H' a=some o) (h:KL K H a xs):KL K H' a xs:=by
 rcases h with ⟨o,h⟩|h
 ·exact .inl ⟨o,hk _ _ trivial h⟩
 ·exact .inr h
mutual
theorem Rep.up (hk:∀ a o,Kpt o->H a=some o->H' a=some o) (hl:∀ a u,Lk u->Rd H a u->¬ B a->Rd H' a u/\¬ B' a) (hm:∀ (n:Nat) (a:Addr),μ[n]?=some a->μ'[n]?=some a)
  {d:D}{v:V} (r:Rep K H μ B d v):Rep K H' μ' B' d v:=by
 cases r with
 |non=>exact .non
 |bl b=>exact .bl b
 |int b=>exact .int b
 |str b h=>exact .str b h
 |tup h r=>exact .tup (SqT.up hk h) (Reps.up hk hl hm r)
 |lst h b r=>have z:=hl _ (.lst _) trivial h b;exact .lst z.1 z.2 (Reps.up hk hl hm r)
 |ref h=>exact .ref (hm _ _ h)
 |kl h r=>exact .kl (KL.up hk h) (Reps.up hk hl hm r)
 |dic h b e r=>have z:=hl _ (.dT _) trivial h b;exact .dic z.1 z.2 e (Reps.up hk hl hm r)
 |fn h=>exact .fn (h.up hk)
 |dks h b e r=>have z:=hl _ (.dK _) trivial h b;exact .dks z.1 z.2 e (Reps.up hk hl hm r)
theorem Reps.up (hk:∀ a o,Kpt o->H a=some o->H' a=some o) (hl:∀ a u,Lk u->Rd H a u->¬ B a->Rd H' a u/\¬ B' a) (hm:∀ (n:Nat) (a:Addr),μ[n]?=some a->μ'[n]?=some a)
  {ds:List D}{vs:List V} (r:Reps K H μ B ds vs):Reps K H' μ' B' ds vs:=by
 cases r with
 |nil=>exact .nil
 |cons h r=>exact .cons (Rep.up hk hl hm h) (Reps.up hk hl hm r)
end
theorem Same.rd (e:Same H H') (h:Rd H a u):Rd H' a u:=by
 rcases h with h|⟨o,h⟩
 ·exact .inl (e _ _ h)
 ·exact .inr ⟨o,e _ _ h⟩
theorem Rep.same (e:Same H H') {d:D}{v:V} (h:Rep K H μ B d v):Rep K H' μ B d v:=h.up (fun _ _ _ h=>e _ _ h) (fun _ _ _ h b=>⟨Same.rd e h,b⟩) fun _ _ h=>h
theorem Reps.same (e:Same H H') {d:List D}{v:List V} (h:Reps K H μ B d v):Reps K H' μ B d v:=h.up (fun _ _ _ h=>e _ _ h) (fun _ _ _ h b=>⟨Same.rd e h,b⟩) fun _ _ h=>h
theorem Reps.length:∀ {ds:List D}{vs:List V},Reps K H μ B ds vs->ds.length=vs.length
 |_,_,.nil=>rfl
 |_,_,.cons _ r=>by simp[Reps.length r]
theorem Reps.get:∀ {ds:List D}{vs:List V}{i:Nat}{d:D},Reps K H μ B ds vs->ds[i]?=some d->∃ v,vs[i]?=some v/\Rep K H μ B d v
 |_,_,_,_,.nil,e=>by simp at e
 |_,_,0,_,.cons h _,e=>by simp at e;subst e;exact⟨_,rfl,h⟩
 |_,_,i+1,d,.cons _ r,e=>by
  obtain⟨v,h1,h2⟩:=Reps.get (i:=i) (d:=d) r (by simpa using e)
  exact⟨v,by simpa using h1,h2⟩
theorem Reps.append:∀ {ds es:List D}{vs ws:List V},Reps K H μ B ds vs->Reps K H μ B es ws->Reps K H μ B (ds++es) (vs++ws)
 |_,_,_,_,.nil,s=>s
 |_,_,_,_,.cons h r,s=>.cons h (Reps.append r s)
theorem Reps.take:∀ {ds:List D}{vs:List V} (n:Nat),Reps K H μ B ds vs->Reps K H μ B (ds.take n) (vs.take n)
 |_,_,0,_=>.nil
 |_,_,_+1,.nil=>.nil
 |_,_,n+1,.cons h r=>.cons h (Reps.take n r)
theorem Reps.drop:∀ {ds:List D}{vs:List V} (n:Nat),Reps K H μ B ds vs->Reps K H μ B (ds.drop n) (vs.drop n)
 |_,_,0,h=>h
 |_,_,_+1,.nil=>.nil
 |_,_,n+1,.cons h r=>Reps.drop n r
theorem Reps.reverse:∀ {ds:List D}{vs:List V},Reps K H μ B ds vs->Reps K H μ B ds.reverse vs.reverse
 |_,_,.nil=>.nil
 |_,_,.cons h r=>by
  rw[Aov,Aov]
  exact (Reps.reverse r).append (.cons h .nil)
end
noncomputable def OR (K:W.Frag) (H:Hp) (μ:List Addr) (a:Addr):MObj->Prop
 |.lst ds=>∃ xs,H a=some (.lst xs)/\Reps K H μ (·∈μ) ds xs
 |.dct ks vs=>∃ kvs,H a=some (.dT kvs)/\Bx ks=kvs.map (·.1)/\Reps K H μ (·∈μ) vs (kvs.map (·.2))
 |.dcs ks vs=>∃ kvs,H a=some (.dK kvs)/\ks.map Sum.inr=kvs.map (·.1)/\Reps K H μ (·∈μ) vs (kvs.map (·.2))
structure Sim (K:W.Frag) (H:Hp) (μ:List Addr) (m:MH):Prop where
 nd:μ.Nodup
 len:μ.length=m.length
 obj:∀ (n:Nat) (a:Addr) (o:MObj),μ[n]?=some a->m[n]?=some o->OR K H μ a o
structure Step (H:Hp) (μ:List Addr) (H':Hp) (μ':List Addr):Prop where
 pre:∃ l,μ'=μ++l/\∀ b∈l,H b=none
 keep:∀ b o,H b=some o->b∉μ->H' b=some o
structure EnvRep (K:W.Frag) (H:Hp) (μ:List Addr) (σ:St) (env:A2):Prop where
 len:σ.length=env.length
 get:∀ (i:Nat) (d:D),env[i]?=some (some d)->∃ v,σ[i]?=some (some v)/\Rep K H μ (·∈μ) d v
section
variable {K:W.Frag}{H H' H'':Hp}{μ μ' μ'':List Addr}{m m':MH}
theorem Sim.at (S:Sim K H μ m) (h:a∈μ):∃ (n:Nat) (o:MObj),μ[n]?=some a/\m[n]?=some o/\OR K H μ a o:=by
 obtain⟨n,hn⟩:=List.getElem?_of_mem h
 have hl:n < m.length:=by rw[<- S.len];exact (List.getElem?_eq_some_iff.mp hn).1
 exact⟨n,m[n],hn,by simp[hl],S.obj n a _ hn (by simp[hl])⟩
theorem Sim.trk (S:Sim K H μ m) (h:a∈μ):∃ o,H a=some o/\Lk o:=by
 obtain⟨n,o,_,_,q⟩:=S.at h
 cases o with
 |lst ds=>obtain⟨xs,e,_⟩:=q;exact⟨_,e,trivial⟩
 |dct ks vs=>obtain⟨kvs,e,_⟩:=q;exact⟨_,e,trivial⟩
 |dcs ks vs=>obtain⟨kvs,e,_⟩:=q;exact⟨_,e,trivial⟩
theorem Sim.nkpt (S:Sim K H μ m) (k:Kpt o) (h:H a=some o):a∉μ:=fun q=>by
 obtain⟨xs,e,l⟩:=S.trk q
 rw[e] at h
 cases h
 cases o<;>first|exact l|exact k
theorem Sim.nnone (S:Sim K H μ m) (h:H a=none):a∉μ:=fun q=>by
 obtain⟨xs,e,l⟩:=S.trk q
 rw[e] at h;cases h
theorem Step.refl:Step H μ H μ:=⟨⟨[],by simp,by simp⟩,fun _ _ h _=>h⟩
theorem Step.trans (a:Step H μ H' μ') (b:Step H' μ' H'' μ'') (hm:∀ c,H' c=none->H c=none):Step H μ H'' μ'':=by
 obtain⟨l,rfl,h1⟩:=a.pre
 obtain⟨l',rfl,h2⟩:=b.pre
 refine⟨⟨l++l',by simp,fun c hc=>?_⟩,fun c o e n=>?_⟩
 ·rcases List.mem_append.mp hc with z|z
  ·exact h1 c z
  ·exact hm c (h2 c z)
 ·refine b.keep c o (a.keep c o e n) fun z=>?_
  rcases List.mem_append.mp z with z|z
  ·exact n z
  ·rw[h1 c z] at e;cases e
theorem Step.none (S:Sim K H μ m) (S':Sim K H' μ' m') (a:Step H μ H' μ'):∀ c,H' c=none->H c=none:=fun c h=>by
 cases e:H c with
 |none=>rfl
 |some o =>
  by_cases q:c∈μ
  ·obtain⟨l,rfl,_⟩:=a.pre
   exact absurd (Ana _ q) (S'.nnone h)
  ·rw[a.keep c o e q] at h;cases h
theorem Step.of_same (e:Same H H'):Step H μ H' μ:=⟨⟨[],by simp,by simp⟩,fun b o h _=>e b o h⟩
theorem Step.rd (s:Step H μ H' μ') (h:Rd H a u) (n:a∉μ):Rd H' a u:=by
 rcases h with h|⟨o,h⟩
 ·exact .inl (s.keep _ _ h n)
 ·exact .inr ⟨o,s.keep _ _ h n⟩
theorem Step.nin (s:Step H μ H' μ') (h:Rd H a u) (n:a∉μ):a∉μ':=by
 obtain⟨l,rfl,hn⟩:=s.pre
 intro z
 rcases List.mem_append.mp z with z|z
 ·exact n z
 ·have:=hn a z
  rcases h with h|⟨o,h⟩<;>rw[this] at h<;>cases h
theorem Step.ix (s:Step H μ H' μ') {n:Nat}{a:Addr} (h:μ[n]?=some a):μ'[n]?=some a:=by
 obtain⟨l,rfl,_⟩:=s.pre
 rw[Amm (List.getElem?_eq_some_iff.mp h).1]
 exact h
theorem Rep.step (S:Sim K H μ m) (s:Step H μ H' μ') {d:D}{v:V} (h:Rep K H μ (·∈μ) d v):Rep K H' μ' (·∈μ') d v :=
 h.up (fun a o k q=>s.keep a o q (S.nkpt k q)) (fun _ _ _ q b=>⟨s.rd q b,s.nin q b⟩) fun _ _=>s.ix
theorem Reps.step (S:Sim K H μ m) (s:Step H μ H' μ') {d:List D}{v:List V} (h:Reps K H μ (·∈μ) d v):Reps K H' μ' (·∈μ') d v :=
 h.up (fun a o k q=>s.keep a o q (S.nkpt k q)) (fun _ _ _ q b=>⟨s.rd q b,s.nin q b⟩) fun _ _=>s.ix
theorem EnvRep.step (S:Sim K H μ m) (s:Step H μ H' μ') (h:EnvRep K H μ σ env):EnvRep K H' μ' σ env :=
 ⟨h.len,fun i d e=>let ⟨v,h1,h2⟩:=h.get i d e;⟨v,h1,h2.step S s⟩⟩
theorem Sim.same (S:Sim K H μ m) (e:Same H H'):Sim K H' μ m:=⟨S.nd,S.len,fun n a o h1 h2=>by
 have q:=S.obj n a o h1 h2
 cases o with
 |lst ds=>obtain⟨xs,q1,q2⟩:=q;exact⟨xs,e _ _ q1,q2.same e⟩
 |dcs ks vs=>obtain⟨xs,q1,q2,q3⟩:=q;exact⟨xs,e _ _ q1,q2,q3.same e⟩
 |dct ks vs=>obtain⟨xs,q1,q2,q3⟩:=q;exact⟨xs,e _ _ q1,q2,q3.same e⟩⟩
theorem EnvRep.same (e:Same H H') {σ:St}{env:A2} (h:EnvRep K H μ σ env):EnvRep K H' μ σ env :=
 ⟨h.len,fun i d q=>let ⟨v,h1,h2⟩:=h.get i d q;⟨v,h1,h2.same e⟩⟩
theorem EnvRep.set (h:EnvRep K H μ σ env) (i:Nat) {d:D} (r:Rep K H μ (·∈μ) d v):EnvRep K H μ (σ.set i (some v)) (env.set i (some d)):=by
 refine⟨by simpa using h.len,fun j d' e=>?_⟩
 by_cases q:j=i
 ·subst q
  have hj:j < env.length:=by
   have:=(List.getElem?_eq_some_iff.mp e).1
   simpa using this
  rw[Ano hj] at e
  cases e
  exact⟨v,by rw[Ano (by rw[h.len];exact hj)],r⟩
 ·rw[Aoa (Ne.symm q)] at e ⊢
  exact h.get j d' e
end
abbrev FE:=A2->MH->Option D
abbrev FL:=A2->MH->Option (List D)
abbrev FB:=A2->MH->Option Bool
inductive tE (K:W.Frag) (f:FE) (σ:St) (H:Hp) (Q:VK):Prop
 |mk (env:A2) (μ:List Addr) (m:MH) (d:D) (S:Sim K H μ m) (E:EnvRep K H μ σ env) (h:f env m=some d) (q:∀ v H',Same H H'->Rep K H' μ (·∈μ) d v->Q v H')
def nw (μ:List Addr) (a:Addr):Addr->Prop:=fun b=>b∈μ\/b=a
inductive tF (K:W.Frag) (f:FL) (σ:St) (H:Hp) (Q:VK):Prop
 |mk (env:A2) (μ:List Addr) (m:MH) (ds:List D) (S:Sim K H μ m) (E:EnvRep K H μ σ env) (h:f env m=some ds) (q:∀ a xs H',Same H H'->H a=none->H' a=some (.lst xs)->Reps K H' μ (nw μ a) ds xs->Q (.ref a) H')
inductive tB' (K:W.Frag) (f:FB) (σ:St) (H:Hp) (Q:Bool->Hp->Prop):Prop
 |mk (env:A2) (μ:List Addr) (m:MH) (b:Bool) (S:Sim K H μ m) (E:EnvRep K H μ σ env) (h:f env m=some b) (q:∀ H',Same H H'->Q b H')
inductive tL (K:W.Frag) (f:FL) (σ:St) (H:Hp) (Q:List V->Hp->Prop):Prop
 |mk (env:A2) (μ:List Addr) (m:MH) (ds:List D) (S:Sim K H μ m) (E:EnvRep K H μ σ env) (h:f env m=some ds) (q:∀ vs H',Same H H'->Reps K H' μ (·∈μ) ds vs->Q vs H')
abbrev PD (X:Cx) (e:Expr) (f:FE):Prop:=PE X e (tE X.K f)
abbrev PF (X:Cx) (e:Expr) (f:FL):Prop:=PE X e (tF X.K f)
abbrev PB (X:Cx) (e:Expr) (f:FB):Prop:=PT X e (tB' X.K f)
abbrev PL (X:Cx) (es:List Expr) (f:FL):Prop:=PA X es (tL X.K f)
theorem Reps.fresh {K:W.Frag}{H:Hp}{μ:List Addr}{p:Addr}{o:HO}{ds:List D}{vs:List V} (r:Reps K H μ (·∈μ) ds vs) (hp:H p=none):Reps K (upd H p o) μ (nw μ p) ds vs:=by
 have s:Same H (upd H p o):=fun b u e=>by rw[Az (Ar e hp)];exact e
 refine r.up (fun _ _ _ h=>s _ _ h) (fun a u _ h b=>⟨Same.rd s h,fun z=>?_⟩) fun _ _ h=>h
 rcases z with z|z
 ·exact b z
 ·subst z
  rcases h with h|⟨o,h⟩
  ·exact nomatch (hp.symm.trans h)
  ·exact nomatch (hp.symm.trans h)
theorem Reps.unw {K:W.Frag}{H:Hp}{μ:List Addr}{p:Addr}{ds:List D}{vs:List V} (r:Reps K H μ (nw μ p) ds vs):Reps K H μ (·∈μ) ds vs :=
 r.up (fun _ _ _ h=>h) (fun _ _ _ h b=>⟨h,fun z=>b (.inl z)⟩) fun _ _ h=>h
theorem PE.imp {t t':TE} (h:PE X e t) (i:∀ σ H Q,t' σ H Q->t σ H Q):PE X e t':=fun pins s σ H Q I q=>h pins s σ H Q I (i σ H Q q)
theorem PT.imp {t t':TT} (h:PT X e t) (i:∀ σ H Q,t' σ H Q->t σ H Q):PT X e t':=fun pins s σ H Q I q=>h pins s σ H Q I (i σ H Q q)
theorem PA.imp {t t':TA} (h:PA X e t) (i:∀ σ H Q,t' σ H Q->t σ H Q):PA X e t':=fun pos pins s σ H Q I q=>h pos pins s σ H Q I (i σ H Q q)
inductive BS {α β:Type} (o:Option α) (f:α->Option β) (b:β):Prop where
 |mk (a:α) (h1:o=some a) (h2:f a=some b)
theorem bind_some {α β:Type}{o:Option α}{f:α->Option β}{b:β} (h:o.bind f=some b):BS o f b:=by
 cases o with
 |none=>cases h
 |some a=>exact⟨a,rfl,h⟩
section
variable {X:Cx}{a b c e:Expr}{es:List Expr}{pos:Pos}
theorem tE.bin {K:W.Frag}{f g:FE}{o:D->D->MH->Option D}{σ:St}{H:Hp}{Q:VK} (h:tE K (fun env m=>(f env m).bind fun x=>(g env m).bind fun y=>o x y m) σ H Q)
  (r:R2) (hr:∀ μ m x y z v u H' (Q:VK),Sim K H' μ m->Rep K H' μ (·∈μ) x v->Rep K H' μ (·∈μ) y u->o x y m=some z->(∀ w H2,Same H' H2->Rep K H2 μ (·∈μ) z w->Q w H2)->r v u H' Q) :
  tOp r (tE K f) (tE K g) σ H Q:=by
 obtain⟨env,μ,m,d,S,E,h,q⟩:=h
 obtain⟨x,hx,h⟩:=bind_some h
 obtain⟨y,hy,h⟩:=bind_some h
 refine⟨env,μ,m,x,S,E,hx,fun v H1 s1 r1=>⟨env,μ,m,y,S.same s1,E.same s1,hy,fun u H2 s2 r2=>?_⟩⟩
 exact hr μ m x y d v u H2 Q (S.same (s1.trans s2)) (r1.same s2) r2 h fun w H3 s3 r3=>q w H3 ((s1.trans s2).trans s3) r3
noncomputable def Aj (i:Nat):FE:=fun env _=>(env[i]?).bind id
theorem Aay (i:Nat) {pos:Pos} (hN:X.N[i]?=some x) (hv:Vis X.env.scope x) (hd:(x == ("__debug__":Str))=false) (hcd:(x == ("__classdict__":Str))=false):PD X (.Name x pos) (Aj i) :=
 PE.imp (Ag0 hN hv hd hcd) fun σ H Q ⟨env,μ,m,d,S,E,h,q⟩=>by
  unfold Aj at h
  obtain⟨o,h1,h2⟩:=bind_some h
  have h2:o=some d:=h2
  subst h2
  obtain⟨v,e,r⟩:=E.get i d h1
  exact⟨v,e,q v H (Same.refl H) r⟩
noncomputable def fC (d:D):FE:=fun _ _=>some d
theorem Agm {i j pos}:PD X (.Constant (.int i) j pos) (fC (.int i)):=PE.imp Aaz fun σ H Q ⟨env,μ,m,d,S,E,h,q⟩=>by cases h;exact q _ H (Same.refl H) (.int i)
theorem Aj9 {i j pos}:PD X (.Constant (.bool i) j pos) (fC (.bl i)):=PE.imp Akd fun σ H Q ⟨env,μ,m,d,S,E,h,q⟩=>by cases h;exact q _ H (Same.refl H) (.bl i)
theorem Ago {j pos}:PD X (.Constant .none j pos) (fC .non):=PE.imp Agv fun σ H Q ⟨env,μ,m,d,S,E,h,q⟩=>by cases h;exact q _ H (Same.refl H) .non
theorem Agr {i j pos} (ok:PyData.strOk i=true):PD X (.Constant (.str i) j pos) (fC (.str i)):=PE.imp Agy fun σ H Q ⟨env,μ,m,d,S,E,h,q⟩=>by cases h;exact q _ H (Same.refl H) (.str i ok)
theorem Acz {d:D}{pos:Pos} (hg:Gl X x) (hm:X.mg x=some u) (r:RelV v u) (hr:∀ H,Rep X.K H [] (fun _=>True) d v) (hd:(x == ("__debug__":Str))=false:=by decide):PD X (.Name x pos) (fC d) :=
 PE.imp (Ac1 hg hm r hd) fun σ H Q ⟨env,μ,m,d',S,E,h,q⟩=>by
  cases h
  exact q _ H (Same.refl H) ((hr H).up (fun _ _ _ h=>h) (fun _ _ _ _ b=>absurd trivial b) fun n a h=>by simp at h)
noncomputable def oI (g:Int->Int->Option D):D->D->MH->Option D
 |.int i,.int j,_=>g i j
 |_,_,_=>none
noncomputable def Dm:D->D->MH->Option D
 |.int i,.int j,_=>some (.int (i+j))
 |.str i,.str j,_=>if i.length+j.length<=1000000 then some (.str (i++j)) else none
 |.tup i,.tup j,_=>if i.length+j.length<=1000000 then some (.tup (i++j)) else none
 |_,_,_=>none
def Ai1:D->D->MH->Option D:=oI fun i j=>some (.int (i - j))
def Nh:D->D->MH->Option D:=oI fun i j=>if (-(2 ^ 64) < i/\i < 2 ^ 64)\/(-(2 ^ 64) < j/\j < 2 ^ 64) then some (.int (i * j)) else none
def Aat:D->D->MH->Option D:=oI fun i j=>if 0 < j/\j < 1073741824 then some (.int (i / j)) else none
def N5:D->D->MH->Option D:=oI fun i j=>if 0 < j then some (.int (i % j)) else none
noncomputable def f2 (o:D->D->MH->Option D) (f g:FE):FE:=fun env m=>(f env m).bind fun x=>(g env m).bind fun y=>o x y m
noncomputable def f1 (o:D->MH->Option D) (f:FE):FE:=fun env m=>(f env m).bind fun x=>o x m
def OpD (X:Cx) (o:D->D->MH->Option D) (r:R2):Prop :=
 ∀ (μ:List Addr) (m:MH) (x y z:D) (v u:V) (H:Hp) (Q:VK),Sim X.K H μ m->Rep X.K H μ (·∈μ) x v->Rep X.K H μ (·∈μ) y u->o x y m=some z->(∀ w H2,Same H H2->Rep X.K H2 μ (·∈μ) z w->Q w H2)->r v u H Q
set_option tactic.hygienic true in
theorem OpD.int {C:Int->Int->Prop}{g:Int->Int->V}{k:Int->Int->Option D} (h:∀ i j z,k i j=some z->C i j/\∀ H μ B,Rep X.K H μ B z (g i j)):OpD X (oI k) (rI C g):=by
 intro μ m x y z v u H Q S rx ry e q
 cases rx<;>first|exact Ae e|skip
 cases ry<;>first|exact Ae e|skip
 rename_i i j
 obtain⟨hc,hr⟩:=h i j z e
 exact⟨i,j,rfl,rfl,hc,q _ H (Same.refl H) (hr H μ _)⟩
set_option tactic.hygienic true in
theorem OpD.int0 (h:∀ i j z,k i j=some z->∀ H μ B,Rep X.K H μ B z (g i j)):OpD X (oI k) (rI0 g):=by
 intro μ m x y z v u H Q S rx ry e q
 cases rx<;>first|exact Ae e|skip
 cases ry<;>first|exact Ae e|skip
 rename_i i j
 exact⟨i,j,rfl,rfl,q _ H (Same.refl H) (h i j z e H μ _)⟩
theorem Acu:OpD X Ai1 (rI0 fun i j=>.int (i - j)):=OpD.int0 fun i j z e H μ B=>by cases e;exact .int _
theorem Acs:OpD X Nh (rI CMul fun i j=>.int (i * j)):=OpD.int fun i j z e=>by
 split at e
 ·cases e;exact⟨by assumption,fun _ _ _=>.int _⟩
 ·cases e
theorem Acq:OpD X Aat (rI Akz fun i j=>.int (i / j)):=OpD.int fun i j z e=>by
 split at e
 ·cases e;exact⟨by assumption,fun _ _ _=>.int _⟩
 ·cases e
theorem Acr:OpD X N5 (rI (fun _ j=>0 < j) fun i j=>.int (i % j)):=OpD.int fun i j z e=>by
 split at e
 ·cases e;exact⟨by assumption,fun _ _ _=>.int _⟩
 ·cases e
end
mutual
def B1:D->Bool
 |.ref _=>false
 |.tup ds=>Bn ds
 |.lst ds=>Bn ds
 |.kl ds=>Bn ds
 |.dic _ _=>false
 |.dks _ _=>false
 |.fn _ _=>false
 |_=>true
def Bn:List D->Bool
 |[]=>true
 |d::ds=>B1 d&&Bn ds
def dep:D->Nat
 |.tup ds=>Gh ds+1
 |.lst ds=>Gh ds+1
 |.kl ds=>Gh ds+1
 |_=>0
def Gh:List D->Nat
 |[]=>0
 |d::ds=>max (dep d) (Gh ds)
end
noncomputable def Cw (m:MH):D->Option D
 |.ref n=>match m[n]? with
  |some (.lst ds)=>if Bn ds=true then some (.lst ds) else none
  |_=>none
 |d=>if B1 d=true then some d else none
def Cr (m:MH):List D->Option (List D)
 |[]=>some []
 |d::ds=>(Cw m d).bind fun d'=>(Cr m ds).bind fun ds'=>some (d'::ds')
noncomputable def sq (m:MH):D->Option (List D)
 |.tup ds=>some ds
 |.lst ds=>some ds
 |.kl ds=>some ds
 |.ref n=>match m[n]? with
  |some (.lst ds)=>some ds
  |_=>none
 |_=>none
section
variable {K:W.Frag}{H H':Hp}{μ μ':List Addr}{B B':Addr->Prop}{m:MH}
mutual
theorem Rep.noref (hk:∀ a u,Rd H a (.lst u)->¬ B a->¬ B' a) {d:D}{v:V} (r:Rep K H μ B d v) (e:B1 d=true):Rep K H μ' B' d v:=by
 cases r with
 |non=>exact .non
 |bl b=>exact .bl b
 |int b=>exact .int b
 |str b h=>exact .str b h
 |tup h r=>exact .tup h (Reps.noref hk r e)
 |lst h b r=>exact .lst h (hk _ _ h b) (Reps.noref hk r e)
 |kl h r=>exact .kl h (Reps.noref hk r e)
 |_=>exact B9 e
theorem Reps.noref (hk:∀ a u,Rd H a (.lst u)->¬ B a->¬ B' a) {ds:List D}{vs:List V} (r:Reps K H μ B ds vs) (e:Bn ds=true):Reps K H μ' B' ds vs:=by
 cases r with
 |nil=>exact .nil
 |cons h r =>
  have e':=(Bool.and_eq_true_iff.mp e)
  exact .cons (Rep.noref hk h e'.1) (Reps.noref hk r e'.2)
end
theorem C5 (S:Sim K H μ m) {d d':D} (r:Rep K H μ (·∈μ) d v) (h:Cw m d=some d'):Rep K H [] (fun _=>False) d' v/\B1 d'=true:=by
 cases r with
 |@ref n a e =>
  unfold Cw at h
  cases q:m[n]? with
  |none=>simp[q] at h
  |some o =>
   simp only[q] at h
   cases o with
   |dcs _ _=>cases h
   |dct _ _=>cases h
   |lst ds =>
    simp only at h
    split at h
    ·rename_i hn
     cases h
     obtain⟨xs,e1,e2⟩:=S.obj n a _ e q
     exact⟨.lst (.inl e1) (fun z=>z) (e2.noref (fun _ _ _ _ z=>z) hn),hn⟩
    ·cases h
 |non=>unfold Cw at h;simp[B1] at h;subst h;exact⟨.non,rfl⟩
 |bl b=>unfold Cw at h;simp[B1] at h;subst h;exact⟨.bl b,rfl⟩
 |int b=>unfold Cw at h;simp[B1] at h;subst h;exact⟨.int b,rfl⟩
 |str b ok=>unfold Cw at h;simp[B1] at h;subst h;exact⟨.str b ok,rfl⟩
 |@tup ds a xs h1 h2 =>
  unfold Cw at h
  simp only at h
  split at h
  ·rename_i hn
   cases h
   exact⟨(Rep.tup h1 h2).noref (fun _ _ _ _ z=>z) hn,hn⟩
  ·cases h
 |@lst ds a xs h1 h3 h2 =>
  unfold Cw at h
  simp only at h
  split at h
  ·rename_i hn
   cases h
   exact⟨(Rep.lst h1 h3 h2).noref (fun _ _ _ _ z=>z) hn,hn⟩
  ·cases h
 |@kl ds a xs h1 h2 =>
  unfold Cw at h
  simp only at h
  split at h
  ·rename_i hn
   cases h
   exact⟨(Rep.kl h1 h2).noref (fun _ _ _ _ z=>z) hn,hn⟩
  ·exact Ae h
 |dic h1 h2 h3 h4=>unfold Cw at h;simp[B1] at h
 |dks _ _ _ _=>unfold Cw at h;simp[B1] at h
 |fn _=>unfold Cw at h;simp[B1] at h
theorem C4 (S:Sim K H μ m):∀ {ds ds':List D}{vs:List V},Reps K H μ (·∈μ) ds vs->Cr m ds=some ds'->Reps K H [] (fun _=>False) ds' vs
 |_,_,_,.nil,h=>by cases h;exact .nil
 |_,_,_,.cons r rs,h=>by
  unfold Cr at h
  obtain⟨d',h1,h⟩:=bind_some h
  obtain⟨ds',h2,h⟩:=bind_some h
  cases h
  exact .cons (C5 S r h1).1 (C4 S rs h2)
theorem M6 (S:Sim K H μ m) {d:D} (r:Rep K H μ (·∈μ) d v) (h:sq m d=some ds):∃ a xs,v=.ref a/\(SqL K H a xs\/SqT K H a xs)/\Reps K H μ (·∈μ) ds xs:=by
 cases r with
 |@ref n a e =>
  unfold sq at h
  cases q:m[n]? with
  |none=>simp[q] at h
  |some o =>
   simp only[q] at h
   cases o with
   |dcs _ _=>cases h
   |dct _ _=>cases h
   |lst ds =>
    cases h
    obtain⟨xs,e1,e2⟩:=S.obj n a _ e q
    exact⟨a,xs,rfl,.inl (SqL.of e1),e2⟩
 |@tup ds a xs h1 h2=>cases h;exact⟨a,xs,rfl,.inr h1,h2⟩
 |@lst ds a xs h1 h3 h2=>cases h;exact⟨a,xs,rfl,.inl (.inl h1),h2⟩
 |@kl ds a xs h1 h2=>cases h;exact⟨a,xs,rfl,.inl h1.sq,h2⟩
 |non=>exact Ae h
 |bl b=>exact Ae h
 |int b=>exact Ae h
 |str b ok=>exact Ae h
 |dic h1 h2 h3 h4=>exact Ae h
 |dks _ _ _ _=>exact Ae h
 |fn _=>exact Ae h
end
mutual
theorem C3 {H:Hp}{s:Shared} (I:Inv X pins σ H s) {d:D}{v:V}{u:Value} (q:Rep X.K H μ B d v) (e:B1 d=true) (r:RelV v u):∃ as,Reads s.heap u (pyD d) as:=by
 cases q with
 |non=>cases r;exact⟨_,.none⟩
 |bl b=>cases r;exact⟨_,.bool b⟩
 |int i=>obtain⟨t,rfl⟩:=r;exact⟨_,.int i t⟩
 |str x _=>obtain⟨t,rfl⟩:=r;exact⟨_,.str x t⟩
 |tup h rs =>
  cases r
  obtain⟨its,rv,⟨o,ho,hc,n,hd⟩,hz⟩:=I.tuple h
  obtain⟨as,ra⟩:=C2 I rs e rv
  exact⟨_,.tuple ho hc hd ra⟩
 |lst h b rs =>
  cases r
  obtain⟨its,rv,⟨o,n,ho,hc,_,hd⟩,hz⟩:=I.list (.inl h)
  obtain⟨as,ra⟩:=C2 I rs e rv
  exact⟨_,.list ho hc hd ra⟩
 |kl h rs =>
  cases r
  obtain⟨its,rv,⟨o,n,ho,hc,_,hd⟩,hz⟩:=I.list h.sq
  obtain⟨as,ra⟩:=C2 I rs e rv
  exact⟨_,.list ho hc hd ra⟩
 |_=>cases e
theorem C2 {H:Hp}{s:Shared} (I:Inv X pins σ H s) {ds:List D}{vs:List V}{us:List Value} (q:Reps X.K H μ B ds vs) (e:Bn ds=true) (r:Vals vs us):∃ as,ReadsAll s.heap us (Bx ds) as:=by
 cases q with
 |nil=>cases r;exact⟨_,.nil⟩
 |cons h rs =>
  cases r with
  |cons r rv =>
  have e':=(Bool.and_eq_true_iff.mp e)
  obtain⟨as,h1⟩:=C3 I h e'.1 r
  obtain⟨bs,h2⟩:=C2 I rs e'.2 rv
  exact⟨_,.cons h1 h2⟩
end
mutual
theorem Dy {K:W.Frag}{H:Hp}{μ:List Addr}{B:Addr->Prop}{d:D}{v:V} (r:Rep K H μ B d v):(pyD d).canLay0=true:=by
 cases r with
 |str _ h=>exact h
 |tup _ rs=>exact Gj rs
 |lst _ _ rs=>exact Gj rs
 |kl _ rs=>exact Gj rs
 |_=>rfl
theorem Gj {K:W.Frag}{H:Hp}{μ:List Addr}{B:Addr->Prop}{ds:List D}{vs:List V} (r:Reps K H μ B ds vs):PyData.canLayAll0 (Bx ds)=true:=by
 cases r with
 |nil=>rfl
 |cons r rs=>rw[Bx,PyData.canLayAll0,Dy r,Gj rs];rfl
end
mutual
theorem G8:∀ d:D,(pyD d).depth=dep d
 |.non=>rfl
 |.bl _=>rfl
 |.int _=>rfl
 |.str _=>rfl
 |.tup ds=>by rw[pyD,PyData.depth,dep,Gg ds]
 |.lst ds=>by rw[pyD,PyData.depth,dep,Gg ds]
 |.kl ds=>by rw[pyD,PyData.depth,dep,Gg ds]
 |.ref _=>rfl
 |.dic _ _=>rfl
 |.dks _ _=>rfl
 |.fn _ _=>rfl
theorem Gg:∀ ds:List D,PyData.depthAll (Bx ds)=Gh ds
 |[]=>rfl
 |d::ds=>by rw[Bx,PyData.depthAll,G8 d,Gg ds,Gh]
end
noncomputable def deq (x y:D):Bool:=PyData.eqv (pyD x) (pyD y)
def eqO (m:MH) (x y:D):Option Bool:=(Cw m x).bind fun x'=>(Cw m y).bind fun y'=>if dep x'<=60 then some (deq x' y') else none
def oEq:D->D->MH->Option D:=fun x y m=>(eqO m x y).bind fun b=>some (.bl b)
def oNe:D->D->MH->Option D:=fun x y m=>(eqO m x y).bind fun b=>some (.bl (!b))
section
variable {X:Cx}{a b c e:Expr}{es:List Expr}{pos:Pos}
def OpM (X:Cx) (f:Value->Value->Sem Value) (o:D->D->MH->Option D):Prop :=
 ∀ (pins:List (Addr×Obj)) (s:Shared) (σ:St) (H:Hp) (μ:List Addr) (m:MH) (x y z:D) (v u:V) (v' u':Value) (Q:VK),Inv X pins σ H s->Sim X.K H μ m->Rep X.K H μ (·∈μ) x v->Rep X.K H μ (·∈μ) y u->RelV v v'->RelV u u'->o x y m=some z ->
  (∀ w H2,Same H H2->Rep X.K H2 μ (·∈μ) z w->Q w H2)->wpAny (model X.prog X.w) X.A (f v' u') (EP X pins σ Q) X.xe s
theorem OpM.of (h:OpR X f r) (d:OpD X o r):OpM X f o :=
 fun pins s σ H μ m x y z v u v' u' Q I S rx ry r1 r2 e q=>h pins s σ H v u v' u' Q I r1 r2 (d μ m x y z v u H Q S rx ry e q)
theorem A6 {H:Hp} (h:H p=none):Same H (upd H p o):=fun b u e=>by
 rw[Az (Ar e h)];exact e
theorem tE.two {K:W.Frag}{f g:FE}{o:D->D->MH->Option D}{σ:St}{H:Hp}{Q:VK} (h:tE K (f2 o f g) σ H Q) :
  ∃ env μ m x y z,Sim K H μ m/\EnvRep K H μ σ env/\f env m=some x/\g env m=some y/\o x y m=some z/\∀ v H',Same H H'->Rep K H' μ (·∈μ) z v->Q v H':=by
 obtain⟨env,μ,m,d,S,E,h,q⟩:=h
 obtain⟨x,hx,h⟩:=bind_some h
 obtain⟨y,hy,h⟩:=bind_some h
 exact⟨env,μ,m,x,y,d,S,E,hx,hy,h,q⟩
theorem Aje (ho:OpM X k o) (ha:PD X a f) (hb:PD X b g) {s:Shared}{H:Hp} (I:Inv X pins σ H s) (h:tE X.K (f2 o f g) σ H Q) :
  wpAny (model X.prog X.w) X.A (eval a X.env) (fun v s₁=>wpAny (model X.prog X.w) X.A (eval b X.env) (fun u s₂=>wpAny (model X.prog X.w) X.A (k v u) (EP X pins σ Q) X.xe s₂) X.xe s₁) X.xe s:=by
 obtain⟨env,μ,m,x,y,z,S,E,hx,hy,hz,q⟩:=h.two
 refine thn (ha pins s σ H (fun v H1=>Same H H1/\Rep X.K H1 μ (·∈μ) x v) I ⟨env,μ,m,x,S,E,hx,fun v H1 s1 r1=>⟨s1,r1⟩⟩) fun v' s1 ⟨v,H1,I1,r1,s1',rx⟩=>?_
 refine thn (hb pins s1 σ H1 (fun u H2=>Same H1 H2/\Rep X.K H2 μ (·∈μ) y u) I1 ⟨env,μ,m,y,S.same s1',E.same s1',hy,fun v H1 s1 r1=>⟨s1,r1⟩⟩) fun u' s2 ⟨u,H2,I2,r2,s2',ry⟩=>?_
 exact ho pins s2 σ H2 μ m x y z v u v' u' Q I2 (S.same (s1'.trans s2')) (rx.same s2') ry r1 r2 hz fun w H3 s3 r3=>q w H3 ((s1'.trans s2').trans s3) r3
theorem Agk (ho:OpM X (binaryOp op) o) (ha:PD X a f) (hb:PD X b g):PD X (.BinOp a op b pos) (f2 o f g) :=
 fun pins s σ H Q I h=>wpAny_BinOp (Aje ho ha hb I h)
theorem Agl (ho:OpM X (compareOp op) o) (ha:PD X a f) (hb:PD X b g) (hm:behindInMarks op b=false):PD X (.Compare a [op] [b] pos) (f2 o f g) :=
 fun pins s σ H Q I h=>wpAny_Compare1 (Aje ho ha hb I h) hm
noncomputable def asB:D->Option Bool
 |.bl b=>some b
 |_=>none
def A7 (f:FE):FB:=fun env m=>(f env m).bind asB
theorem Jx {d:D}{b:Bool} (h:asB d=some b):d=.bl b:=by
 cases d<;>first|(cases h;rfl)|cases h
theorem tB'.val {K:W.Frag}{f:FE}{σ:St}{H:Hp}{Q:Bool->Hp->Prop} (h:tB' K (A7 f) σ H Q):tE K f σ H fun x H'=>∃ k,x=.bl k/\Q k H':=by
 obtain⟨env,μ,m,b,S,E,h,q⟩:=h
 obtain⟨d,h1,h2⟩:=bind_some h
 cases Jx h2
 exact⟨env,μ,m,_,S,E,h1,fun v H' s r=>by cases r;exact⟨_,rfl,q H' s⟩⟩
theorem Agg (ho:OpM X (compareOp op) o) (ha:PD X a f) (hb:PD X b g) (hm:behindInMarks op b=false):PB X (.Compare a [op] [b] pos) (A7 (f2 o f g)):=by
 intro pins s σ H Q I h
 refine wpAny_isTrue_Compare1 (thn (Aje ho ha hb I h.val) fun v s1 h1=>thn h1 fun u s2 h2=>thn h2 fun c s3 ⟨x,H1,I1,r1,k,e,q⟩=>?_) hm
 subst e
 cases r1
 exact Aob ⟨H1,I1,q⟩
theorem big {n:Nat} (h:n<=1000000):n<=sizeLine:=Amv h (by rw[Aoc];decide)
def Ah1 (m:MH):D->Option Bool
 |.non=>some false
 |.bl b=>some b
 |.int i=>some (i != 0)
 |.str y=>if y.length<=1000000 then some ((y.length:Int) != 0) else none
 |d=>(sq m d).bind fun ds=>some (!ds.isEmpty)
def Aej (f:FE):FB:=fun env m=>(f env m).bind (Ah1 m)
theorem Reps.isEmpty {K:W.Frag}{H:Hp}{μ:List Addr}{B:Addr->Prop}{ds:List D}{vs:List V} (r:Reps K H μ B ds vs):ds.isEmpty=vs.isEmpty:=by cases r<;>rfl
theorem Aef {K:W.Frag}{H:Hp}{μ:List Addr}{m:MH} (S:Sim K H μ m) {d:D}{v:V}{k:Bool} (r:Rep K H μ (·∈μ) d v) (h:Ah1 m d=some k):Ah6 K v H k:=by
 have seq:∀ {a:Addr},v=.ref a->(∃ ds,sq m d=some ds/\k=!ds.isEmpty)->Ah6 K v H k:=fun {a} e ⟨ds,h1,h2⟩=>by
  obtain⟨a',xs,e',hq,rs⟩:=M6 S r h1
  subst e'
  subst h2
  rw[rs.isEmpty]
  rcases hq with hq|hq
  ·exact .inl ⟨xs,hq,rfl⟩
  ·exact .inr (.inl ⟨xs,hq,rfl⟩)
 have sq':∀ {x:D},((sq m x).bind fun ds=>some (!ds.isEmpty))=some k->∃ ds,sq m x=some ds/\k=!ds.isEmpty:=fun {x} h=>by
  obtain⟨ds,h1,h2⟩:=bind_some h
  exact⟨ds,h1,(Anf h2).symm⟩
 cases r with
 |non=>cases h;rfl
 |bl b=>cases h;rfl
 |int b=>cases h;rfl
 |str b ok =>
  unfold Ah1 at h
  simp only at h
  split at h
  ·cases h;exact⟨big (by assumption),rfl⟩
  ·exact Ae h
 |@tup ds a xs h1 h2=>exact seq rfl (sq' h)
 |@lst ds a xs h1 h3 h2=>exact seq rfl (sq' h)
 |@kl ds a xs h1 h2=>exact seq rfl (sq' h)
 |@ref n a e=>exact seq rfl (sq' h)
 |dic h1 h2 h3 h4=>exact Ae h
 |dks _ _ _ _=>exact Ae h
 |fn _=>exact Ae h
theorem Agi (ha:PD X a f) (he:∀ whole,isTrue a X.env whole=(do let v <- whole;standAt a.pos;holding [v] (truthy v))):PB X a (Aej f) :=
 PT.imp (Zy ha he) fun σ H Q ⟨env,μ,m,b,S,E,h,q⟩=>by
  obtain⟨d,h1,h2⟩:=bind_some h
  exact⟨env,μ,m,d,S,E,h1,fun v H' s r=>⟨b,Aef (S.same s) r h2,q H' s⟩⟩
noncomputable def Aam (f g:FB):FB:=fun env m=>(f env m).bind fun c=>if c=true then g env m else some false
noncomputable def fOr (f g:FB):FB:=fun env m=>(f env m).bind fun c=>if c=true then some true else g env m
noncomputable def Abr (f:FB):FB:=fun env m=>(f env m).bind fun c=>some (!c)
abbrev PWB (X:Cx) (e:Expr) (f:FB):Prop:=PW X e (tB' X.K f)
theorem PW.imp {t t':TT} (h:PW X e t) (i:∀ σ H Q,t' σ H Q->t σ H Q):PW X e t':=fun w pins s σ H Q I q=>h w pins s σ H Q I (i σ H Q q)
theorem tB'.and {K:W.Frag}{f g:FB}{σ:St}{H:Hp}{Q:Bool->Hp->Prop} (h:tB' K (Aam f g) σ H Q):Ale (tB' K f) (tB' K g) σ H Q:=by
 obtain⟨env,μ,m,b,S,E,h,q⟩:=h
 obtain⟨c,h1,h2⟩:=bind_some h
 refine⟨env,μ,m,c,S,E,h1,fun H1 s1=>?_⟩
 cases c with
 |true =>
  rw[Amf rfl] at h2 ⊢
  exact⟨env,μ,m,b,S.same s1,E.same s1,h2,fun H2 s2=>q H2 (s1.trans s2)⟩
 |false =>
  rw[Aml Am1] at h2 ⊢
  cases h2
  exact q H1 s1
theorem tB'.or {K:W.Frag}{f g:FB}{σ:St}{H:Hp}{Q:Bool->Hp->Prop} (h:tB' K (fOr f g) σ H Q):tOr (tB' K f) (tB' K g) σ H Q:=by
 obtain⟨env,μ,m,b,S,E,h,q⟩:=h
 obtain⟨c,h1,h2⟩:=bind_some h
 refine⟨env,μ,m,c,S,E,h1,fun H1 s1=>?_⟩
 cases c with
 |false =>
  rw[Aml Am1] at h2 ⊢
  exact⟨env,μ,m,b,S.same s1,E.same s1,h2,fun H2 s2=>q H2 (s1.trans s2)⟩
 |true =>
  rw[Amf rfl] at h2 ⊢
  cases h2
  exact q H1 s1
variable {rest:List Expr}
theorem Zz (ha:PB X a f):PWB X (.BoolOp .And [a] pos) f:=Adp ha
theorem Adr (ha:PB X a f):PWB X (.BoolOp .Or [a] pos) f:=Ahc ha
theorem Adq (ha:PB X a f) (hb:PWB X (.BoolOp .And (b::rest) pos) g):PWB X (.BoolOp .And (a::b::rest) pos) (Aam f g):=PW.imp (Aha ha hb) fun _ _ _ h=>h.and
theorem Ahd (ha:PB X a f) (hb:PWB X (.BoolOp .Or (b::rest) pos) g):PWB X (.BoolOp .Or (a::b::rest) pos) (fOr f g):=PW.imp (Akj ha hb) fun _ _ _ h=>h.or
theorem Acx (h:PWB X (.BoolOp op es pos) f):PB X (.BoolOp op es pos) f:=h.pt
theorem Agh (ha:PB X a f):PB X (.UnaryOp .Not a pos) (Abr f):=PT.imp (Ag8 ha) fun σ H Q ⟨env,μ,m,b,S,E,h,q⟩=>by
 obtain⟨c,h1,h2⟩:=bind_some h
 cases h2
 exact⟨env,μ,m,c,S,E,h1,fun H1 s1=>q H1 s1⟩
def Nt (f g:FE):FE:=fun env m=>(A7 f env m).bind fun c=>if c=true then g env m else some (.bl false)
theorem Agp {op} (h:PD X a f):PD X (.BoolOp op [a] pos) f:=Agw h
theorem Agj {f g:FE} (ha:PD X a f) (hb:PD X (.BoolOp .And (b::rest) pos) g):PD X (.BoolOp .And (a::b::rest) pos) (Nt f g):=PE.imp (Agt ha hb) fun σ H Q ⟨env,μ,m,z,S,E,h,q⟩=>by
 obtain⟨c,h1,h2⟩:=bind_some h
 obtain⟨d,h0,h1⟩:=bind_some h1
 cases Jx h1
 refine⟨env,μ,m,_,S,E,h0,fun v H1 s1 r1=>⟨c,by cases r1;rfl,?_⟩⟩
 cases c with
 |true =>
  rw[Amf rfl] at h2 ⊢
  exact⟨env,μ,m,z,S.same s1,E.same s1,h2,fun v H2 s2 r2=>q v H2 (s1.trans s2) r2⟩
 |false =>
  rw[Aml Am1] at h2 ⊢
  cases h2
  exact q _ H1 s1 (.bl false)
noncomputable def fIf (t:FB) (f g:FE):FE:=fun env m=>(t env m).bind fun c=>if c=true then f env m else g env m
theorem Aka {t:FB} (hc:PB X c t) (ha:PD X a f) (hb:PD X b g):PD X (.IfExp c a b pos) (fIf t f g):=PE.imp (Zn hc ha hb) fun σ H Q ⟨env,μ,m,z,S,E,h,q⟩=>by
 obtain⟨c,h1,h2⟩:=bind_some h
 refine⟨env,μ,m,c,S,E,h1,fun H1 s1=>?_⟩
 cases c with
 |true =>
  rw[Amf rfl] at h2 ⊢
  exact⟨env,μ,m,z,S.same s1,E.same s1,h2,fun v H2 s2 r2=>q v H2 (s1.trans s2) r2⟩
 |false =>
  rw[Aml Am1] at h2 ⊢
  exact⟨env,μ,m,z,S.same s1,E.same s1,h2,fun v H2 s2 r2=>q v H2 (s1.trans s2) r2⟩
theorem Co (hr:Room k X.A):OpM X (compareOp .Eq) oEq:=by
 intro pins s σ H μ m x y z v u v' u' Q I S rx ry r1 r2 e q
 obtain⟨b,h1,h2⟩:=bind_some e
 obtain⟨x',e1,h1⟩:=bind_some h1
 obtain⟨y',e2,h1⟩:=bind_some h1
 split at h1
 ·rename_i hd
  cases h1
  cases h2
  obtain⟨a1,n1⟩:=C5 S rx e1
  obtain⟨a2,n2⟩:=C5 S ry e2
  obtain⟨as,ra⟩:=C3 I a1 n1 r1
  obtain⟨bs,rb⟩:=C3 I a2 n2 r2
  have hu:=hr.units
  refine SeqAt.compareEq_reads ra rb (Dy a1) (Dy a2) ?_ ⟨.bl (deq x' y'),H,I,rfl,q _ H (Same.refl H) (.bl _)⟩
  rw[G8]
  lia
 ·cases h1
theorem Vk (hr:Room k X.A):OpM X (compareOp .NotEq) oNe:=by
 intro pins s σ H μ m x y z v u v' u' Q I S rx ry r1 r2 e q
 obtain⟨b,h1,h2⟩:=bind_some e
 obtain⟨x',e1,h1⟩:=bind_some h1
 obtain⟨y',e2,h1⟩:=bind_some h1
 split at h1
 ·rename_i hd
  cases h1
  cases h2
  obtain⟨a1,n1⟩:=C5 S rx e1
  obtain⟨a2,n2⟩:=C5 S ry e2
  obtain⟨as,ra⟩:=C3 I a1 n1 r1
  obtain⟨bs,rb⟩:=C3 I a2 n2 r2
  have hu:=hr.units
  refine SeqAt.compareNe_reads ra rb (Dy a1) (Dy a2) ?_ ⟨.bl (!deq x' y'),H,I,rfl,q _ H (Same.refl H) (.bl _)⟩
  rw[G8]
  lia
 ·cases h1
noncomputable def oLt:D->D->MH->Option D
 |.int i,.int j,_=>some (.bl (decide (i < j)))
 |.str i,.str j,_=>some (.bl (decide (i.cps.toList < j.cps.toList)))
 |_,_,_=>none
def oLe:D->D->MH->Option D:=oI fun i j=>some (.bl (decide (i<=j)))
def oGt:D->D->MH->Option D:=oI fun i j=>some (.bl (decide (j < i)))
theorem Zj:OpM X (compareOp .Lt) oLt:=OpM.of (op_lt.or Vl) fun μ m x y z v u H Q S rx ry e q=>by
 cases rx<;>first|exact Ae e|skip
 all_goals cases ry<;>first|exact Ae e|skip
 ·cases e;exact .inl ⟨_,_,rfl,rfl,q _ H (Same.refl H) (.bl _)⟩
 ·cases e;exact .inr ⟨_,_,rfl,rfl,q _ H (Same.refl H) (.bl _)⟩
theorem Af7:OpM X (compareOp .LtE) oLe:=OpM.of Aj6 (OpD.int0 fun i j z e H μ B=>by cases e;exact .bl _)
theorem Mr:OpM X (compareOp .Gt) oGt:=OpM.of Aj5 (OpD.int0 fun i j z e H μ B=>by cases e;exact .bl _)
theorem Af8:OpM X (binaryOp .Sub) Ai1:=OpM.of Agd Acu
theorem Ct:OpM X (binaryOp .Mult) Nh:=OpM.of Agb Acs
theorem Mq:OpM X (binaryOp .FloorDiv) Aat:=OpM.of Acp Acq
theorem C7:OpM X (binaryOp .Mod) N5:=OpM.of Aga Acr
end
theorem Hs:PyData.strOk x=true ↔ ∀ c∈x.cps.toList,c < 0x110000:=by
 unfold PyData.strOk
 rw[Array.all_eq_true']
 simp
theorem M9 (hx:PyData.strOk x=true) (hy:PyData.strOk y=true):PyData.strOk (x++y)=true:=by
 rw[Hs] at *
 intro c hc
 have:(x++y).cps.toList=x.cps.toList++y.cps.toList:=by
  show (x.cps++y.cps).toList=_
  simp
 rw[this] at hc
 rcases List.mem_append.mp hc with h|h
 ·exact hx c h
 ·exact hy c h
theorem Ht (hx:PyData.strOk x=true) (h:∀ c∈y.cps.toList,c∈x.cps.toList):PyData.strOk y=true:=by
 rw[Hs] at *
 exact fun c hc=>hx c (h c hc)
theorem Xa (hx:PyData.strOk x=true) (h:atI x.cps.toList i=some c):PyData.strOk ⟨#[c]⟩=true:=by
 refine Ht hx fun c' hc=>?_
 have e:c'=c:=by simpa using hc
 subst e
 obtain⟨j,_,h2,_⟩:=Jy h
 exact Amk h2
theorem Od {x:Str}{lo hi:Option Int} (hx:PyData.strOk x=true):PyData.strOk (Txt.slice x lo hi)=true:=by
 unfold Txt.slice
 split
 ·exact hx
 ·refine Ht hx fun c hc=>?_
  simp only[List.toList_toArray] at hc
  obtain⟨i,_,h⟩:=List.mem_filterMap.mp hc
  have:=Array.mem_of_getElem? h
  simpa using this
section
variable {X:Cx}{a b c e:Expr}{es:List Expr}{pos p:Pos}{x:Str}{id T:String}
noncomputable def Af:FL:=fun _ _=>some []
noncomputable def Aa (f:FE) (g:FL):FL:=fun env m=>(f env m).bind fun x=>(g env m).bind fun xs=>some (x::xs)
theorem Ag4:PL X [] Af:=PA.imp Vm fun σ H Q ⟨env,μ,m,ds,S,E,h,q⟩=>by cases h;exact q [] H (Same.refl H) .nil
theorem Ac9 (ha:PD X e f) (hr:PL X es g) (hs:starEach (e::es) X.env=(false,eval e X.env)::starEach es X.env):PL X (e::es) (Aa f g) :=
 PA.imp (Lj ha hr hs) fun σ H Q ⟨env,μ,m,ds,S,E,h,q⟩=>by
  obtain⟨d,h1,h⟩:=bind_some h
  obtain⟨ds',h2,h⟩:=bind_some h
  cases h
  exact⟨env,μ,m,d,S,E,h1,fun v H1 s1 r1=>⟨env,μ,m,ds',S.same s1,E.same s1,h2,fun vs H2 s2 r2=>q _ H2 (s1.trans s2) (.cons (r1.same s2) r2)⟩⟩
noncomputable def B2 (g:FL):FE:=fun env m=>(g env m).bind fun ds=>some (.lst ds)
theorem Zm (h:PF X e g):PD X e (B2 g):=PE.imp h fun σ H Q ⟨env,μ,m,d,S,E,h,q⟩=>by
 obtain⟨ds,h1,h⟩:=bind_some h
 cases h
 exact⟨env,μ,m,ds,S,E,h1,fun a xs H' s1 hn ha r=>q _ H' s1 (.lst (.inl ha) (S.nnone hn) r.unw)⟩
noncomputable def Bw (g:FL):FE:=fun env m=>(g env m).bind fun ds=>if ds.length<=1000000 then some (.tup ds) else none
noncomputable def Bc (g:FL):FL:=fun env m=>(g env m).bind fun ds=>if ds.length<=1000000 then some ds else none
theorem Ags {x1} (h:PL X es g):PD X (.Tuple es x1 pos) (Bw g):=PE.imp (Agz h) fun σ H Q ⟨env,μ,m,d,S,E,h,q⟩=>by
 obtain⟨ds,h1,h⟩:=bind_some h
 split at h
 ·rename_i hl
  cases h
  refine⟨env,μ,m,ds,S,E,h1,fun vs H1 s1 r1=>⟨by rw[<- r1.length];exact big hl,fun p hp=>q _ _ (s1.trans (A6 hp)) (.tup (.inl (.inl A8)) (r1.same (A6 hp)))⟩⟩
 ·cases h
theorem Ag2 (h:PL X es g):PF X (.List es pos) (Bc g):=PE.imp (Agu h) fun σ H Q ⟨env,μ,m,d,S,E,h,q⟩=>by
 obtain⟨ds,h1,h⟩:=bind_some h
 split at h
 ·rename_i hl
  cases h
  refine⟨env,μ,m,_,S,E,h1,fun vs H1 s1 r1=>⟨by rw[<- r1.length];exact big hl,fun p hp=>q _ vs _ (s1.trans (A6 hp)) (s1.free hp) A8 (r1.fresh hp)⟩⟩
 ·cases h
def oIx:D->D->MH->Option D:=fun x y m=>match y with
 |.int i=>(match x with
  |.str z=>if z.length<=1000000 then (atI z.cps.toList i).bind fun c=>some (.str ⟨#[c]⟩) else none
  |x=>(sq m x).bind fun ds=>atI ds i)
 |_=>none
theorem Reps.atI {K:W.Frag}{H:Hp}{μ:List Addr}{B:Addr->Prop}{ds:List D}{vs:List V}{i:Int}{d:D} (r:Reps K H μ B ds vs) (h:L2.atI ds i=some d):∃ v,L2.atI vs i=some v/\Rep K H μ B d v:=by
 unfold L2.atI at *
 rw[r.length] at h
 obtain⟨j,h1,h2⟩:=bind_some h
 obtain⟨v,h3,h4⟩:=r.get h2
 exact⟨v,by rw[h1];exact h3,h4⟩
set_option tactic.hygienic true in
theorem Age:OpD X oIx (rIx X.K):=by
 intro μ m x y z v u H Q S rx ry e q
 cases ry<;>first|exact Ae e|skip
 rename_i i
 have seq:((sq m x).bind fun ds=>atI ds i)=some z->rIx X.K v (.int i) H Q:=fun e=>by
  obtain⟨ds,h1,h2⟩:=bind_some e
  obtain⟨a,xs,rfl,hq,rs⟩:=M6 S rx h1
  obtain⟨w,h3,h4⟩:=rs.atI h2
  rcases hq with hq|hq
  ·exact .inl ⟨a,xs,i,w,rfl,rfl,hq,h3,q w H (Same.refl H) h4⟩
  ·exact .inr (.inl ⟨a,xs,i,w,rfl,rfl,hq,h3,q w H (Same.refl H) h4⟩)
 cases rx with
 |str zz ok =>
  unfold oIx at e
  simp only at e
  split at e
  ·obtain⟨c,h1,h2⟩:=bind_some e
   cases h2
   exact .inr (.inr ⟨zz,i,c,rfl,rfl,big (by assumption),h1,q _ H (Same.refl H) (.str _ (Xa ok h1))⟩)
  ·cases e
 |non=>exact seq e
 |bl _=>exact seq e
 |int _=>exact seq e
 |tup h1 h2=>exact seq e
 |lst h1 h2 h3=>exact seq e
 |kl h1 h2=>exact seq e
 |dic h1 h2 h3 h4=>exact seq e
 |dks _ _ _ _=>exact seq e
 |fn _=>exact seq e
 |ref h=>exact seq e
theorem Akb (ha:PD X a f) (hb:PD X b g) (hs:Nj b):PD X (.Subscript a b pos) (f2 oIx f g):=PE.imp (Akf Afn ha hb hs) fun σ H Q h=>tE.bin h _ Age
abbrev FO:=A2->MH->Option (Option Int)
inductive tO' (K:W.Frag) (f:FO) (σ:St) (H:Hp) (Q:Option Int->Hp->Prop):Prop
 |mk (env:A2) (μ:List Addr) (m:MH) (o:Option Int) (S:Sim K H μ m) (E:EnvRep K H μ σ env) (h:f env m=some o) (q:∀ H',Same H H'->Q o H')
abbrev PO' (X:Cx) (e:Option Expr) (f:FO):Prop:=PO X e (tO' X.K f)
theorem PO.imp {X:Cx}{e:Option Expr}{t t':TO} (h:PO X e t) (i:∀ σ H Q,t' σ H Q->t σ H Q):PO X e t':=fun pins s σ H Q I q=>h pins s σ H Q I (i σ H Q q)
noncomputable def fNo:FO:=fun _ _=>some none
noncomputable def asI:D->Option Int
 |.int i=>some i
 |_=>none
def B6 (f:FE):FO:=fun env m=>(f env m).bind fun d=>(asI d).bind fun i=>some (some i)
theorem Zs:PO' X none fNo:=PO.imp Ada fun σ H Q ⟨env,μ,m,o,S,E,h,q⟩=>by cases h;exact q H (Same.refl H)
theorem Zt (h:PD X e f):PO' X (some e) (B6 f):=PO.imp (Adb h) fun σ H Q ⟨env,μ,m,o,S,E,h,q⟩=>by
 obtain⟨d,h1,h⟩:=bind_some h
 obtain⟨i,h2,h⟩:=bind_some h
 cases h
 refine⟨env,μ,m,d,S,E,h1,fun v H' s r=>?_⟩
 cases r<;>first|(cases h2;exact⟨_,rfl,q H' s⟩)|cases h2
def Ck {α:Type} (xs:List α) (lo hi:Option Int):List α:=(xs.drop (HT.sIx xs.length 0 lo)).take (HT.sIx xs.length xs.length hi - HT.sIx xs.length 0 lo)
theorem Reps.cut {K:W.Frag}{H:Hp}{μ:List Addr}{B:Addr->Prop}{ds:List D}{vs:List V} (r:Reps K H μ B ds vs) (lo hi:Option Int):Reps K H μ B (Ck ds lo hi) (Aai vs lo hi):=by
 unfold Ck Aai
 rw[r.length]
 exact (r.drop _).take _
theorem sl_str:SlR X (fun x lo hi H Q=>∃ z,x=.str z/\z.length<=sizeLine/\Q (.str (Txt.slice z lo hi)) H):=by
 intro pins s σ H x v vl vu lo hi sl Q I rx hs pl pu h
 obtain⟨z,rfl,hz,q⟩:=h
 obtain⟨t,rfl⟩:=rx
 refine⟨"str",_,F.slot_str_getitem.lookup,typeIs_str _ _ _,?_⟩
 cases pl with
 |none =>
  cases pu with
  |none=>exact An8 (l:=none) (u:=none) (st:=none) hs rfl (post_val_or_str ⟨Amv (Txt.slice_le z _ _) hz,fun t' k=>⟨.str (Txt.slice z _ _),H,I.tok _,⟨_,rfl⟩,q⟩⟩)
  |int j t'=>exact An8 (l:=none) (u:=some (j,t')) (st:=none) hs rfl (post_val_or_str ⟨Amv (Txt.slice_le z _ _) hz,fun t' k=>⟨.str (Txt.slice z _ _),H,I.tok _,⟨_,rfl⟩,q⟩⟩)
 |int i t1 =>
  cases pu with
  |none=>exact An8 (l:=some (i,t1)) (u:=none) (st:=none) hs rfl (post_val_or_str ⟨Amv (Txt.slice_le z _ _) hz,fun t' k=>⟨.str (Txt.slice z _ _),H,I.tok _,⟨_,rfl⟩,q⟩⟩)
  |int j t'=>exact An8 (l:=some (i,t1)) (u:=some (j,t')) (st:=none) hs rfl (post_val_or_str ⟨Amv (Txt.slice_le z _ _) hz,fun t' k=>⟨.str (Txt.slice z _ _),H,I.tok _,⟨_,rfl⟩,q⟩⟩)
def oSl:D->Option Int->Option Int->Option D
 |.str z,lo,hi=>if z.length<=1000000 then some (.str (Txt.slice z lo hi)) else none
 |.tup ds,lo,hi=>some (.tup (Ck ds lo hi))
 |_,_,_=>none
def fSl (f:FE) (l h:FO):FE:=fun env m=>(f env m).bind fun x=>(l env m).bind fun lo=>(h env m).bind fun hi=>oSl x lo hi
def Nc (f:FE) (l h:FO):FL:=fun env m=>(f env m).bind fun x=>(l env m).bind fun lo=>(h env m).bind fun hi=>match x with
 |.tup _=>none
 |x=>(sq m x).bind fun ds=>some (Ck ds lo hi)
end
theorem Dx {prog:Program}{w:World}{A:Around}{E:Value->Shared->Prop}{s:Shared}{t sl:Addr}{items:Array Value}{vl vu:Value}{lo hi:Option Int}{Q:Value->Shared->Prop} (ht:IsTup s.heap t items) (hs:s.heap.IsSliceOf sl vl vu .none) (pl:IsPart vl lo) (pu:IsPart vu hi)
  (hw:HT.sIx items.size 0 lo=0/\HT.sIx items.size items.size hi=items.size) (h:Q (.ref t) s):wpAny (model prog w) A (getItem (.ref t) (.ref sl)) Q E s:=by
 obtain⟨os,hos,hcs,hds⟩:=id hs
 have hTs:s.TypeIs (.ref sl) "slice":=⟨os,hos,hcs⟩
 unfold getItem
 try with_reducible refine Ani ?_
 first|refine Al2 (Al3 ?_)|skip
 refine Al2 (wpAny_sequenceKey ht.typeIs (by decide) ?_)
 refine Al2 (wpAny_callSpecial?_slot (name:=Str.ofString "__getitem__") ht.typeIs PyProof.Rows.slot_tuple_getitem
  (wpAny_call_entry PyProof.Rows.slot_tuple_getitem ht.typeIs entry_tuple_getitem ?_ (args_tuple_getitem _ _)))
 show wpAny _ _ (Builtin.Tuple.tupleItemsOf (.ref t) >>= _) _ _ s
 refine Al2 (tupleItemsOf_ ht ?_)
 refine Al2 (wpAny_typeOf hTs ?_)
 rw[Amf (by decide)]
 refine Al2 (HT.sliceApplied_gen hs pl pu ?_)
 have hyes:(((HT.sIx items.size 0 lo:Nat):Int) == 0&&(1:Int) == 1&&(HT.sIx items.size items.size hi - HT.sIx items.size 0 lo) == items.size)=true:=by
  rw[hw.1,hw.2]
  simp
 show wpAny _ _ (if (((HT.sIx items.size 0 lo:Nat):Int) == 0&&(1:Int) == 1&&(HT.sIx items.size items.size hi - HT.sIx items.size 0 lo) == items.size)=true then _ else _) _ _ s
 rw[Amf hyes]
 unfold Builtin.Tuple.tupleIsExact
 refine Al2 (Al2 (wpAny_typeOf ht.typeIs (Al3 ?_)))
 rw[Amf (by decide)]
 exact Al2 (wpAny_rule (Al3 ⟨_,rfl,Al3 h⟩))
theorem Xe {α:Type}{xs:List α}{lo hi:Option Int} (h:HT.sIx xs.length 0 lo=0/\HT.sIx xs.length xs.length hi=xs.length):Ck xs lo hi=xs:=by
 unfold Ck
 rw[h.1,h.2]
 simp
section
variable {X:Cx}{a b c e:Expr}{es:List Expr}{pos p:Pos}{x:Str}{id T:String}
theorem Ad6:SlR X (fun x lo hi H Q=>∃ a xs,x=.ref a/\SqT X.K H a xs/\(HT.sIx xs.length 0 lo=0/\HT.sIx xs.length xs.length hi=xs.length)/\Q (.ref a) H):=by
 intro pins s σ H x v vl vu lo hi sl Q I rx hs pl pu h
 obtain⟨a,xs,rfl,hx,hw,q⟩:=h
 cases rx
 obtain⟨its,r,ht,hz⟩:=I.tuple hx
 have hlen:its.toArray.size=xs.length:=by rw[Al8];exact r.length.symm
 refine⟨"tuple",_,PyProof.Rows.slot_tuple_getitem.lookup,ht.typeIs,?_⟩
 exact Dx ht hs pl pu (by rw[hlen];exact hw) ⟨.ref a,H,I,rfl,q⟩
theorem Akc {f:FE}{l h:FO}{lo hi:Option Expr}{p2:Pos} (ha:PD X a f) (hl:PO' X lo l) (hh:PO' X hi h):PD X (.Subscript a (.Slice lo hi none p2) pos) (fSl f l h) :=
 PE.imp (Re (sl_str.or (sl_tup.or Ad6)) ha hl hh) fun σ H Q ⟨env,μ,m,d,S,E,h,q⟩=>by
  obtain⟨x,h1,h⟩:=bind_some h
  obtain⟨lo,h2,h⟩:=bind_some h
  obtain⟨hi,h3,h⟩:=bind_some h
  refine⟨env,μ,m,x,S,E,h1,fun v H1 s1 r1=>⟨env,μ,m,lo,S.same s1,E.same s1,h2,fun H2 s2=>⟨env,μ,m,hi,S.same (s1.trans s2),E.same (s1.trans s2),h3,fun H3 s3=>?_⟩⟩⟩
  have s':=(s1.trans s2).trans s3
  have r3:=(r1.same s2).same s3
  cases r3 with
  |str z ok =>
   unfold oSl at h
   simp only at h
   split at h
   ·cases h
    exact .inl ⟨z,rfl,big (by assumption),q _ H3 s' (.str _ (Od ok))⟩
   ·cases h
  |@tup ds a xs hq rs =>
   cases h
   by_cases hw:HT.sIx xs.length 0 lo=0/\HT.sIx xs.length xs.length hi=xs.length
   ·exact .inr (.inr ⟨a,xs,rfl,hq,hw,q _ H3 s' (by rw[Xe (by rw[rs.length];exact hw)];exact .tup hq rs)⟩)
   ·exact .inr (.inl ⟨a,xs,rfl,hq,hw,fun p hp=>q _ _ (s'.trans (A6 hp)) (.tup (.inl (.inl A8)) ((rs.cut lo hi).same (A6 hp)))⟩)
  |non=>cases h
  |bl _=>exact Ae h
  |int _=>exact Ae h
  |lst _ _ _=>exact Ae h
  |kl _ _=>exact Ae h
  |ref _=>exact Ae h
  |dic _ _ _ _=>exact Ae h
  |dks _ _ _ _=>exact Ae h
  |fn _=>exact Ae h
theorem Akh {f:FE}{l h:FO}{lo hi:Option Expr}{p2:Pos} (ha:PD X a f) (hl:PO' X lo l) (hh:PO' X hi h):PF X (.Subscript a (.Slice lo hi none p2) pos) (Nc f l h) :=
 PE.imp (Re Ad5 ha hl hh) fun σ H Q ⟨env,μ,m,d,S,E,h,q⟩=>by
  obtain⟨x,h1,h⟩:=bind_some h
  obtain⟨lo,h2,h⟩:=bind_some h
  obtain⟨hi,h3,h⟩:=bind_some h
  refine⟨env,μ,m,x,S,E,h1,fun v H1 s1 r1=>⟨env,μ,m,lo,S.same s1,E.same s1,h2,fun H2 s2=>⟨env,μ,m,hi,S.same (s1.trans s2),E.same (s1.trans s2),h3,fun H3 s3=>?_⟩⟩⟩
  have s':=(s1.trans s2).trans s3
  have r3:=(r1.same s2).same s3
  have fin:∀ {a:Addr}{xs:List V}{ds:List D},v=.ref a->SqL X.K H3 a xs->Reps X.K H3 μ (·∈μ) ds xs->d=Ck ds lo hi->Alc X.K v lo hi H3 Q:=fun {a xs ds} e hq rs e2=>by
   subst e
   subst e2
   exact⟨a,xs,rfl,hq,fun p hp=>q p _ _ (s'.trans (A6 hp)) (s'.free hp) A8 ((rs.cut lo hi).fresh hp)⟩
  cases r3 with
  |@lst ds a xs hq _ rs=>cases h;exact fin rfl (.inl hq) rs rfl
  |@kl ds a xs hq rs=>cases h;exact fin rfl hq.sq rs rfl
  |@ref n a e =>
   simp only at h
   obtain⟨ds,h4,h⟩:=bind_some h
   cases h
   unfold sq at h4
   cases q':m[n]? with
   |none=>simp[q'] at h4
   |some o =>
    simp only[q'] at h4
    cases o with
    |dcs _ _=>cases h4
    |dct _=>cases h4
    |lst ds' =>
     cases h4
     obtain⟨xs,e1,e2⟩:=(S.same s').obj n a _ e q'
     exact fin rfl (SqL.of e1) e2 rfl
  |_=>cases h
theorem Nn {s:Shared}{A:Around}{prog:Program}{w:World}{E:Value->Shared->Prop}{t b:Addr}{ws:List Value}{Q:Value->Shared->Prop} (ht:IsTup s.heap t #[]) (hb:IsTup s.heap b ws.toArray) (h:Q (.ref b) s) :
  wpAny (model prog w) A (binaryOp .Add (.ref t) (.ref b)) Q E s:=by
 obtain⟨⟨cls,dd,data,sl⟩,ho,hc,n,hd⟩:=id ht
 obtain⟨⟨cls2,dd2,data2,sl2⟩,ho2,hc2,n2,hd2⟩:=id hb
 simp only at hc hd hc2 hd2
 subst hc hd hc2 hd2
 exact concat_meets ⟨_,ho,rfl⟩ ⟨_,ho2,rfl⟩ noFill_tuple_add seq_tuple_add PySem.F.slot_tuple_add PySem.F.entry_tuple_add (PySem.F.args_tuple_add_2 _ _)
   (tuple_addW0 t b #[] ws.toArray n n2 dd dd2 sl sl2 (by simp)) ⟨ho,ho2,h⟩
theorem Zk:OpR X (binaryOp .Add) (fun x y H Q=>∃ a b ys,x=.ref a/\y=.ref b/\SqT X.K H a []/\SqT X.K H b ys/\Q (.ref b) H):=by
 intro pins s σ H x y v u Q I rx ry h
 obtain⟨a,b,ys,rfl,rfl,ha,hb,q⟩:=h
 cases rx
 cases ry
 obtain⟨its,r1,p1,_⟩:=I.tuple ha
 cases r1
 obtain⟨its2,r2,p2,_⟩:=I.tuple hb
 exact Nn p1 p2 ⟨.ref b,H,I,rfl,q⟩
set_option tactic.hygienic true in
theorem A9:OpM X (binaryOp .Add) Dm:=OpM.of (op_add.or (op_add_str.or (op_catT.or Zk))) fun μ m x y z v u H Q S rx ry e q=>by
 cases rx<;>first|exact Ae e|skip
 all_goals cases ry<;>first|exact Ae e|skip
 ·cases e;exact .inl ⟨_,_,rfl,rfl,q _ H (Same.refl H) (.int _)⟩
 ·rename_i i ok j ok'
  unfold Dm at e
  simp only at e
  split at e
  ·cases e;exact .inr (.inl ⟨_,_,rfl,rfl,big (by assumption),q _ H (Same.refl H) (.str _ (M9 ok ok'))⟩)
  ·cases e
 ·rename_i ds a xs hq rs es b ys hq' rs'
  unfold Dm at e
  simp only at e
  split at e
  ·rename_i hl
   cases e
   by_cases hx:xs=[]
   ·subst hx
    cases rs
    exact .inr (.inr (.inr ⟨a,b,ys,rfl,rfl,hq,hq',q _ H (Same.refl H) (by rw[Aof];exact .tup hq' rs')⟩))
   ·refine .inr (.inr (.inl ⟨a,b,xs,ys,rfl,rfl,hq,hq',hx,by rw[<- rs.length,<- rs'.length];exact big hl,fun hy=>?_,fun hy p hp=>?_⟩))
    ·subst hy
     cases rs'
     exact q _ H (Same.refl H) (by rw[Ang];exact .tup hq rs)
    ·exact q _ _ (A6 hp) (.tup (.inl (.inl A8)) ((rs.append rs').same (A6 hp)))
  ·cases e
def sqL (m:MH):D->Option (List D)
 |.tup _=>none
 |d=>sq m d
def Tu (f g:FE):FL:=fun env m=>(f env m).bind fun x=>(g env m).bind fun y=>(sqL m x).bind fun xs=>(sqL m y).bind fun ys=>if xs.length+ys.length<=1000000 then some (xs++ys) else none
theorem Hq {K:W.Frag}{H:Hp}{μ:List Addr}{m:MH} (S:Sim K H μ m) {d:D}{v:V}{ds:List D} (r:Rep K H μ (·∈μ) d v) (h:sqL m d=some ds):∃ a xs,v=.ref a/\SqL K H a xs/\Reps K H μ (·∈μ) ds xs:=by
 cases r with
 |@ref n a e =>
  unfold sqL sq at h
  cases q:m[n]? with
  |none=>simp[q] at h
  |some o =>
   simp only[q] at h
   cases o with
   |dcs _ _=>cases h
   |dct _=>cases h
   |lst ds =>
    cases h
    obtain⟨xs,e1,e2⟩:=S.obj n a _ e q
    exact⟨a,xs,rfl,SqL.of e1,e2⟩
 |@lst ds a xs h1 h3 h2=>cases h;exact⟨a,xs,rfl,.inl h1,h2⟩
 |@kl ds a xs h1 h2=>cases h;exact⟨a,xs,rfl,h1.sq,h2⟩
 |_=>exact Ae h
theorem Aco:OpR X (binaryOp .Add) (fun x y H Q=>∃ l b xs zs,x=.ref l/\y=.ref b/\SqL X.K H l xs/\SqL X.K H b zs/\xs.length+zs.length<=sizeLine/\∀ p,H p=none->Q (.ref p) (upd H p (.lst (xs++zs)))):=by
 intro pins s σ H x y v u Q I rx ry h
 obtain⟨l,b,xs,zs,rfl,rfl,hl,hb,hz,q⟩:=h
 cases rx
 cases ry
 obtain⟨its,r,⟨⟨cls,dd,data,sl⟩,n,ho,hc,hdd,hd⟩,z⟩:=I.list hl
 obtain⟨its2,r2,⟨⟨cls2,dd2,data2,sl2⟩,n2,ho2,hc2,hdd2,hd2⟩,z2⟩:=I.list hb
 simp only at hc hd hc2 hd2 hdd hdd2
 subst hc hd hc2 hd2 hdd hdd2
 have hl:=r.length
 have hl2:=r2.length
 refine concat_meets ⟨_,ho,rfl⟩ ⟨_,ho2,rfl⟩ noFill_list_add seq_list_add PySem.F.slot_list_add PySem.F.entry_list_add (PySem.F.args_list_add_2 _ _)
   (list_addW l b its.toArray its2.toArray n n2 none none sl sl2 (by rw[Al8,Al8];lia)) ⟨ho,ho2,?_⟩
 have ea:its.toArray++its2.toArray=(its++its2).toArray:=by simp
 rw[ea]
 exact⟨.ref _,_,I.lnew (t':=s.toks) (r.append r2) (by rw[Amn];lia),rfl,q _ I.fresh⟩
theorem Ag1 {f g:FE} (ha:PD X a f) (hb:PD X b g):PF X (.BinOp a .Add b pos) (Tu f g):=PE.imp (Agx Aco ha hb) fun σ H Q ⟨env,μ,m,d,S,E,h,q⟩=>by
 obtain⟨x,h1,h⟩:=bind_some h
 obtain⟨y,h2,h⟩:=bind_some h
 obtain⟨xs,h3,h⟩:=bind_some h
 obtain⟨ys,h4,h⟩:=bind_some h
 split at h
 ·rename_i hl
  cases h
  refine⟨env,μ,m,x,S,E,h1,fun v H1 s1 r1=>⟨env,μ,m,y,S.same s1,E.same s1,h2,fun u H2 s2 r2=>?_⟩⟩
  obtain⟨l,vs,rfl,e1,rs⟩:=Hq (S.same (s1.trans s2)) (r1.same s2) h3
  obtain⟨b,ws,rfl,e2,rs'⟩:=Hq (S.same (s1.trans s2)) r2 h4
  exact⟨l,b,vs,ws,rfl,rfl,e1,e2,by rw[<- rs.length,<- rs'.length];exact big hl,fun p hp=>q p _ _ ((s1.trans s2).trans (A6 hp)) ((s1.trans s2).free hp) A8 ((rs.append rs').fresh hp)⟩
 ·cases h
def Ly (X:Cx) (f:Value) (o:List D->MH->Option D):Prop :=
 ∀ (pins:List (Addr×Obj)) (s:Shared) (σ:St) (H:Hp) (μ:List Addr) (m:MH) (xs:List D) (z:D) (vs:List V) (us:List Value) (Q:VK),Inv X pins σ H s->Sim X.K H μ m->Reps X.K H μ (·∈μ) xs vs->Vals vs us->o xs m=some z ->
  (∀ w H2,Same H H2->Rep X.K H2 μ (·∈μ) z w->Q w H2)->wpAny (model X.prog X.w) X.A (call f us) (EP X pins σ Q) X.xe s
def Abh (X:Cx) (f:Value) (o:List D->MH->Option (List D)):Prop :=
 ∀ (pins:List (Addr×Obj)) (s:Shared) (σ:St) (H:Hp) (μ:List Addr) (m:MH) (xs:List D) (z:List D) (vs:List V) (us:List Value) (Q:VK),Inv X pins σ H s->Sim X.K H μ m->Reps X.K H μ (·∈μ) xs vs->Vals vs us->o xs m=some z ->
  (∀ a ys H2,Same H H2->H a=none->H2 a=some (.lst ys)->Reps X.K H2 μ (nw μ a) z ys->Q (.ref a) H2)->wpAny (model X.prog X.w) X.A (call f us) (EP X pins σ Q) X.xe s
noncomputable def Av (o:List D->MH->Option D) (g:FL):FE:=fun env m=>(g env m).bind fun xs=>o xs m
noncomputable def C9 (o:List D->MH->Option (List D)) (g:FL):FL:=fun env m=>(g env m).bind fun xs=>o xs m
theorem Ae2 (ho:Ly X k o) (ha:PL X es g) {s:Shared}{H:Hp} (I:Inv X pins σ H s) (h:tE X.K (Av o g) σ H Q) :
  wpAny (model X.prog X.w) X.A (spliced (backTo pos (starEach es X.env))) (fun us s1=>wpAny (model X.prog X.w) X.A (call k us) (EP X pins σ Q) X.xe s1) X.xe s:=by
 obtain⟨env,μ,m,d,S,E,h,q⟩:=h
 obtain⟨xs,h1,h2⟩:=bind_some h
 refine thn (ha pos pins s σ H (fun vs H1=>Same H H1/\Reps X.K H1 μ (·∈μ) xs vs) I ⟨env,μ,m,xs,S,E,h1,fun v H1 s1 r1=>⟨s1,r1⟩⟩) fun us s1 ⟨vs,H1,I1,r1,s1',rx⟩=>?_
 exact ho pins s1 σ H1 μ m xs d vs us Q I1 (S.same s1') rx r1 h2 fun w H2 s2 r2=>q w H2 (s1'.trans s2) r2
theorem Ajd (ho:Abh X k o) (ha:PL X es g) {s:Shared}{H:Hp} (I:Inv X pins σ H s) (h:tF X.K (C9 o g) σ H Q) :
  wpAny (model X.prog X.w) X.A (spliced (backTo pos (starEach es X.env))) (fun us s1=>wpAny (model X.prog X.w) X.A (call k us) (EP X pins σ Q) X.xe s1) X.xe s:=by
 obtain⟨env,μ,m,d,S,E,h,q⟩:=h
 obtain⟨xs,h1,h2⟩:=bind_some h
 refine thn (ha pos pins s σ H (fun vs H1=>Same H H1/\Reps X.K H1 μ (·∈μ) xs vs) I ⟨env,μ,m,xs,S,E,h1,fun v H1 s1 r1=>⟨s1,r1⟩⟩) fun us s1 ⟨vs,H1,I1,r1,s1',rx⟩=>?_
 exact ho pins s1 σ H1 μ m xs d vs us Q I1 (S.same s1') rx r1 h2 fun a ys H2 s2 hn ha r2=>q a ys H2 (s1'.trans s2) (s1'.free hn) ha r2
theorem Ll (hc:Ly X (.builtin id) o) (hg:Gl X x) (hm:X.mg x=none) (hv:bootBuiltins x=some (.builtin id)) (ha:PL X (e::es) g) (hn:x≠"__name__") (hdb:(x == ("__debug__":Str))=false) (he:starEach (e::es) X.env=(false,eval e X.env)::starEach es X.env) (hpl:(backTo pos (starEach es X.env)).any (·.1)=false):PD X (.Call (.Name x p) (e::es) [] pos) (Av o g):=by
 intro pins s σ H Q I h
 refine Anb (D4 I hg hm hv ?_ hn hdb)
 exact PyProof.Rows.callWith_builtin1 (Ae2 hc ha I h) he hpl
theorem Ms (hc:Ly X (.type T) o) (hg:Gl X x) (hm:X.mg x=none) (hv:bootBuiltins x=some (.type T)) (ha:PL X (e::es) g) (hn:x≠"__name__") (hdb:(x == ("__debug__":Str))=false) (he:starEach (e::es) X.env=(false,eval e X.env)::starEach es X.env) (hpl:(backTo pos (starEach es X.env)).any (·.1)=false):PD X (.Call (.Name x p) (e::es) [] pos) (Av o g):=by
 intro pins s σ H Q I h
 refine Anb (D4 I hg hm hv ?_ hn hdb)
 exact PyProof.Rows.callWith_type1 (Ae2 hc ha I h) he hpl
theorem Vn (hc:Abh X (.type T) o) (hg:Gl X x) (hm:X.mg x=none) (hv:bootBuiltins x=some (.type T)) (ha:PL X (e::es) g) (hn:x≠"__name__") (hdb:(x == ("__debug__":Str))=false) (he:starEach (e::es) X.env=(false,eval e X.env)::starEach es X.env) (hpl:(backTo pos (starEach es X.env)).any (·.1)=false):PF X (.Call (.Name x p) (e::es) [] pos) (C9 o g):=by
 intro pins s σ H Q I h
 refine Anb (D4 I hg hm hv ?_ hn hdb)
 exact PyProof.Rows.callWith_type1 (Ajd hc ha I h) he hpl
inductive R1 (K:W.Frag) (H:Hp) (μ:List Addr) (B:Addr->Prop) (d:D) (vs:List V):Prop where
 |mk (v:V) (e:vs=[v]) (r:Rep K H μ B d v)
theorem Reps.one {K:W.Frag}{H:Hp}{μ:List Addr}{B:Addr->Prop}{d:D}{vs:List V} (r:Reps K H μ B [d] vs):R1 K H μ B d vs:=by
 cases r with
 |cons h r=>cases r;exact⟨_,rfl,h⟩
theorem Reps.two {K:W.Frag}{H:Hp}{μ:List Addr}{B:Addr->Prop}{d d':D}{vs:List V} (r:Reps K H μ B [d,d'] vs):∃ v v',vs=[v,v']/\Rep K H μ B d v/\Rep K H μ B d' v':=by
 cases r with
 |cons h r =>
  cases r with
  |cons h' r=>cases r;exact⟨_,_,rfl,h,h'⟩
def Ajx (m:MH):D->Option Nat
 |.str z=>if z.length<=1000000 then some z.length else none
 |d=>(sq m d).bind fun ds=>some ds.length
def Dz:List D->MH->Option D:=fun xs m=>match xs with
 |[d]=>(Ajx m d).bind fun n=>some (.int n)
 |_=>none
theorem Ab7 {K:W.Frag}{H:Hp}{μ:List Addr}{m:MH} (S:Sim K H μ m) {d:D}{v:V}{n:Nat} (r:Rep K H μ (·∈μ) d v) (h:Ajx m d=some n):Ai9 K v H n:=by
 have seq:((sq m d).bind fun ds=>some ds.length)=some n->Ai9 K v H n:=fun h=>by
  obtain⟨ds,h1,h2⟩:=bind_some h
  cases h2
  obtain⟨a,xs,rfl,hq,rs⟩:=M6 S r h1
  rcases hq with hq|hq
  ·exact .inl ⟨xs,hq,rs.length⟩
  ·exact .inr ⟨xs,hq,rs.length⟩
 cases r with
 |str z ok =>
  unfold Ajx at h
  simp only at h
  split at h
  ·cases h;exact⟨big (by assumption),rfl⟩
  ·exact Ae h
 |non=>exact seq h
 |bl _=>exact seq h
 |int _=>exact seq h
 |tup h1 h2=>exact seq h
 |lst h1 h2 h3=>exact seq h
 |kl h1 h2=>exact seq h
 |dic h1 h2 h3 h4=>exact seq h
 |dks _ _ _ _=>exact seq h
 |fn _=>exact seq h
 |ref h'=>exact seq h
theorem Ae7:Ly X (.builtin "len") Dz:=by
 intro pins s σ H μ m xs z vs us Q I S rx rv e q
 match xs,e with
 |[d],e =>
  obtain⟨n,h1,h2⟩:=bind_some e
  cases h2
  obtain⟨v,rfl,r⟩:=rx.one
  exact Yl pins s σ H [v] us Q I rv ⟨v,n,rfl,Ab7 S r h1,q _ H (Same.refl H) (.int _)⟩
noncomputable def Aen:List D->MH->Option D:=fun xs _=>match xs with
 |[.int i]=>some (.int i)
 |[.bl b]=>some (.int (if b then 1 else 0))
 |[.str z]=>if z.length<=640 then (PySem.intText? z).bind fun i=>some (.int i) else none
 |_=>none
theorem Af9 {α:Type}{o:List D->Option α}{xs:List D}{z:α} (hn:o []=none) (hc:∀ a b l,o (a::b::l)=none) (e:o xs=some z):∃ d,xs=[d]:=by
 cases xs with
 |nil=>rw[hn] at e;exact Ae e
 |cons a l =>
  cases l with
  |nil=>exact⟨a,rfl⟩
  |cons b l=>rw[hc] at e;exact Ae e
theorem Ae6:Ly X (.type "int") Aen:=by
 intro pins s σ H μ m xs z vs us Q I S rx rv e q
 obtain⟨d,rfl⟩:=Af9 (o:=(Aen · m)) rfl (fun a _ _=>by cases a<;>rfl) e
 obtain⟨v,rfl,r⟩:=rx.one
 cases r with
 |int i =>
  cases e
  exact Ma pins s σ H _ us Q I rv (.inl ⟨i,rfl,q _ H (Same.refl H) (.int _)⟩)
 |bl b =>
  cases e
  exact Ma pins s σ H _ us Q I rv (.inr ⟨b,rfl,q _ H (Same.refl H) (.int _)⟩)
 |str x _ =>
  unfold Aen at e
  simp only at e
  split at e
  ·obtain⟨i,h1,h2⟩:=bind_some e
   cases h2
   obtain⟨u,rfl,t,rfl⟩:=Ij rv
   exact W.KIN.call_text h1 (by assumption) ⟨.int i,H,I.tok _,⟨_,rfl⟩,q _ H (Same.refl H) (.int _)⟩
  ·cases e
 |_=>exact Ae e
theorem Dt (z:String):PyData.strOk (Str.ofString z)=true:=by
 rw[Hs]
 intro c hc
 rw[Str.ofString_eq_toList] at hc
 have:c∈z.toList.map Char.toNat:=by simpa using hc
 obtain⟨k,_,rfl⟩:=List.mem_map.mp this
 have:=k.valid
 rcases this with h|h
 ·show k.val.toNat < _
  lia
 ·show k.val.toNat < _
  lia
def Ew:List D->MH->Option D:=fun xs m=>match xs with
 |[d]=>(sq m d).bind fun ds=>some (.tup ds)
 |_=>none
theorem Yn:Ly X (.type "tuple") Ew:=by
 intro pins s σ H μ m xs z vs us Q I S rx rv e q
 match xs,e with
 |[d],e =>
  obtain⟨ds,h1,h2⟩:=bind_some e
  cases h2
  obtain⟨v,rfl,r⟩:=rx.one
  obtain⟨a,ys,rfl,hq,rs⟩:=M6 S r h1
  refine J2 pins s σ H _ us Q I rv ⟨a,ys,rfl,?_⟩
  rcases hq with hq|hq
  ·exact .inl ⟨hq,fun l hl=>q _ _ (A6 hl) (.tup (.inl (.inl A8)) (rs.same (A6 hl)))⟩
  ·exact .inr ⟨hq,q _ H (Same.refl H) (.tup hq rs)⟩
def Zf:List D->MH->Option (List D):=fun xs m=>match xs with
 |[d]=>sq m d
 |_=>none
theorem Abn:Abh X (.type "list") Zf:=by
 intro pins s σ H μ m xs z vs us Q I S rx rv e q
 match xs,e with
 |[d],e =>
  obtain⟨v,rfl,r⟩:=rx.one
  obtain⟨a,ys,rfl,hq,rs⟩:=M6 S r e
  exact Mb pins s σ H _ us Q I rv ⟨a,ys,rfl,hq,fun l hl=>q l _ _ (A6 hl) hl A8 (rs.fresh hl)⟩
noncomputable def tyD (m:MH):D->Option String
 |.non=>some "NoneType"|.bl _=>some "bool"|.int _=>some "int"|.str _=>some "str"|.tup _=>some "tuple"|.lst _=>some "list"|.kl _=>some "list"
 |.ref n=>match m[n]? with
  |some (.lst _)=>some "list"
  |some (.dct _ _)=>none
  |some (.dcs _ _)=>none
  |none=>none
 |.dic _ _=>none
 |.dks _ _=>none
 |.fn _ _=>none
noncomputable def Ab2 (T U:String):Option Bool:=if U="int"\/U="bool"\/U="str"\/U="tuple"\/U="list" then some (T == U||(T == "bool"&&U == "int")) else none
theorem Ih (K:W.Frag) {T U:String}{b:Bool} (hT:T="NoneType"\/T="bool"\/T="int"\/T="str"\/T="tuple"\/T="list") (h:Ab2 T U=some b):W.kitOne K (.type T) (.type U)=some b:=by
 unfold Ab2 at h
 split at h
 ·rename_i hU
  cases h
  rcases hT with rfl|rfl|rfl|rfl|rfl|rfl<;>rcases hU with rfl|rfl|rfl|rfl|rfl<;>kernel_rfl
 ·cases h
def Afj (U:String) (f:FE):FE:=fun env m=>(f env m).bind fun d=>(tyD m d).bind fun T=>(Ab2 T U).bind fun b=>some (.bl b)
end
section
variable {X:Cx}{a b c e o':Expr}{es:List Expr}{pos p p' apos cpos:Pos}{x:Str}{id T:String}
theorem Ab3 {pins:List (Addr×Obj)}{σ:St}{H:Hp}{s:Shared}{A:Around}{E:Value->Shared->Prop}{Q:Value->Shared->Prop}{a:Addr}{xs:List V}{c:Value}{b:Bool} (I:Inv X pins σ H s) (h:SqT X.K H a xs) (e:W.kitOne X.K (.type "tuple") c=some b) (q:∀ tk,Q (.bool b) { s with toks:=tk }) :
  wpAny (model X.prog X.w) A (call (.builtin "isinstance") [.ref a,c]) Q E s:=by
 obtain⟨its,_,⟨o,h1,h2,_⟩,_⟩:=I.tuple h
 exact W.kia_one W.kitx_tuple I.kIn ⟨o,h1,h2⟩ e (fun z=>nomatch z) q
theorem Aju {pins:List (Addr×Obj)}{σ:St}{H:Hp}{s:Shared}{A:Around}{E:Value->Shared->Prop}{Q:Value->Shared->Prop}{μ:List Addr}{m:MH}{d:D}{v:V}{u:Value}{T U:String}{b:Bool} (I:Inv X pins σ H s) (S:Sim X.K H μ m) (r:Rep X.K H μ (·∈μ) d v) (ru:RelV v u)
  (h:tyD m d=some T) (hb:Ab2 T U=some b) (q:∀ tk,Q (.bool b) { s with toks:=tk }):wpAny (model X.prog X.w) A (call (.builtin "isinstance") [u,.type U]) Q E s:=by
 cases r with
 |non=>cases h;exact B8 I ru .non (Ih X.K (by simp) hb) q
 |bl b=>cases h;exact B8 I ru (.bl b) (Ih X.K (by simp) hb) q
 |int b=>cases h;exact B8 I ru (.int b) (Ih X.K (by simp) hb) q
 |str b _=>cases h;exact B8 I ru (.str b) (Ih X.K (by simp) hb) q
 |tup h1 h2=>cases h;cases ru;exact Ab3 I h1 (Ih X.K (by simp) hb) q
 |lst h1 h2 h3 =>
  cases h
  rcases h1 with h1|⟨o,h1⟩
  ·exact B8 I ru (.lst h1) (Ih X.K (by simp) hb) q
  ·exact B8 I ru (.frz h1) (Ih X.K (by simp) hb) q
 |kl h1 h2 =>
  cases h
  cases ru
  rcases h1 with ⟨o,h1⟩|⟨o,its,n,hk,hc,_⟩
  ·exact B8 (x:=.ref _) (u:=.ref _) I rfl (.frz h1) (Ih X.K (by simp) hb) q
  ·exact W.kia_one W.kitx_list I.kIn ⟨o,I.kIn _ _ hk,hc⟩ (Ih X.K (by simp) hb) (fun z=>nomatch z) q
 |dic h1 h2 h3 h4=>exact Ae h
 |dks _ _ _ _=>exact Ae h
 |fn _=>exact Ae h
 |@ref n a e =>
  unfold tyD at h
  cases q':m[n]? with
  |none=>simp[q'] at h
  |some ob =>
   simp only[q'] at h
   cases ob with
   |dcs _ _=>cases h
   |dct _ _=>cases h
   |lst ds =>
    cases h
    obtain⟨xs,e1,e2⟩:=S.obj n a _ e q'
    exact B8 I ru (.lst e1) (Ih X.K (by simp) hb) q
theorem Agn (ha:PD X e f) (hg:Gl X "isinstance") (hm:X.mg "isinstance"=none) (hg':Gl X y) (hm':X.mg y=none) (hv':bootBuiltins y=some (.type U)) (hn:y≠"__name__") (hdb:(y == ("__debug__":Str))=false) (hv:bootBuiltins "isinstance"=some (.builtin "isinstance")) (he:starEach [e,.Name y p'] X.env=(false,eval e X.env)::starEach [.Name y p'] X.env) (he':starEach [.Name y p'] X.env=(false,eval (.Name y p') X.env)::starEach [] X.env) (hpl:(backTo pos (starEach [.Name y p'] X.env)).any (·.1)=false) :
  PD X (.Call (.Name "isinstance" p) [e,.Name y p'] [] pos) (Afj U f):=by
 intro pins s σ H Q I h
 obtain⟨env,μ,m,z,S,E,h,q⟩:=h
 obtain⟨d,h1,h⟩:=bind_some h
 obtain⟨T,h2,h⟩:=bind_some h
 obtain⟨b,h3,h⟩:=bind_some h
 cases h
 have hA:PA X [e,.Name y p'] (Aed (tE X.K f) (Aed (tC (.ty U)) Alf)):=Lj ha (Lj (Ac0 hg' hm' hv' rfl hn hdb) Vm he') he
 refine Anb (D4 I hg hm hv ?_ (by decide) (by decide))
 refine PyProof.Rows.callWith_builtin1 (thn (hA pos pins s σ H (fun vs H1=>∃ v,vs=[v,.ty U]/\Same H H1/\Rep X.K H1 μ (·∈μ) d v) I ⟨env,μ,m,d,S,E,h1,fun v H1 s1 r1=>⟨v,rfl,s1,r1⟩⟩) fun us s1 ⟨vs,H1,I1,rv,v,e1,s1',rx⟩=>?_) he hpl
 subst e1
 obtain⟨u,w,rfl,r1,r2⟩:=Ah5 rv
 cases r2
 have S1:=S.same s1'
 have fin:∀ tk,EP X pins σ Q (.bool b) { s1 with toks:=tk }:=fun tk=>⟨.bl b,H1,I1.tok _,rfl,q _ H1 s1' (.bl b)⟩
 exact Aju I1 S1 rx r1 h2 h3 fin
noncomputable def J1:List D->Option (List Bool)
 |[]=>some []
 |.bl b::ds=>(J1 ds).bind fun bs=>some (b::bs)
 |_=>none
def Ach:List D->MH->Option D:=fun xs m=>match xs with
 |[d]=>(sqL m d).bind fun ds=>(J1 ds).bind fun bs=>some (.bl (bs.all (fun b=>b)))
 |_=>none
theorem Ip {K:W.Frag}{H:Hp}{μ:List Addr}{B:Addr->Prop}:∀ {ds:List D}{bs:List Bool}{vs:List V}{us:List Value},Reps K H μ B ds vs->J1 ds=some bs->Vals vs us->us=bs.map Value.bool
 |_,_,_,_,.nil,h,.nil=>by cases h;rfl
 |_,_,_,_,.cons r rs,h,.cons q qs=>by
  cases r<;>first|(cases h;done)|skip
  obtain⟨bs',h1,h2⟩:=bind_some h
  cases h2
  cases q
  rw[Ip rs h1 qs]
  rfl
theorem T8 {bs:List Bool}:(List.range bs.length).all (fun i=>bs.getD i false)=bs.all (fun b=>b):=by
 induction bs with
 |nil=>rfl
 |cons b bs ih =>
  rw[Amh,List.range_succ_eq_map,Amw,List.all_map,Amw,<- ih]
  rfl
theorem Lw {bs:List Bool}:TruthOf prog w A (fun i v=>(bs.map Value.bool).toArray[i]?=some v) fun i=>bs.getD i false:=by
 intro i v s Q E h q
 have h':(bs.map Value.bool)[i]?=some v:=by simpa using h
 rw[Amo] at h'
 cases e:bs[i]? with
 |none=>rw[e] at h';cases h'
 |some b =>
  rw[e] at h'
  cases h'
  have q':Q (bs.getD i false) s:=q
  rw[Aoh,e] at q'
  exact Aob q'
theorem Ae5 (hc:X.calm=true):Ly X (.builtin "all") Ach:=by
 intro pins s σ H μ m xs z vs us Q I S rx rv e q
 match xs,e with
 |[d],e =>
  obtain⟨ds,h1,h2⟩:=bind_some e
  obtain⟨bs,hbs,h3⟩:=bind_some h2
  cases h3
  obtain⟨v,rfl,r⟩:=rx.one
  obtain⟨a,ys,rfl,hq,rs⟩:=Hq S r h1
  obtain⟨u,rfl,r1⟩:=Ij rv
  cases r1
  obtain⟨its,ri,pl,hz⟩:=I.list hq
  have e:=Ip rs hbs ri
  subst e
  refine call_all_walk (wpAny_pyIter_list pl.isList ?_)
  have hne:a≠s.heap.objs.size:=Ams (by obtain⟨o,n,e,_⟩:=pl;exact Al9 e)
  refine⟨_,_,_,_,_,_,fun i=>bs.getD i false,rfl,Walks.list (A:=X.A.in1) (I.ok.hd hc) _ a hne (bs.map Value.bool).toArray,⟨⟨_,Amp _ rfl,rfl,rfl⟩,?_⟩,Lw,fun h' tk hk=>?_⟩
  ·exact pl.isList.at fun o e=>Al5 _ e
  ·refine⟨.bl _,H,I.kept (h':=h') (t':=tk) fun b o e=>hk b o (fun z=>?_) (Al5 _ e),?_,q _ H (Same.refl H) (.bl _)⟩
   ·have z':b=s.heap.objs.size:=by simpa using z
    exact absurd (Al9 e) (by rw[z'];exact Am3 _)
   ·show Value.bool _=Value.bool _
    rw[<- T8]
    simp
def inO (m:MH) (x y:D):Option Bool:=match y with
 |.str z=>(match x with
  |.str w=>some (!(Builtin.Str.occurrences z w 0 z.length 1).isEmpty)
  |_=>none)
 |y=>(Cw m x).bind fun x'=>(Cw m y).bind fun y'=>(sq [] y').bind fun ds=>if dep x'<=50 then some (ds.any fun d=>deq d x') else none
def oIn:D->D->MH->Option D:=fun x y m=>(inO m x y).bind fun b=>some (.bl b)
def Dr:D->D->MH->Option D:=fun x y m=>(inO m x y).bind fun b=>some (.bl (!b))
mutual
theorem Afi {pins:List (Addr×Obj)}{σ:St}{H:Hp}{s:Shared}{A:Around}{d d':D}{v v':V}{u u':Value}{μ:List Addr}{B:Addr->Prop} (I:Inv X pins σ H s) (r:Rep X.K H μ B d v) (r':Rep X.K H μ B d' v') (n:B1 d=true) (n':B1 d'=true) (ru:RelV v u) (ru':RelV v' u') (hu:A.units+dep d' < cLine) :
  SeqAt.EqAt A s u u' (deq d d'):=by
 obtain⟨as,ra⟩:=C3 I r n ru
 obtain⟨bs,rb⟩:=C3 I r' n' ru'
 refine SeqAt.eqAt_reads _ _ _ _ _ _ _ _ ra rb (Dy r) (Dy r') ?_
 rw[G8,G8]
 lia
end
theorem Di:∀ {ds:List D}{d:D},Bn ds=true->d∈ds->B1 d=true
 |_::_,_,h,.head _=>(Bool.and_eq_true_iff.mp h).1
 |_::_,_,h,.tail _ q=>Di (Bool.and_eq_true_iff.mp h).2 q
theorem Rep.tl {pins:List (Addr×Obj)}{σ:St}{H:Hp}{s:Shared}{a:Addr}{xs ys:List V} (I:Inv X pins σ H s) (h:SqT X.K H a xs) (h':SqL X.K H a ys):False:=by
 obtain⟨its,_,p,_⟩:=I.tuple h
 obtain⟨its',_,p',_⟩:=I.list h'
 exact SeqAt.ne_of_list_tuple p'.isList p rfl
mutual
theorem V5 {H:Hp}{s:Shared} (I:Inv X pins σ H s) {d d':D}{v:V} (r:Rep X.K H μ B d v) (q:Rep X.K H μ B d' v) (n:B1 d=true) (n':B1 d'=true):pyD d=pyD d':=by
 cases r with
 |non=>cases q;rfl
 |bl _=>cases q;rfl
 |int _=>cases q;rfl
 |str _ _=>cases q;rfl
 |ref _=>exact B9 n
 |dic _ _ _ _=>exact B9 n
 |dks _ _ _ _=>exact B9 n
 |fn _=>exact B9 n
 |tup h r =>
  cases q with
  |tup h' r' =>
   cases I.tuple_inj h h'
   exact Anw PyData.tuple (Dj I r r' n n')
  |lst h' _ r'=>exact (Rep.tl I h (.inl h')).elim
  |kl h' r'=>exact (Rep.tl I h h'.sq).elim
  |_=>exact B9 n'
 |lst h _ r =>
  cases q with
  |tup h' r'=>exact (Rep.tl I h' (.inl h)).elim
  |lst h' _ r' =>
   cases I.list_inj (.inl h) (.inl h')
   exact Anw PyData.list (Dj I r r' n n')
  |kl h' r' =>
   cases I.list_inj (.inl h) h'.sq
   exact Anw PyData.list (Dj I r r' n n')
  |_=>exact B9 n'
 |kl h r =>
  cases q with
  |tup h' r'=>exact (Rep.tl I h' h.sq).elim
  |lst h' _ r' =>
   cases I.list_inj h.sq (.inl h')
   exact Anw PyData.list (Dj I r r' n n')
  |kl h' r' =>
   cases I.list_inj h.sq h'.sq
   exact Anw PyData.list (Dj I r r' n n')
  |_=>exact B9 n'
theorem Dj {H:Hp}{s:Shared} (I:Inv X pins σ H s) {d d':List D}{v:List V} (r:Reps X.K H μ B d v) (q:Reps X.K H μ B d' v) (n:Bn d=true) (n':Bn d'=true):Bx d=Bx d':=by
 cases r with
 |nil=>cases q;rfl
 |cons h r =>
  cases q with
  |cons h' r' =>
  have e:=Bool.and_eq_true_iff.mp n
  have e':=Bool.and_eq_true_iff.mp n'
  rw[Bx,Bx,V5 I h h' e.1 e'.1,Dj I r r' e.2 e'.2]
end
theorem Lf {pins:List (Addr×Obj)}{σ:St}{H:Hp}{s:Shared}{A:Around}{μ:List Addr}{B:Addr->Prop}{x:D}{vx:V}{ux:Value} (I:Inv X pins σ H s) (rx:Rep X.K H μ B x vx) (nx:B1 x=true) (rux:RelV vx ux) (hu:A.units+dep x < cLine)
  {ds:List D}{vs:List V}{us:List Value} (rs:Reps X.K H μ B ds vs) (ns:Bn ds=true) (rv:Vals vs us) :
  ∃ e:Value->Bool,(∀ y∈us,SeqAt.EqAt A s y ux (e y))/\us.any e=ds.any fun d=>deq d x:=by
 have key:∀ y,∃ b:Bool,∀ (i:Nat) (d:D),us[i]?=some y->ds[i]?=some d->b=deq d x:=fun y=>by
  by_cases h:∃ (i:Nat) (d:D),us[i]?=some y/\ds[i]?=some d
  ·obtain⟨i,d,h1,h2⟩:=h
   refine⟨deq d x,fun j d' h3 h4=>?_⟩
   obtain⟨v,e1,r1⟩:=rs.get h2
   obtain⟨v',e2,r2⟩:=rs.get h4
   obtain⟨u,e3,r3⟩:=rv.get e1
   obtain⟨u',e4,r4⟩:=rv.get e2
   rw[h1] at e3;cases e3
   rw[h3] at e4;cases e4
   cases r3.inj r4
   unfold deq
   rw[V5 I r1 r2 (Di ns (Amk h2)) (Di ns (Amk h4))]
  ·exact⟨false,fun i d h1 h2=>absurd ⟨i,d,h1,h2⟩ h⟩
 refine⟨fun y=>Classical.choose (key y),fun y hy=>?_,?_⟩
 ·obtain⟨i,hi⟩:=List.getElem?_of_mem hy
  have hil:i < ds.length:=by
   have:=(List.getElem?_eq_some_iff.mp hi).1
   rw[rs.length,rv.length];exact this
  obtain⟨v,e1,r1⟩:=rs.get (i:=i) (d:=ds[i]) (by simp[hil])
  obtain⟨u,e3,r3⟩:=rv.get e1
  rw[hi] at e3;cases e3
  have ec:=Classical.choose_spec (key y) i ds[i] hi (by simp[hil])
  show SeqAt.EqAt A s y ux (Classical.choose (key y))
  rw[ec]
  exact Afi I r1 rx (Di ns (Ann hil)) nx r3 rux hu
 ·have aux:∀ (f:Value->Bool) (ds:List D) (us:List Value),us.length=ds.length->(∀ (i:Nat) (y:Value) (d:D),us[i]?=some y->ds[i]?=some d->f y=deq d x)->us.any f=ds.any fun d=>deq d x:=fun f=>by
   intro ds
   induction ds with
   |nil=>intro us hl _;cases us with
    |nil=>rfl
    |cons _ _=>cases hl
   |cons d ds ih =>
    intro us hl h
    cases us with
    |nil=>cases hl
    |cons y us =>
     rw[An4,An4,h 0 y d rfl rfl,ih us (by simpa using hl) fun i y d h1 h2=>h (i+1) y d (by simpa using h1) (by simpa using h2)]
  exact aux _ ds us (by rw[rs.length,rv.length]) fun i y d h1 h2=>Classical.choose_spec (key y) i d h1 h2
theorem Uv {k:Nat} (hr:Room k X.A) {pins:List (Addr×Obj)}{s:Shared}{σ:St}{H:Hp}{μ:List Addr}{m:MH}{x y:D}{v u:V}{v' u':Value}{b:Bool}{R:Bool->Prop} (I:Inv X pins σ H s) (S:Sim X.K H μ m) (rx:Rep X.K H μ (·∈μ) x v) (ry:Rep X.K H μ (·∈μ) y u) (r1:RelV v v') (r2:RelV u u')
  (e:inO m x y=some b):(∃ z w t t',v'=.str w t/\u'=.str z t'/\b=!(Builtin.Str.occurrences z w 0 z.length 1).isEmpty) \/
   ∃ (p:Addr) (its:List Value) (e:Value->Bool),u'=.ref p/\(s.heap.IsList p its.toArray\/s.heap.IsTuple p its.toArray)/\(∀ y∈its,SeqAt.EqAt X.A.in1 s y v' (e y))/\its.any e=b:=by
 have seq:((Cw m x).bind fun x'=>(Cw m y).bind fun y'=>(sq [] y').bind fun ds=>if dep x'<=50 then some (ds.any fun d=>deq d x') else none)=some b ->
   ∃ (p:Addr) (its:List Value) (e:Value->Bool),u'=.ref p/\(s.heap.IsList p its.toArray\/s.heap.IsTuple p its.toArray)/\(∀ y∈its,SeqAt.EqAt X.A.in1 s y v' (e y))/\its.any e=b:=fun h=>by
  obtain⟨x',h1,h⟩:=bind_some h
  obtain⟨y',h2,h⟩:=bind_some h
  obtain⟨ds,h3,h⟩:=bind_some h
  split at h
  ·rename_i hd
   cases h
   obtain⟨a1,n1⟩:=C5 S rx h1
   obtain⟨a2,n2⟩:=C5 S ry h2
   have hu:=hr.units
   have hu':X.A.in1.units+dep x' < cLine:=by show X.A.units+1+dep x' < cLine;lia
   cases a2 with
   |@tup es a xs hq rs =>
    cases h3
    cases r2
    obtain⟨its,rv,p,_⟩:=I.tuple hq
    obtain⟨f,h4,h5⟩:=Lf I a1 n1 r1 hu' rs n2 rv
    exact⟨a,its,f,rfl,.inr p,h4,h5⟩
   |@lst es a xs hq _ rs =>
    cases h3
    cases r2
    obtain⟨its,rv,p,_⟩:=I.list (.inl hq)
    obtain⟨f,h4,h5⟩:=Lf I a1 n1 r1 hu' rs n2 rv
    exact⟨a,its,f,rfl,.inl p.isList,h4,h5⟩
   |@kl es a xs hq rs =>
    cases h3
    cases r2
    obtain⟨its,rv,p,_⟩:=I.list hq.sq
    obtain⟨f,h4,h5⟩:=Lf I a1 n1 r1 hu' rs n2 rv
    exact⟨a,its,f,rfl,.inl p.isList,h4,h5⟩
   |_=>cases h3
  ·cases h
 cases ry with
 |str z ok =>
  cases rx with
  |str w ok' =>
   cases e
   obtain⟨t,rfl⟩:=r1
   obtain⟨t',rfl⟩:=r2
   exact .inl ⟨z,w,t,t',rfl,rfl,rfl⟩
  |_=>cases e
 |non=>exact .inr (seq e)
 |bl _=>exact .inr (seq e)
 |int _=>exact .inr (seq e)
 |tup h1 h2=>exact .inr (seq e)
 |lst h1 h2 h3=>exact .inr (seq e)
 |kl h1 h2=>exact .inr (seq e)
 |dic _ _ _ _=>exact .inr (seq e)
 |dks _ _ _ _=>exact .inr (seq e)
 |fn _=>exact .inr (seq e)
 |ref h'=>exact .inr (seq e)
theorem Acn (hr:Room k X.A):OpM X (compareOp .In) oIn:=by
 intro pins s σ H μ m x y z v u v' u' Q I S rx ry r1 r2 e q
 obtain⟨b,h1,h2⟩:=bind_some e
 cases h2
 have fin:EP X pins σ Q (.bool b) s:=⟨.bl b,H,I,rfl,q _ H (Same.refl H) (.bl b)⟩
 rcases Uv (R:=fun _=>True) hr I S rx ry r1 r2 h1 with ⟨z,w,t,t',rfl,rfl,hb⟩|⟨p,its,f,rfl,hp,hf,hb⟩
 ·subst hb;exact in_str fin
 ·subst hb
  rcases hp with hp|hp
  ·exact SeqAt.in_listAt f hp (fun y hy=>hf y (by simpa using hy)) (by simpa using fin)
  ·exact SeqAt.in_tupleAt f hp (fun y hy=>hf y (by simpa using hy)) (by simpa using fin)
theorem Li (hr:Room k X.A):OpM X (compareOp .NotIn) Dr:=by
 intro pins s σ H μ m x y z v u v' u' Q I S rx ry r1 r2 e q
 obtain⟨b,h1,h2⟩:=bind_some e
 cases h2
 have fin:EP X pins σ Q (.bool (!b)) s:=⟨.bl (!b),H,I,rfl,q _ H (Same.refl H) (.bl (!b))⟩
 rcases Uv (R:=fun _=>True) hr I S rx ry r1 r2 h1 with ⟨z,w,t,t',rfl,rfl,hb⟩|⟨p,its,f,rfl,hp,hf,hb⟩
 ·subst hb;exact notIn_str fin
 ·subst hb
  rcases hp with hp|hp
  ·exact SeqAt.notIn_listAt f hp (fun y hy=>hf y (by simpa using hy)) (by simpa using fin)
  ·exact SeqAt.notIn_tupleAt f hp (fun y hy=>hf y (by simpa using hy)) (by simpa using fin)
end
open Classical in
noncomputable section
inductive Out where
 |nx (env:A2) (m:MH)|rt (d:D) (m:MH)|bk (env:A2) (m:MH)|ct (env:A2) (m:MH)
abbrev FS:=A2->MH->Option Out
def FinS (K:W.Frag) (H:Hp) (μ:List Addr) (o:Out) (Dn:Ends):Prop:=match o with
 |.nx env' m'=>∀ σ' H' μ',Step H μ H' μ'->Sim K H' μ' m'->EnvRep K H' μ' σ' env'->Dn.nx σ' H'
 |.bk env' m'=>∀ σ' H' μ',Step H μ H' μ'->Sim K H' μ' m'->EnvRep K H' μ' σ' env'->Dn.bk σ' H'
 |.ct env' m'=>∀ σ' H' μ',Step H μ H' μ'->Sim K H' μ' m'->EnvRep K H' μ' σ' env'->Dn.ct σ' H'
 |.rt d m'=>∀ v H' μ',Step H μ H' μ'->Sim K H' μ' m'->Rep K H' μ' (·∈μ') d v->Dn.rt v H'
inductive tS (K:W.Frag) (g:FS) (Dn:Ends) (σ:St) (H:Hp):Prop
 |mk (env:A2) (μ:List Addr) (m:MH) (o:Out) (S:Sim K H μ m) (E:EnvRep K H μ σ env) (h:g env m=some o) (q:FinS K H μ o Dn)
abbrev PSD (X:Cx) (st:Stmt) (g:FS):Prop:=PS X st (tS X.K g)
abbrev Xg (X:Cx) (st:List Stmt) (g:FS):Prop:=PSs X st (tS X.K g)
theorem PS.imp {t t':TS} (h:PS X e t) (i:∀ D σ H,t' D σ H->t D σ H):PS X e t':=fun pins s σ H D I q=>h pins s σ H D I (i D σ H q)
theorem PSs.imp {t t':TS} (h:PSs X e t) (i:∀ D σ H,t' D σ H->t D σ H):PSs X e t':=fun pins s σ H D I q=>h pins s σ H D I (i D σ H q)
theorem PG.imp {t t':TG} (h:PG X e t) (i:∀ v σ H Q,t' v σ H Q->t v σ H Q):PG X e t':=fun pins s σ H v u Q I r q=>h pins s σ H v u Q I r (i v σ H Q q)
theorem FinS.step {K:W.Frag}{H H1:Hp}{μ μ1:List Addr}{m m1:MH}{o:Out}{Dn:Ends} (S:Sim K H μ m) (S1:Sim K H1 μ1 m1) (s:Step H μ H1 μ1) (f:FinS K H μ o Dn):FinS K H1 μ1 o Dn:=by
 have hn:=s.none S S1
 cases o with
 |nx e m'=>exact fun σ' H' μ' s' S' E'=>f σ' H' μ' (s.trans s' hn) S' E'
 |bk e m'=>exact fun σ' H' μ' s' S' E'=>f σ' H' μ' (s.trans s' hn) S' E'
 |ct e m'=>exact fun σ' H' μ' s' S' E'=>f σ' H' μ' (s.trans s' hn) S' E'
 |rt e m'=>exact fun σ' H' μ' s' S' E'=>f σ' H' μ' (s.trans s' hn) S' E'
section
variable {X:Cx}{a b c e:Expr}{es:List Expr}{pos p p':Pos}{x:Str}{st:Stmt}{rest:List Stmt}
noncomputable def Ec:FS:=fun env m=>some (.nx env m)
noncomputable def Br (f g:FS):FS:=fun env m=>(f env m).bind fun o=>match o with
 |.nx env' m'=>g env' m'
 |o=>some o
theorem Adi:Xg X [] Ec:=PSs.imp Adl fun D σ H ⟨env,μ,m,o,S,E,h,f⟩=>by
 cases h
 exact f σ H μ Step.refl S E
theorem tS.seq {K:W.Frag}{f g:FS}{Dn:Ends}{σ:St}{H:Hp} (h:tS K (Br f g) Dn σ H):Alh (tS K f) (tS K g) Dn σ H:=by
 obtain⟨env,μ,m,o,S,E,h,q⟩:=h
 obtain⟨o1,h1,h2⟩:=bind_some h
 refine⟨env,μ,m,o1,S,E,h1,?_⟩
 cases o1 with
 |nx env' m'=>exact fun σ' H' μ' s' S' E'=>⟨env',μ',m',o,S',E',h2,q.step S S' s'⟩
 |rt d m'=>cases h2;exact q
 |bk d m'=>cases h2;exact q
 |ct d m'=>cases h2;exact q
theorem Zu (h1:PSD X st f) (h2:Xg X rest g):Xg X (st::rest) (Br f g):=PSs.imp (Zx h1 h2) fun _ _ _ h=>h.seq
theorem Adj (h1:PSD X st f):Xg X [st] f:=Adm h1
noncomputable def Cv (f:FE):FS:=fun env m=>(f env m).bind fun d=>some (.rt d m)
theorem Adk (he:PD X e f):PSD X (.Return (some e) pos) (Cv f):=PS.imp (Aa0 he) fun D σ H ⟨env,μ,m,o,S,E,h,q⟩=>by
 obtain⟨d,h1,h2⟩:=bind_some h
 cases h2
 exact⟨env,μ,m,d,S,E,h1,fun v H' s r=>q v H' μ (Step.of_same s) (S.same s) r⟩
theorem Sim.push {K:W.Frag}{H H':Hp}{μ:List Addr}{m:MH}{a:Addr}{ds:List D}{xs:List V} (S:Sim K H μ m) (s:Same H H') (hn:H a=none) (ha:H' a=some (.lst xs)) (r:Reps K H' μ (nw μ a) ds xs) :
  Step H μ H' (μ++[a])/\Sim K H' (μ++[a]) (m++[.lst ds]):=by
 have st:Step H μ H' (μ++[a]):=⟨⟨[a],rfl,fun b hb=>by rw[show b=a by simpa using hb];exact hn⟩,fun b o e _=>s b o e⟩
 have na:a∉μ:=S.nnone hn
 refine⟨st,?_,?_,fun n b o h1 h2=>?_⟩
 ·rw[List.nodup_append]
  exact⟨S.nd,by simp,fun b hb c hc z=>na (by rw[<- show c=a by simpa using hc,<- z];exact hb)⟩
 ·simp[S.len]
 ·by_cases hl:n < μ.length
  ·rw[Amm hl] at h1
   rw[Amm (by rw[<- S.len];exact hl)] at h2
   have q:=S.obj n b o h1 h2
   cases o with
   |lst es=>obtain⟨ys,q1,q2⟩:=q;exact⟨ys,s _ _ q1,q2.step S st⟩
   |dcs ks vs=>obtain⟨ys,q1,q2,q3⟩:=q;exact⟨ys,s _ _ q1,q2,q3.step S st⟩
   |dct ks vs=>obtain⟨ys,q1,q2,q3⟩:=q;exact⟨ys,s _ _ q1,q2,q3.step S st⟩
  ·have e:n=μ.length:=by
    have:=(List.getElem?_eq_some_iff.mp h1).1
    rw[Amn,Am0] at this
    lia
   subst e
   rw[Amt (Al7 _)] at h1
   rw[S.len,Amt (Al7 _)] at h2
   simp at h1 h2
   subst h1
   subst h2
   refine⟨xs,ha,r.up (fun _ _ _ h=>h) (fun c u _ h b=>⟨h,fun z=>b ?_⟩) fun _ _ h=>st.ix h⟩
   rcases List.mem_append.mp z with z|z
   ·exact .inl z
   ·exact .inr (by simpa using z)
noncomputable def Oc (f:FL):FS:=fun env m=>(f env m).bind fun ds=>some (.rt (.ref m.length) (m++[.lst ds]))
theorem V4 {K:W.Frag}{H:Hp}{μ:List Addr}{B:Addr->Prop}{m:MH}{a:Addr} (hl:μ.length=m.length):Rep K H (μ++[a]) B (.ref m.length) (.ref a):=.ref (by rw[<- hl];simp)
theorem Zv {f:FL} (he:PF X e f):PSD X (.Return (some e) pos) (Oc f):=PS.imp (Aa0 he) fun D σ H ⟨env,μ,m,o,S,E,h,q⟩=>by
 obtain⟨ds,h1,h2⟩:=bind_some h
 cases h2
 refine⟨env,μ,m,ds,S,E,h1,fun a xs H' s hn ha r=>?_⟩
 obtain⟨st,S'⟩:=S.push s hn ha r
 exact q _ H' _ st S' (V4 S.len)
noncomputable def sIf (t:FB) (f g:FS):FS:=fun env m=>(t env m).bind fun c=>if c=true then f env m else g env m
theorem Ag7 {t:FB} (hc:PB X c t) (ha:Xg X sa f) (hb:Xg X sb g):PSD X (.If c sa sb pos) (sIf t f g):=PS.imp (Aki hc ha hb) fun D σ H ⟨env,μ,m,o,S,E,h,q⟩=>by
 obtain⟨b,h1,h2⟩:=bind_some h
 refine⟨env,μ,m,b,S,E,h1,fun H1 s1=>?_⟩
 have st:=Step.of_same (μ:=μ) s1
 cases b with
 |true =>
  rw[Amf rfl] at h2
  exact Ak3 ⟨env,μ,m,o,S.same s1,E.same s1,h2,q.step S (S.same s1) st⟩
 |false =>
  rw[Aml Am1] at h2
  exact Ak2 ⟨env,μ,m,o,S.same s1,E.same s1,h2,q.step S (S.same s1) st⟩
abbrev FG:=D->A2->Option A2
inductive tG (K:W.Frag) (g:FG) (v:V) (σ:St) (H:Hp) (Q:St->Hp->Prop):Prop
 |mk (env:A2) (μ:List Addr) (m:MH) (d:D) (env':A2) (S:Sim K H μ m) (E:EnvRep K H μ σ env) (r:Rep K H μ (·∈μ) d v) (h:g d env=some env') (q:∀ σ',EnvRep K H μ σ' env'->Q σ' H)
inductive tGs (K:W.Frag) (g:List D->A2->Option A2) (vs:List V) (σ:St) (H:Hp) (Q:St->Hp->Prop):Prop
 |mk (env:A2) (μ:List Addr) (m:MH) (ds:List D) (env':A2) (S:Sim K H μ m) (E:EnvRep K H μ σ env) (r:Reps K H μ (·∈μ) ds vs) (h:g ds env=some env') (q:∀ σ',EnvRep K H μ σ' env'->Q σ' H)
abbrev PGD (X:Cx) (e:Expr) (g:FG):Prop:=PG X e (tG X.K g)
abbrev Aer (X:Cx) (es:List Expr) (g:List D->A2->Option A2):Prop:=PGs X es (tGs X.K g)
theorem PGs.imp {X:Cx}{e:List Expr}{t t':TGs} (h:PGs X e t) (i:∀ v σ H Q,t' v σ H Q->t v σ H Q):PGs X e t':=fun pins s σ H v u Q I r q=>h pins s σ H v u Q I r (i v σ H Q q)
noncomputable def Bb (i:Nat):FG:=fun d env=>some (env.set i (some d))
theorem Rf (hN:X.N.Nodup) (hi:X.N[i]?=some x) (hx:Loc X.env.scope x) (hf:X.fn x=true\/X.env.scope.names.lookup x=some .local):PGD X (.Name x pos) (Bb i):=PG.imp (Ac6 hN hi hx hf) fun v σ H Q ⟨env,μ,m,d,env',S,E,r,h,q⟩=>by
 cases h
 exact q _ (E.set i r)
noncomputable def Ae8:List D->A2->Option A2:=fun ds env=>match ds with|[]=>some env|_=>none
noncomputable def J5 (g:FG) (h:List D->A2->Option A2):List D->A2->Option A2:=fun ds env=>match ds with
 |d::ds=>(g d env).bind fun env'=>h ds env'
 |[]=>none
theorem Zq:Aer X [] Ae8:=PGs.imp Ac8 fun v σ H Q ⟨env,μ,m,ds,env',S,E,r,h,q⟩=>by
 cases r with
 |nil=>cases h;exact⟨rfl,q _ E⟩
 |cons _ _=>exact Ae h
theorem Vo {g:FG}{h:List D->A2->Option A2} (h1:PGD X e g) (h2:Aer X es h) (hs:(assignEach (e::es) X.env).map (·.2)=assign e X.env::(assignEach es X.env).map (·.2)):Aer X (e::es) (J5 g h) :=
 PGs.imp (Zp h1 h2 hs) fun v σ H Q ⟨env,μ,m,ds,env',S,E,r,h,q⟩=>by
  cases r with
  |nil=>exact Ae h
  |cons r rs =>
   obtain⟨env1,h1,h2⟩:=bind_some h
   exact⟨_,_,rfl,env,μ,m,_,env1,S,E,r,h1,fun σ' E'=>⟨env1,μ,m,_,env',S,E',rs,h2,q⟩⟩
noncomputable def Abp (n:Nat) (g:List D->A2->Option A2):FG:=fun d env=>match d with
 |.tup ds=>if ds.length=n then g ds env else none
 |_=>none
theorem Ac7 (hc:X.calm=true) (h:Aer X es g) (hn:(assignEach es X.env).length=n) (hst:(assignEach es X.env).findIdx? (·.1)=none):PGD X (.Tuple es k pos) (Abp n g) :=
 PG.imp (Ag3 hc h hn hst) fun v σ H Q ⟨env,μ,m,d,env',S,E,r,h,q⟩=>by
  cases r with
  |@tup ds a xs hq rs =>
   unfold Abp at h
   simp only at h
   split at h
   ·rename_i hl
    exact⟨a,xs,rfl,hq,by rw[<- rs.length];exact hl,env,μ,m,ds,env',S,E,rs,h,q⟩
   ·exact Ae h
  |_=>exact Ae h
noncomputable def B0 (i:Nat) (f:FE):FS:=fun env m=>(f env m).bind fun d=>some (.nx (env.set i (some d)) m)
theorem Vs (hN:X.N.Nodup) (hi:X.N[i]?=some x) (hx:Loc X.env.scope x) (he:PD X e f) (hs:swapsWith e (some (.Name x p')) pos.line X.env=pure false) (hf:X.fn x=true\/X.env.scope.names.lookup x=some .local) :
  PSD X (.Assign [.Name x p'] e pos) (B0 i f):=PS.imp (Aa1 hN hi hx he hs hf) fun D σ H ⟨env,μ,m,o,S,E,h,q⟩=>by
 obtain⟨d,h1,h2⟩:=bind_some h
 cases h2
 exact⟨env,μ,m,d,S,E,h1,fun v H' s r=>q _ H' μ (Step.of_same s) (S.same s) ((E.same s).set i r)⟩
noncomputable def Tv (i:Nat) (f:FL):FS:=fun env m=>(f env m).bind fun ds=>some (.nx (env.set i (some (.ref m.length))) (m++[.lst ds]))
theorem Adh {i:Nat}{f:FL} (hN:X.N.Nodup) (hi:X.N[i]?=some x) (hx:Loc X.env.scope x) (he:PF X e f) (hs:swapsWith e (some (.Name x p')) pos.line X.env=pure false) (hf:X.fn x=true\/X.env.scope.names.lookup x=some .local) :
  PSD X (.Assign [.Name x p'] e pos) (Tv i f):=PS.imp (Aa1 hN hi hx he hs hf) fun D σ H ⟨env,μ,m,o,S,E,h,q⟩=>by
 obtain⟨ds,h1,h2⟩:=bind_some h
 cases h2
 refine⟨env,μ,m,ds,S,E,h1,fun a xs H' s hn ha r=>?_⟩
 obtain⟨st,S'⟩:=S.push s hn ha r
 exact q _ H' _ st S' ((E.step S st).set i (V4 S.len))
noncomputable def Aep (f:FE) (g:FG):FS:=fun env m=>(f env m).bind fun d=>(g d env).bind fun env'=>some (.nx env' m)
theorem Ade (he:PD X e f) (hg:PGD X tg g) (hs:swapsWithSole [tg] e pos.line X.env=pure false) (hw:swappedStores [tg] e X.env=pure none) (h1:(assignEach [tg] X.env).map (·.2)=[assign tg X.env]) :
  PSD X (.Assign [tg] e pos) (Aep f g):=PS.imp (Ag5 he hg hs hw h1) fun D σ H ⟨env,μ,m,o,S,E,h,q⟩=>by
 obtain⟨d,h1,h2⟩:=bind_some h
 obtain⟨env',hg',h3⟩:=bind_some h2
 cases h3
 exact⟨env,μ,m,d,S,E,h1,fun v H' s r=>⟨env,μ,m,d,env',S.same s,E.same s,r,hg',fun σ' E'=>q σ' H' μ (Step.of_same s) (S.same s) E'⟩⟩
end
end
open Classical
noncomputable section
section
variable {X:Cx}{a b c e:Expr}{es:List Expr}{pos p p':Pos}{x:Str}{st:Stmt}{rest:List Stmt}
noncomputable def Ia (chk:MH->Prop) (g:FG) (b:FS):List D->A2->MH->Option Out
 |[],env,m=>if chk m then some (.nx env m) else none
 |d::ds,env,m=>if chk m then (g d env).bind fun env1=>(b env1 m).bind fun o=>match o with
   |.nx env2 m2=>Ia chk g b ds env2 m2
   |.ct env2 m2=>Ia chk g b ds env2 m2
   |.bk env2 m2=>some (.nx env2 m2)
   |.rt d m2=>some (.rt d m2)
  else none
structure Src (K:W.Frag) (J:It) (all:List D) (chk:MH->Prop) (src:Hp->List Addr->MH->Prop):Prop where
 go:∀ H μ m (i:Nat) d,Sim K H μ m->src H μ m->chk m->all[i]?=some d->J.go i H/\∀ x H',J.yld i H x H'->Same H H'/\Rep K H' μ (·∈μ) d x
 stop:∀ H μ m,Sim K H μ m->src H μ m->chk m->J.stop all.length H
 keep:∀ H μ m H' μ' m',src H μ m->Sim K H μ m->Step H μ H' μ'->Sim K H' μ' m'->src H' μ' m'
theorem Yx {K:W.Frag}{J:It}{all:List D}{chk:MH->Prop}{src:Hp->List Addr->MH->Prop} (hs:Src K J all chk src) {g:FG}{b:FS}{Dn:Ends}{σ:St}{H:Hp}{env:A2}{μ:List Addr}{m:MH}{o:Out}
  (S:Sim K H μ m) (E:EnvRep K H μ σ env) (h0:src H μ m) (h:Ia chk g b all env m=some o) (f:FinS K H μ o Dn) :
  ∃ W:Nat->Nat->St->Hp->Prop,(∃ m,W 0 m σ H)/\∀ i m σ H,W i m σ H ->
   (J.stop i H/\Dn.nx σ H)\/(J.go i H/\∃ N:St->Hp->Prop,(∀ σ' H',N σ' H'->∃ m',m' < m/\W (i+1) m' σ' H')/\∀ x H',J.yld i H x H'->tG K g x σ H' fun σ2 H2=>tS K b { Dn with nx:=N,ct:=N,bk:=Dn.nx } σ2 H2):=by
 refine⟨fun i k σ H=>k=all.length - i/\i<=all.length/\∃ env μ m,Sim K H μ m/\EnvRep K H μ σ env/\src H μ m/\Ia chk g b (all.drop i) env m=some o/\FinS K H μ o Dn,⟨all.length,by simp,Amz _,env,μ,m,S,E,h0,by simpa using h,f⟩,?_⟩
 rintro i k σ1 H1 ⟨rfl,hi,env1,μ1,m1,S1,E1,h1,e1,f1⟩
 by_cases hlt:i < all.length
 ·have hd:all.drop i=all[i]::all.drop (i+1):=Aos hlt
  rw[hd] at e1
  unfold Ia at e1
  split at e1
  ·rename_i hc
   obtain⟨env2,e2,e1⟩:=bind_some e1
   obtain⟨o2,e3,e4⟩:=bind_some e1
   obtain⟨go,yl⟩:=hs.go H1 μ1 m1 i all[i] S1 h1 hc (by simp[hlt])
   refine .inr ⟨go,fun σ' H'=>all.length - (i+1) < all.length - i/\i+1<=all.length/\∃ env μ m,Sim K H' μ m/\EnvRep K H' μ σ' env/\src H' μ m/\Ia chk g b (all.drop (i+1)) env m=some o/\FinS K H' μ o Dn,fun σ' H' ⟨l1,l2,q⟩=>⟨_,l1,rfl,l2,q⟩,fun x H2 y=>?_⟩
   obtain⟨s2,r2⟩:=yl x H2 y
   have S2:=S1.same s2
   refine⟨env1,μ1,m1,all[i],env2,S2,E1.same s2,r2,e2,fun σ' E'=>⟨env2,μ1,m1,o2,S2,E',e3,?_⟩⟩
   have f2:=f1.step S1 S2 (Step.of_same s2)
   have h2:=hs.keep H1 μ1 m1 H2 μ1 m1 h1 S1 (Step.of_same s2) S2
   cases o2 with
   |nx env3 m3=>exact fun σ3 H3 μ3 st3 S3 E3=>⟨by lia,hlt,env3,μ3,m3,S3,E3,hs.keep _ _ _ _ _ _ h2 S2 st3 S3,e4,f2.step S2 S3 st3⟩
   |ct env3 m3=>exact fun σ3 H3 μ3 st3 S3 E3=>⟨by lia,hlt,env3,μ3,m3,S3,E3,hs.keep _ _ _ _ _ _ h2 S2 st3 S3,e4,f2.step S2 S3 st3⟩
   |bk env3 m3=>cases e4;exact f2
   |rt d m3=>cases e4;exact f2
  ·cases e1
 ·have e:i=all.length:=by lia
  subst e
  rw[List.drop_length] at e1
  unfold Ia at e1
  split at e1
  ·rename_i hc
   cases e1
   exact .inl ⟨hs.stop H1 μ1 m1 S1 h1 hc,f1 σ1 H1 μ1 Step.refl S1 E1⟩
  ·exact Ae e1
structure Wk where
 all:List D
 chk:MH->Prop
abbrev FW:=A2->MH->Option Wk
inductive tW (K:W.Frag) (f:FW) (σ:St) (H:Hp) (R:It->Hp->Prop):Prop
 |mk (env:A2) (μ:List Addr) (m:MH) (w:Wk) (S:Sim K H μ m) (E:EnvRep K H μ σ env) (h:f env m=some w) (q:∀ H' J src,Same H H'->Src K J w.all w.chk src->src H' μ m->R J H')
abbrev PW' (X:Cx) (tg e:Expr) (f:FW):Prop:=PI X tg e (tW X.K f)
def Xj (f:FW) (g:FG) (b:FS):FS:=fun env m=>(f env m).bind fun w=>Ia w.chk g b w.all env m
theorem PI.imp {t t':TI} (h:PI X tg e t) (i:∀ σ H Q,t' σ H Q->t σ H Q):PI X tg e t':=fun pins s σ H Q I q=>h pins s σ H Q I (i σ H Q q)
theorem Adf {tg iter:Expr}{body:List Stmt}{f:FW}{g:FG}{b:FS} (hp:PassesOwn (model X.prog X.w) X.A X.env X.xe) (hc:X.calm=true) (hi:PW' X tg iter f) (hg:PGD X tg g) (hb:Xg X body b)
  (hs:∀ x,foldedSetIterable iter X.env x=pure x):PSD X (.For tg iter body [] pos) (Xj f g b):=PS.imp (Ag6 hp hc hi hg hb hs) fun D σ H ⟨env,μ,m,o,S,E,h,q⟩=>by
 obtain⟨w,h1,h2⟩:=bind_some h
 exact⟨env,μ,m,w,S,E,h1,fun H' J src s hsrc h0=>Yx hsrc (S.same s) (E.same s) h0 h2 (q.step S (S.same s) (Step.of_same s))⟩
def Bv:MH->Prop:=fun _=>True
theorem Aea {K:W.Frag}{a:Addr}{ds:List D}:Src K (Itt K a) ds Bv (fun H μ m=>Rep K H μ (·∈μ) (.tup ds) (.ref a)) where
 go:=fun H μ m i d S h _ e=>by
  cases h with
  |tup hq rs =>
   obtain⟨v,e1,r⟩:=rs.get e
   exact⟨⟨_,v,hq,e1⟩,fun x H' ⟨h1,h2⟩=>by subst h1;rw[h2 _ hq] at e1;cases e1;exact⟨Same.refl _,r⟩⟩
 stop:=fun H μ m S h _=>by
  cases h with
  |tup hq rs=>exact⟨_,hq,by rw[rs.length];exact Al7 _⟩
 keep:=fun H μ m H' μ' m' h S st S'=>h.step S st
theorem Ad7 {K:W.Frag}{a:Addr}{ds:List D}:Src K (Itl K a) ds Bv (fun H μ m=>Rep K H μ (·∈μ) (.lst ds) (.ref a)) where
 go:=fun H μ m i d S h _ e=>by
  cases h with
  |lst hq _ rs =>
   obtain⟨v,e1,r⟩:=rs.get e
   exact⟨⟨_,v,.inl hq,e1⟩,fun x H' ⟨h1,h2⟩=>by subst h1;rw[h2 _ (.inl hq)] at e1;cases e1;exact⟨Same.refl _,r⟩⟩
 stop:=fun H μ m S h _=>by
  cases h with
  |lst hq _ rs=>exact⟨_,.inl hq,by rw[rs.length];exact Al7 _⟩
 keep:=fun H μ m H' μ' m' h S st S'=>h.step S st
theorem Aho {K:W.Frag}{a:Addr}{ds:List D}:Src K (Itl K a) ds Bv (fun H μ m=>Rep K H μ (·∈μ) (.kl ds) (.ref a)) where
 go:=fun H μ m i d S h _ e=>by
  cases h with
  |kl hq rs =>
   obtain⟨v,e1,r⟩:=rs.get e
   exact⟨⟨_,v,hq.sq,e1⟩,fun x H' ⟨h1,h2⟩=>by subst h1;rw[h2 _ hq.sq] at e1;cases e1;exact⟨Same.refl _,r⟩⟩
 stop:=fun H μ m S h _=>by
  cases h with
  |kl hq rs=>exact⟨_,hq.sq,by rw[rs.length];exact Al7 _⟩
 keep:=fun H μ m H' μ' m' h S st S'=>h.step S st
theorem Ad8 {K:W.Frag}{a:Addr}{ds:List D}{n:Nat}:Src K (Itl K a) ds (fun m=>m[n]?=some (.lst ds)) (fun H μ m=>μ[n]?=some a) where
 go:=fun H μ m i d S h hc e=>by
  obtain⟨xs,e1,rs⟩:=S.obj n a _ h hc
  obtain⟨v,e2,r⟩:=rs.get e
  exact⟨⟨_,v,SqL.of e1,e2⟩,fun x H' ⟨h1,h2⟩=>by subst h1;rw[h2 _ (SqL.of e1)] at e2;cases e2;exact⟨Same.refl _,r⟩⟩
 stop:=fun H μ m S h hc=>by
  obtain⟨xs,e1,rs⟩:=S.obj n a _ h hc
  exact⟨_,SqL.of e1,by rw[rs.length];exact Al7 _⟩
 keep:=fun H μ m H' μ' m' h S st S'=>st.ix h
noncomputable def Df (lo:Int) (n:Nat):List D:=(List.range n).map fun (i:Nat)=>.int (lo+i)
theorem V9 {K:W.Frag}{lo:Int}{n:Nat}:Src K (Itr lo n) (Df lo n) Bv (fun _ _ _=>True) where
 go:=fun H μ m i d S h _ e=>by
  unfold Df at e
  rw[Amo] at e
  cases q:(List.range n)[i]? with
  |none=>rw[q] at e;cases e
  |some j =>
   rw[q] at e
   cases e
   have hi:=(List.getElem?_eq_some_iff.mp q).1
   rw[List.length_range] at hi
   rw[List.getElem?_range hi] at q
   cases q
   exact⟨hi,fun x H' ⟨h1,h2⟩=>by subst h1;subst h2;exact⟨Same.refl _,.int _⟩⟩
 stop:=fun H μ m S h _=>by show n<=(Df lo n).length;unfold Df;simp
 keep:=fun H μ m H' μ' m' h S st S'=>trivial
def Hx (g:FL):FW:=fun env m=>(g env m).bind fun ds=>match ds with
 |[.int j]=>if -(2 ^ 62)<=j/\j < 2 ^ 62 then some ⟨Df 0 j.toNat,Bv⟩ else none
 |_=>none
theorem Vt (hg:Gl X "range") (hm:X.mg "range"=none) (ha:PL X [a] g) (hs:starEach [a] X.env=[(false,eval a X.env)]):PW' X tg (.Call (.Name "range" p) [a] [] pos) (Hx g):=PI.imp (Vp hg hm ha hs) fun σ H R ⟨env,μ,m,w,S,E,h,q⟩=>by
 obtain⟨ds,h1,h2⟩:=bind_some h
 refine⟨env,μ,m,ds,S,E,h1,fun vs H' s rs=>?_⟩
 obtain⟨j,rfl⟩:∃ j,ds=[.int j]:=by
  cases ds with
  |nil=>cases h2
  |cons d ds =>
   cases ds with
   |cons _ _=>cases d<;>cases h2
   |nil =>
    cases d with
    |int j=>exact⟨j,rfl⟩
    |_=>cases h2
 simp only at h2
 split at h2
 ·rename_i hc
  cases h2
  obtain⟨v,rfl,r⟩:=rs.one
  cases r
  exact⟨j,rfl,hc.1,hc.2,q H' _ _ s V9 trivial⟩
 ·exact Ae h2
end
mutual
/-- without lists -/
def Bg:D->Bool
 |.lst _=>false
 |.kl _=>false
 |.ref _=>false
 |.dic _ _=>false
 |.dks _ _=>false
 |.fn _ _=>false
 |.tup ds=>A0 ds
 |_=>true
def A0:List D->Bool
 |[]=>true
 |d::ds=>Bg d&&A0 ds
end
noncomputable def xp1 (m:MH):D->Option D
 |.ref n=>match m[n]? with
  |some (.lst ds)=>if A0 ds=true then some (.lst ds) else none
  |_=>none
 |_=>none
def xpL (m:MH):List D->Option (List D)
 |[]=>some []
 |d::ds=>(xp1 m d).bind fun e=>(xpL m ds).bind fun es=>some (e::es)
mutual
/-- what is handed back: the mirror's own lists,as they stand -/
def Bm (m:MH):D->Option D
 |.ref n=>match m[n]? with
  |some (.lst ds)=>if A0 ds=true then some (.lst ds) else (xpL m ds).bind fun es=>some (.lst es)
  |some (.dct ks vs)=>if A0 vs=true then some (.dic ks vs) else none
  |some (.dcs ks vs)=>if A0 vs=true then some (.dks ks vs) else none
  |_=>none
 |.lst _=>none
 |.kl _=>none
 |.dic _ _=>none
 |.dks _ _=>none
 |.fn _ _=>none
 |.tup ds=>(Hz m ds).bind fun es=>some (.tup es)
 |.non=>some .non
 |.bl b=>some (.bl b)
 |.int i=>some (.int i)
 |.str x=>some (.str x)
def Hz (m:MH):List D->Option (List D)
 |[]=>some []
 |d::ds=>(Bm m d).bind fun e=>(Hz m ds).bind fun es=>some (e::es)
end
section
variable {K:W.Frag}{H H':Hp}{μ μ':List Addr}{B B':Addr->Prop}{m:MH}
mutual
theorem Rep.nolst {d:D}{v:V} (r:Rep K H μ B d v) (e:Bg d=true):Rep K H μ' B' d v:=by
 cases r with
 |non=>exact .non
 |bl b=>exact .bl b
 |int b=>exact .int b
 |str b h=>exact .str b h
 |tup h r=>exact .tup h (Reps.nolst r e)
 |_=>exact B9 e
theorem Reps.nolst {ds:List D}{vs:List V} (r:Reps K H μ B ds vs) (e:A0 ds=true):Reps K H μ' B' ds vs:=by
 cases r with
 |nil=>exact .nil
 |cons h r =>
  have e':=(Bool.and_eq_true_iff.mp e)
  exact .cons (Rep.nolst h e'.1) (Reps.nolst r e'.2)
end
theorem Aeh (S:Sim K H μ m) (hn:∀ a∈μ,B a->False) {d d':D}{v:V} (r:Rep K H μ (·∈μ) d v) (h:xp1 m d=some d'):Rep K H [] B d' v:=by
 cases r with
 |@ref n a e =>
  unfold xp1 at h
  cases q:m[n]? with
  |none=>simp[q] at h
  |some o =>
   simp only[q] at h
   cases o with
   |dcs _ _=>exact Ae h
   |dct _ _=>exact Ae h
   |lst ds =>
    simp only at h
    split at h
    ·rename_i hl
     cases h
     obtain⟨xs,e1,e2⟩:=S.obj n a _ e q
     exact .lst (.inl e1) (hn a (Amk e)) (e2.nolst hl)
    ·exact Ae h
 |_=>exact Ae h
theorem Aei (S:Sim K H μ m) (hn:∀ a∈μ,B a->False) {ds ds':List D}{vs:List V} (r:Reps K H μ (·∈μ) ds vs) (h:xpL m ds=some ds'):Reps K H [] B ds' vs:=by
 induction ds generalizing ds' vs with
 |nil=>cases r;cases h;exact .nil
 |cons d ds ih =>
  cases r with
  |cons r rs =>
  obtain⟨e,h1,h⟩:=bind_some h
  obtain⟨es,h2,h⟩:=bind_some h
  cases h
  exact .cons (Aeh S hn r h1) (ih rs h2)
mutual
theorem Hy (S:Sim K H μ m) (hn:∀ a∈μ,B a->False):∀ {d d':D}{v:V},Rep K H μ (·∈μ) d v->Bm m d=some d'->Rep K H [] B d' v
 |_,_,_,.non,h=>by cases h;exact .non
 |_,_,_,.bl b,h=>by cases h;exact .bl b
 |_,_,_,.int b,h=>by cases h;exact .int b
 |_,_,_,.str b ok,h=>by cases h;exact .str b ok
 |_,_,_,.tup hq r,h=>by
  rw[Bm] at h
  obtain⟨es,h1,h2⟩:=bind_some h
  cases h2
  exact .tup hq (Jh S hn r h1)
 |_,_,_,.lst _ _ _,h=>nomatch h
 |_,_,_,.kl _ _,h=>Ae h
 |_,_,_,.dic _ _ _ _,h=>Ae h
 |_,_,_,.fn _,h=>nomatch h
 |_,_,_,.dks _ _ _ _,h=>nomatch h
 |.ref n,_,_,.ref (a:=a) e,h=>by
  rw[Bm] at h
  cases q:m[n]? with
  |none=>simp[q] at h
  |some o =>
   simp only[q] at h
   cases o with
   |dct ks vs =>
    simp only at h
    split at h
    ·rename_i hl
     cases h
     obtain⟨xs,e1,e2,e3⟩:=S.obj n a _ e q
     exact .dic (.inl e1) (hn a (Amk e)) e2 (e3.nolst hl)
    ·cases h
   |dcs ks vs =>
    simp only at h
    split at h
    ·rename_i hl
     cases h
     obtain⟨xs,e1,e2,e3⟩:=S.obj n a _ e q
     exact .dks (.inl e1) (hn a (Amk e)) e2 (e3.nolst hl)
    ·cases h
   |lst ds =>
    simp only at h
    split at h
    ·rename_i hl
     cases h
     obtain⟨xs,e1,e2⟩:=S.obj n a _ e q
     exact .lst (.inl e1) (hn a (Amk e)) (e2.nolst hl)
    ·obtain⟨es,h1,h⟩:=bind_some h
     cases h
     obtain⟨xs,e1,e2⟩:=S.obj n a _ e q
     exact .lst (.inl e1) (hn a (Amk e)) (Aei S hn e2 h1)
theorem Jh (S:Sim K H μ m) (hn:∀ a∈μ,B a->False):∀ {ds ds':List D}{vs:List V},Reps K H μ (·∈μ) ds vs->Hz m ds=some ds'->Reps K H [] B ds' vs
 |_,_,_,.nil,h=>by cases h;exact .nil
 |_,_,_,.cons r rs,h=>by
  rw[Hz] at h
  obtain⟨d',h1,h⟩:=bind_some h
  obtain⟨ds',h2,h⟩:=bind_some h
  cases h
  exact .cons (Hy S hn r h1) (Jh S hn rs h2)
end
end
def old (H H':Hp):Addr->Prop:=fun a=>H a≠none\/∃ o u,H' a=some (.frz o u)
inductive spP (K:W.Frag) (n:Nat) (fn:List D->Option D) (vs:List V) (H:Hp) (Q:VK) (E:XK):Prop
 |mk (ds:List D) (d:D) (r:Reps K H [] (fun _=>False) ds vs) (l:ds.length=n) (h:fn ds=some d) (q:∀ v H',Same H H'->Rep K H' [] (old H H') d v->Q v H')
noncomputable def Ib (n:Nat) (g:FS):List D->Option D:=fun ds=>(g (ds.map some++List.replicate (n - ds.length) none) []).bind fun o=>match o with
 |.rt d m=>Bm m d
 |.nx _ _=>some .non
 |_=>none
theorem Es {K:W.Frag}{H:Hp}{N:List Str}{ds:List D}{vs:List V} (r:Reps K H [] (fun _=>False) ds vs):EnvRep K H [] (Hr N vs) (ds.map some++List.replicate (N.length - ds.length) none):=by
 refine⟨by unfold Hr;simp[r.length],fun i d e=>?_⟩
 by_cases hi:i < ds.length
 ·rw[Amm (by simpa using hi),Amo] at e
  cases q:ds[i]? with
  |none=>rw[q] at e;cases e
  |some d' =>
   rw[q] at e
   cases e
   obtain⟨v,h1,h2⟩:=r.get q
   refine⟨v,?_,h2.up (fun _ _ _ h=>h) (fun _ _ _ h _=>⟨h,by simp⟩) fun _ _ h=>h⟩
   unfold Hr
   rw[Amm (by simpa [r.length] using hi),Amo,h1]
   rfl
 ·rw[Amt (by simpa using hi),An2] at e
  split at e<;>cases e
theorem Abs {P:Program}{w:World}{K:W.Frag}{mg:Str->Option Value}{base:Heap}{x qual:Str}{st:Stmt}{f:Addr}{fd:FuncData}{N ps:List Str}{k:Nat}{g:FS} (F:Fun K x qual st f fd) (S:FnScope N ps (Ao st))
  (hbody:∀ (cdv:Value) (A:Around) (outer:List Env) (s:Shared) (H:Hp) (E:XK),Room k (A.deeper (envOfC qual (Ao st) s.heap.objs.size f cdv)) ->
   Xg (Ug CX0 P w K mg base N qual (Ao st) f cdv A outer s H E).nox (B5 st) g):FnOk P w K mg base CX0 (k+1) f fd ps (spP K ps.length (Ib N.length g)):=by
 refine F.ok S (fun vs H Q E h=>?_) (fun cdv A outer s H vs Q E hr h=>?_)
 ·obtain⟨ds,d,r,hl,_⟩:=h
  rw[<- r.length];exact hl
 ·obtain⟨ds,d,r,hl,h,q⟩:=h
  refine⟨_,hbody cdv A outer s H E hr,?_⟩
  obtain⟨o,h1,h2⟩:=bind_some h
  have S0:Sim K H [] []:=⟨List.nodup_nil,rfl,fun n a o h=>by simp at h⟩
  refine⟨_,[],[],o,S0,Es r,h1,?_⟩
  have fin:∀ {H':Hp}{μ':List Addr}{m':MH},Step H [] H' μ'->Sim K H' μ' m'->Same H H'/\∀ a∈μ',old H H' a->False:=fun {H' μ' m'} st S'=>by
   obtain⟨l,e,hl⟩:=st.pre
   refine⟨fun b o e=>st.keep b o e (by simp),fun a ha z=>?_⟩
   rcases z with hne|⟨o,u,z⟩
   ·rw[e] at ha
    exact hne (hl a (by simpa using ha))
   ·obtain⟨xs,e',l⟩:=S'.trk ha
    rw[e'] at z
    cases z
    exact l
  cases o with
  |rt d' m'=>exact fun v H' μ' st S' r'=>q v H' (fin st S').1 (Hy S' (fin st S').2 r' h2)
  |nx env m'=>cases h2;exact fun σ' H' μ' st S' E'=>q _ H' (fin st S').1 .non
  |bk _ _=>exact Ae h2
  |ct _ _=>exact Ae h2
section
variable {X:Cx}{a b c e:Expr}{es:List Expr}{pos p p':Pos}{x:Str}
def Ic (n:Nat) (fn:List D->Option D):List D->MH->Option D:=fun ds m=>(Cr m ds).bind fun ds'=>if ds'.length=n then fn ds' else none
theorem Rep.ofCall {K:W.Frag}{H H':Hp}{μ:List Addr}{m:MH}{d:D}{v:V} (S:Sim K H μ m) (r:Rep K H' [] (old H H') d v):Rep K H' μ (·∈μ) d v :=
 r.up (fun _ _ _ h=>h) (fun a u _ h b=>⟨h,fun z=>b (.inl (by obtain⟨xs,e,_⟩:=S.trk z;rw[e];simp))⟩) fun n a h=>by simp at h
theorem Acy {fd:FuncData}{E:XK} (F:FnOk X.prog X.w X.K X.mg X.base CX k f fd ps (spP X.K n fn)) (hr:Room k X.A) (hg:Gl X x) (hm:X.mg x=some (.ref f)) (hk:W.keepIn X.K (.ref f)=true) (hb:Binds X.K fd ps []) (hx:Lz CX X E) (ha:PL X (e::es) g) (hdb:(x == ("__debug__":Str))=false) (he:starEach (e::es) X.env=(false,eval e X.env)::starEach es X.env) (hpl:(backTo pos (starEach es X.env)).any (·.1)=false) :
  PD X (.Call (.Name x p) (e::es) [] pos) (Av (Ic n fn) g):=PE.imp (N8 F hr hg hm hk hb .nil hx ha hdb he hpl) fun σ H Q ⟨env,μ,m,d,S,E,h,q⟩=>by
 obtain⟨ds,h1,h⟩:=bind_some h
 obtain⟨ds',h2,h⟩:=bind_some h
 split at h
 ·rename_i hl
  refine⟨env,μ,m,ds,S,E,h1,fun vs H1 s1 rs=>⟨ds',d,by rw[Ang];exact C4 (S.same s1) rs h2,hl,h,fun v H' s' r=>q v H' (s1.trans s') (Rep.ofCall (S.same s1) r)⟩⟩
 ·exact Ae h
def L9 (n:Nat) (fn:List D->Option D):List D->MH->Option (List D):=fun ds m=>(Ic n fn ds m).bind fun d=>match d with|.lst es=>if A0 es=true then some es else none|_=>none
theorem Ac4 {fd:FuncData}{E:XK} (F:FnOk X.prog X.w X.K X.mg X.base CX k f fd ps (spP X.K n fn)) (hr:Room k X.A) (hg:Gl X x) (hm:X.mg x=some (.ref f)) (hk:W.keepIn X.K (.ref f)=true) (hb:Binds X.K fd ps []) (hx:Lz CX X E) (ha:PL X (e::es) g) (hdb:(x == ("__debug__":Str))=false) (he:starEach (e::es) X.env=(false,eval e X.env)::starEach es X.env) (hpl:(backTo pos (starEach es X.env)).any (·.1)=false) :
  PF X (.Call (.Name x p) (e::es) [] pos) (C9 (L9 n fn) g):=PE.imp (N8 F hr hg hm hk hb .nil hx ha hdb he hpl) fun σ H Q ⟨env,μ,m,d,S,E,h,q⟩=>by
 obtain⟨ds,h1,h⟩:=bind_some h
 obtain⟨z,h2,h⟩:=bind_some h
 obtain⟨ds',h2,h3⟩:=bind_some h2
 split at h3
 ·rename_i hl
  refine⟨env,μ,m,ds,S,E,h1,fun vs H1 s1 rs=>⟨ds',z,by rw[Ang];exact C4 (S.same s1) rs h2,hl,h3,fun v H' s' r=>?_⟩⟩
  cases r with
  |@lst es a xs hq hb rs' =>
   simp only at h
   split at h
   ·rename_i hl'
    cases h
    have hn:H1 a=none:=Am2 fun z=>hb (.inl z)
    rcases hq with hq|⟨o,hq⟩
    ·exact q a xs H' (s1.trans s') (s1.free hn) hq (rs'.nolst hl')
    ·exact absurd (.inr ⟨o,_,hq⟩) hb
   ·cases h
  |_=>exact Ae h
 ·exact Ae h3
end
end
end ML
end L2
end S_ML1
section S_ML6
namespace L2
namespace ML
open PySem PySem.Spec PyProof.Rows
open Classical
noncomputable section
theorem Ef {scope:Scope}{env:Env}:∀ (names:List (Str×NameKind)) (cs:List (Str×Addr)),(∀ y∈names,y.2=.free->∃ c,env.cells.lookup y.1=some c)->∃ cl:List (Str×Addr),
  (forIn names cs fun (y:Str×NameKind) cs=>if (y.2 == .free)=true then (do let c <- cellOf env y.1;pure (ForInStep.yield ((y.1,c)::cs))) else (pure (ForInStep.yield cs):Sem _))=pure cl /\
   (∀ x c,cl.lookup x=some c->cs.lookup x=some c\/env.cells.lookup x=some c)/\(∀ x,((x,NameKind.free)∈names\/∃ c,cs.lookup x=some c)->∃ c,cl.lookup x=some c)
 |[],cs,_=>⟨cs,rfl,fun x c h=>.inl h,fun x h=>by
   rcases h with h|h
   ·exact absurd h (by simp)
   ·exact h⟩
 |(n,k)::names,cs,h=>by
  have h':∀ y∈names,y.2=.free->∃ c,env.cells.lookup y.1=some c:=fun y hy=>h y (Al4 _ hy)
  rw[List.forIn_cons]
  by_cases hk:k=.free
  ·subst hk
   obtain⟨c,hc⟩:=h (n,.free) Al6 rfl
   obtain⟨cl,e1,e2,e3⟩:=Ef (scope:=scope) (env:=env) names ((n,c)::cs) h'
   refine⟨cl,?_,fun x c' hx=>?_,fun x hx=>?_⟩
   ·have ec:cellOf env n=pure c:=by unfold cellOf;rw[hc]
    simp only[beq_self_eq_true,Anr,ec]
    exact e1
   ·rcases e2 x c' hx with q|q
    ·rw[Ank] at q
     by_cases hxn:(x == n)=true
     ·simp only[hxn] at q
      cases q
      rw[eq_of_beq hxn]
      exact .inr hc
     ·simp only[Bool.not_eq_true] at hxn
      simp only[hxn] at q
      exact .inl q
    ·exact .inr q
   ·refine e3 x ?_
    by_cases hxn:(x == n)=true
    ·exact .inr ⟨c,by rw[Ank];simp only[hxn]⟩
    ·simp only[Bool.not_eq_true] at hxn
     rcases hx with hx|⟨c',hx⟩
     ·rcases List.mem_cons.mp hx with z|z
      ·have:x=n:=by injection z
       rw[this,beq_self_eq_true] at hxn
       cases hxn
      ·exact .inl z
     ·exact .inr ⟨c',by rw[Ank];simp only[hxn];exact hx⟩
  ·obtain⟨cl,e1,e2,e3⟩:=Ef (scope:=scope) (env:=env) names cs h'
   refine⟨cl,?_,e2,fun x hx=>e3 x ?_⟩
   ·have ek:(k == NameKind.free)=false:=by simpa using hk
    simp only[ek,Amd,Anh]
    exact e1
   ·rcases hx with hx|hx
    ·rcases List.mem_cons.mp hx with z|z
     ·injection z with z1 z2
      exact absurd z2.symm hk
     ·exact .inl z
    ·exact .inr hx
theorem J3 (h:∀ y∈scope.names,y.2=.free->∃ c,env.cells.lookup y.1=some c):∃ cl:List (Str×Addr),closureFor scope env=pure cl /\
  (∀ x c,cl.lookup x=some c->env.cells.lookup x=some c)/\∀ x,(x,NameKind.free)∈scope.names->∃ c,cl.lookup x=some c:=by
 obtain⟨cl,e1,e2,e3⟩:=Ef (scope:=scope) (env:=env) scope.names [] h
 refine⟨cl,?_,fun x c hx=>(e2 x c hx).elim (fun z=>by exact Ae z) id,fun x hx=>e3 x (.inl hx)⟩
 have e:closureFor scope env=((forIn scope.names [] fun (y:Str×NameKind) cs=>if (y.2 == .free)=true then (do let c <- cellOf env y.1;pure (ForInStep.yield ((y.1,c)::cs))) else (pure (ForInStep.yield cs):Sem _)) >>= fun cs=>pure cs):=rfl
 rw[e,e1]
 rfl
theorem Uc:∀ (names:List (Str×NameKind)) (h:Heap) (acc:List (Str×Addr)),(∀ x c,acc.lookup x=some c->c < h.objs.size)->(∀ x y c,acc.lookup x=some c->acc.lookup y=some c->x=y) ->
  (∀ x c,(cellsFrom h.objs.size names acc).lookup x=some c->(acc.lookup x=some c/\(x,NameKind.cell)∉names)\/((x,NameKind.cell)∈names/\h.objs.size<=c/\(pushCells h names).IsCell c none)\/(acc.lookup x=some c/\h.IsCell c none/\False)) /\
  (∀ x y c,(cellsFrom h.objs.size names acc).lookup x=some c->(cellsFrom h.objs.size names acc).lookup y=some c->x=y)/\(∀ x,((x,NameKind.cell)∈names\/∃ c,acc.lookup x=some c)->∃ c,(cellsFrom h.objs.size names acc).lookup x=some c)
 |[],h,acc,h1,h2=>⟨fun x c e=>.inl ⟨e,by simp⟩,h2,fun x e=>e.elim (fun z=>absurd z (by simp)) id⟩
 |(n,k)::r,h,acc,h1,h2=>by
  by_cases hk:k=.cell
  ·subst hk
   have hs:(h.push { cls:=.type "cell",data:=.cell none }).objs.size=h.objs.size+1:=Anj ..
   have lk:∀ x c,((n,h.objs.size)::acc).lookup x=some c->(x=n/\c=h.objs.size)\/(x≠n/\acc.lookup x=some c):=fun x c e=>by
    rw[Ank] at e
    by_cases hx:(x == n)=true
    ·simp only[hx] at e
     cases e
     exact .inl ⟨eq_of_beq hx,rfl⟩
    ·have hx':(x == n)=false:=by simpa using hx
     simp only[hx'] at e
     exact .inr ⟨fun z=>hx (by rw[z];exact beq_self_eq_true _),e⟩
   obtain⟨i1,i2,i3⟩:=Uc r (h.push { cls:=.type "cell",data:=.cell none }) ((n,h.objs.size)::acc) (fun x c e=>by
    rw[hs]
    rcases lk x c e with ⟨_,z⟩|⟨_,z⟩
    ·rw[z];exact Aox _
    ·exact Ane (h1 x c z)) (fun x y c e1 e2=>by
    rcases lk x c e1 with ⟨z1,w1⟩|⟨_,z1⟩<;>rcases lk y c e2 with ⟨z2,w2⟩|⟨_,z2⟩
    ·rw[z1,z2]
    ·exact absurd (h1 y c z2) (by rw[w1];exact Am3 _)
    ·exact absurd (h1 x c z1) (by rw[w2];exact Am3 _)
    ·exact h2 x y c z1 z2)
   have ec:cellsFrom h.objs.size ((n,NameKind.cell)::r) acc=cellsFrom (h.push { cls:=.type "cell",data:=.cell none }).objs.size r ((n,h.objs.size)::acc):=by rw[hs];rfl
   have ep:pushCells h ((n,NameKind.cell)::r)=pushCells (h.push { cls:=.type "cell",data:=.cell none }) r:=rfl
   rw[ec,ep]
   refine⟨fun x c e=>?_,i2,fun x e=>i3 x ?_⟩
   ·rcases i1 x c e with ⟨z,w⟩|⟨z1,z2,z3⟩|⟨_,_,z⟩
    ·rcases lk x c z with ⟨rfl,rfl⟩|⟨hne,z⟩
     ·exact .inr (.inl ⟨Al6,Al7 _,⟨_,pushCells_keeps _ _ _ _ (Amp _ rfl),rfl⟩⟩)
     ·exact .inl ⟨z,fun y=>by
       rcases List.mem_cons.mp y with y|y
       ·exact hne (Prod.mk.inj y).1
       ·exact w y⟩
    ·exact .inr (.inl ⟨Al4 _ z1,Nat.le_of_succ_le (by rw[hs] at z2;exact z2),z3⟩)
    ·exact z.elim
   ·by_cases hx:x=n
    ·exact .inr ⟨_,by rw[Ank,hx,beq_self_eq_true]⟩
    ·have hx':(x == n)=false:=by simpa using hx
     rcases e with e|⟨c,e⟩
     ·rcases List.mem_cons.mp e with e|e
      ·exact absurd (Prod.mk.inj e).1 hx
      ·exact .inl e
     ·exact .inr ⟨c,by rw[Ank,hx'];exact e⟩
  ·obtain⟨i1,i2,i3⟩:=Uc r h acc h1 h2
   have hk':(k == NameKind.cell)=false:=by simpa using hk
   have ec:cellsFrom h.objs.size ((n,k)::r) acc=cellsFrom h.objs.size r acc:=by rw[cellsFrom,hk'];rfl
   have ep:pushCells h ((n,k)::r)=pushCells h r:=by rw[pushCells,hk'];rfl
   have em:∀ x,(x,NameKind.cell)∈(n,k)::r ↔ (x,NameKind.cell)∈r:=fun x=>⟨fun z=>by
    rcases List.mem_cons.mp z with z|z
    ·exact absurd (Prod.mk.inj z).2.symm hk
    ·exact z,Al4 _⟩
   rw[ec,ep]
   refine⟨fun x c e=>?_,i2,fun x e=>i3 x ?_⟩
   ·rcases i1 x c e with ⟨z,w⟩|⟨z1,z2,z3⟩|⟨_,_,z⟩
    ·exact .inl ⟨z,fun y=>w ((em x).mp y)⟩
    ·exact .inr (.inl ⟨(em x).mpr z1,z2,z3⟩)
    ·exact z.elim
   ·exact e.imp (em x).mp id
theorem N2 {E:Value->Shared->Prop}{s:Shared} (hQ:∀ h',h'.Ns s.heap.objs.size (fun _=>none)->(∀ b o,s.heap.get? b=some o->h'.get? b=some o)->h'=pushCells (s.heap.push { cls:=.type "dict",data:=.dict #[] }) scope.names ->
   Q { scope,locals:=s.heap.objs.size,globals,cells:=cellsFrom (s.heap.objs.size+1) scope.names cl,qual,func:=none,code:=env.code,frame:=env.frame,builtins:=env.builtins } { s with heap:=h' }) :
  wpAny M A (newFunctionEnv scope globals cl [] qual none .none (some env)) Q E s:=by
 simp only[newFunctionEnv,Anx,Anr]
 refine Al2 (wpAny_alloc ?_)
 refine Al2 (wpAny_layCells _ (fun name kind cells=>by cases hkc:kind == NameKind.cell<;>simp[hkc]) _ _ _ _ ?_)
 rw[show ({ s with heap:=s.heap.push { cls:=.type "dict",data:=.dict #[] } }:Shared).heap.objs.size=s.heap.objs.size+1 from Anj ..]
 rw[List.forIn_nil]
 refine Al2 (Al3 (Al3 ?_))
 exact hQ _ ((Heap.Ns.new s.heap (.type "dict")).keeps (pushCells_keeps _ _)) (fun b o e=>pushCells_keeps _ _ b o (Al5 _ e)) rfl
noncomputable def Ay (X:Cx) (N':List Str) (scope:Scope) (cl:List (Str×Addr)) (C:Addr) (s₀:Shared) (H₀:Hp) (ex:List Addr) (pn:List (Addr×Obj)):Cx where
 prog:=X.prog
 w:=X.w
 K:=X.K
 mg:=X.mg
 base:=X.base
 A:=X.A
 N:=N'
 s₀:=s₀
 H₀:=H₀
 env:=compEnvC scope cl C X.env
 outer:=X.stack
 stack:=X.stack
 ex:=ex
 fn:=fun x=>match scope.names.lookup x with
  |some .cell=>true
  |_=>false
 calm:=X.calm
 pn:=pn
 xe:=fun _ _=>False
noncomputable def capσ (cap:List Nat) (k:Nat) (σ:St):St:=cap.map (fun i=>(σ[i]?).bind id)++List.replicate k none
def Tt (cap:List Nat) (k:Nat) (env:A2):A2:=cap.map (fun i=>(env[i]?).bind id)++List.replicate k none
structure CompOk (X:Cx) (scope:Scope) (cap:List Nat) (N':List Str):Prop where
 kind:scope.kind=.function
 cell:∀ y∈scope.names,y.2=.cell->scope.names.lookup y.1=some .cell
 names:∀ y∈scope.names,y.2=.local->scope.names.lookup y.1=some .local
 free:∀ y∈scope.names,y.2=.free->X.env.scope.names.lookup y.1=some .cell\/X.env.scope.names.lookup y.1=some .free
 nd:N'.Nodup
 le:cap.length<=N'.length
 cap:∀ (j i:Nat) (x:Str),cap[j]?=some i->N'[j]?=some x->X.N[i]?=some x/\scope.names.lookup x=some .free
theorem Cn {env:Env}:∀ {names:List (Str×NameKind)}{x:Str}{k:NameKind},(names.map fun (n,k)=>if (k == NameKind.free&&env.scope.kind == .function&&env.kindOf n == some .cell) then (n,NameKind.cell) else (n,k)).lookup x=some k ->
  (names.lookup x=some k/\(k=.free->env.kindOf x≠some .cell\/env.scope.kind≠.function))\/(names.lookup x=some .free/\k=.cell)
 |[],_,_,h=>by simp at h
 |(n,k)::r,x,k',h=>by
  have ih:=@Cn env r x k'
  rw[Amr] at h
  by_cases hc:(k == NameKind.free&&env.scope.kind == .function&&env.kindOf n == some .cell)=true
  ·simp only[hc,Anr] at h
   rw[Ank] at h ⊢
   cases hx:x == n with
   |true =>
    simp only[hx] at h ⊢
    cases h
    have:k=.free:=by simp at hc;exact hc.1.1
    exact .inr ⟨by rw[this],rfl⟩
   |false =>
    simp only[hx] at h ⊢
    exact ih h
  ·simp only[Aml hc] at h
   rw[Ank] at h ⊢
   cases hx:x == n with
   |true =>
    simp only[hx] at h ⊢
    cases h
    refine .inl ⟨rfl,fun z=>?_⟩
    subst z
    have e:=eq_of_beq hx
    subst e
    simp at hc
    by_cases q:env.scope.kind=.function
    ·exact .inl fun z=>hc q z
    ·exact .inr q
   |false =>
    simp only[hx] at h ⊢
    exact ih h
section
variable {X:Cx}{elt tg iter:Expr}{ifs:List Expr}{scope:Scope}{pos:Pos}{cap:List Nat}{N':List Str}
theorem Yp {pins:List (Addr×Obj)}{σ:St}{H2 H3:Hp}{s2:Shared}{h₁:Heap}{tk:Nat}{fp:List Addr}{cl:List (Str×Addr)}{C:Addr}{ys:List V} (ok:CompOk X scope cap N') (I2:Inv X pins σ H2 s2) (f2:∀ b∈fp,Aag X pins H2 b) (fo:∀ b∈fp,∃ o,s2.heap.get? b=some o)
  (hcl:∀ x c,cl.lookup x=some c->(X.env.cells.lookup x=some c/\scope.names.lookup x≠some .cell)\/(scope.names.lookup x=some .cell/\C < c/\h₁.IsCell c none/\H3 c=none)) (hinj:∀ x y c,cl.lookup x=some c->cl.lookup y=some c->x=y)
  (hcl2:∀ x,((x,NameKind.free)∈scope.names\/(x,NameKind.cell)∈scope.names)->∃ c,cl.lookup x=some c)
  (hC:s2.heap.objs.size<=C) (hns:∃ m,h₁.Ns C m) (hk:∀ b o,s2.heap.get? b=some o->h₁.get? b=some o) (hH:∀ b o,s2.heap.get? b=some o->H2 b=none->H3 b=none) (hS:Same H2 H3) (hC3:H3 C=none) (hok:HOk X.prog X.w X.K H3 h₁) :
  Inv (Ay X N' scope cl C s2 H2 fp (X.pn++pins)) [] (capσ cap (N'.length - cap.length) σ) H3 { s2 with heap:=h₁,toks:=tk }:=by
 have lt:∀ b o,s2.heap.get? b=some o->b≠C:=fun b o e=>Ams (Amj (Al9 e) hC)
 have kin:∀ x,(Ay X N' scope cl C s2 H2 fp (X.pn++pins)).env.kindOf x=some .cell\/(Ay X N' scope cl C s2 H2 fp (X.pn++pins)).env.kindOf x=some .free->(x,NameKind.free)∈scope.names\/(x,NameKind.cell)∈scope.names:=fun x h=>by
  have key:∀ k,(relabel scope X.env).names.lookup x=some k->k=.cell\/k=.free->(x,NameKind.free)∈scope.names\/(x,NameKind.cell)∈scope.names:=fun k hk hkk=>by
   rcases Cn hk with ⟨q,_⟩|⟨q,_⟩
   ·rcases hkk with rfl|rfl
    ·exact .inr (Amx q)
    ·exact .inl (Amx q)
   ·exact .inl (Amx q)
  rcases h with h|h
  ·exact key _ h (.inl rfl)
  ·exact key _ h (.inr rfl)
 have fpx:∀ b∈fp,∀ o,X.base.get? b=some o->False:=fun b hb o e=>by
  obtain⟨_,_,_,q,_,_⟩:=f2 b hb
  rcases q with q|q
  ·exact I2.ok.noex b o e q
  ·exact absurd (Amj (Al9 e) (Amv I2.ok.bsz q)) (Am3 _)
 refine⟨⟨I2.ok.mod,ok.kind,I2.ok.glob,I2.ok.blt,hC,?_,?_,?_,I2.ok.hd,I2.ok.frames,.inl rfl,?_,I2.bs,Amv I2.ok.bsz I2.sz,?_,?_,I2.stack,I2.stkFree⟩,rfl,I2.bare,⟨?_,?_,?_,?_,?_,?_,?_⟩,?_,?_,hC3,?_,?_,hok,?_⟩
 ·exact hinj
 ·exact fun x h=>hcl2 x (kin x h)
 ·intro x c h e
  have h:(match scope.names.lookup x with|some .cell=>true|_=>false)=true:=h
  rcases hcl x c e with ⟨_,z⟩|⟨_,z,_⟩
  ·split at h
   ·rename_i q;exact absurd q z
   ·exact B9 h
  ·exact Aom (Nat.lt_of_le_of_lt hC z)
 ·intro b hb
  obtain⟨o,e⟩:=fo b hb
  refine⟨lt b o e,fun x c h=>?_⟩
  rcases hcl x c h with ⟨z,_⟩|⟨_,z,_⟩
  ·exact (f2 b hb).2.2.2.2.1 x c z
  ·exact Aoy (Nat.lt_trans (Amj (Al9 e) hC) z)
 ·exact fun b o e hb=>fpx b hb o e
 ·intro b hb hfs
  have z:b∈X.env.locals::X.fs:=I2.stkSub b hfs
  rcases List.mem_cons.mp z with z|z
  ·exact (f2 b hb).2.1 z
  ·exact (f2 b hb).2.2.1 z
 ·exact fun b o e n _ _=>hk b o e
 ·exact fun b o e n _ _=>⟨o.slots,hk b o e⟩
 ·exact fun b o e n _=>hH b o e n
 ·exact fun b o e _=>⟨o,hk b o e⟩
 ·exact fun b xs e=>hS b _ e
 ·exact fun b o u e=>hS b _ e
 ·exact fun b ps e=>⟨#[],by rw[hS b _ e];simp⟩
 ·obtain⟨m,hm⟩:=hns
  refine⟨m,hm,fun j x v e1 e2 e3=>?_⟩
  have hj:j < cap.length:=by
   apply Am2
   intro hj
   unfold capσ at e2
   rw[Amt (by simpa using hj),An2] at e2
   split at e2<;>cases e2
  obtain⟨i,hi⟩:∃ i,cap[j]?=some i:=⟨cap[j],by simp[hj]⟩
  obtain⟨q1,q2⟩:=ok.cap j i x hi e1
  have e4:σ[i]?=some (some v):=by
   unfold capσ at e2
   rw[Amm (by simpa using hj),Amo,hi] at e2
   simp only[Option.map_some,Option.some.injEq] at e2
   obtain⟨o,h1,h2⟩:=bind_some e2
   have h2:o=some v:=h2
   rw[h1,h2]
  have hfr:=ok.free (x,.free) (Amx q2) rfl
  have vis:Vis X.env.scope x:=.inr hfr
  obtain⟨m0,hn0,hl⟩:=I2.loc
  obtain⟨u,r,l⟩:=hl i x v q1 e4 vis
  refine⟨u,r,.inr ?_⟩
  rcases l with ⟨l1,_⟩|⟨l1,c,l2,l3⟩
  ·have l1:X.env.scope.names.lookup x=some .local:=l1
   rcases hfr with z|z<;>rw[l1] at z<;>cases z
  ·obtain⟨c',hc'⟩:=hcl2 x (.inl (Amx q2))
   have:c'=c:=by
    rcases hcl x c' hc' with ⟨z,_⟩|⟨z,_⟩
    ·rw[l2] at z;exact (Anf z).symm
    ·rw[q2] at z;cases z
   subst this
   refine⟨?_,c',hc',?_⟩
   ·rcases e3 with z|z|z
    ·have z':(relabel scope X.env).names.lookup x=some .local:=z
     rcases Cn z' with ⟨q,_⟩|⟨q,w⟩
     ·rw[q2] at q;cases q
     ·cases w
    ·exact .inl z
    ·exact .inr z
   ·obtain⟨oc,ho,hd⟩:=l3
    exact⟨oc,hk _ _ ho,hd⟩
 ·intro x c h
  rcases hcl x c h with ⟨z,_⟩|⟨_,_,z,_⟩
  ·obtain⟨v,oc,ho,hd⟩:=I2.cell x c z
   exact⟨v,oc,hk _ _ ho,hd⟩
  ·exact⟨none,z⟩
 ·intro x c h
  rcases hcl x c h with ⟨z,_⟩|⟨_,_,_,z⟩
  ·obtain⟨v,oc,ho,hd⟩:=I2.cell x c z
   exact hH c oc ho (I2.freeC x c z)
  ·exact z
 ·intro p hp
  have hp':p∈X.pn++pins:=by
   have:p∈(X.pn++pins)++[]:=hp
   simpa using this
  obtain⟨e,n,ne,nf,d⟩:=I2.pin p hp'
  refine⟨hk _ _ e,hH _ _ e n,lt _ _ e,?_,d⟩
  intro z
  have z:p.1∈X.env.locals::X.fs:=I2.stkSub p.1 z
  rcases List.mem_cons.mp z with z|z
  ·exact ne z
  ·exact nf z
 ·unfold capσ
  show _=N'.length
  rw[Amn,Ama,List.length_replicate]
  have:=ok.le
  lia
end
end
end ML
end L2
end S_ML6
section S_ML7
namespace L2
namespace ML
open PySem PySem.Spec PyProof.Rows
open Classical
noncomputable section
noncomputable def D2 (g:FG) (t:FB) (fe:FE) (m:MH) (env:A2):List D->Option (List D)
 |[]=>some []
 |d::ds=>(g d env).bind fun env1=>(t env1 m).bind fun ok=>if ok=true then (fe env1 m).bind fun y=>(D2 g t fe m env ds).bind fun ys=>some (y::ys) else D2 g t fe m env ds
noncomputable def Nf:FB:=fun _ _=>some true
def PTs (X:Cx) (ifs:List Expr) (f:FB):Prop:=∀ (pins:List (Addr×Obj)) (s:Shared) (σ:St) (H:Hp) (Q:Bool->Hp->Prop),Inv X pins σ H s->tB' X.K f σ H Q ->
 wpAny (model X.prog X.w) X.A (forIn ifs true fun c r=>if r=true then do let ok <- isTrue c X.env (eval c X.env);pure (ForInStep.yield ok) else pure (ForInStep.yield r)) (TP X pins σ Q) X.xe s
theorem Adn:PTs X [] Nf:=fun pins s σ H Q I ⟨env,μ,m,b,S,E,h,q⟩=>by
 cases h
 exact wpAny_tests_nil ⟨H,I,q H (Same.refl H)⟩
theorem Ado (h:PB X c f):PTs X [c] f:=fun pins s σ H Q I q=>wpAny_tests_one (h pins s σ H Q I q)
theorem Mc {s:Shared}{pos:Pos} (I:Nat->Shared->Prop) (turn:∀ n s,I n s->wpAny (model prog w) A (pyNext it) (fun r s₁=>match r with
   |none=>R (.ok .next) s₁
   |some v=>wpAny (model prog w) A (letOwnedTupleGo target it v) (fun _ s₁'=>wpAny (model prog w) A (assign target env v) (fun _ s₂ =>
     wpAny (model prog w) A (forIn ifs true fun c r=>if r=true then do let ok <- isTrue c env (eval c env);pure (ForInStep.yield ok) else pure (ForInStep.yield r)) (fun ok s₃ =>
      if ok=true then wpAny (model prog w) A (eval elt env) (fun x s₄ =>
       wpAny (model prog w) A (call (.builtin "list.append") [acc,x]) (fun _ s₅=>∃ m,m < n/\I m s₅) (fun _ _=>False) s₄) (fun _ _=>False) s₃
      else ∃ m,m < n/\I m s₃) (fun _ _=>False) s₂) (fun _ _=>False) s₁') (fun _ _=>False) s₁) (fun _ _=>False) s) (n:Nat) (h:I n s):codeAny (model prog w) A (.compLoop (.ListComp elt [⟨target,iter,ifs,0⟩] scope pos) 0 it acc env) R s:=by
 have no:∀ {E:Value->Shared->Prop} (e:Value) (s:Shared),False->E e s:=fun _ _ h=>h.elim
 refine codeAny_loop rfl I (fun n s hI=>?_) n h
 show wpAny _ A ((compTurn (.ListComp elt [⟨target,iter,ifs,0⟩] scope pos) 0 it acc env).onRaise (fun x=>do noteFrame x env;theTreesLotGoes x)) _ _ s
 refine wpAny_noted ?_
 rw[compTurn_list]
 refine Al2 (wpAny_standAt (Al2 (An6 (turn n s hI) (fun r s₁ h₁=>?_) no)))
 cases r with
 |none=>exact Al3 h₁
 |some v =>
  refine Al2 (An6 h₁ (fun _ s₁' h₁'=>?_) no)
  refine Al2 (An6 h₁' (fun _ s₂ h₂=>Al2 (An6 h₂ (fun ok s₃ h₃=>?_) no)) no)
  cases ok with
  |false=>exact Al3 ⟨rfl,h₃⟩
  |true =>
   exact Al2 (Al2 (An6 h₃ (fun x s₄ h₄=>Al2 (An6 h₄ (fun _ s₅ h₅=>Al3 (Al3 ⟨rfl,h₅⟩)) no)) no))
theorem Ym {K:W.Frag}{H:Hp}{μ:List Addr}{σ:St}{env:A2} (h:EnvRep K H μ σ env) (cap:List Nat) (k:Nat):EnvRep K H μ (capσ cap k σ) (Tt cap k env):=by
 refine⟨by unfold capσ Tt;simp,fun j d e=>?_⟩
 have hj:j < cap.length:=by
  apply Am2
  intro hj
  unfold Tt at e
  rw[Amt (by simpa using hj),An2] at e
  split at e<;>cases e
 unfold Tt at e
 rw[Amm (by simpa using hj),Amo] at e
 have hi:cap[j]?=some cap[j]:=by simp[hj]
 rw[hi] at e
 simp only[Option.map_some,Option.some.injEq] at e
 obtain⟨o,h1,h2⟩:=bind_some e
 have h2:o=some d:=h2
 subst h2
 obtain⟨v,q1,q2⟩:=h.get _ _ h1
 refine⟨v,?_,q2⟩
 unfold capσ
 rw[Amm (by simpa using hj),Amo,hi]
 simp[q1]
section
variable {X:Cx}{elt tg iter:Expr}{ifs:List Expr}{scope:Scope}{pos:Pos}{cap:List Nat}{N':List Str}{fw:FW}{g:FG}{t:FB}{fe:FE}
def Ci (cap:List Nat) (k:Nat) (fw:FW) (g:FG) (t:FB) (fe:FE):FL:=fun env m=>(fw env m).bind fun w=>if w.chk m/\w.all.length<=1000000 then D2 g t fe m (Tt cap k env) w.all else none
structure CompEnd (X:Cx) (pins:List (Addr×Obj)) (σ:St) (H:Hp) (μ:List Addr) (zs:List D) (D C:Addr) (s':Shared):Prop where
 out:∃ H' ys,Same H H'/\H D=none/\H' D=some (.lst ys)/\Reps X.K H' μ (nw μ D) zs ys/\Inv X pins σ H' s'/\H' C=none/\∀ σ' s'' h',Inv X pins σ' H' s''->Heap.SameBut C s''.heap h'->Inv X pins σ' H' { s'' with heap:=h' }
 ns:∃ m,s'.heap.Ns C m
 lc:C≠X.env.locals
 cc:∀ x c,X.env.cells.lookup x=some c->c≠C
inductive CI (Y:Cx) (μ:List Addr) (fp:List Addr) (tn:Nat->Heap->Prop) (Dd:Addr) (H2:Hp) (g:FG) (e0:A2) (cd:Nat->Option (List D)) (n:Nat) (zs:List D) (s:Shared):Nat->Prop where
 |mk {i:Nat}{H3:Hp}{σ3:St}{env3:A2}{ys:List V}{its:List Value}{na:Nat}{dn rs:List D}:i<=n->Inv Y [] σ3 H3 s->tn i s.heap->(∀ b∈fp,H3 b=none)->Same H2 H3->H3 Dd=none->EnvRep Y.K H3 μ σ3 env3->(∀ d,g d env3=g d e0) ->
  s.heap.get? Dd=some { cls:=.type "list",data:=.seq its.toArray na }->Vals ys its->Reps Y.K H3 μ (·∈μ) dn ys->cd i=some rs->dn++rs=zs->dn.length<=i->CI Y μ fp tn Dd H2 g e0 cd n zs s (n - i)
theorem Iq (ok:CompOk X scope cap N') (hc:X.calm=true) (hi:PW' X tg iter fw) (hg2:∀ d d' env e1,g d env=some e1->g d' e1=g d' env)
  {Φ:Hp->Prop} (hΦ:∀ {pins:List (Addr×Obj)}{σ:St}{H:Hp}{s:Shared},Inv X pins σ H s->Φ H) (hg:∀ cl C s₀ H₀ ex pn,Φ H₀->PGD (Ay X N' scope cl C s₀ H₀ ex pn) tg g) (ht:∀ cl C s₀ H₀ ex pn,Φ H₀->PTs (Ay X N' scope cl C s₀ H₀ ex pn) ifs t) (he:∀ cl C s₀ H₀ ex pn,Φ H₀->PD (Ay X N' scope cl C s₀ H₀ ex pn) elt fe)
  (hs:∀ x,foldedSetIterable iter X.env x=pure x) {use:Option (Value->Sem Unit)}{ipos:Pos}{pins:List (Addr×Obj)}{s:Shared}{σ:St}{H:Hp}{Q:Value->Shared->Prop} (I:Inv X pins σ H s) {env:A2}{μ:List Addr}{m:MH}{zs:List D}
  (S:Sim X.K H μ m) (E:EnvRep X.K H μ σ env) (h:Ci cap (N'.length - cap.length) fw g t fe env m=some zs)
  (hQ:∀ D C s',CompEnd X pins σ H μ zs D C s'->compPost (model X.prog X.w) X.A X.xe use Q (.ref D) C (.ok .next) s') :
  wpAny (model X.prog X.w) X.A (comprehension (.ListComp elt [⟨tg,iter,ifs,0⟩] scope pos) scope X.env ipos (newList []) false (eval iter X.env) use) Q X.xe s:=by
 obtain⟨w,h1,h⟩:=bind_some h
 split at h
 rotate_left
 ·cases h
 rename_i hck
 obtain⟨hck,hsz⟩:=hck
 have hfr:∀ y∈scope.names,y.2=.free->∃ c,X.env.cells.lookup y.1=some c:=fun y hy hf=>I.ok.has y.1 (ok.free y hy hf)
 obtain⟨cl0,hclos,hcl0,hcl20⟩:=J3 hfr
 refine wpAny_comprehension_free (g:=⟨tg,iter,ifs,0⟩) (gs:=[]) rfl hs hclos ok.kind ok.names (thn (hi pins s σ H (fun J H2=>∃ src,Same H H2/\Src X.K J w.all w.chk src/\src H2 μ m) I ⟨env,μ,m,w,S,E,h1,fun H' J src s1 hsrc h0=>⟨src,s1,hsrc,h0⟩⟩) fun v s1 h2=>thn h2 fun itv s2 h3=>?_)
 obtain⟨it,fp,tn,J,H2,e,I2,T,st2,f2,src,hS2,hsrc,h0⟩:=h3
 subst e
 refine Am8 (N2 fun h₁ hns₁ hsb₁ heq₁=>?_)
 dsimp only at hns₁ hsb₁ heq₁ ⊢
 generalize hHp:s2.heap.push { cls:=.type "list",dict:=none,data:=.seq ([]:List Value).toArray }=HP at hns₁ hsb₁ heq₁ ⊢
 have hCs:HP.objs.size=s2.heap.objs.size+1:=by rw[<- hHp,Anj]
 have hDC:s2.heap.objs.size≠HP.objs.size:=by rw[hCs];exact Ams (Aox _)
 have hCle:s2.heap.objs.size<=HP.objs.size:=by rw[hCs];exact Nat.le_succ _
 have below:∀ b,b < s2.heap.objs.size->b≠HP.objs.size/\b≠s2.heap.objs.size:=fun b hb=>⟨by rw[hCs];exact Ams (Ane hb),Ams hb⟩
 have hkp:∀ b o,s2.heap.get? b=some o->h₁.get? b=some o:=fun b o e=>hsb₁ b o (hHp ▸ Al5 _ e)
 have hacc:h₁.get? s2.heap.objs.size=some { cls:=.type "list",data:=.seq ([]:List Value).toArray 0 }:=hsb₁ _ _ (hHp ▸ Amp _ rfl)
 have hDn:H2 s2.heap.objs.size=none:=I2.hok.fresh (Al7 _)
 have hCn:H2 HP.objs.size=none:=I2.hok.fresh hCle
 have fo:∀ b∈fp,∃ o,s2.heap.get? b=some o:=fun b hb=>let ⟨o,e,_⟩:=T.obj _ _ st2 b hb;⟨o,e⟩
 have fdc:∀ b∈fp,b≠HP.objs.size/\b≠s2.heap.objs.size:=fun b hb=>let ⟨o,e⟩:=fo b hb;below b (Al9 e)
 have hsz1:(HP.push { cls:=.type "dict",data:=.dict #[] }).objs.size=HP.objs.size+1:=Anj ..
 obtain⟨c1,c2,c3⟩:=Uc scope.names (HP.push { cls:=.type "dict",data:=.dict #[] }) cl0 (fun x c e=>by
  obtain⟨v,oc,ho,_⟩:=I2.cell x c (hcl0 x c e)
  rw[hsz1,hCs]
  exact Ane (Ane (Al9 ho))) (fun x y c e1 e2=>I2.ok.inj x y c (hcl0 x c e1) (hcl0 y c e2))
 rw[hsz1,<- heq₁] at c1
 rw[hsz1] at c2 c3
 generalize hcle:cellsFrom (HP.objs.size+1) scope.names cl0=cl at *
 have hcl:∀ x c,cl.lookup x=some c->(X.env.cells.lookup x=some c/\scope.names.lookup x≠some .cell)\/(scope.names.lookup x=some .cell/\HP.objs.size < c/\h₁.IsCell c none/\H2 c=none):=fun x c e=>by
  rcases c1 x c e with ⟨z,w⟩|⟨z1,z2,z3⟩|⟨_,_,z⟩
  ·exact .inl ⟨hcl0 x c z,fun q=>w (Amx q)⟩
  ·exact .inr ⟨ok.cell _ z1 rfl,z2,z3,I2.hok.fresh (Amv hCle (Aom z2))⟩
  ·exact z.elim
 have hcl2:∀ x,((x,NameKind.free)∈scope.names\/(x,NameKind.cell)∈scope.names)->∃ c,cl.lookup x=some c:=fun x e=>c3 x (e.elim (fun z=>.inr (hcl20 x z)) .inl)
 generalize hDd:s2.heap.objs.size=Dd at *
 generalize hCc:HP.objs.size=C at *
 have Y0:Inv (Ay X N' scope cl C s2 H2 fp (X.pn++pins)) [] (capσ cap (N'.length - cap.length) σ) H2 { s2 with heap:=h₁,toks:=s2.toks } :=
  Yp (ys:=[]) ok I2 f2 fo hcl c2 hcl2 (by rw[hDd];exact hCle) ⟨_,hns₁⟩ hkp (fun _ _ _ n=>n) (Same.refl _) hCn (I2.hok.kept hkp)
 -- what stays true of the iterator's objects in the block
 have fpY:∀ {H':Hp}{ps:List (Addr×Obj)},(∀ b∈fp,H' b=none)->(∀ p∈ps,p.1∉fp)->∀ b∈fp,Aag (Ay X N' scope cl C s2 H2 fp (X.pn++pins)) ps H' b:=fun {H' ps} hn hps b hb=>by
  obtain⟨q0,q1,q2,q3,q4,q5⟩:=f2 b hb
  refine⟨hn b hb,(fdc b hb).1,fun z=>?_,.inl hb,fun x c e=>?_,fun p hp z=>?_⟩
  rotate_left
  ·rcases hcl x c e with ⟨z,_⟩|⟨_,z,_⟩
   ·exact q4 x c z
   ·obtain⟨o,e'⟩:=fo b hb
    exact Aoy (Amj (by have:=Al9 e';rw[hDd] at this;exact this) (Amv hCle (Aom z)))
  rotate_left
  ·have z:b∈X.env.locals::X.fs:=I2.stkSub b z
   rcases List.mem_cons.mp z with z|z
   ·exact q1 z
   ·exact q2 z
  ·rcases List.mem_append.mp hp with hp|hp
   ·exact q5 p hp z
   ·exact hps p hp (by rw[z];exact hb)
 have key:∀ s₃:Shared,s₃={ s2 with heap:=h₁,toks:=s2.toks } ->
   codeAny (model X.prog X.w) X.A (.compLoop (.ListComp elt [⟨tg,iter,ifs,0⟩] scope pos) 0 (.ref it) (.ref Dd) (compEnvC scope cl C X.env)) (compPost (model X.prog X.w) X.A X.xe use Q (.ref Dd) C) s₃:=by
  rintro s₃ rfl
  refine Mc (fun k s=>CI (Ay X N' scope cl C s2 H2 fp (X.pn++pins)) μ fp tn Dd H2 g (Tt cap (N'.length - cap.length) env) (fun i=>D2 g t fe m (Tt cap (N'.length - cap.length) env) (w.all.drop i)) w.all.length zs s k) ?_ w.all.length
   (.mk (ys:=[]) (dn:=[]) (Amz _) Y0 (T.keep _ _ _ st2 fun b hb o e=>hkp b o e) (fun b hb=>(f2 b hb).1) (Same.refl _) hDn (Ym (E.same hS2) cap _) (fun _=>rfl) hacc .nil .nil (by simpa using h) rfl (Amz _))
  intro k s3 ci
  cases ci with
  |@mk i H3 σ3 env3 ys its na dn rs hi' I3 st3 fr3 s3' hD3 E3 hg3 ha3 rv3 rr3 hc3 hz3 hl3 =>
  have S3:Sim X.K H3 μ m:=S.same (hS2.trans s3')
  have src3:src H3 μ m:=hsrc.keep _ _ _ _ _ _ h0 (S.same hS2) (Step.of_same s3') S3
  have hDfp:Dd∉fp:=fun z=>(fdc Dd z).2 rfl
  have hDne:Dd≠(Ay X N' scope cl C s2 H2 fp (X.pn++pins)).env.locals:=hDC
  have hDcell:∀ x c,(Ay X N' scope cl C s2 H2 fp (X.pn++pins)).env.cells.lookup x=some c->c≠Dd:=fun x c e z=>by
   rcases hcl x c e with ⟨w,_⟩|⟨_,w,_⟩
   ·obtain⟨v,oc,ho,_⟩:=I2.cell x c w
    exact absurd (Al9 ho) (by rw[z,hDd];exact Am3 _)
   ·exact absurd w (by rw[z];exact Nat.not_lt.mpr hCle)
  have hDpn:∀ p∈X.pn++pins,p.1≠Dd:=fun p hp z=>absurd (Al9 (I2.pin p hp).1) (by rw[z,hDd];exact Am3 _)
  have hDs:s2.heap.objs.size<=Dd:=Nat.le_of_eq hDd
  have hDfs:Dd∉(Ay X N' scope cl C s2 H2 fp (X.pn++pins)).fs:=fun z=>by
   have z:Dd∈X.env.locals::X.fs:=I2.stkSub Dd z
   rcases List.mem_cons.mp z with z|z
   ·exact absurd I2.lt (by rw[<- z,hDd];exact Am3 _)
   ·exact I2.nofs hDs z
  have I3p:Inv (Ay X N' scope cl C s2 H2 fp (X.pn++pins)) [(Dd,{ cls:=.type "list",data:=.seq its.toArray na })] σ3 H3 s3:=I3.pins_of fun p hp=>by
   have e:p=(Dd,{ cls:=.type "list",data:=.seq its.toArray na }):=by simpa using hp
   subst e
   exact⟨ha3,hD3,hDne,hDfs,fun v z=>by cases z⟩
  have pfp:∀ p∈[(Dd,({ cls:=.type "list",data:=.seq its.toArray na }:Obj))],p.1∉fp:=fun p hp=>by
   have e:p=(Dd,{ cls:=.type "list",data:=.seq its.toArray na }):=by simpa using hp
   subst e
   exact hDfp
  by_cases hlt:i < w.all.length
  ·have hd:w.all.drop i=w.all[i]::w.all.drop (i+1):=Aos hlt
   rw[hd] at hc3
   unfold D2 at hc3
   obtain⟨env4,e4,hc3⟩:=bind_some hc3
   obtain⟨tb,e5,hc3⟩:=bind_some hc3
   obtain⟨go,yl⟩:=hsrc.go H3 μ m i w.all[i] S3 src3 hck (by simp[hlt])
   refine thn (T.item (Ay X N' scope cl C s2 H2 fp (X.pn++pins)) rfl rfl rfl hc i _ s3 σ3 H3 _ I3p (fpY fr3 pfp) st3 go) fun r s4 ⟨u,hr,h4⟩=>?_
   subst hr
   refine thn h4 fun _ s5 ⟨x,H5,I5,r5,y5,st5,fr5⟩=>?_
   obtain⟨s5',rx5⟩:=yl x H5 y5
   have S5:=S3.same s5'
   have E5:=E3.same s5'
   have I5':=I5.pinned (fpY fr5 pfp) (T.obj _ _ st5)
   generalize hps:[(Dd,({ cls:=.type "list",data:=.seq its.toArray na }:Obj))]++Mu fp s5.heap=ps at I5'
   have pacc:(Dd,({ cls:=.type "list",data:=.seq its.toArray na }:Obj))∈ps:=by rw[<- hps];exact Ana _ (by simp)
   have pits:∀ b o,b∈fp->s5.heap.get? b=some o->(b,o)∈ps:=fun b o hb e=>by rw[<- hps];exact Amu _ (Ek hb e)
   refine thn (hg cl C s2 H2 fp (X.pn++pins) (hΦ I2) ps s5 σ3 H5 x u (fun σ' H'=>H'=H5/\EnvRep X.K H5 μ σ' env4) I5' r5 ⟨env3,μ,m,_,env4,S5,E5,rx5,by rw[hg3];exact e4,fun σ' E'=>⟨rfl,E'⟩⟩) fun _ s6 ⟨σ6,H6,I6,eH6,E6⟩=>?_
   subst eH6
   refine thn (ht cl C s2 H2 fp (X.pn++pins) (hΦ I2) ps s6 σ6 H6 (fun b H'=>b=tb/\Same H6 H') I6 ⟨env4,μ,m,tb,S5,E6,e5,fun H' s=>⟨rfl,s⟩⟩) fun ok s7 ⟨H7,I7,eb,s7'⟩=>?_
   subst eb
   have S7:=S5.same s7'
   have E7:=E6.same s7'
   have hg4:∀ d,g d env4=g d (Tt cap (N'.length - cap.length) env):=fun d=>by rw[hg2 _ d _ _ e4]
   cases ok with
   |false =>
    rw[Aml Am1] at hc3
    have pin7:=fun p hp=>I7.pin p (Amu _ hp)
    refine Ak2 ⟨w.all.length - (i+1),by lia,.mk hlt (I7.pins_of (fun p hp=>by simp at hp)) (T.keep _ _ _ st5 fun b hb o e=>(pin7 (b,o) (pits b o hb e)).1) (fun b hb=>?_) ((s3'.trans s5').trans s7') (pin7 _ pacc).2.1 E7 hg4 (pin7 _ pacc).1 rv3 (rr3.same (s5'.trans s7')) hc3 hz3 (Nat.le_succ_of_le hl3)⟩
    obtain⟨o,e,_⟩:=T.obj _ _ st5 b hb
    exact (pin7 (b,o) (pits b o hb e)).2.1
   |true =>
    rw[Amf rfl] at hc3
    obtain⟨y,e6,hc3⟩:=bind_some hc3
    obtain⟨rs',e7,hc3⟩:=bind_some hc3
    cases hc3
    refine Ak3 (thn (he cl C s2 H2 fp (X.pn++pins) (hΦ I2) ps s7 σ6 H7 (fun v H'=>Same H7 H'/\Rep X.K H' μ (·∈μ) y v) I7 ⟨env4,μ,m,y,S7,E7,e6,fun v H' s r=>⟨s,r⟩⟩) fun u8 s8 ⟨x8,H8,I8,r8,s8',rx8⟩=>?_)
    have pin8:=fun p hp=>I8.pin p (Amu _ hp)
    have e8:=(pin8 _ pacc).1
    have hil:its.length<=i:=by rw[<- rv3.length,<- rr3.length];exact hl3
    have hsl:sizeLine=16777216:=Aoc
    refine call_meets F.slot_list_append ⟨_,e8,rfl⟩ F.entry_list_append (F.args_list_append_2 _ _) (PySem.list_append Dd its.toArray na u8 (by rw[Al8];lia)) ⟨e8,?_⟩
    obtain⟨na',q9⟩:∃ na',(s8.heap.update Dd (Obj.mapSeq fun a=>a.push u8)).get? Dd=some { cls:=.type "list",data:=.seq (its++[u8]).toArray na' }:=by
     have q9:=PySem.IsL.update e8 (fun a=>a.push u8)
     have ea:(its.toArray.push u8)=(its++[u8]).toArray:=by simp
     rw[ea] at q9
     exact⟨_,q9⟩
    have I8':Inv (Ay X N' scope cl C s2 H2 fp (X.pn++pins)) [] σ6 H8 s8:=I8.pins_of (fun p hp=>by simp at hp)
    have I9:=I8'.turned (it:=Dd) (t':=s8.toks) (h':=s8.heap.update Dd (Obj.mapSeq fun a=>a.push u8)) (fun b o hb e=>(Heap.get?_update_other s8.heap _ (Ne.symm hb)).trans e) (pin8 _ pacc).2.1 hDne (.inr hDs) hDcell (fun p hp=>hDpn p (by
     have hp:p∈(X.pn++pins)++[]:=hp
     simpa using hp))
    refine⟨w.all.length - (i+1),by lia,.mk (na:=na') hlt I9 (T.keep _ _ _ st5 fun b hb o e=>?_) (fun b hb=>?_) (((s3'.trans s5').trans s7').trans s8') (pin8 _ pacc).2.1 (E7.same s8') hg4 ?_ (rv3.append (.cons r8 .nil)) ((rr3.same ((s5'.trans s7').trans s8')).append (.cons rx8 .nil)) e7 (by rw[<- hz3];simp) (by rw[Amn];simp;lia)⟩
    ·exact (Heap.get?_update_other s8.heap _ (Ne.symm (fdc b hb).2)).trans (pin8 (b,o) (pits b o hb e)).1
    ·obtain⟨o,e,_⟩:=T.obj _ _ st5 b hb
     exact (pin8 (b,o) (pits b o hb e)).2.1
    ·exact q9
  ·have e:i=w.all.length:=by lia
   subst e
   rw[List.drop_length] at hc3
   cases hc3
   rw[Ang] at hz3
   subst hz3
   refine thn (T.done (Ay X N' scope cl C s2 H2 fp (X.pn++pins)) rfl rfl rfl hc _ _ s3 σ3 H3 _ I3p (fpY fr3 pfp) st3 (hsrc.stop H3 μ m S3 src3 hck)) fun r s4 ⟨hr,I4⟩=>?_
   subst hr
   have e4:=(I4.pin (Dd,_) (Amu _ (List.mem_singleton.mpr rfl))).1
   have hyl:ys.length<=sizeLine:=by rw[<- rr3.length];exact big (Amv hl3 hsz)
   have inv:∀ h',(∀ b o,b≠C->s4.heap.get? b=some o->h'.get? b=some o)->Inv X pins σ (upd H3 Dd (.lst ys)) { s4 with heap:=h' }:=fun h' hk=>by
    have nC:∀ b o,s2.heap.get? b=some o->b≠C/\b≠Dd:=fun b o e=>below b (by rw[<- hDd];exact Al9 e)
    have un:Un (frs X.stack) fp H2 H3 s2.heap s4.heap:=I4.base
    refine I2.call' (s':={ s4 with heap:=h' }) (ch:=fp) I4.os ⟨fun b o e n hb hx=>hk b o (nC b o e).1 (un.keep b o e n hb hx),fun b o e n hb hx=>?_,fun b o e n hx=>?_,fun b o e hx=>?_,fun b xs e=>?_,fun b o v e=>?_,fun b ps e=>?_⟩ (fun b v e=>?_) I4.bare fun b hb=>?_
    ·obtain⟨sl,q⟩:=un.slot b o e n hb hx
     exact⟨sl,hk b _ (nC b o e).1 q⟩
    ·rw[Az (nC b o e).2];exact un.free b o e n hx
    ·obtain⟨o',q⟩:=un.there b o e hx
     exact⟨o',hk b _ (nC b o e).1 q⟩
    ·rw[Az (Ar e hDn)];exact un.tups b xs e
    ·rw[Az (Ar e hDn)];exact un.frzs b o v e
    ·obtain⟨more,q⟩:=un.tbls b ps e
     exact⟨more,by rw[Az (Ar e hDn)];exact q⟩
    ·have hCfree:H3 C=none:=I4.free
     by_cases hbD:b=Dd
     ·subst hbD
      rw[A8] at e
      cases e
      exact⟨hyl,its,na,rv3,hk _ _ hDC e4⟩
     ·rw[Az hbD] at e
      refine (I4.hok b v e).stay (fun c o hc q=>hk c o ?_ q) (fun c q=>by rw[Az (Ar q hD3)];exact q) (fun c xs q=>Rd.upd_none hD3 q) fun c x u q=>by rw[Az (Ar q hD3)];exact q
      rcases hc with rfl|hc
      ·exact Ar e hCfree
      ·exact Ar hc hCfree
    ·obtain⟨q0,q1,q2,q3,q4,q5⟩:=f2 b hb
     exact⟨q3,q1,q4,q5⟩
   have hCl:C≠X.env.locals:=fun z=>absurd I2.lt (by rw[<- z,hDd];exact Nat.not_lt.mpr hCle)
   have hCc':∀ x c,X.env.cells.lookup x=some c->c≠C:=fun x c e z=>by
    obtain⟨v,oc,ho,_⟩:=I2.cell x c e
    exact absurd (Al9 ho) (by rw[z,hDd];exact Nat.not_lt.mpr hCle)
   refine hQ Dd C s4 ⟨⟨upd H3 Dd (.lst ys),ys,(hS2.trans s3').trans (A6 hD3),hS2.free hDn,A8,rr3.fresh hD3,inv s4.heap fun _ _ _ e=>e,by rw[Az hDC.symm];exact I4.free,fun σ' s'' h' J sb=>?_⟩,?_,hCl,hCc'⟩
   ·exact J.turned (it:=C) (t':=s''.toks) (fun b o hb e=>(sb.2 b hb).trans e) (by rw[Az hDC.symm];exact I4.free) hCl (.inr (Amv I2.sz (by rw[hDd];exact hCle))) hCc' fun p hp z=>absurd (Al9 (I2.pin p hp).1) (by rw[z,hDd];exact Nat.not_lt.mpr hCle)
   obtain⟨m',hm,_⟩:=I4.loc
   exact⟨m',hm⟩
 exact codeAny_compStart_list (key _ rfl) (T.self _ 0 _ _ _ (T.keep _ _ _ st2 fun b hb o e=>hkp b o e) (key _ rfl))
theorem Zo (ok:CompOk X scope cap N') (hc:X.calm=true) (hi:PW' X tg iter fw) (hg2:∀ d d' env e1,g d env=some e1->g d' e1=g d' env)
  {Φ:Hp->Prop} (hΦ:∀ {pins:List (Addr×Obj)}{σ:St}{H:Hp}{s:Shared},Inv X pins σ H s->Φ H) (hg:∀ cl C s₀ H₀ ex pn,Φ H₀->PGD (Ay X N' scope cl C s₀ H₀ ex pn) tg g) (ht:∀ cl C s₀ H₀ ex pn,Φ H₀->PTs (Ay X N' scope cl C s₀ H₀ ex pn) ifs t) (he:∀ cl C s₀ H₀ ex pn,Φ H₀->PD (Ay X N' scope cl C s₀ H₀ ex pn) elt fe)
  (hs:∀ x,foldedSetIterable iter X.env x=pure x):PF X (.ListComp elt [⟨tg,iter,ifs,0⟩] scope pos) (Ci cap (N'.length - cap.length) fw g t fe):=by
 intro pins s σ H Q I ⟨env,μ,m,zs,S,E,h,q⟩
 rw[eval_ListComp]
 refine Iq ok hc hi hg2 hΦ hg ht he hs I S E h fun D C s' ⟨⟨H',ys,h1,h2,h3,h4,h5,h6,h7⟩,⟨mm,hm⟩,_,_⟩=>?_
 exact⟨mm,hm,fun h' sb=>⟨.ref D,H',h7 σ s' h' h5 sb,rfl,q D ys H' h1 h2 h3 h4⟩⟩
variable {x:Str}{p' spos:Pos}{i:Nat}
theorem Ue (ok:CompOk X scope cap N') (hc:X.calm=true) (hi:PW' X tg iter fw) (hg2:∀ d d' env e1,g d env=some e1->g d' e1=g d' env)
  {Φ:Hp->Prop} (hΦ:∀ {pins:List (Addr×Obj)}{σ:St}{H:Hp}{s:Shared},Inv X pins σ H s->Φ H) (hg:∀ cl C s₀ H₀ ex pn,Φ H₀->PGD (Ay X N' scope cl C s₀ H₀ ex pn) tg g) (ht:∀ cl C s₀ H₀ ex pn,Φ H₀->PTs (Ay X N' scope cl C s₀ H₀ ex pn) ifs t) (he:∀ cl C s₀ H₀ ex pn,Φ H₀->PD (Ay X N' scope cl C s₀ H₀ ex pn) elt fe)
  (hs:∀ x,foldedSetIterable iter X.env x=pure x) (hsw:swapsWith (.ListComp elt [⟨tg,iter,ifs,0⟩] scope pos) (some (.Name x p')) spos.line X.env=pure true) (hN:X.N.Nodup) (hn:X.N[i]?=some x) (hx:Loc X.env.scope x) (hf:X.fn x=true\/X.env.scope.names.lookup x=some .local) :
  PS X (.Assign [.Name x p'] (.ListComp elt [⟨tg,iter,ifs,0⟩] scope pos) spos) (Ahz (tF X.K (Ci cap (N'.length - cap.length) fw g t fe)) (Ur i)):=by
 intro pins s σ H Dn I ⟨env,μ,m,zs,S,E,h,q⟩
 rw[exec_Assign_Name_used _ _ _ _ hsw]
 refine Al2 (wpAny_standAt (Al2 ?_))
 show wpAny _ X.A (do let _ <- comprehension (.ListComp elt [⟨tg,iter,ifs,0⟩] scope pos) scope X.env _ (newList []) false (eval iter X.env) (some (assign (.Name x p') X.env))) _ _ s
 refine Al2 (An6 (Iq ok hc hi hg2 hΦ hg ht he hs (use:=some (assign (.Name x p') X.env)) (Q:=fun _ s'=>SP X pins Dn .next s') I S E h fun D C s' ⟨⟨H',ys,h1,h2,h3,h4,h5,h6,h7⟩,⟨mm,hm⟩,lc,cc⟩=>?_) (fun _ s' hq=>Al3 (Al3 hq)) fun _ _ e=>e)
 show wpAny _ X.A (assign (.Name x p') X.env (.ref D)) _ _ _
 refine wpAny_assign_Name (M8 (v:=.ref D) h5 hN hn hx rfl (fun s'' I'' ⟨a,sb,ha⟩=>?_) hf)
 refine⟨mm,hm.sameBut sb ?_,fun h' sb'=>⟨_,H',h7 _ s'' h' I'' sb',q D ys H' h1 h2 h3 h4⟩⟩
 rcases ha with ha|ha
 ·rw[ha];exact lc
 ·exact (cc x a ha).symm
theorem Ac5 (ok:CompOk X scope cap N') (hc:X.calm=true) (hi:PW' X tg iter fw) (hg2:∀ d d' env e1,g d env=some e1->g d' e1=g d' env)
  (hg:∀ cl C s₀ H₀ ex pn,PGD (Ay X N' scope cl C s₀ H₀ ex pn) tg g) (ht:∀ cl C s₀ H₀ ex pn,PTs (Ay X N' scope cl C s₀ H₀ ex pn) ifs t) (he:∀ cl C s₀ H₀ ex pn,PD (Ay X N' scope cl C s₀ H₀ ex pn) elt fe)
  (hs:∀ x,foldedSetIterable iter X.env x=pure x):PF X (.ListComp elt [⟨tg,iter,ifs,0⟩] scope pos) (Ci cap (N'.length - cap.length) fw g t fe) :=
 Zo (Φ:=fun _=>True) ok hc hi hg2 (fun _=>trivial) (fun a b c d e f _=>hg a b c d e f) (fun a b c d e f _=>ht a b c d e f) (fun a b c d e f _=>he a b c d e f) hs
theorem Yo (ok:CompOk X scope cap N') (hc:X.calm=true) (hi:PW' X tg iter fw) (hg2:∀ d d' env e1,g d env=some e1->g d' e1=g d' env)
  (hg:∀ cl C s₀ H₀ ex pn,PGD (Ay X N' scope cl C s₀ H₀ ex pn) tg g) (ht:∀ cl C s₀ H₀ ex pn,PTs (Ay X N' scope cl C s₀ H₀ ex pn) ifs t) (he:∀ cl C s₀ H₀ ex pn,PD (Ay X N' scope cl C s₀ H₀ ex pn) elt fe)
  (hs:∀ x,foldedSetIterable iter X.env x=pure x) (hsw:swapsWith (.ListComp elt [⟨tg,iter,ifs,0⟩] scope pos) (some (.Name x p')) spos.line X.env=pure true) (hN:X.N.Nodup) (hn:X.N[i]?=some x) (hx:Loc X.env.scope x) (hf:X.fn x=true\/X.env.scope.names.lookup x=some .local) :
  PS X (.Assign [.Name x p'] (.ListComp elt [⟨tg,iter,ifs,0⟩] scope pos) spos) (Ahz (tF X.K (Ci cap (N'.length - cap.length) fw g t fe)) (Ur i)) :=
 Ue (Φ:=fun _=>True) ok hc hi hg2 (fun _=>trivial) (fun a b c d e f _=>hg a b c d e f) (fun a b c d e f _=>ht a b c d e f) (fun a b c d e f _=>he a b c d e f) hs hsw hN hn hx hf
theorem Zw (h:PS X (.Assign [.Name x p'] (.ListComp elt [⟨tg,iter,ifs,0⟩] scope pos) spos) (Ahz (tF X.K (Ci cap (N'.length - cap.length) fw g t fe)) (Ur i))) :
  PSD X (.Assign [.Name x p'] (.ListComp elt [⟨tg,iter,ifs,0⟩] scope pos) spos) (B0 i (B2 (Ci cap (N'.length - cap.length) fw g t fe))):=PS.imp h fun D σ H ⟨env,μ,m,o,S,E,h,q⟩=>by
 obtain⟨d,h1,h2⟩:=bind_some h
 obtain⟨ds,h0,h1⟩:=bind_some h1
 cases h1
 cases h2
 exact⟨env,μ,m,ds,S,E,h0,fun a xs H' s hn ha r=>q _ H' μ (Step.of_same s) (S.same s) ((E.same s).set i (.lst (.inl ha) (S.nnone hn) r.unw))⟩
end
end
end ML
end L2
end S_ML7
section S_ML8
namespace L2
namespace ML
open PySem PySem.Spec PyProof.Rows
open Classical
noncomputable section
noncomputable def Its (x:Str):It:=⟨fun i _=>i < x.cps.size,fun i H v H'=>H'=H/\∃ c,x.cps[i]?=some c/\v=.str ⟨#[c]⟩,fun i _=>x.cps.size<=i⟩
theorem Aad {P:Program}{w:World}{K:W.Frag}{tg:Expr} (it:Addr) (ty:String) (x:Str) (t:Tok) (hty:ty="str_ascii_iterator"\/ty="str_iterator"):Turn P w K tg (Its x) [it] it (fun i h=>h.IsStrIter it ty x t i) where
 mem:=by simp
 obj:=fun i h st b hb=>by
  have e:b=it:=by simpa using hb
  subst e
  obtain⟨o,e,c,d⟩:=st
  exact⟨o,e,fun v z=>by rw[d] at z;cases z⟩
 keep:=fun i h h' st k=>by
  obtain⟨o,e,c,d⟩:=st
  exact⟨o,k it (by simp) o e,c,d⟩
 item:=by
  intro X hP hw hK hc i pins s σ H E I hf st hg
  subst hP hw hK
  obtain⟨f0,f1,f2,f3,f4,f5⟩:=hf it (by simp)
  have hi:i < x.cps.size:=hg
  have hx:x.cps[i]?=some x.cps[i]:=by simp[hi]
  have fin:∀ h',h'.IsStrIter it ty x t (i+1)->Heap.SameBut it s.heap h'->∃ u,some (Value.str ⟨#[x.cps[i]]⟩ s.toks)=some u /\
    wpAny (model X.prog X.w) X.A (letOwnedTupleGo tg (.ref it) u) (fun _ s2=>∃ y H',Inv X pins σ H' s2/\RelV y u/\(Its x).yld i H y H'/\s2.heap.IsStrIter it ty x t (i+1)/\∀ b∈[it],H' b=none) E { s with heap:=h',toks:=s.toks+1 }:=fun h' st' sb=>by
   have I1:Inv X pins σ H { s with heap:=h',toks:=s.toks+1 }:=I.turned (fun b o hb e=>(sb.2 b hb).trans e) f0 f1 f3 f4 f5
   obtain⟨o,e,c,d⟩:=id st'
   refine⟨_,rfl,Yz (s:={ s with heap:=h',toks:=s.toks+1 }) e c d (by rcases hty with rfl|rfl<;>decide) ⟨.str ⟨#[x.cps[i]]⟩,H,I1,⟨_,rfl⟩,⟨rfl,_,hx,rfl⟩,st',fun b hb=>(hf b hb).1⟩⟩
  rcases hty with rfl|rfl
  ·exact wpAny_pyNext_ascii_item st hx fun h' st' sb=>fin h' st' sb
  ·exact wpAny_pyNext_wide_item st hx fun h' st' sb=>fin h' st' sb
 done:=by
  intro X hP hw hK hc i pins s σ H E I hf st hg
  subst hP hw hK
  obtain⟨f0,f1,f2,f3,f4,f5⟩:=hf it (by simp)
  have hi:x.cps.size<=i:=hg
  rcases hty with rfl|rfl
  ·exact wpAny_pyNext_ascii_end (I.ok.hd hc) st (by simp[hi]) fun h' eb=>⟨rfl,I.turned (t':=s.toks) (fun b o hb e=>eb b o hb e) f0 f1 f3 f4 f5⟩
  ·exact wpAny_pyNext_wide_end (I.ok.hd hc) st (by simp[hi]) fun h' eb=>⟨rfl,I.turned (t':=s.toks) (fun b o hb e=>eb b o hb e) f0 f1 f3 f4 f5⟩
 self:=fun _ _ _ _ _ st h=>by
  rcases hty with rfl|rfl
  ·exact wpAny_pyIter_striter_ascii st h
  ·exact wpAny_pyIter_striter_wide st h
noncomputable def Ds (z:Str):List D:=z.cps.toList.map fun c=>.str ⟨#[c]⟩
theorem Ad9 {K:W.Frag}{z:Str} (ok:PyData.strOk z=true):Src K (Its z) (Ds z) Bv (fun _ _ _=>True) where
 go:=fun H μ m i d S h _ e=>by
  unfold Ds at e
  rw[Amo] at e
  cases q:z.cps.toList[i]? with
  |none=>rw[q] at e;cases e
  |some c =>
   rw[q] at e
   cases e
   have hi:i < z.cps.size:=by simpa using (List.getElem?_eq_some_iff.mp q).1
   have q':z.cps[i]?=some c:=by simpa using q
   refine⟨hi,fun x H' ⟨h1,c',h2,h3⟩=>?_⟩
   subst h1
   subst h3
   rw[q'] at h2
   cases h2
   exact⟨Same.refl _,.str _ (Ht ok fun c' hc=>by rw[show c'=c by simpa using hc];exact Amk q)⟩
 stop:=fun H μ m S h _=>by show z.cps.size<=(Ds z).length;unfold Ds;simp
 keep:=fun H μ m H' μ' m' h S st S'=>trivial
section
variable {X:Cx}{a b c e o':Expr}{es:List Expr}{pos p p' apos cpos spos:Pos}{x:Str}{tg:Expr}{id:String}
def Rv (f:FE):FW:=fun env m=>(f env m).bind fun d=>match d with
 |.str z=>some ⟨Ds z,Bv⟩
 |.tup ds=>some ⟨ds,Bv⟩
 |.lst ds=>some ⟨ds,Bv⟩
 |.kl ds=>some ⟨ds,Bv⟩
 |.ref n=>(match m[n]? with
  |some (.lst ds)=>some ⟨ds,fun m'=>m'[n]?=some (.lst ds)⟩
  |_=>none)
 |_=>none
theorem Ahb {f:FE} (h:PD X e f):PW' X tg e (Rv f):=by
 intro pins s σ H R I hw
 obtain⟨env,μ,m,w,S,E,hw,q⟩:=hw
 obtain⟨d,h1,h2⟩:=bind_some hw
 refine thn (h pins s σ H (fun v H1=>Same H H1/\Rep X.K H1 μ (·∈μ) d v) I ⟨env,μ,m,d,S,E,h1,fun v H1 s1 r1=>⟨s1,r1⟩⟩) fun u s1 ⟨v,H1,I1,r1,s1',rx⟩=>?_
 have lst:∀ {a:Addr}{xs:List V},u=.ref a->SqL X.K H1 a xs->R (Itl X.K a) H1->wpAny (model X.prog X.w) X.A (pyIter u) (PIE X pins σ tg R) X.xe s1:=fun {a xs} e hq hR=>by
  subst e
  obtain⟨its,rv,p,hz⟩:=I1.list hq
  refine wpAny_pyIter_list p.isList ?_
  refine⟨s1.heap.objs.size,[s1.heap.objs.size],_,_,H1,rfl,I1.kept (t':=s1.toks) fun b o e=>Al5 _ e,Xc a _,⟨_,Amp _ rfl,rfl,rfl⟩,fun b hb=>?_,hR⟩
  have e:b=s1.heap.objs.size:=by simpa using hb
  subst e
  exact I1.fpOk (Al7 _) (I1.hok.fresh (Al7 _))
 have rx0:=rx
 cases rx with
 |str z ok =>
  cases h2
  obtain⟨t,rfl⟩:=r1
  have fin:∀ ty,(ty="str_ascii_iterator"\/ty="str_iterator")->PIE X pins σ tg R (.ref s1.heap.objs.size) { s1 with heap:=s1.heap.push { cls:=.type ty,data:=.fields #[.str z t,.int 0 0] } }:=fun ty hty=>by
   refine⟨s1.heap.objs.size,[s1.heap.objs.size],_,_,H1,rfl,I1.kept (t':=s1.toks) fun b o e=>Al5 _ e,Aad _ ty z t hty,⟨_,Amp _ rfl,rfl,rfl⟩,fun b hb=>?_,q H1 _ _ s1' (Ad9 ok) trivial⟩
   have e:b=s1.heap.objs.size:=by simpa using hb
   subst e
   exact I1.fpOk (Al7 _) (I1.hok.fresh (Al7 _))
  cases ha:z.cps.all (· < 128)
  ·exact wpAny_pyIter_wide ha (fin _ (.inr rfl))
  ·exact wpAny_pyIter_ascii ha (fin _ (.inl rfl))
 |@tup ds a xs hq rs =>
  cases h2
  cases r1
  obtain⟨its,rv,p,hz⟩:=I1.tuple hq
  refine wpAny_pyIter_tuple (show s1.heap.IsTuple a its.toArray from p) ?_
  refine⟨s1.heap.objs.size,[s1.heap.objs.size],_,_,H1,rfl,I1.kept (t':=s1.toks) fun b o e=>Al5 _ e,Ts a _,⟨_,Amp _ rfl,rfl,rfl⟩,fun b hb=>?_,q H1 _ _ s1' Aea rx0⟩
  have e:b=s1.heap.objs.size:=by simpa using hb
  subst e
  exact I1.fpOk (Al7 _) (I1.hok.fresh (Al7 _))
 |@lst ds a xs hq _ rs=>cases h2;exact lst r1 (.inl hq) (q H1 _ _ s1' Ad7 rx0)
 |@kl ds a xs hq rs=>cases h2;exact lst r1 hq.sq (q H1 _ _ s1' Aho rx0)
 |dic _ _ _ _=>cases h2
 |dks _ _ _ _=>exact Ae h2
 |fn _=>exact Ae h2
 |@ref n a e =>
  simp only at h2
  cases q':m[n]? with
  |none=>simp[q'] at h2
  |some ob =>
   simp only[q'] at h2
   cases ob with
   |dcs _ _=>cases h2
   |dct _ _=>cases h2
   |lst ds =>
    cases h2
    obtain⟨xs,e1,rs⟩:=(S.same s1').obj n a _ e q'
    exact lst r1 (SqL.of e1) (q H1 _ _ s1' Ad8 e)
 |non=>exact Ae h2
 |bl _=>exact Ae h2
 |int _=>exact Ae h2
theorem Sim.write {K:W.Frag}{H:Hp}{μ:List Addr}{m:MH}{n:Nat}{a:Addr}{ds es:List D}{ys:List V} (S:Sim K H μ m) (h1:μ[n]?=some a) (h2:m[n]?=some (.lst ds)) (r:Reps K H μ (·∈μ) es ys) :
  Step H μ (upd H a (.lst ys)) μ/\Sim K (upd H a (.lst ys)) μ (m.set n (.lst es))/\∀ {d:D}{v:V},Rep K H μ (·∈μ) d v->Rep K (upd H a (.lst ys)) μ (·∈μ) d v:=by
 have ha:a∈μ:=Amk h1
 have st:Step H μ (upd H a (.lst ys)) μ:=⟨⟨[],by simp,by simp⟩,fun b o e hb=>by rw[Az fun z=>hb (by rw[z];exact ha)];exact e⟩
 have nl:n < m.length:=(List.getElem?_eq_some_iff.mp h2).1
 refine⟨st,⟨S.nd,by simp[S.len],fun j b o h3 h4=>?_⟩,fun r=>r.step S st⟩
 by_cases hj:j=n
 ·subst hj
  rw[h1] at h3
  cases h3
  rw[Ano nl] at h4
  cases h4
  exact⟨ys,A8,r.step S st⟩
 ·rw[Aoa (Ne.symm hj)] at h4
  have q:=S.obj j b o h3 h4
  have hb:b≠a:=fun z=>hj (by
   subst z
   exact (List.getElem_inj S.nd).mp ((List.getElem?_eq_some_iff.mp h3).2.trans (List.getElem?_eq_some_iff.mp h1).2.symm))
  cases o with
  |lst fs=>obtain⟨zs,q1,q2⟩:=q;exact⟨zs,by rw[Az hb];exact q1,q2.step S st⟩
  |dcs ks vs=>obtain⟨zs,q1,q2,q3⟩:=q;exact⟨zs,by rw[Az hb];exact q1,q2,q3.step S st⟩
  |dct ks vs=>obtain⟨zs,q1,q2,q3⟩:=q;exact⟨zs,by rw[Az hb];exact q1,q2,q3.step S st⟩
def Ak0 (X:Cx) (r:V->List V->Hp->VK->Prop) (o:List D->List D->Option (List D)):Prop :=
 ∀ (μ:List Addr) (H:Hp) (a:Addr) (xs vs:List V) (ds es fs:List D) (Q:VK),H a=some (.lst xs)->a∈μ->Reps X.K H μ (·∈μ) ds xs->Reps X.K H μ (·∈μ) es vs->o ds es=some fs->(∀ ys,Reps X.K H μ (·∈μ) fs ys->Q .non (upd H a (.lst ys)))->r (.ref a) vs H Q
noncomputable def Ad3 (o:List D->List D->Option (List D)) (f:FE) (g:FL):FS:=fun env m=>(f env m).bind fun d=>match d with
 |.ref n=>(g env m).bind fun es=>(match m[n]? with
  |some (.lst ds)=>(o ds es).bind fun fs=>some (.nx env (m.set n (.lst fs)))
  |_=>none)
 |_=>none
theorem Adg {r:V->List V->Hp->VK->Prop}{o:List D->List D->Option (List D)}{f:FE}{g:FL}{name:Str} (pa:PlainAttrs "list") (slot:Slot "list" name id) (hty:typeOf (.builtin id)=pure (.type "method_descriptor")) (hm:MtR X id r) (ho:Ak0 X r o) (hf:PD X o' f) (ha:PL X (e::es) g)
  (hbase:attributeBase o' name X.env (eval o' X.env)=eval o' X.env)
  (hfew:((backTo cpos (starEach (e::es) X.env)).all (fun x=>!x.1)&&(backToKw cpos (keywordEach [] X.env)).all (fun x=>x.1.isSome)
   &&decide ((e::es).length+([]:List Keyword).length+(if ([]:List Keyword).isEmpty then 0 else 1) < 30))=true)
  (hline:(apos.endLine == cpos.line)=true) (hs:starEach (e::es) X.env=(false,eval e X.env)::starEach es X.env) (hplain:(backTo cpos (starEach es X.env)).any (·.1)=false) :
  PSD X (.Expr (.Call (.Attribute o' name apos) (e::es) [] cpos) spos) (Ad3 o f g):=PS.imp (Adc (Ake pa slot hty hm hf ha hbase hfew hline hs hplain)) fun D σ H ⟨env,μ,m,ob,S,E,h,q⟩=>by
 obtain⟨d,h1,h⟩:=bind_some h
 refine⟨env,μ,m,d,S,E,h1,fun v H1 s1 r1=>?_⟩
 cases r1 with
 |@ref n a e =>
  simp only at h
  obtain⟨es,h2,h⟩:=bind_some h
  cases q':m[n]? with
  |none=>simp[q'] at h
  |some mo =>
   simp only[q'] at h
   cases mo with
   |dcs _ _=>cases h
   |dct _ _=>cases h
   |lst ds =>
    simp only at h
    obtain⟨fs,h3,h⟩:=bind_some h
    cases h
    obtain⟨xs,e1,rs⟩:=(S.same s1).obj n a _ e q'
    refine⟨.inl ⟨rfl,xs,SqL.of e1⟩,env,μ,m,es,S.same s1,E.same s1,h2,fun vs H2 s2 r2=>?_⟩
    have S2:=S.same (s1.trans s2)
    refine ho μ H2 a xs vs ds es fs _ (s2 _ _ e1) (Amk e) (rs.same s2) r2 h3 fun ys ry=>?_
    obtain⟨st,S3,up⟩:=S2.write e q' ry
    exact q σ _ μ ((Step.of_same (s1.trans s2)).trans st fun c hc=>(s1.trans s2).free hc) S3 ((E.same (s1.trans s2)).step S2 st)
 |_=>exact Ae h
noncomputable def Aci:List D->List D->Option (List D):=fun ds es=>match es with
 |[d]=>if ds.length < 1000000 then some (ds++[d]) else none
 |_=>none
theorem Afx:Ak0 X V3 Aci:=fun μ H a xs vs ds es fs Q h1 ha rs re h q=>by
 match es,h with
 |[d],h =>
  unfold Aci at h
  simp only at h
  split at h
  ·rename_i hl
   cases h
   obtain⟨v,rfl,r⟩:=re.one
   exact⟨a,xs,v,rfl,rfl,h1,by rw[<- rs.length];have:sizeLine=16777216:=Aoc;lia,q _ (rs.append (.cons r .nil))⟩
  ·cases h
def Ir (o o':D->D->MH->Option D) (f g h:FE):FE:=fun env m=>(f env m).bind fun x=>(g env m).bind fun y=>(o x y m).bind fun z=>(asB z).bind fun k=>if k=true then (h env m).bind fun w=>o' y w m else some (.bl false)
theorem Zl (ho:OpM X (compareOp op) o) (ho':OpM X (compareOp op2) o2) (ha:PD X a f) (hb:PD X b g) (hc:PD X c h) (hm:lastMarks [op,op2] [b,c]=false):PD X (.Compare a [op,op2] [b,c] pos) (Ir o o2 f g h):=by
 intro pins s σ H Q I ⟨env,μ,m,d,S,E,h,q⟩
 obtain⟨x,h1,h⟩:=bind_some h
 obtain⟨y,h2,h⟩:=bind_some h
 obtain⟨z,h3,h⟩:=bind_some h
 obtain⟨k,h4,h9⟩:=bind_some h
 cases Jx h4
 refine Compare_chain (thn (ha pins s σ H (fun v H1=>Same H H1/\Rep X.K H1 μ (·∈μ) x v) I ⟨env,μ,m,x,S,E,h1,fun v H1 s r=>⟨s,r⟩⟩) fun v s1 ⟨v1,H1,I1,r1,s1',rx⟩=>chain_link (thn (hb pins s1 σ H1 (fun v H2=>Same H1 H2/\Rep X.K H2 μ (·∈μ) y v) I1 ⟨env,μ,m,y,S.same s1',E.same s1',h2,fun v H1 s r=>⟨s,r⟩⟩) fun u s2 ⟨v2,H2,I2,r2,s2',ry⟩ =>
  thn (ho pins s2 σ H2 μ m x y (.bl k) v1 v2 v u (fun w H3=>w=.bl k/\Same H2 H3) I2 (S.same (s1'.trans s2')) (rx.same s2') ry r1 r2 h3 fun w H3 s3 r3=>⟨by cases r3;rfl,s3⟩) fun d' s3 ⟨w3,H3,I3,r3,e3,s3'⟩=>?_)) hm
 subst e3
 cases r3
 have s':=(s1'.trans s2').trans s3'
 refine Aob ?_
 cases k with
 |false =>
  rw[Aml Am1] at h9
  cases h9
  exact ite_ff ⟨.bl false,H3,I3,rfl,q _ H3 s' (.bl false)⟩
 |true =>
  rw[Amf rfl] at h9
  obtain⟨w,h5,h6⟩:=bind_some h9
  refine ite_tt (chain_last (thn (hc pins s3 σ H3 (fun v H4=>Same H3 H4/\Rep X.K H4 μ (·∈μ) w v) I3 ⟨env,μ,m,w,S.same s',E.same s',h5,fun v H1 s r=>⟨s,r⟩⟩) fun w' s4 ⟨v4,H4,I4,r4,s4',rw'⟩=>?_))
  exact ho' pins s4 σ H4 μ m y w d v2 v4 u w' Q I4 (S.same (s'.trans s4')) ((ry.same s3').same s4') rw' r2 r4 h6 fun w5 H5 s5 r5=>q w5 H5 ((s'.trans s4').trans s5) r5
end
end
end ML
end L2
end S_ML8
section S_ML8a
namespace L2
namespace ML
open PySem PySem.Spec PyProof.Rows
noncomputable def B7:Expr->Bool
 |.Starred ..=>false
 |_=>true
noncomputable def Te:Expr->Bool
 |.ListComp ..=>false|.SetComp ..=>false|.DictComp ..=>false
 |_=>true
noncomputable def Aav:Expr->Bool
 |.UnaryOp ..=>false|.BoolOp ..=>false|.IfExp ..=>false|.Compare ..=>false
 |_=>true
noncomputable def Ak6:Expr->Bool
 |.Slice ..=>false
 |_=>true
noncomputable def Hh:Expr->Bool
 |.Set ..=>false
 |_=>true
noncomputable def Aau:Expr->Bool
 |.Call ..=>false
 |_=>true
theorem Ap (h:B7 e=true):starEach (e::es) env=(false,eval e env)::starEach es env:=by
 cases e<;>first|rfl|cases h
theorem Eb {pos:Pos}{env:Env}:∀ {es:List Expr},es.all B7=true->(backTo pos (starEach es env)).any (·.1)=false
 |[],_=>rfl
 |e::es,h=>by
  rw[Amw,Ami] at h
  rw[Ap h.1]
  have ih:=Eb (pos:=pos) (env:=env) h.2
  unfold backTo at ih ⊢
  rw[Amr,An4,ih]
  rfl
theorem Rp {pos:Pos}{env:Env}:∀ {es:List Expr},es.all B7=true->(backTo pos (starEach es env)).all (fun x=>!x.1)=true
 |[],_=>rfl
 |e::es,h=>by
  rw[Amw,Ami] at h
  rw[Ap h.1]
  have ih:=Rp (pos:=pos) (env:=env) h.2
  unfold backTo at ih ⊢
  rw[Amr,Amw,ih]
  rfl
theorem Aaa {pos:Pos} (h:es.all B7=true) (hl:decide (es.length < 30)=true):((backTo pos (starEach es env)).all (fun x=>!x.1)&&(backToKw pos (keywordEach [] env)).all (fun x=>x.1.isSome)
   &&decide (es.length+([]:List Keyword).length+(if ([]:List Keyword).isEmpty then 0 else 1) < 30))=true:=by
 rw[Rp h]
 have hl:=Am6 hl
 have e:es.length+([]:List Keyword).length+(if ([]:List Keyword).isEmpty then 0 else 1)=es.length:=rfl
 rw[e,Ame hl]
 rfl
theorem Lv {t:Option Expr}{l:Nat} (h:Te e=true):swapsWith e t l env=pure false:=by
 cases e<;>first|rfl|cases h
theorem Aac {e t:Expr}{l:Nat} (h:Te e=true):swapsWithSole [t] e l env=pure false:=Lv h
theorem Tp (h:Aav e=true):∀ whole,isTrue e env whole=(do let v <- whole;standAt e.pos;holding [v] (truthy v)):=by
 intro whole
 cases e<;>first|rfl|cases h
theorem Y5 (h:Ak6 e=true):Nj e:=by
 intro o i
 cases e<;>first|rfl|cases h
theorem Ei (h:Hh e=true):∀ x,foldedSetIterable e env x=pure x:=by
 intro x
 cases e<;>first|rfl|cases h
theorem R3 (h:Aau e=true):attributeBase e n env (eval e env)=eval e env:=by
 cases e<;>first|rfl|cases h
theorem Iw (h:Hh e=true):behindInMarks op e=false:=by
 cases e<;>first|rfl|cases h
open Classical
noncomputable section
def J4 (scope outer:Scope) (N N':List Str) (cap:List Nat):Bool :=
 scope.kind == .function&&scope.names.all (fun y=>y.2 != .cell||scope.names.lookup y.1 == some .cell)&&scope.names.all (fun y=>y.2 != .local||scope.names.lookup y.1 == some .local)
 &&scope.names.all (fun y=>y.2 != .free||(outer.names.lookup y.1 == some .cell||outer.names.lookup y.1 == some .free))&&decide N'.Nodup&&decide (cap.length<=N'.length)
 &&(List.range cap.length).all fun j=>match cap[j]?,N'[j]? with
  |some i,some x=>N[i]? == some x&&scope.names.lookup x == some .free
  |_,_=>false
theorem CompOk.of {cap:List Nat} (h:J4 scope X.env.scope X.N N' cap=true):CompOk X scope cap N':=by
 unfold J4 at h
 simp only[Ami] at h
 obtain⟨⟨⟨⟨⟨⟨h1,h2⟩,h3⟩,h4⟩,h5⟩,h6⟩,h7⟩:=h
 refine⟨by simpa using h1,fun y hy e=>?_,fun y hy e=>?_,fun y hy e=>?_,Am6 h5,Am6 h6,fun j i x e1 e2=>?_⟩
 ·have:=List.all_eq_true.mp h2 y hy
  rw[e] at this
  simpa using this
 ·have:=List.all_eq_true.mp h3 y hy
  rw[e] at this
  simpa using this
 ·have:=List.all_eq_true.mp h4 y hy
  rw[e] at this
  simpa using this
 ·have hj:j < cap.length:=(List.getElem?_eq_some_iff.mp e1).1
  have:=List.all_eq_true.mp h7 j (List.mem_range.mpr hj)
  rw[e1,e2] at this
  simpa using this
theorem C6 (i:Nat):∀ d d' env e1,Bb i d env=some e1->Bb i d' e1=Bb i d' env:=fun d d' env e1 h=>by
 cases h
 unfold Bb
 rw[List.set_set]
structure QD (X:Cx) (e:Expr) (f:FE):Prop where out:PD X e f
structure QF (X:Cx) (e:Expr) (f:FL):Prop where out:PF X e f
structure QB (X:Cx) (e:Expr) (f:FB):Prop where out:PB X e f
structure QWB (X:Cx) (e:Expr) (f:FB):Prop where out:PWB X e f
structure QL (X:Cx) (e:List Expr) (f:FL):Prop where out:PL X e f
structure QO (X:Cx) (e:Option Expr) (f:FO):Prop where out:PO' X e f
structure QS (X:Cx) (e:Stmt) (f:FS):Prop where out:PSD X e f
structure QSs (X:Cx) (e:List Stmt) (f:FS):Prop where out:Xg X e f
structure QG (X:Cx) (e:Expr) (f:FG):Prop where out:PGD X e f
structure QGs (X:Cx) (e:List Expr) (f:List D->A2->Option A2):Prop where out:Aer X e f
structure QW (X:Cx) (tg e:Expr) (f:FW):Prop where out:PW' X tg e f
structure QTs (X:Cx) (e:List Expr) (f:FB):Prop where out:PTs X e f
theorem Ak8 {P:Program}{w:World}{K:W.Frag}{mg:Str->Option Value}{base:Heap}{x qual:Str}{st:Stmt}{f:Addr}{fd:FuncData}{N ps:List Str}{k n:Nat} (F:Fun K x qual st f fd) (S:FnScope N ps (Ao st)) (g:FS) (fn:List D->Option D) (hfn:fn=Ib N.length g) (hn:ps.length=n)
  (hbody:∀ (cdv:Value) (A:Around) (outer:List Env) (s:Shared) (H:Hp) (E:XK),Room k (A.deeper (envOfC qual (Ao st) s.heap.objs.size f cdv)) ->
   QSs (Ug CX0 P w K mg base N qual (Ao st) f cdv A outer s H E).nox (B5 st) g):FnOk P w K mg base CX0 (k+1) f fd ps (spP K n fn):=by
 subst hfn hn
 exact Abs F S fun cdv A outer s H E hr=>(hbody cdv A outer s H E hr).out
theorem De:QTs X [] Nf:=⟨Adn⟩
theorem Ahi (h:QB X c f):QTs X [c] f:=⟨Ado h.out⟩
section
variable {X:Cx}{a b c e:Expr}{es:List Expr}{pos p p' apos cpos spos:Pos}{x:Str}{tg:Expr}{id:String}
theorem Ab {i j}:QD X (.Constant (.int i) j pos) (fC (.int i)):=⟨Agm⟩
theorem Xi {i j}:QD X (.Constant (.bool i) j pos) (fC (.bl i)):=⟨Aj9⟩
theorem Z0 {j}:QD X (.Constant .none j pos) (fC .non):=⟨Ago⟩
theorem Ahh {d:D} (hm:X.mg x=some u) (r:RelV v u) (hr:∀ H,Rep X.K H [] (fun _=>True) d v) (hg:Gl X x:=by unfold Gl;kernel_rfl) (hd:(x == ("__debug__":Str))=false:=by decide):QD X (.Name x pos) (fC d):=⟨Acz hg hm r hr hd⟩
theorem As (ho:OpM X (binaryOp op) o) (ha:QD X a f) (hb:QD X b g):QD X (.BinOp a op b pos) (f2 o f g):=⟨Agk ho ha.out hb.out⟩
theorem Adz {op} (h:QD X a f):QD X (.BoolOp op [a] pos) f:=⟨Agp h.out⟩
theorem Ads (ha:QD X a f) (hb:QD X (.BoolOp .And (b::es) pos) g):QD X (.BoolOp .And (a::b::es) pos) (Nt f g):=⟨Agj ha.out hb.out⟩
theorem Als {t:FB} (hc:QB X c t) (ha:QD X a f) (hb:QD X b g):QD X (.IfExp c a b pos) (fIf t f g):=⟨Aka hc.out ha.out hb.out⟩
theorem Au {x1} (h:QL X es g):QD X (.Tuple es x1 pos) (Bw g):=⟨Ags h.out⟩
theorem Cq (h:QL X es g):QF X (.List es pos) (Bc g):=⟨Ag2 h.out⟩
theorem Cd (h:QF X e g):QD X e (B2 g):=⟨Zm h.out⟩
theorem Ad:QL X [] Af:=⟨Ag4⟩
theorem Bt:QO X none fNo:=⟨Zs⟩
theorem A4 (h:QD X e f):QO X (some e) (B6 f):=⟨Zt h.out⟩
theorem Ad0 {f:FE}{l h:FO}{lo hi:Option Expr} (ha:QD X a f) (hl:QO X lo l) (hh:QO X hi h):QD X (.Subscript a (.Slice lo hi none p) pos) (fSl f l h):=⟨Akc ha.out hl.out hh.out⟩
theorem E8 {f:FE}{l h:FO}{lo hi:Option Expr} (ha:QD X a f) (hl:QO X lo l) (hh:QO X hi h):QF X (.Subscript a (.Slice lo hi none p) pos) (Nc f l h):=⟨Akh ha.out hl.out hh.out⟩
theorem Mv (ha:QD X a f) (hb:QD X b g):QF X (.BinOp a .Add b pos) (Tu f g):=⟨Ag1 ha.out hb.out⟩
theorem Vw (ho:OpM X (compareOp op) o) (ho':OpM X (compareOp op2) o2) (ha:QD X a f) (hb:QD X b g) (hc:QD X c h) (hm:lastMarks [op,op2] [b,c]=false:=by rfl):QD X (.Compare a [op,op2] [b,c] pos) (Ir o o2 f g h):=⟨Zl ho ho' ha.out hb.out hc.out hm⟩
theorem Oa (ha:QB X a f):QWB X (.BoolOp .And [a] pos) f:=⟨Zz ha.out⟩
theorem Mx (ha:QB X a f):QWB X (.BoolOp .Or [a] pos) f:=⟨Adr ha.out⟩
theorem V2 (ha:QB X a f) (hb:QWB X (.BoolOp .And (b::es) pos) g):QWB X (.BoolOp .And (a::b::es) pos) (Aam f g):=⟨Adq ha.out hb.out⟩
theorem Tj (ha:QB X a f) (hb:QWB X (.BoolOp .Or (b::es) pos) g):QWB X (.BoolOp .Or (a::b::es) pos) (fOr f g):=⟨Ahd ha.out hb.out⟩
theorem Dc (h:QWB X (.BoolOp op es pos) f):QB X (.BoolOp op es pos) f:=⟨Acx h.out⟩
theorem Vu (ha:QB X a f):QB X (.UnaryOp .Not a pos) (Abr f):=⟨Agh ha.out⟩
theorem Hl (h:QD X e f):QW X tg e (Rv f):=⟨Ahb h.out⟩
theorem Aa3:QGs X [] Ae8:=⟨Zq⟩
variable {st:Stmt}{rest sa sb:List Stmt}
theorem Be:QSs X [] Ec:=⟨Adi⟩
theorem Ah (h1:QS X st f) (h2:QSs X rest g):QSs X (st::rest) (Br f g):=⟨Zu h1.out h2.out⟩
theorem Al (h1:QS X st f):QSs X [st] f:=⟨Adj h1.out⟩
theorem Aw (he:QD X e f):QS X (.Return (some e) pos) (Cv f):=⟨Adk he.out⟩
theorem N9 (he:QF X e f):QS X (.Return (some e) pos) (Oc f):=⟨Zv he.out⟩
theorem Bu {t:FB} (hc:QB X c t) (ha:QSs X sa f) (hb:QSs X sb g):QS X (.If c sa sb pos) (sIf t f g):=⟨Ag7 hc.out ha.out hb.out⟩
theorem Ai (i:Nat) (hN:X.N[i]?=some x:=by kernel_rfl) (hv:Vis X.env.scope x:=by exact Or.inl (by kernel_rfl)) (hd:(x == ("__debug__":Str))=false:=by decide) (hcd:(x == ("__classdict__":Str))=false:=by decide):QD X (.Name x pos) (Aj i):=⟨Aay i hN hv hd hcd⟩
theorem Vy (i:Nat) (hN:X.N[i]?=some x:=by kernel_rfl) (hv:Vis X.env.scope x:=by exact Or.inr (Or.inl (by kernel_rfl))) (hd:(x == ("__debug__":Str))=false:=by decide) (hcd:(x == ("__classdict__":Str))=false:=by decide):QD X (.Name x pos) (Aj i):=⟨Aay i hN hv hd hcd⟩
theorem Ex {j} (ok:PyData.strOk z=true:=by exact Dt _):QD X (.Constant (.str z) j pos) (fC (.str z)):=⟨Agr ok⟩
theorem Ag (ha:QD X e f) (hr:QL X es g) (hs':B7 e=true:=by rfl):QL X (e::es) (Aa f g):=⟨Ac9 ha.out hr.out (Ap hs')⟩
theorem Mw (ho:OpM X (compareOp op) o) (ha:QD X a f) (hb:QD X b g) (hm':Hh b=true:=by rfl):QD X (.Compare a [op] [b] pos) (f2 o f g):=⟨Agl ho ha.out hb.out (Iw hm')⟩
theorem Aq (ho:OpM X (compareOp op) o) (ha:QD X a f) (hb:QD X b g) (hm':Hh b=true:=by rfl):QB X (.Compare a [op] [b] pos) (A7 (f2 o f g)):=⟨Agg ho ha.out hb.out (Iw hm')⟩
theorem Vv (ha:QD X a f) (he':Aav a=true:=by rfl):QB X a (Aej f):=⟨Agi ha.out (Tp he')⟩
theorem An (ha:QD X a f) (hb:QD X b g) (hs':Ak6 b=true:=by rfl):QD X (.Subscript a b pos) (f2 oIx f g):=⟨Akb ha.out hb.out (Y5 hs')⟩
theorem Bj (hm:X.mg "len"=none) (ha:QL X [e] g) (hg:Gl X "len":=by unfold Gl;kernel_rfl) (he':B7 e=true:=by rfl):QD X (.Call (.Name "len" p) [e] [] pos) (Av Dz g):=⟨Ll Ae7 hg hm boot_len ha.out (by decide) (by decide) (Ap he') rfl⟩
theorem Vx (hc:X.calm=true) (hm:X.mg "all"=none) (ha:QL X [e] g) (hg:Gl X "all":=by unfold Gl;kernel_rfl) (he':B7 e=true:=by rfl):QD X (.Call (.Name "all" p) [e] [] pos) (Av Ach g):=⟨Ll (Ae5 hc) hg hm (by decide +kernel) ha.out (by decide) (by decide) (Ap he') rfl⟩
theorem Ahf (hm:X.mg "int"=none) (ha:QL X [e] g) (hg:Gl X "int":=by unfold Gl;kernel_rfl) (he':B7 e=true:=by rfl):QD X (.Call (.Name "int" p) [e] [] pos) (Av Aen g):=⟨Ms Ae6 hg hm (by decide +kernel) ha.out (by decide) (by decide) (Ap he') rfl⟩
theorem D8 (hm:X.mg "tuple"=none) (ha:QL X [e] g) (hg:Gl X "tuple":=by unfold Gl;kernel_rfl) (he':B7 e=true:=by rfl):QD X (.Call (.Name "tuple" p) [e] [] pos) (Av Ew g):=⟨Ms Yn hg hm (by decide +kernel) ha.out (by decide) (by decide) (Ap he') rfl⟩
theorem Ady (hm:X.mg "list"=none) (ha:QL X [e] g) (hg:Gl X "list":=by unfold Gl;kernel_rfl) (he':B7 e=true:=by rfl):QF X (.Call (.Name "list" p) [e] [] pos) (C9 Zf g):=⟨Vn Abn hg hm (by decide +kernel) ha.out (by decide) (by decide) (Ap he') rfl⟩
theorem Ahg (ha:QD X e f) (hm:X.mg "isinstance"=none) (hm':X.mg y=none) (hv':bootBuiltins y=some (.type U)) (hn:y≠"__name__":=by decide) (hdb:(y == ("__debug__":Str))=false:=by decide) (hg:Gl X "isinstance":=by unfold Gl;kernel_rfl) (hg':Gl X y:=by unfold Gl;kernel_rfl) (he':B7 e=true:=by rfl):QD X (.Call (.Name "isinstance" p) [e,.Name y p'] [] pos) (Afj U f):=⟨Agn ha.out hg hm hg' hm' hv' hn hdb (by decide +kernel) (Ap he') (Ap rfl) (Eb rfl)⟩
theorem Adt {fd:FuncData} (F:FnOk X.prog X.w X.K X.mg X.base CX0 k f fd ps (spP X.K n fn)) (hr:Room k X.A) (hm:X.mg x=some (.ref f)) (hk:W.keepIn X.K (.ref f)=true) (hb:Binds X.K fd ps []) (ha:QL X (e::es) g) (hg:Gl X x:=by unfold Gl;kernel_rfl) (hdb:(x == ("__debug__":Str))=false:=by decide) (he':B7 e=true:=by rfl) (hpl':es.all B7=true:=by rfl) :
  QD X (.Call (.Name x p) (e::es) [] pos) (Av (Ic n fn) g):=⟨Acy F hr hg hm hk hb (Acw (X:=X)) ha.out hdb (Ap he') (Eb hpl')⟩
theorem Adx {fd:FuncData} (F:FnOk X.prog X.w X.K X.mg X.base CX0 k f fd ps (spP X.K n fn)) (hr:Room k X.A) (hm:X.mg x=some (.ref f)) (hk:W.keepIn X.K (.ref f)=true) (hb:Binds X.K fd ps []) (ha:QL X (e::es) g) (hg:Gl X x:=by unfold Gl;kernel_rfl) (hdb:(x == ("__debug__":Str))=false:=by decide) (he':B7 e=true:=by rfl) (hpl':es.all B7=true:=by rfl) :
  QF X (.Call (.Name x p) (e::es) [] pos) (C9 (L9 n fn) g):=⟨Ac4 F hr hg hm hk hb (Acw (X:=X)) ha.out hdb (Ap he') (Eb hpl')⟩
theorem Vz (hf:QD X a f) (ha:QL X [e] g) (hbase':Aau a=true:=by rfl) (hline:(apos.endLine == cpos.line)=true:=by kernel_rfl) (hs':B7 e=true:=by rfl) :
  QS X (.Expr (.Call (.Attribute a "append" apos) [e] [] cpos) spos) (Ad3 Aci f g):=⟨Adg PySem.F.plainAttrs_list PySem.F.slot_list_append PySem.F.type_list_append Vc Afx hf.out ha.out (R3 hbase') (Aaa (by rw[Amw,hs'];rfl) rfl) hline (Ap hs') rfl⟩
theorem A5 (hN:X.N.Nodup) (he:QD X e f) (hi:X.N[i]?=some x:=by kernel_rfl) (hx:Loc X.env.scope x:=by exact Or.inl (by kernel_rfl)) (hs':Te e=true:=by rfl) (hf:X.fn x=true\/X.env.scope.names.lookup x=some .local:=by exact Or.inl (by kernel_rfl)) :
  QS X (.Assign [.Name x p'] e pos) (B0 i f):=⟨Vs hN hi hx he.out (Lv hs') hf⟩
theorem V0 (hN:X.N.Nodup) (he:QD X e f) (hi:X.N[i]?=some x:=by kernel_rfl) (hx:Loc X.env.scope x:=by exact Or.inr (by kernel_rfl)) (hs':Te e=true:=by rfl) (hf:X.fn x=true\/X.env.scope.names.lookup x=some .local:=by exact Or.inl (by kernel_rfl)) :
  QS X (.Assign [.Name x p'] e pos) (B0 i f):=⟨Vs hN hi hx he.out (Lv hs') hf⟩
theorem Ri (hN:X.N.Nodup) (he:QF X e f) (hi:X.N[i]?=some x:=by kernel_rfl) (hx:Loc X.env.scope x:=by exact Or.inl (by kernel_rfl)) (hs':Te e=true:=by rfl) (hf:X.fn x=true\/X.env.scope.names.lookup x=some .local:=by exact Or.inl (by kernel_rfl)) :
  QS X (.Assign [.Name x p'] e pos) (Tv i f):=⟨Adh hN hi hx he.out (Lv hs') hf⟩
theorem Ti (hN:X.N.Nodup) (hi:X.N[i]?=some x:=by kernel_rfl) (hx:Loc X.env.scope x:=by exact Or.inl (by kernel_rfl)) (hf:X.fn x=true\/X.env.scope.names.lookup x=some .local:=by exact Or.inl (by kernel_rfl)):QG X (.Name x pos) (Bb i):=⟨Rf hN hi hx hf⟩
theorem E4 (hN:X.N.Nodup) (hi:X.N[i]?=some x:=by kernel_rfl) (hx:Loc X.env.scope x:=by exact Or.inl (by kernel_rfl)) (hf:X.fn x=true\/X.env.scope.names.lookup x=some .local:=by exact Or.inr (by kernel_rfl)):QG X (.Name x pos) (Bb i):=⟨Rf hN hi hx hf⟩
theorem Em (h1:QG X e g) (h2:QGs X es h) (hs:(assignEach (e::es) X.env).map (·.2)=assign e X.env::(assignEach es X.env).map (·.2):=by kernel_rfl):QGs X (e::es) (J5 g h):=⟨Vo h1.out h2.out hs⟩
theorem Aa4 (hc:X.calm=true) (h:QGs X es g) (hn:(assignEach es X.env).length=n:=by kernel_rfl) (hst:(assignEach es X.env).findIdx? (·.1)=none:=by kernel_rfl):QG X (.Tuple es k pos) (Abp n g):=⟨Ac7 hc h.out hn hst⟩
theorem Aa5 (he:QD X e f) (hg:QG X tg g) (hs':Te e=true:=by rfl) (hw:swappedStores [tg] e X.env=pure none:=by kernel_rfl) (h1:(assignEach [tg] X.env).map (·.2)=[assign tg X.env]:=by kernel_rfl):QS X (.Assign [tg] e pos) (Aep f g):=⟨Ade he.out hg.out (Aac hs') hw h1⟩
theorem Hm {iter:Expr}{body:List Stmt}{f:FW}{g:FG}{b:FS} (hp:PassesOwn (model X.prog X.w) X.A X.env X.xe) (hc:X.calm=true) (hi:QW X tg iter f) (hg:QG X tg g) (hb:QSs X body b)
  (hs':Hh iter=true:=by rfl):QS X (.For tg iter body [] pos) (Xj f g b):=⟨Adf hp hc hi.out hg.out hb.out (Ei hs')⟩
theorem My (hm:X.mg "range"=none) (ha:QL X [a] g) (hg:Gl X "range":=by unfold Gl;kernel_rfl) (hs':B7 a=true:=by rfl):QW X tg (.Call (.Name "range" p) [a] [] pos) (Hx g):=⟨Vt hg hm ha.out (Ap hs')⟩
variable {elt iter:Expr}{ifs:List Expr}{scope:Scope}{fw:FW}{g:FG}{t:FB}{fe:FE}
theorem Cp (cap:List Nat) (N':List Str) (hc:X.calm=true) (hi:QW X tg iter fw) (hg2:∀ d d' env e1,g d env=some e1->g d' e1=g d' env)
  (hg:∀ cl C s₀ H₀ ex pn,QG (Ay X N' scope cl C s₀ H₀ ex pn) tg g) (ht:∀ cl C s₀ H₀ ex pn,QTs (Ay X N' scope cl C s₀ H₀ ex pn) ifs t) (he:∀ cl C s₀ H₀ ex pn,QD (Ay X N' scope cl C s₀ H₀ ex pn) elt fe)
  (ok:J4 scope X.env.scope X.N N' cap=true:=by kernel_rfl) (hs':Hh iter=true:=by rfl):QF X (.ListComp elt [⟨tg,iter,ifs,0⟩] scope pos) (Ci cap (N'.length - cap.length) fw g t fe):=⟨Ac5 (CompOk.of ok) hc hi.out hg2 (fun cl C s H ex pn=>(hg cl C s H ex pn).out) (fun cl C s H ex pn=>(ht cl C s H ex pn).out) (fun cl C s H ex pn=>(he cl C s H ex pn).out) (Ei hs')⟩
theorem Rh (cap:List Nat) (N':List Str) (hN:X.N.Nodup) (hc:X.calm=true) (hi:QW X tg iter fw) (hg2:∀ d d' env e1,g d env=some e1->g d' e1=g d' env) (hg:∀ cl C s₀ H₀ ex pn,QG (Ay X N' scope cl C s₀ H₀ ex pn) tg g) (ht:∀ cl C s₀ H₀ ex pn,QTs (Ay X N' scope cl C s₀ H₀ ex pn) ifs t) (he:∀ cl C s₀ H₀ ex pn,QD (Ay X N' scope cl C s₀ H₀ ex pn) elt fe) (ok:J4 scope X.env.scope X.N N' cap=true:=by kernel_rfl) (hs':Hh iter=true:=by rfl) (hn:X.N[i]?=some x:=by kernel_rfl) (hx:Loc X.env.scope x:=by exact Or.inl (by kernel_rfl)) (hf:X.fn x=true\/X.env.scope.names.lookup x=some .local:=by exact Or.inl (by kernel_rfl)) (hsw:swapsWith (.ListComp elt [⟨tg,iter,ifs,0⟩] scope pos) (some (.Name x p')) spos.line X.env=pure true:=by kernel_rfl):QS X (.Assign [.Name x p'] (.ListComp elt [⟨tg,iter,ifs,0⟩] scope pos) spos) (B0 i (B2 (Ci cap (N'.length - cap.length) fw g t fe))):=⟨Zw (Yo (CompOk.of ok) hc hi.out hg2 (fun cl C s H ex pn=>(hg cl C s H ex pn).out) (fun cl C s H ex pn=>(ht cl C s H ex pn).out) (fun cl C s H ex pn=>(he cl C s H ex pn).out) (Ei hs') hsw hN hn hx hf)⟩
end
end
end ML
end L2
end S_ML8a
section S_ML10
namespace L2
namespace ML
open PySem PySem.Spec PyProof.Rows
section
variable {X:Cx}{a b c e e' o':Expr}{es:List Expr}{pos p p' apos cpos spos:Pos}{x:Str}
noncomputable def Alr:D->MH->Option D:=fun x _=>match x with
 |.int i=>some (.int (-i))
 |_=>none
theorem Akm (ha:QD X a f):QD X (.UnaryOp .USub a pos) (f1 Alr f):=⟨PE.imp (Akg Ah4 ha.out) fun σ H Q ⟨env,μ,m,d,S,E,h,q⟩=>by
 obtain⟨x,h1,h2⟩:=bind_some h
 refine⟨env,μ,m,x,S,E,h1,fun v H' s r=>?_⟩
 cases r<;>first|(cases h2;done)|skip
 cases h2
 exact⟨_,rfl,q _ H' s (.int _)⟩⟩
noncomputable def Hn {α:Type} (xs:List α) (n:Nat):List α:=(List.replicate n xs).flatten
theorem Ad1 {xs:List Value}{n:Nat}:List.foldl (fun x1 x2=>x1++x2) #[] (List.replicate (if xs.toArray.isEmpty=true then 0 else n) xs.toArray)=(Hn xs n).toArray:=by
 have gen:∀ (k:Nat) (acc:Array Value),List.foldl (fun x1 x2=>x1++x2) acc (List.replicate k xs.toArray)=acc++(Hn xs k).toArray:=by
  intro k
  induction k with
  |zero=>intro acc;simp[Hn]
  |succ k ih=>intro acc;rw[List.replicate_succ,List.foldl_cons,ih];simp[Hn,List.replicate_succ]
 cases xs with
 |nil=>simp[Hn]
 |cons y ys=>rw[Aml (by simp),gen];simp
theorem Vals.rep (r:Vals xs us) (n:Nat):Vals (Hn xs n) (Hn us n):=by
 unfold Hn
 induction n with
 |zero=>exact .nil
 |succ k ih=>rw[List.replicate_succ,List.replicate_succ,List.flatten_cons,List.flatten_cons];exact Vals.append r ih
theorem Reps.rep {K:W.Frag}{H:Hp}{μ:List Addr}{B:Addr->Prop}{ds:List D}{vs:List V} (r:Reps K H μ B ds vs) (n:Nat):Reps K H μ B (Hn ds n) (Hn vs n):=by
 unfold Hn
 induction n with
 |zero=>exact .nil
 |succ k ih=>rw[List.replicate_succ,List.replicate_succ,List.flatten_cons,List.flatten_cons];exact Reps.append r ih
theorem Ho:(Hn xs n).length=xs.length * n:=by
 unfold Hn
 induction n with
 |zero=>rfl
 |succ k ih=>rw[List.replicate_succ,List.flatten_cons,Amn,ih,Nat.mul_succ];lia
theorem Agc:OpR X (binaryOp .Mult) (fun x y H Q=>∃ l xs i,x=.ref l/\y=.int i/\H l=some (.lst xs)/\0<=i/\i < 2 ^ 62/\xs.length * i.toNat<=1000000/\∀ p,H p=none->Q (.ref p) (upd H p (.lst (Hn xs i.toNat)))):=by
 intro pins s σ H x y v u Q I rx ry h
 obtain⟨l,xs,i,rfl,rfl,hl,h0,h1,hz,q⟩:=h
 cases rx
 obtain⟨t,rfl⟩:=ry
 obtain⟨z,its,n,r,hl',e⟩:=I.lstM hl
 refine wpAny_binaryOp_repeat_ref (T:="list") (U:="int") (by decide) ⟨_,e,rfl⟩ (fun s'=>typeIs_int s' i t) noFill_list_mul F.fills_int_mul F.slot_int_rmul repeat_list F.slot_int_index.lookup
  (call_meets F.slot_int_rmul (typeIs_int s i t) F.entry_int_rmul (F.args_int_rmul_2 _ _) (int___rmul___int_list i t l its.toArray n)
   ⟨e,rfl,⟨_,e,rfl⟩,call_meets F.slot_list_mul ⟨_,e,rfl⟩ F.entry_list_mul (F.args_list_mul_2 _ _)
    (AutoListH.list___mul___list_int_3 l its.toArray n i t (by simp[Builtin.List.listFitsIndex];lia) (by rw[Al8,<- r.length];lia) (by rw[Al8,<- r.length];simp[Builtin.List.listTooLong,sizeLine];lia))
    ⟨e,?_⟩⟩)
 rw[Ad1]
 exact⟨.ref _,_,I.lnew (t':=s.toks) (Vals.rep r i.toNat) (by rw[Ho];exact big hz),rfl,q _ I.fresh⟩
def Aix (g:FL) (f:FE):FL:=fun env m=>(g env m).bind fun xs=>(f env m).bind fun y=>match y with
 |.int i=>if 0<=i/\i < 2 ^ 62/\xs.length * i.toNat<=1000000 then some (Hn xs i.toNat) else none
 |_=>none
theorem Akn {g:FL}{i:Int} {j} (ha:QF X a g):QF X (.BinOp a .Mult (.Constant (.int i) j p) pos) (Aix g (fC (.int i))):=⟨PE.imp (Agx Agc ha.out Aaz) fun σ H Q ⟨env,μ,m,d,S,E,h,q⟩=>by
 obtain⟨xs,h1,h⟩:=bind_some h
 obtain⟨y,h2,h⟩:=bind_some h
 cases h2
 simp only at h
 split at h
 ·rename_i hl
  cases h
  refine⟨env,μ,m,xs,S,E,h1,fun a ys H1 s1 hn ha1 r1=>?_⟩
  refine⟨a,ys,i,rfl,rfl,ha1,hl.1,hl.2.1,by rw[<- r1.length];exact hl.2.2,fun p hp=>q p _ _ (s1.trans (A6 hp)) (s1.free hp) A8 ?_⟩
  exact Reps.fresh ((Reps.rep r1 _).up (fun _ _ _ h=>h) (fun a u _ h b=>⟨h,fun z=>b (.inl z)⟩) (fun _ _ h=>h)) hp
 ·cases h⟩
end
end ML
end L2
end S_ML10
section S_ML11
namespace L2
namespace ML
open PySem PySem.Spec PyProof.Rows PySem.SeqAt
section
variable {X:Cx}{pins:List (Addr×Obj)}{σ:St}{H:Hp}{s:Shared}{μ:List Addr}{B:Addr->Prop}
end
section
variable {X:Cx}
end
end ML
end L2
end S_ML11
section S_ML12
namespace L2
namespace ML
open PySem PySem.Spec PyProof.Rows
section
variable {X:Cx}{a b c e e' o':Expr}{es:List Expr}{pos p p' apos cpos spos:Pos}{x:Str}
end
section
variable {X:Cx}{a b c e:Expr}{tg:Expr}{p pos:Pos}
noncomputable def oIs:D->D->MH->Option D
 |.bl c,.bl d,_=>some (.bl (c == d))
 |_,_,_=>none
noncomputable def Vf:D->D->MH->Option D
 |.bl c,.bl d,_=>some (.bl (c != d))
 |_,_,_=>none
theorem Aj3:OpM X (compareOp .Is) oIs:=by
 intro pins s σ H μ m x y z v u v' u' Q I S rx ry r1 r2 e q
 cases rx<;>first|exact Ae e|skip
 cases ry<;>first|exact Ae e|skip
 cases e
 cases r1
 cases r2
 exact is_bool ⟨.bl _,H,I,rfl,q _ H (Same.refl H) (.bl _)⟩
theorem Zi:OpM X (compareOp .IsNot) Vf:=by
 intro pins s σ H μ m x y z v u v' u' Q I S rx ry r1 r2 e q
 cases rx<;>first|exact Ae e|skip
 cases ry<;>first|exact Ae e|skip
 cases e
 cases r1
 cases r2
 exact isnot_bool ⟨.bl _,H,I,rfl,q _ H (Same.refl H) (.bl _)⟩
end
open Classical
noncomputable section
section
variable {X:Cx}{pins:List (Addr×Obj)}{σ:St}{H:Hp}{s:Shared}{a:Addr}
theorem Ml (I:Inv X pins σ H s) (d:PyData):∀ {v:V}{u:Value},KeyH X.K H d v->RelV v u->∃ as,Reads s.heap u d as:=by
 match d with
 |.int i=>intro v u h r;cases h;obtain⟨t,rfl⟩:=r;exact⟨_,.int i t⟩
 |.str x=>intro v u h r;cases h;obtain⟨t,rfl⟩:=r;exact⟨_,.str x t⟩
 |.tuple ds =>
  intro v u h r
  cases h with
  |@tup _ b vs hs hp =>
  cases r
  obtain⟨its,rv,⟨o,ho,hc,n,hd⟩,hz⟩:=I.tuple hs
  have go:∀ (es:List PyData) (us:List V) (ws:List Value),(∀ e∈es,e∈ds)->Paired (KeyH X.K H) es us->Vals us ws->∃ as,ReadsAll s.heap ws es as:=by
   intro es
   induction es with
   |nil=>intro us ws _ q rv;cases q;cases rv;exact⟨_,.nil⟩
   |cons e es ih =>
    intro us ws hm q rv
    cases q with
    |cons h1 h2=>cases rv with
     |cons r1 r2 =>
      obtain⟨as,q1⟩:=Ml I e h1 r1
      obtain⟨bs,q2⟩:=ih _ _ (fun x hx=>hm x (Al4 _ hx)) h2 r2
      exact⟨_,.cons q1 q2⟩
  obtain⟨as,ra⟩:=go ds vs its (fun _ h=>h) hp rv
  exact⟨as,.tuple ho hc hd (by simpa using ra)⟩
 |.none=>intro v u h;cases h
 |.bool _=>intro v u h;cases h
 |.list _=>intro v u h;cases h
 |.dict _=>intro v u h;cases h
termination_by sizeOf d
decreasing_by
 have:=Am7 (hm e (Al6 ..))
 simp;lia
theorem Afq (I:Inv X pins σ H s) {d:PyData} (h:KeyT X.K H d b):(Dl X.prog X.w).is s.heap d b:=by
 obtain⟨h1,h2,h3,h4⟩:=h
 obtain⟨as,r⟩:=Ml I d (u:=.ref b) h4 rfl
 exact⟨h1,h2,h3,as,r⟩
end
noncomputable def Ig:D->Bool
 |.tup ds=>kOk (pyD (.tup ds))&&decide (Ng (pyD (.tup ds))<=6)
 |_=>false
section
variable {K:W.Frag}{H:Hp}{μ:List Addr}{B:Addr->Prop}
theorem U0:∀ {d:D}{v:V},Rep K H μ B d v->kOk (pyD d)=true->KeyH K H (pyD d) v:=by
 intro d
 match d with
 |.int i=>intro v r _;cases r;rw[pyD];exact .int i
 |.str x=>intro v r _;cases r;rw[pyD];exact .str x
 |.tup ds =>
  intro v r hk
  cases r with
  |@tup _ a xs hq rs =>
  rw[pyD] at hk ⊢
  rw[kOk] at hk
  refine .tup hq ?_
  have go:∀ (es:List D) (us:List V),(∀ e∈es,e∈ds)->Reps K H μ B es us->Ie (Bx es)=true->Paired (KeyH K H) (Bx es) us:=by
   intro es
   induction es with
   |nil=>intro us _ q _;cases q;rw[Bx];exact .nil
   |cons e es ih =>
    intro us hm q hk
    cases q with
    |cons h1 h2 =>
     rw[Bx,Ie,Ami] at hk
     rw[Bx]
     exact .cons (U0 h1 hk.1) (ih _ (fun x hx=>hm x (Al4 _ hx)) h2 hk.2)
  exact go ds xs (fun _ h=>h) rs hk
 |.non=>intro v r h;simp[pyD,kOk] at h
 |.bl _=>intro v r h;simp[pyD,kOk] at h
 |.lst _=>intro v r h;simp[pyD,kOk] at h
 |.kl _=>intro v r h;simp[pyD,kOk] at h
 |.ref _=>intro v r h;simp[pyD,kOk] at h
 |.dic _ _=>intro v r h;simp[pyD,kOk] at h
 |.dks _ _=>intro v r h;simp[pyD,kOk] at h
 |.fn _ _=>intro v r h;simp[pyD,kOk] at h
termination_by d=>sizeOf d
decreasing_by
 have:=Am7 (hm e (Al6 ..))
 simp;lia
theorem Ab5 {d:D} (r:Rep K H μ B d v) (h:Ig d=true):∃ b,v=.ref b/\KeyT K H (pyD d) b:=by
 cases d with
 |tup ds =>
  unfold Ig at h
  rw[Ami] at h
  have q:=U0 r h.1
  cases r with
  |tup hq rs=>exact⟨_,rfl,h.1,Am6 h.2,⟨_,by rw[pyD]⟩,q⟩
 |_=>exact B9 h
end
section
variable {X:Cx}{a b c e:Expr}{es:List Expr}{pos p p':Pos}{x:Str}
end
section
variable {X:Cx}{a b c e:Expr}{es:List Expr}{pos p p':Pos}{x:Str}
end
end
end ML
end L2
end S_ML12
section S_ML15
namespace L2
namespace ML
open PySem PySem.Spec PyProof.Rows
namespace RV
section
variable {prog:Program}{w:World}{A:Around}{E:Value->Shared->Prop}{s:Shared}
end
section
variable {prog:Program}{w:World}{A:Around}{s:Shared}{R:Result->Shared->Prop}
end
section
variable {prog:Program}{w:World}{A:Around}{E:Value->Shared->Prop}{s:Shared}
end
end RV
section
variable {X:Cx}{e:Expr}{pos pos' p p':Pos}
end
namespace RL
section
variable {prog:Program}{w:World}{A:Around}{E:Value->Shared->Prop}{s:Shared}
end
section
variable {prog:Program}{w:World}{A:Around}{s:Shared}{R:Result->Shared->Prop}
end
section
variable {prog:Program}{w:World}{A:Around}{E:Value->Shared->Prop}{s:Shared}
end
end RL
section
variable {X:Cx}{e:Expr}{pos pos' p p':Pos}
end
section
variable {X:Cx}{a e:Expr}{apos cpos:Pos}
end
section
variable {X:Cx}{a e:Expr}{apos cpos spos:Pos}
end
end ML
end L2
end S_ML15
section S_ML19
namespace L2
namespace ML
open PySem PySem.Spec PyProof.Rows PySem.SeqAt
open PySem.W (KasT kas_sort katRev KatLex)
section
variable {X:Cx}{pins:List (Addr×Obj)}{σ:St}{H:Hp}{s:Shared}{μ:List Addr}{B:Addr->Prop}
end
section
variable {X:Cx}{pins:List (Addr×Obj)}{σ:St}{H:Hp}{s:Shared}{μ:List Addr}{m:MH}{k:Nat}{f:Addr}{fd:FuncData}{ps:List Str}{fn:List D->Option D}{A':Around}
end
section
variable {X:Cx}{pins:List (Addr×Obj)}{σ:St}{H:Hp}{s:Shared}{μ:List Addr}{m:MH}{k:Nat}{f:Addr}{fd:FuncData}{ps:List Str}{fn:List D->Option D}{A':Around}
end
end ML
end L2
end S_ML19
section S_ML20
namespace L2
namespace ML
open PySem PySem.Spec PyProof.Rows PySem.SeqAt
open PySem.W (KasT kas_sort katRev KatLex)
section
variable {X:Cx}{pins:List (Addr×Obj)}{σ:St}{H H1:Hp}{s:Shared}{μ:List Addr}{m:MH}{k:Nat}{f:Addr}{fd:FuncData}{ps:List Str}{fn:List D->Option D}{A':Around}{kS D0:Addr}{b:Bool}{e e1:Nat}{P:PySem.Fin->Shared->Prop}{E:Value->Shared->Prop}
end
section
variable {X:Cx}{e:Expr}{pos p p' kp kp' cp:Pos}{x:Str}{k:Nat}{f:Addr}{fd:FuncData}{ps:List Str}{fn:List D->Option D}{b:Bool}
end
end ML
end L2
end S_ML20
section S_ML21
namespace L2
namespace ML
open PySem PySem.Spec PyProof.Rows
open PySem.Builtin PySem.Builtin.Str
section
variable {X:Cx}{a e:Expr}{apos cpos:Pos}
end
end ML
end L2
end S_ML21
section S_ML22
namespace L2
namespace ML
open PySem PySem.Spec PyProof.Rows
section
variable {X:Cx}{a e:Expr}{apos cpos:Pos}
end
section
variable {X:Cx}{e:Expr}{pos p p' kp p2 p3 p4:Pos}{x:Str}{k:Nat}{f:Addr}{fd:FuncData}{ps:List Str}{fn:List D->Option D}
end
section
variable {X:Cx}{pins:List (Addr×Obj)}{σ:St}{H:Hp}{s:Shared}{pos:Pos}
end
section
variable {X:Cx}{e:Expr}{es:List Expr}{pos p:Pos}{x:Str}
open Classical in
end
section
variable {X:Cx}{e:Expr}{es:List Expr}{pos p:Pos}{x:Str}
variable {ex:Expr}{n:Nat}{fn:List D->Option D}{g:FL}{E:XK}
end
section
variable {prog:Program}{w:World}{A:Around}{E:Value->Shared->Prop}{s:Shared}
end
section
variable {X:Cx}{pins:List (Addr×Obj)}{σ:St}{H:Hp}{s:Shared}{μ:List Addr}{m:MH}{k:Nat}{f:Addr}{fd:FuncData}{ps:List Str}{fn:List D->Option D}{b:Bool}
end
section
variable {X:Cx}{e:Expr}{pos p p' kp kp' cp:Pos}{x:Str}{k:Nat}{f:Addr}{fd:FuncData}{ps:List Str}{fn:List D->Option D}{b:Bool}
end
section
variable {X:Cx}{pins:List (Addr×Obj)}{σ:St}{H:Hp}{s:Shared}{h':Heap}
end
section
variable {X:Cx}{e:Expr}{es:List Expr}{pos p tp:Pos}{x1:Nat}{elts:List Expr}
end
section
variable {X:Cx}{a b c e:Expr}{es:List Expr}{pos p p':Pos}{x:Str}
end
section
variable {X:Cx}{st:Stmt}{sts:List Stmt}
end
section
variable {X:Cx}{o' a:Expr}{apos cpos:Pos}{T:String}{id:String}
end
section
variable {X:Cx}{pins:List (Addr×Obj)}{σ:St}{H:Hp}{s:Shared}{h':Heap}
end
section
variable {X:Cx}{e e2:Expr}{es:List Expr}{pos p tp:Pos}{x1:Nat}{elts:List Expr}
end
section
variable {X:Cx}{e ex:Expr}{es:List Expr}{pos p:Pos}{x:Str}{n:Nat}{fn:List D->Option D}{g:FL}{E:XK}
end
section
variable {X:Cx}{tg elt iter:Expr}{ifs:List Expr}{scope:Scope}{fw:FW}{g:FG}{t:FB}{fe:FE}{x:Str}{pos p' spos:Pos}
end
section
variable {X:Cx}{e:Expr}{es:List Expr}{pos p:Pos}{x:Str}
open Classical in
end
structure GC (K:W.Frag) (mg:Str->Option Value) (x:Str) (d:D):Prop where
 ex:∃ (v:V) (u:Value),mg x=some u/\RelV v u/\∀ H,Rep K H [] (fun _=>True) d v
structure FD (K:W.Frag) (mg:Str->Option Value) (x:Str) (st:Stmt) (ps:List Str):Prop where
 ex:∃ a fd,mg x=some (.ref a)/\Fun K x x st a fd/\Binds K fd ps []
structure Cl (P:Program) (w:World) (K:W.Frag) (mg:Str->Option Value) (base:Heap) (k:Nat) (x:Str) (n:Nat) (fn:List D->Option D):Prop where
 ex:∃ a fd ps,FnOk P w K mg base CX0 k a fd ps (spP K n fn)/\mg x=some (.ref a)/\W.keepIn K (.ref a)=true/\Binds K fd ps []
abbrev BH (x:Str) (st:Stmt) (ps:List Str):Prop:=∀ (kV doc pm:Value) (an:Option Addr) (cdv ct:Value) (us:List Value),us.length=ps.length->bindArgs (W.fnOf x x (Dw st) (B5 st) (Ao st) .none kV doc pm an cdv ct) ⟨us,[]⟩=pure (ps.zip us)
theorem of1 {P:List Value->Prop} (h:∀ a,P [a]):∀ us:List Value,us.length=1->P us:=by
 intro us e
 cases us with
 |nil=>cases e
 |cons a us =>
  cases us with
  |nil=>exact h a
  |cons _ _=>cases e
theorem of2 {P:List Value->Prop} (h:∀ a b,P [a,b]):∀ us:List Value,us.length=2->P us:=by
 intro us e
 cases us with
 |nil=>cases e
 |cons a us=>exact of1 (P:=fun us=>P (a::us)) (h a) us (Nat.succ.inj e)
structure FM (K:W.Frag) (x:Str) (st:Stmt):Prop where
 ex:∃ a fd,W.nsIn K mainGlobals x=some (some (.ref a))/\Fun K x x st a fd
theorem fm_mk {K:W.Frag}{x:Str}{st:Stmt}{f:Addr}{oc:Value}{od an:Option Addr}{osl:Array (Option Value)}{kV doc pm cdv ct:Value} (n:W.nsIn K mainGlobals x=some (some (.ref f))) (l:K.lookup f=some ⟨oc,od,.func (W.fnOf x x (Dw st) (B5 st) (Ao st) .none kV doc pm an cdv ct),osl⟩)
  (c:W.codeIn K cdv x=true) (k:W.keepIn K (.ref f)=true):FM K x st:=⟨f,_,n,Aan l c k⟩
theorem FM.fd {K:W.Frag}{h:Heap}{mg:Str->Option Value}{x:Str}{st:Stmt}{ps:List Str} (F:FM K x st) (X:K.In h) (G:h.Ns mainGlobals mg)
  (hb:BH x st ps):FD K mg x st ps:=by
 obtain⟨a,fd,n,F⟩:=F.ex
 exact⟨a,fd,W.mg_of X G n,F,F.binds hb⟩
theorem FM.fd1 {K:W.Frag}{h:Heap}{mg:Str->Option Value}{x a:Str}{st:Stmt} (F:FM K x st) (X:K.In h) (G:h.Ns mainGlobals mg) (hb:BH x st [a]:=by exact fun _ _ _ _ _ _=>of1 fun _=>rfl):FD K mg x st [a]:=F.fd X G hb
theorem FM.fd2 {K:W.Frag}{h:Heap}{mg:Str->Option Value}{x a b:Str}{st:Stmt} (F:FM K x st) (X:K.In h) (G:h.Ns mainGlobals mg) (hb:BH x st [a,b]:=by exact fun _ _ _ _ _ _=>of2 fun _ _=>rfl):FD K mg x st [a,b]:=F.fd X G hb
theorem Us {K:W.Frag}{h:Heap}{mg:Str->Option Value}{x:Str}{i:Int}{t:Tok} (X:K.In h) (G:h.Ns mainGlobals mg) (n:W.nsIn K mainGlobals x=some (some (.int i t))):GC K mg x (.int i) :=
 ⟨.int i,_,W.mg_of X G n,⟨_,rfl⟩,fun _=>.int _⟩
theorem Afl {K:W.Frag}{h:Heap}{mg:Str->Option Value}{x:Str}{i:String}{t:Tok} (X:K.In h) (G:h.Ns mainGlobals mg) (n:W.nsIn K mainGlobals x=some (some (.str (Str.ofString i) t))):GC K mg x (.str (Str.ofString i)) :=
 ⟨.str (Str.ofString i),_,W.mg_of X G n,⟨_,rfl⟩,fun _=>.str _ (Dt _)⟩
section
variable {P:Program}{w:World}{K:W.Frag}{mg:Str->Option Value}{base:Heap}{x:Str}{st:Stmt}{ps:List Str}{k n:Nat}{tabs:List (Addr×Str)}{p:Addr}
theorem Do (N:List Str) (T:FD K mg x st ps) (g:FS) (fn:List D->Option D)
  (hbody:∀ (f:Addr) (cdv:Value) (A:Around) (outer:List Env) (s:Shared) (H:Hp) (E:XK),Room k (A.deeper (envOfC x (Ao st) s.heap.objs.size f cdv))->N.Nodup ->
   QSs (Ug CX0 P w K mg base N x (Ao st) f cdv A outer s H E).nox (B5 st) g) (hfn:fn=Ib N.length g:=by rfl) (hn:ps.length=n:=by rfl) (S:FnScope N ps (Ao st):=by exact⟨rfl,rfl,rfl,by decide +kernel,rfl,by decide +kernel,by decide +kernel⟩):Cl P w K mg base (k+1) x n fn:=by
 obtain⟨a,fd,m,F,b⟩:=T.ex
 exact⟨a,fd,ps,Ak8 F S g fn hfn hn fun cdv A outer s H E hr=>hbody a cdv A outer s H E hr S.nd,m,F.kp,b⟩
end
section
variable {X:Cx}{e:Expr}{es:List Expr}{pos p p' cp:Pos}{x:Str}{k j n:Nat}{fn:List D->Option D}{g:FL}{tabs:List (Addr×Str)}{kp kp':Pos}{b:Bool}
theorem Ai2 {d:D} (h:GC X.K X.mg x d) (hg:Gl X x:=by unfold Gl;kernel_rfl) (hd:(x == ("__debug__":Str))=false:=by decide):QD X (.Name x pos) (fC d):=by
 obtain⟨v,u,m,r,hr⟩:=h.ex
 exact Ahh m r hr hg hd
theorem q_c (F:Cl X.prog X.w X.K X.mg X.base k x n fn) (hr:Room j X.A) (ha:QL X (e::es) g) (hk:k<=j:=by decide) (hg:Gl X x:=by unfold Gl;kernel_rfl) (hdb:(x == ("__debug__":Str))=false:=by decide) (he':B7 e=true:=by rfl) (hpl':es.all B7=true:=by rfl) :
  QD X (.Call (.Name x p) (e::es) [] pos) (Av (Ic n fn) g):=by
 obtain⟨a,fd,ps,F,m,kp,b⟩:=F.ex
 exact Adt F (hr.mono hk) m kp b ha hg hdb he' hpl'
theorem Akk (F:Cl X.prog X.w X.K X.mg X.base k x n fn) (hr:Room j X.A) (ha:QL X (e::es) g) (hk:k<=j:=by decide) (hg:Gl X x:=by unfold Gl;kernel_rfl) (hdb:(x == ("__debug__":Str))=false:=by decide) (he':B7 e=true:=by rfl) (hpl':es.all B7=true:=by rfl) :
  QF X (.Call (.Name x p) (e::es) [] pos) (C9 (L9 n fn) g):=by
 obtain⟨a,fd,ps,F,m,kp,b⟩:=F.ex
 exact Adx F (hr.mono hk) m kp b ha hg hdb he' hpl'
end
def fVI (i:Nat) (k:Int):FE:=f2 oIx (Aj i) (fC (.int k))
def fC1 (fn:List D->Option D) (a:FE):FE:=Av (Ic 1 fn) (Aa a Af)
def fC2 (fn:List D->Option D) (a b:FE):FE:=Av (Ic 2 fn) (Aa a (Aa b Af))
end ML
end L2
end S_ML22
section S_TS1
open Lean in
set_option hygiene false in
local macro_rules|`(tactic| sizeOf_list_dec)=>do
 let n (s:String):TSyntax `ident:=mkIdent (mkPrivateNameCore `PySem.Builtin.List.W1All (Name.str `PySem.Builtin s))
 `(tactic| delta $(n "gallop"))
namespace L2
namespace TS
open PySem PySem.W PySem.Calls PyProof.Rows
section
variable {σ:Type}{M:Model}{A:Around}{E:Value->Shared->Prop}
end
section
variable {prog:Program}{w:World}{A:Around}{E:Value->Shared->Prop}{κ:SortKind}{it:Array Keyed}
variable {N:Nat}{c:Nat->Nat->Bool}{J:Shared->Prop}
end
end TS
end L2
end S_TS1
section S_TS2
namespace L2
namespace TS
open PySem PySem.W PySem.Calls PyProof.Rows
section
variable {prog:Program}{w:World}{A:Around}{E:Value->Shared->Prop}{κ:SortKind}{it:Array Keyed}{N:Nat}{c:Nat->Nat->Bool}{J:Shared->Prop}
variable {X Y O:List Nat}{ia ib:Nat}
end
end TS
end L2
end S_TS2
section S_TS3
open Lean in
set_option hygiene false in
local macro_rules|`(tactic| sizeOf_list_dec)=>do
 let n (s:String):TSyntax `ident:=mkIdent (mkPrivateNameCore `PySem.Builtin.List.W1All (Name.str `PySem.Builtin s))
 `(tactic| delta $(n "mergeLo"))
namespace L2
namespace TS
open PySem PySem.W PySem.Calls PyProof.Rows
section
variable {prog:Program}{w:World}{A:Around}{E:Value->Shared->Prop}{κ:SortKind}{it:Array Keyed}{N:Nat}{c:Nat->Nat->Bool}{J:Shared->Prop}
end
end TS
end L2
end S_TS3
section S_TS4
namespace L2
namespace TS
open PySem PySem.W PySem.Calls PyProof.Rows
section
variable {c:Nat->Nat->Bool}
variable {X Y O:List Nat}{na nb:Nat}
end
end TS
end L2
end S_TS4
section S_TS5
open Lean in
set_option hygiene false in
local macro_rules|`(tactic| sizeOf_list_dec)=>do
 let n (s:String):TSyntax `ident:=mkIdent (mkPrivateNameCore `PySem.Builtin.List.W1All (Name.str `PySem.Builtin s))
 `(tactic| delta $(n "mergeHi"))
namespace L2
namespace TS
open PySem PySem.W PySem.Calls PyProof.Rows
section
variable {prog:Program}{w:World}{A:Around}{E:Value->Shared->Prop}{κ:SortKind}{it:Array Keyed}{N:Nat}{c:Nat->Nat->Bool}{J:Shared->Prop}
end
end TS
end L2
end S_TS5
section S_TS6
open Lean in
set_option hygiene false in
local macro_rules|`(tactic| sizeOf_list_dec)=>do
 let n (s:String):TSyntax `ident:=mkIdent (mkPrivateNameCore `PySem.Builtin.List.W1All (Name.str `PySem.Builtin s))
 `(tactic| delta $(n "mergeAt"))
namespace L2
namespace TS
open PySem PySem.W PySem.Calls PyProof.Rows
section
variable {prog:Program}{w:World}{A:Around}{E:Value->Shared->Prop}{κ:SortKind}{it:Array Keyed}{N:Nat}{c:Nat->Nat->Bool}{J:Shared->Prop}
end
end TS
end L2
end S_TS6
section S_TS7
namespace L2
namespace TS
open PySem PySem.W PySem.Calls PyProof.Rows
section
variable {α:Type}
end
section
variable {prog:Program}{w:World}{A:Around}{E:Value->Shared->Prop}{κ:SortKind}{it:Array Keyed}{N:Nat}{c:Nat->Nat->Bool}{J:Shared->Prop}
end
end TS
end L2
end S_TS7
section S_TS8
namespace L2
namespace TS
open PySem PySem.W PySem.Calls PyProof.Rows
section
variable {prog:Program}{w:World}{A:Around}{E:Value->Shared->Prop}{κ:SortKind}{it:Array Keyed}{n:Nat}{c:Nat->Nat->Bool}{J:Shared->Prop}
end
end TS
end L2
end S_TS8
section S_ML35
namespace L2
namespace ML
open PySem PySem.Spec PyProof.Rows PySem.SeqAt
open PySem.W (KasT kas_sort katRev KatLex)
open Classical in
section
variable {X:Cx}{pins:List (Addr×Obj)}{σ:St}{H H1:Hp}{s:Shared}{μ:List Addr}{m:MH}{k:Nat}{f:Addr}{fd:FuncData}{ps:List Str}{fn:List D->Option D}{A':Around}
end
section
variable {X:Cx}{e:Expr}{pos p p' kp kp' cp:Pos}{x:Str}{k:Nat}{f:Addr}{fd:FuncData}{ps:List Str}{fn:List D->Option D}{b:Bool}
end
section
variable {X:Cx}{e:Expr}{es:List Expr}{pos p p' cp:Pos}{x:Str}{k j n:Nat}{fn:List D->Option D}{g:FL}{tabs:List (Addr×Str)}{kp kp':Pos}{b:Bool}
end
section
variable {X:Cx}{e:Expr}{pos p':Pos}{x:Str}{i:Nat}{f:FE}
end
end ML
end L2
end S_ML35
section S_TX1
namespace L2
namespace TX
open PySem PySem.Spec PyProof.Rows
theorem Ta (t:SetTable) (es:Array (Int×Value)) (h:Int) (x:Value):(layNew t es h x).2.1.led=t.led:=by
 unfold layNew
 split
 ·dsimp only
  unfold SetTable.orStandIn
  split<;>rfl
 ·rfl
theorem M1 {t t':SetTable}{hs:Array Int}{n:Nat}{order:Array Nat} (h:t.relaid hs n=some (t',order)):t'.led=t.led/\t'.plain=t.plain:=by
 unfold SetTable.relaid SetTable.laid at h
 obtain⟨ow,h1,h2⟩:=Option.bind_eq_some_iff.mp h
 cases h2
 exact⟨rfl,rfl⟩
set_option tactic.hygienic true in
theorem Ii (t:SetTable) (es:Array (Int×Value)) (n:Nat):(relayAll t es n).2.1.led=t.led/\(t.plain=false->(relayAll t es n).2.1.plain=false):=by
 unfold relayAll
 split
 ·rename_i t' order h
  obtain⟨h1,h2⟩:=M1 h
  dsimp only
  split
  ·exact⟨h1,fun h=>h2.trans h⟩
  ·exact⟨rfl,fun _=>rfl⟩
 ·exact⟨rfl,fun _=>rfl⟩
noncomputable def txs (es:List (Int×Value)):List Str:=es.map fun e=>strOf e.2
section
variable {prog:Program}{w:World}{A:Around}{E:Value->Shared->Prop}{s:Shared}
def SetT (prog:Program) (w:World) (h:Heap) (a:Addr) (xs:List Str):Prop :=
 ∃ o es ep t,h.get? a=some o/\o.ExactSet/\o.data=.set es ep t/\ElemsOf (PySem.strKind prog w) es.toList/\(txs es.toList).Perm xs/\t.fits es.size=true/\t.led=!w.params.followText "set-order"/\(0 < es.size->t.plain=false)
theorem SetT.at' {h h':Heap}{a:Addr}{xs:List Str} (x:SetT prog w h a xs) (e:∀ o,h.get? a=some o->h'.get? a=some o):SetT prog w h' a xs:=let ⟨o,es,ep,t,ho,r⟩:=x;⟨o,es,ep,t,e _ ho,r⟩
theorem Aca {es:List (Int×Value)} (h:ElemsOf (PySem.strKind prog w) es) (x:Str):x∈txs es ↔ ∃ e∈es,(PySem.strKind prog w).is x e.2=true:=by
 unfold txs
 rw[List.mem_map]
 constructor
 ·rintro ⟨e,he,rfl⟩
  obtain⟨⟨k,hk,_⟩,_⟩:=h e he
  obtain⟨t,ht⟩:=Value.isStrOf_shape hk
  refine⟨e,he,?_⟩
  rw[ht] at hk ⊢
  exact hk
 ·rintro ⟨e,he,hx⟩
  obtain⟨t,ht⟩:=Value.isStrOf_shape hx
  exact⟨e,he,by rw[ht];rfl⟩
theorem Jd {h:Heap}{a:Addr}{o:Obj}{es:Array (Int×Value)}{ep:Nat}{t:SetTable}{xs:List Str} (ho:h.get? a=some o) (hex:o.ExactSet) (hd:o.data=.set es ep t)
  {es':Array (Int×Value)}{t':SetTable} (hel:ElemsOf (PySem.strKind prog w) es'.toList) (hp:(txs es'.toList).Perm xs) (hf:t'.fits es'.size=true) (hl:t'.led=!w.params.followText "set-order") (hpl:0 < es'.size->t'.plain=false) :
  (h.update a (Obj.putSet es' t')).get? a=some { o with data:=.set es' (ep+1) t' }/\SetT prog w (h.update a (Obj.putSet es' t')) a xs:=by
 have hg:(h.update a (Obj.putSet es' t')).get? a=some { o with data:=.set es' (ep+1) t' }:=by
  have:=Heap.get?_update_self (Obj.putSet es' t') ho (by rw[putSet_of es' t' hd];rfl)
  rw[putSet_of es' t' hd] at this;exact this
 exact⟨hg,_,es',ep+1,t',hg,hex,rfl,hel,hp,hf,hl,hpl⟩
theorem T6 {g:Bool->Sem Unit} (hg:∀ (b:Bool) (s₁:Shared) (Q':Unit->Shared->Prop),Q' () s₁->wpAny (model prog w) A (g b) Q' E s₁)
  {a:Addr}{o:Obj}{es:Array (Int×Value)}{ep:Nat}{t:SetTable}{xs:List Str} (ho:s.heap.get? a=some o) (hex:o.ExactSet) (hd:o.data=.set es ep t)
  {es1:Array (Int×Value)}{t2:SetTable} (hel1:ElemsOf (PySem.strKind prog w) es1.toList) (hp1:(txs es1.toList).Perm xs) (hb1:es1.size < scanBound) (hf2:t2.fits es1.size=true) (hl:t2.led=!w.params.followText "set-order") (hpl:t2.plain=false) {wasDummy:Bool}{R:Option Bool->Shared->Prop}
  (h:∀ h',Heap.SameBut a s.heap h'->SetT prog w h' a xs->R (some true) { s with heap:=h' }) :
  wpAny (model prog w) A (do
    storeSet a es1 t2
    if (!wasDummy&&t2.tooFull)=true then do
      g (relayAll t2 es1 (SetTable.grown es1.size)).2.2
      storeSet a (relayAll t2 es1 (SetTable.grown es1.size)).1 (relayAll t2 es1 (SetTable.grown es1.size)).2.1
      pure (some true)
     else pure (some true)) R E s:=by
 refine Al2 (wpAny_storeSet_of ho hd ?_ (fits_of_scanBound hb1))
 obtain⟨ho1,hS1⟩:=Jd (prog:=prog) ho hex hd hel1 hp1 hf2 hl (fun _=>hpl)
 have hsb1:=Heap.SameBut.update s.heap a (Obj.putSet es1 t2)
 split
 ·have hp:=relayAll_perm t2 es1 (SetTable.grown es1.size)
  have hfr:=relayAll_fits t2 es1 (SetTable.grown es1.size)
  have hkp:=Ii t2 es1 (SetTable.grown es1.size)
  generalize hRl:relayAll t2 es1 (SetTable.grown es1.size)=Rl at hp hfr hkp ⊢
  obtain⟨es2,t3,gave2⟩:=Rl
  dsimp only at hp hfr hkp ⊢
  have hsz:es2.size=es1.size:=by rw[<- Amc,hp.length_eq,Amc]
  refine Al2 (hg _ _ _ ?_)
  refine Al2 (wpAny_storeSet_of ho1 rfl ?_ (fits_of_scanBound (by rw[hsz];exact hb1)))
  obtain⟨_,hS2⟩:=Jd (prog:=prog) ho1 hex rfl (hel1.perm hp) ((hp.map _).trans hp1) hfr (hkp.1.trans hl) (fun _=>hkp.2 hpl)
  exact Al3 (h _ (hsb1.trans (Heap.SameBut.update _ a _)) hS2)
 ·exact Al3 (h _ hsb1 hS1)
theorem Z6 {a:Addr}{xs:List Str}{x:Str}{tk:Tok}{Q:Bool->Shared->Prop} (hS:SetT prog w s.heap a xs) (hb:xs.length+1 < scanBound)
  (h:∀ h',Heap.SameBut a s.heap h'->SetT prog w h' a (if x∈xs then xs else xs++[x])->Q (!decide (x∈xs)) { s with heap:=h' }) :
  wpAny (model prog w) A (setAddHashed a (.str x tk) (hashStr w x)) Q E s:=by
 obtain⟨o,es,ep,t,ho,hex,hd,hel,hp,hf,hl,hpl⟩:=id hS
 have hsz:es.size=xs.length:=by rw[<- hp.length_eq];simp[txs]
 have hkey:(PySem.strKind prog w).is x (.str x tk)=true:=by simp[PySem.strKind,Value.isStrOf]
 have hsc:(Value.str x tk).scannable=true:=rfl
 have hmem:x∈xs ↔ ∃ e∈es.toList,(PySem.strKind prog w).is x e.2=true:=hp.mem_iff.symm.trans (Aca hel x)
 show wpAny _ _ (setAddHashed a (.str x tk) ((PySem.strKind prog w).hash x)) _ _ _
 unfold setAddHashed setAddHashedIn
 refine Ani (Al2 (wpAny_setState_of ho hd hf ?_))
 dsimp only
 rw[byScan_of hsc (by lia) hel]
 simp only[↓reduceIte]
 unfold setAddByScan
 refine Al2 ?_
 refine Al2 (wpAny_rule ?_)
 refine Al2 (wpAny_setScan_of hkey ho hd hf hel ?_)
 cases hr:List.findIdx? (fun e=>(PySem.strKind prog w).is x e.2) es.toList with
 |some j =>
  dsimp only
  obtain⟨hj,hpj,_⟩:=List.findIdx?_eq_some_iff_getElem.mp hr
  have hSk:x∈xs:=hmem.mpr ⟨es.toList[j],Ann hj,hpj⟩
  refine Al3 (Al3 ?_)
  have:=h s.heap (Heap.SameBut.refl a s.heap) (by rw[Amf hSk];exact hS)
  rw[Ame hSk] at this
  exact this
 |none =>
  dsimp only
  have hSk:x∉xs:=fun hx=>by
   obtain⟨e,he,hp⟩:=hmem.mp hx
   have:=List.findIdx?_eq_none_iff.mp hr e he
   rw[hp] at this
   exact Bool.noConfusion this
  rw[Aml hSk,Amg hSk] at h
  have hgw:∀ (b:Bool) {s₁:Shared}{Q':Unit->Shared->Prop},Q' () s₁->wpAny (model prog w) A (match b with|true=>rule "set.scan.the-table-gave-way"|false=>pure ()) Q' E s₁ :=
   fun b s₁ Q' hq=>by cases b<;>first|exact Al3 hq|exact wpAny_rule hq
  have hperm:=layNew_perm t es ((PySem.strKind prog w).hash x) (.str x tk)
  have hfits:=layNew_fits t es ((PySem.strKind prog w).hash x) (.str x tk)
  have hled:=Ta t es ((PySem.strKind prog w).hash x) (.str x tk)
  generalize hL:layNew t es ((PySem.strKind prog w).hash x) (.str x tk)=L at hperm hfits hled ⊢
  obtain⟨es1,t1,wasDummy,gave⟩:=L
  dsimp only at hperm hfits hled ⊢
  rw[Array.toList_push] at hperm
  have hel1:ElemsOf (PySem.strKind prog w) es1.toList:=(hel.push hkey hsc).perm hperm
  have hp1:(txs es1.toList).Perm (xs++[x]):=by
   refine (hperm.map _).trans ?_
   rw[Anp]
   exact hp.append_right _
  have hb1':es1.size < scanBound:=by rw[<- Amc,hperm.length_eq,Amn,Amc];simp only[Am0];lia
  refine Al2 (hgw _ ?_)
  split
  ·refine Al2 ?_
   rw[hashByValue_scannable 8 hsc]
   refine Al3 ?_
   refine T6 ?_ ho hex hd hel1 hp1 hb1' ?_ ?_ ?_ ?_
   ·intro b s₁ Q' hq;cases b<;>first|exact Al3 hq|exact wpAny_rule hq
   ·exact SetTable.fits_plain_off hfits
   ·exact hled.trans hl
   ·rfl
   ·intro h' hsb hS';dsimp only;exact Al3 (h h' hsb hS')
  ·rename_i hpf
   refine Al2 (Al3 ?_)
   simp only[↓reduceIte]
   refine T6 ?_ ho hex hd hel1 hp1 hb1' hfits (hled.trans hl) (by simpa using hpf) ?_
   ·intro b s₁ Q' hq;cases b<;>first|exact Al3 hq|exact wpAny_rule hq
   ·intro h' hsb hS';dsimp only;exact Al3 (h h' hsb hS')
end
end TX
end L2
end S_TX1
section S_TX2
namespace L2
namespace TX
open PySem PySem.Spec PyProof.Rows
noncomputable def Ael (xs:List Str) (x:Str):List Str:=if x∈xs then xs else xs++[x]
def metT (ys:List Str):List Str:=ys.foldl Ael []
theorem Acb (xs:List Str) (x:Str):(Ael xs x).length<=xs.length+1:=by
 unfold Ael;split
 ·lia
 ·simp
theorem U8 (ys:List Str) (x:Str):metT (ys++[x])=Ael (metT ys) x:=by unfold metT;rw[List.foldl_append];rfl
theorem Yw (ys:List Str):∀ xs:List Str,(ys.foldl Ael xs).length<=xs.length+ys.length:=by
 induction ys with
 |nil=>intro xs;simp
 |cons y ys ih=>intro xs;have h1:=ih (Ael xs y);have h2:=Acb xs y;simp only[List.foldl_cons,Amh];lia
theorem metT_le (ys:List Str):(metT ys).length<=ys.length:=by have:=Yw ys [];simpa [metT] using this
theorem Jf:∀ {vs:List Value}{ss:List Str},StrsAre vs ss->∀ (i:Nat) (v:Value),vs[i]?=some v->∃ x t,ss[i]?=some x/\v=.str x t
 |_,_,.nil,i,v,h=>by simp at h
 |_,_,.cons n t hr,0,v,h=>by simp at h;exact⟨n,t,rfl,h.symm⟩
 |_,_,.cons n t hr,i+1,v,h=>by
  simp only[Am5] at h
  exact Jf hr i v h
section
variable {prog:Program}{w:World}{A:Around}{R:Result->Shared->Prop}{I:Addr}{fp wr:List Addr}{G:Array GenState->Array GenState->Prop}{n:Nat}{P:Nat->Value->Prop}{St:Nat->Shared->Prop}
theorem Aae (W:WalksS prog w A.in1 I fp wr G n P St) (S:Addr) (hSf:S∉fp) (ss:List Str) (hval:∀ i v,P i v->∃ x t,ss[i]?=some x/\v=.str x t) (hb:n+1 < scanBound) :
  ∀ (k i:Nat) (s:Shared),n - i=k->i<=n->St i s->SetT prog w s.heap S (metT (ss.take i)) ->
   (∀ s',Moved (S::wr) G s s'->SetT prog w s'.heap S (metT (ss.take n))->R (.ok (.ret .none)) s') ->
   codeAny (model prog w) A (.builtin "set.update.loop" ⟨[.ref S,.ref I],[]⟩) R s:=by
 have hSw:S∉wr:=fun h=>hSf (W.sub _ h)
 have hsub:∀ b∈wr,b∈S::wr:=fun b hb=>Al4 _ hb
 intro k
 induction k with
 |zero =>
  intro i s hk hi hst hS hR
  have hin:i=n:=by lia
  subst hin
  refine codeAny_builtin F.entry_set_update_loop ?_
  rw[Around.under_plainId F.plain_set_update_loop _]
  show wpAny _ A.in1 (pyNext (.ref I) >>= _) _ _ s
  refine Al2 (W.done s _ _ hst fun s' hm=>?_)
  show wpAny _ A.in1 (ret Value.none) _ _ s'
  exact Al3 (hR s' (hm.mono hsub) (hS.at' fun o e=>hm.heap S _ hSw e))
 |succ k ih =>
  intro i s hk hi hst hS hR
  have hlt:i < n:=by lia
  refine codeAny_builtin F.entry_set_update_loop ?_
  rw[Around.under_plainId F.plain_set_update_loop _]
  show wpAny _ A.in1 (pyNext (.ref I) >>= _) _ _ s
  refine Al2 (W.item i s _ _ hlt hst fun v s' hP hst' hm=>?_)
  obtain⟨x,t,hx,rfl⟩:=hval i v hP
  have hS':=hS.at' (h':=s'.heap) fun o e=>hm.heap S _ hSw e
  show wpAny _ A.in1 (holding [Value.str x t] (setAdd S (.str x t)) >>= _) _ _ s'
  refine Al2 (Ani ?_)
  unfold setAdd
  refine Ani ?_
  refine Al2 (wpAny_pyHash_str ?_)
  have hroom:(metT (ss.take i)).length+1 < scanBound:=by have:=metT_le (ss.take i);have:=List.length_take_le i ss;lia
  refine Z6 (s:={ s' with toks:=s'.toks+1 }) hS' hroom fun h' hsb hS2=>?_
  have hSi:SetT prog w h' S (metT (ss.take (i+1))):=by
   have e:ss.take (i+1)=ss.take i++[x]:=by rw[List.take_add_one,hx];rfl
   rw[e,U8]
   exact hS2
  refine Al3 ⟨plainId_quiet F.plain_set_update_loop _,ih (i+1) _ (by lia) hlt (W.frame _ s' _ _ hst' (Nat.le_succ _) fun b hb o e=>?_) hSi fun s'' hm'' hS''=>?_⟩
  ·rw[hsb.2 b (fun h:b=S=>hSf (by rw[<- h];exact hb))];exact e
  ·refine hR s'' (Moved.trans W.gtrans ((hm.mono hsub).then_heap (Nat.le_succ _) fun b o hb e=>?_) hm'') hS''
   rw[hsb.2 b (fun h:b=S=>hb (by rw[h];exact Al6))];exact e
end
section
variable {prog:Program}{w:World}{A:Around}{E:Value->Shared->Prop}{s:Shared}
noncomputable def Ax (w:World):Obj:={ cls:=.type "set",dict:=none,data:=.set #[] 0 (.fresh 0 0 (!w.params.followText "set-order")) }
theorem V7 (a:Value) {Q₁:Value->Shared->Prop} (h:Q₁ (.ref s.heap.objs.size) { s with heap:=s.heap.push (Ax w) }) :
  codeAny (model prog w) A (.call (.builtin "set.__new__") ⟨[.type "set",a],[]⟩) (wants Q₁ E) s:=by
 refine codeAny_of_tree ?_
 show wpAny _ A.in1 (do checkBuiltinCall "set.__new__" ⟨[.type "set",a],[]⟩;again (.builtin "set.__new__" ⟨[.type "set",a],[]⟩)) _ _ s
 refine Al2 (wpAny_of_eq (PySem.F.newCall_set_1 a) (Al3 ⟨plainId_quiet PySem.F.plain_set_new _,codeAny_builtin PySem.F.entry_set_new ?_⟩))
 rw[Around.under_plainId PySem.F.plain_set_new _]
 unfold Builtin.«set.__new__» Builtin.Frozenset.newClass
 have hsub:=sub_set_self
 obtain⟨hp,g,d,tk,os⟩:=s
 dsimp only
 wp_walk
 refine wpAny_askSetting (Al3 ?_)
 dsimp only
 simp only[newObj]
 refine Al2 (wpAny_alloc (Al3 ?_))
 exact Al3 h
theorem set_list {l:Addr}{items:Array Value}{ss:List Str}{Q:Value->Shared->Prop} (hh:A.handled=none) (hl:s.heap.IsList l items) (hi:StrsAre items.toList ss) (hb:items.size+1 < scanBound)
  (h:∀ (h':Heap) (tk:Nat),SetT prog w h' s.heap.objs.size (metT ss)->(∀ b o,b < s.heap.objs.size->s.heap.get? b=some o->h'.get? b=some o)->Q (.ref s.heap.objs.size) { s with heap:=h',toks:=tk }) :
  wpAny (model prog w) A (call (.type "set") [.ref l]) Q E s:=by
 obtain⟨c,tl,hmro⟩:=PySem.F.called_set.mro
 have hmade:=PySem.F.called_set.made
 have hsub:=PySem.F.called_set.sub
 refine wpAny_call (codeAny_of_tree ?_)
 show wpAny _ _ (callAny (.type "set") _) _ _ _
 refine Al3 ⟨Code.quiet_builtin _ (by decide +kernel),codeAny_builtin PySem.F.entry_type_call ?_⟩
 rw[Around.under_plain (weight_type_call_type "set" [.ref l] []) rfl]
 have h1:=PySem.F.called_set.notType
 have h2:=PySem.F.called_set.canCreate
 have hct:=PySem.F.typeCall_set_1 (.ref l)
 repeat (any_goals (first|assumption|wp_step))
 refine codeAny_mono (V7 (.ref l) (E:=E) (Q₁:=fun obj s₁=>obj=.ref s.heap.objs.size/\s₁={ s with heap:=s.heap.push (Ax w) }) ⟨rfl,rfl⟩) fun r s₁ hr=>?_
 cases r with
 |error e=>exact hr
 |ok fl =>
  cases fl with
  |ret obj =>
   obtain⟨rfl,rfl⟩:=hr
   have hS:(s.heap.push (Ax w)).get? s.heap.objs.size=some (Ax w):=Amp _ rfl
   have hT:Shared.TypeIs { s with heap:=s.heap.push (Ax w) } (.ref s.heap.objs.size) "set":=⟨_,hS,rfl⟩
   have hli:=PySem.F.called_set.init.lookup
   have hbi:=PySem.F.called_set.init.bind (.ref s.heap.objs.size)
   repeat (any_goals (first|assumption|wp_step))
   refine codeAny_mono (codeAny_call_builtin (R:=wants (fun r s₂=>r=.none/\∃ h' tk,s₂={ s with heap:=h',toks:=tk }/\SetT prog w h' s.heap.objs.size (metT ss) /\
     (∀ b o,b < s.heap.objs.size->s.heap.get? b=some o->h'.get? b=some o)) E) PySem.F.called_set.init.plain PySem.F.entry_set_init (check_set_init_1 hT ?_)) fun r₂ s₂ hr₂=>?_
   ·obtain⟨ol,hol,hcl,nl,hdl⟩:=hl
    obtain⟨ocls,odict,odata,oslots⟩:=ol
    simp only at hcl hdl
    subst hcl;subst hdl
    have hol':(s.heap.push (Ax w)).get? l=some { cls:=.type "list",dict:=odict,data:=.seq items nl,slots:=oslots }:=Al5 _ hol
    have hsls:=PySem.F.sub_list_set
    have hslf:=PySem.F.sub_list_frozenset
    have hne:(Value.type "list" == Value.type "dict")=false:=by decide
    have hl1:(s.heap.push (Ax w)).IsList l items:=⟨_,hol',rfl,nl,rfl⟩
    unfold Builtin.«set.__init__» noKeywords Builtin.Frozenset.updateFrom
    generalize hPI:pyIter=PI
    wp_walk
    subst hPI
    refine wpAny_pyIter_list hl1 ?_
    refine Al2 (wpAny_runValue ?_)
    have hlS:l < s.heap.objs.size:=Al9 hol
    have hh3:A.in1.in1.in1.handled=none:=by simp[hh]
    have hneI:l≠(s.heap.push (Ax w)).objs.size:=by
     rw[Anj];exact Ams (Ane hlS)
    have hSf:s.heap.objs.size∉[(s.heap.push (Ax w)).objs.size,l]:=by
     rw[Anj];simp only[Amy,Aop,Amq,or_false,not_or]
     exact⟨Ams (Aox _),Aoy hlS⟩
    have hval:∀ (i:Nat) (v:Value),items[i]?=some v->∃ x t,ss[i]?=some x/\v=.str x t:=fun i v hv =>
     Jf hi i v (by rw[Array.getElem?_toList];exact hv)
    have hlen:ss.take items.size=ss:=An7 (by rw[<- hi.length,Amc];exact Al7 _)
    refine Aae ((Walks.list hh3 _ l hneI items).toS) s.heap.objs.size
     hSf ss hval hb (items.size - 0) 0 _ (by lia) (Amz _)
     ⟨⟨_,Amp _ rfl,rfl,rfl⟩,(hl1.push _)⟩ ?hS0 ?hR
    case hS0 =>
     exact⟨Ax w,#[],0,_,Al5 _ hS,⟨rfl,rfl,rfl⟩,rfl,fun e he=>by simp at he,by rw[List.take_zero];exact .rfl,by rfl,by rfl,fun h=>absurd h (by simp)⟩
    case hR =>
     intro s' hm hS'
     rw[hlen] at hS'
     obtain⟨h',g',d',tk',os'⟩:=s'
     have eg:g'=s.gens:=hm.gens
     have ed:d'=s.drawn:=hm.drawn
     have eo:os'=s.os:=hm.os
     subst eg;subst ed;subst eo
     show wpAny _ _ _ _ _ _
     refine Al3 ?_
     show wpAny _ _ (ret Value.none) _ _ _
     refine Al3 ⟨rfl,h',tk',rfl,hS',fun b o hb e=>?_⟩
     have hb1:b≠s.heap.objs.size:=Ams hb
     have hb2:b≠(s.heap.push (Ax w)).objs.size:=by
      rw[Anj];exact Ams (Ane hb)
     exact hm.heap b o (by simp only[Amy,Aop,Amq,or_false,not_or];exact⟨hb1,hb2⟩) (Al5 _ (Al5 _ e))
   ·cases r₂ with
    |error e=>exact hr₂
    |ok fl₂ =>
     cases fl₂ with
     |ret r =>
      obtain⟨rfl,h',tk,rfl,hS',hk'⟩:=hr₂
      repeat (any_goals (first|assumption|wp_step))
      exact h _ _ hS' hk'
     |_=>exact hr₂.elim
  |_=>exact hr.elim
end
end TX
end L2
end S_TX2
section S_TX3
open Lean in
set_option hygiene false in
local macro_rules|`(tactic| sizeOf_list_dec)=>do
 let n (s:String):TSyntax `ident:=mkIdent (mkPrivateNameCore `PySem.SetOps (Name.str `PySem s))
 `(tactic| delta $(n "drawn"))
open Lean in
set_option hygiene false in
local macro_rules|`(tactic| array_get_dec)=>do
 let n (s:String):TSyntax `ident:=mkIdent (mkPrivateNameCore `PySem.SetOps (Name.str `PySem s))
 `(tactic| delta $(n "mustBeLedForItsPlaces"))
namespace L2
namespace TX
open PySem PySem.Spec PyProof.Rows
section
variable {prog:Program}{w:World}{A:Around}{E:Value->Shared->Prop}{s:Shared}
end
end TX
end L2
end S_TX3
section S_TX4
open Lean in
set_option hygiene false in
local macro_rules|`(tactic| sizeOf_list_dec)=>do
 let n (s:String):TSyntax `ident:=mkIdent (mkPrivateNameCore `PySem.SetOps (Name.str `PySem s))
 `(tactic| delta $(n "drawn"))
open Lean in
set_option hygiene false in
local macro_rules|`(tactic| array_get_dec)=>do
 let n (s:String):TSyntax `ident:=mkIdent (mkPrivateNameCore `PySem.SetOps (Name.str `PySem s))
 `(tactic| delta $(n "mustBeLedForItsPlaces"))
namespace L2
namespace TX
open PySem PySem.Spec PyProof.Rows
section
variable {prog:Program}{w:World}{A:Around}{E:Value->Shared->Prop}{s:Shared}
end
end TX
end L2
end S_TX4
section S_TX5
open Lean in
set_option hygiene false in
local macro_rules|`(tactic| sizeOf_list_dec)=>do
 let n (s:String):TSyntax `ident:=mkIdent (mkPrivateNameCore `PySem.SetOps (Name.str `PySem s))
 `(tactic| delta $(n "drawn"))
namespace L2
namespace TX
open PySem PySem.Spec PyProof.Rows
section
variable {prog:Program}{w:World}{A:Around}{E:Value->Shared->Prop}{s:Shared}
end
end TX
end L2
end S_TX5
section S_TX6
namespace L2
namespace TX
open PySem PySem.Spec PyProof.Rows
section
variable {prog:Program}{w:World}{A:Around}{E:Value->Shared->Prop}{s:Shared}
end
end TX
end L2
end S_TX6
section S_TX7
namespace L2
namespace TX
open PySem PySem.Spec PyProof.Rows
section
variable {prog:Program}{w:World}{A:Around}{E:Value->Shared->Prop}{s:Shared}
end
end TX
end L2
end S_TX7
section S_DX1
namespace L2
namespace TX
open PySem PySem.Spec PyProof.Rows
section
variable {prog:Program}{w:World}{A:Around}{E:Value->Shared->Prop}{s:Shared}
end
end TX
end L2
end S_DX1
section S_DX2
namespace L2
namespace TX
open PySem PySem.Spec PyProof.Rows
section
variable {prog:Program}{w:World}{A:Around}{E:Value->Shared->Prop}{R:Result->Shared->Prop}{I:Addr}{fp wr:List Addr}{G:Array GenState->Array GenState->Prop}{n:Nat}{P:Nat->Value->Prop}{St:Nat->Shared->Prop}{C:Heap->Prop}{Dn:Nat->Heap->Prop}
end
end TX
end L2
end S_DX2
section S_DX3
namespace L2
namespace TX
open PySem PySem.Spec PyProof.Rows
section
variable {prog:Program}{w:World}{A:Around}{E:Value->Shared->Prop}{s:Shared}{C:Heap->Prop}{Dn:Nat->Heap->Prop}
end
end TX
end L2
end S_DX3
section S_ML36
namespace L2
namespace ML
open PySem PySem.Spec PyProof.Rows
section
variable {K:W.Frag}{H:Hp}{μ:List Addr}{B:Addr->Prop}
end
section
variable {K:W.Frag}{H:Hp}{μ:List Addr}{B:Addr->Prop}
end
section
variable {X:Cx}{pins:List (Addr×Obj)}{σ:St}{H:Hp}{s:Shared}{a:Addr}
end
section
variable {X:Cx}{a b c e:Expr}{es:List Expr}{pos p p':Pos}{x:Str}
end
section
variable {X:Cx}{pins:List (Addr×Obj)}{σ:St}{H:Hp}{s:Shared}{μ:List Addr}{B:Addr->Prop}
end
noncomputable def Hv:List D->Option (List Str)
 |[]=>some []
 |.str x::ds=>(Hv ds).bind fun r=>some (x::r)
 |_=>none
theorem Rr {K:W.Frag}{H:Hp}{μ:List Addr}{B:Addr->Prop}:∀ {ds:List D}{vs:List V}{us:List Value}{ts:List Str},Reps K H μ B ds vs->Vals vs us->Hv ds=some ts->StrsAre us ts/\(∀ x∈ts,PyData.strOk x=true)
 |_,_,_,_,.nil,.nil,h=>by cases h;exact⟨.nil,fun _ h=>absurd h (by simp)⟩
 |_,_,_,_,.cons r rs,.cons ru rv,h=>by
  cases r with
  |str x ok =>
   obtain⟨r',h1,h2⟩:=bind_some h
   cases h2
   obtain⟨t,rfl⟩:=ru
   obtain⟨i1,i2⟩:=Rr rs rv h1
   refine⟨.cons x t i1,fun y hy=>?_⟩
   rcases List.mem_cons.mp hy with rfl|hy
   ·exact ok
   ·exact i2 y hy
  |_=>exact Ae h
section
variable {X:Cx}{e:Expr}{pos p p2 pos2:Pos}{k:Nat}{g:FL}
end
section
variable {X:Cx}{a b e:Expr}{pos p p2 pos2:Pos}{k:Nat}{g:FL}{f h:FE}
end
section
variable {X:Cx}{e e':Expr}{pos p:Pos}{g:FL}
noncomputable def Zg:List D->MH->Option D:=fun xs _=>match xs with
 |[.int i,.int j]=>some (.int (if j > i then j else i))
 |_=>none
theorem Abo (hc:X.calm=true):Ly X (.builtin "max") Zg:=by
 intro pins s σ H μ m xs z vs us Q I S rx rv e q
 match xs,e with
 |[.int i,.int j],e =>
  cases e
  obtain⟨v,w,rfl,r1,r2⟩:=rx.two
  cases r1
  cases r2
  exact Ub hc pins s σ H _ us Q I rv ⟨i,j,rfl,q _ H (Same.refl H) (.int _)⟩
theorem Adw (hc:X.calm=true) (hm:X.mg "max"=none) (ha:QL X [e,e'] g) (hg:Gl X "max":=by unfold Gl;kernel_rfl) (he':B7 e=true:=by rfl) (he2:B7 e'=true:=by rfl):QD X (.Call (.Name "max" p) [e,e'] [] pos) (Av Zg g):=⟨Ll (Abo hc) hg hm (by decide +kernel) ha.out (by decide) (by decide) (Ap he') (by rw[Ap he2];rfl)⟩
end
section
variable {X:Cx}{a e:Expr}{apos cpos:Pos}
end
section
variable {X:Cx}{a b c e:Expr}{es:List Expr}{pos p p' apos cpos dp:Pos}{x:Str}{i:Nat}
end
section
variable {X:Cx}{a b c e:Expr}{es:List Expr}{pos p p' dp:Pos}{x:Str}{i:Nat}{g:FL}
end
end ML
end L2
end S_ML36
section S_TY1
namespace L2
namespace TY
open PySem PySem.SetTable
def Up (xs:Array Nat):Prop:=∀ (i k y z:Nat),i < k->xs[i]?=some y->xs[k]?=some z->y < z
theorem Jz {xs:Array Nat}{j:Nat} (hs:Up xs):∀ (fuel lo hi:Nat),lo<=hi->hi<=xs.size->hi - lo<=fuel->(∀ i y,xs[i]?=some y->i < lo->y < j)->(∀ i y,xs[i]?=some y->hi<=i->¬ y < j)->∀ i y,xs[i]?=some y->(y < j ↔ i < below.go xs j fuel lo hi)
 |0,lo,hi,h1,h2,h3,h4,h5,i,y,hy=>by
  have:below.go xs j 0 lo hi=lo:=rfl
  rw[this]
  refine⟨fun h=>?_,h4 i y hy⟩
  rcases Nat.lt_or_ge i lo with z|z
  ·exact z
  ·exact absurd h (h5 i y hy (by lia))
 |fuel+1,lo,hi,h1,h2,h3,h4,h5,i,y,hy=>by
  rw[below.go]
  by_cases hl:lo < hi
  ·rw[Amf hl]
   have hm:(lo+hi) / 2 < xs.size:=by lia
   have hg:xs.getD ((lo+hi) / 2) j=xs[(lo+hi) / 2]:=by simp[Array.getD,hm]
   have hq:xs[(lo+hi) / 2]?=some xs[(lo+hi) / 2]:=Anu hm
   simp only[hg]
   split
   ·rename_i hc
    refine Jz hs fuel _ _ (by lia) h2 (by lia) (fun i y hy hi'=>?_) h5 i y hy
    rcases Nat.lt_or_ge i ((lo+hi) / 2) with z|z
    ·exact Nat.lt_trans (hs _ _ _ _ z hy hq) hc
    ·have:i=(lo+hi) / 2:=by lia
     subst this
     rw[hq] at hy;cases hy;exact hc
   ·rename_i hc
    refine Jz hs fuel _ _ (by lia) (by lia) (by lia) h4 (fun i y hy hi'=>?_) i y hy
    rcases Nat.lt_or_ge ((lo+hi) / 2) i with z|z
    ·have:=hs _ _ _ _ z hq hy
     lia
    ·have:i=(lo+hi) / 2:=by lia
     subst this
     rw[hq] at hy;cases hy;exact hc
  ·rw[Aml hl]
   refine⟨fun h=>?_,h4 i y hy⟩
   rcases Nat.lt_or_ge i lo with z|z
   ·exact z
   ·exact absurd h (h5 i y hy (by lia))
theorem J0 {xs:Array Nat}{j:Nat} (hs:Up xs) {i y:Nat} (hy:xs[i]?=some y):y < j ↔ i < below xs j :=
 Jz hs xs.size 0 xs.size (Amz _) (Al7 _) (by lia) (fun _ _ _ h=>absurd h (Aoe _)) (fun i y hy h=>by
  have:=(Array.getElem?_eq_some_iff.mp hy).1
  lia) i y hy
theorem G4 {xs:Array Nat}{j:Nat} (hs:Up xs) {i:Nat} (hy:xs[i]?=some j):below xs j=i:=by
 have h1:¬ i < below xs j:=fun h=>Am3 _ ((J0 hs hy).mpr h)
 rcases Nat.lt_or_ge (below xs j) i with z|z
 ·have hi:=(Array.getElem?_eq_some_iff.mp hy).1
  have hb:below xs j < xs.size:=by lia
  have hq:xs[below xs j]?=some xs[below xs j]:=Anu hb
  exact absurd ((J0 hs hq).mp (hs _ _ _ _ z hq hy)) (Am3 _)
 ·lia
theorem M5 {t:SetTable} (hs:Up t.place) {i j:Nat} (hy:t.place[i]?=some j):t.slot j=.live i:=by
 unfold SetTable.slot
 simp only[G4 hs hy,hy,beq_self_eq_true,Anr]
theorem Tn {t:SetTable} (hd:t.dummies=#[]) {j:Nat} (hy:∀ i:Nat,t.place[i]?≠some j):t.slot j=.empty:=by
 unfold SetTable.slot
 have h1:(t.place[below t.place j]? == some j)=false:=by
  rw[beq_eq_false_iff_ne];exact hy _
 have h2:has t.dummies j=false:=by rw[hd];rfl
 simp only[h1,h2,Amd,Anh]
noncomputable def lst (M i q:Nat):Probe:={ j:=i,more:=runEnd M i - i,i,perturb:=q,dummy:=none }
noncomputable def nxt (M i q:Nat):Nat:=(leap M i q).1
noncomputable def adv (M:Nat) (p:Probe):Probe:=SetTable.advance { SetTable.fresh 0 0 true with mask:=M } p
theorem T7 {M:Nat}{p:Probe} (h:p.more > 0):adv M p={ p with j:=p.j+1,more:=p.more - 1 }:=Amf h
theorem Pl {M:Nat}{p:Probe} (h:¬ p.more > 0):adv M p={ p with j:=nxt M p.i p.perturb,more:=runEnd M (nxt M p.i p.perturb) - nxt M p.i p.perturb,i:=nxt M p.i p.perturb,perturb:=p.perturb / 32 }:=Aml h
theorem R0 (t:SetTable) (p:Probe):t.advance p=adv t.mask p:=rfl
theorem Aab (t:SetTable) (h:Int):t.probeStart h=lst t.mask (bits h % (t.mask+1)) (bits h):=rfl
def it (M:Nat):Nat->Probe->Probe
 |0,p=>p
 |n+1,p=>it M n (adv M p)
theorem Hd (M:Nat):∀ (a b:Nat) (p:Probe),it M (a+b) p=it M b (it M a p)
 |0,b,p=>by rw[Aol];rfl
 |a+1,b,p=>by rw[Nat.succ_add];exact Hd M a b _
theorem Nx (M n:Nat) (p:Probe):it M (n+1) p=adv M (it M n p):=Hd M n 1 p
structure Gs (M:Nat) (p:Probe):Prop where
 i:p.i<=M
 e:p.j+p.more=runEnd M p.i
 le:p.i<=p.j
 d:p.dummy=none
 q:p.perturb < 2 ^ 64
theorem Cu (M i:Nat):i<=runEnd M i/\runEnd M i<=i+9/\(i<=M->runEnd M i<=M):=by
 unfold runEnd;split<;>lia
theorem Iz (M i q:Nat):nxt M i q<=M:=by
 have:nxt M i q < M+1:=Nat.mod_lt _ (by lia)
 lia
theorem Afm {M i q:Nat} (hi:i<=M) (hq:q < 2 ^ 64):Gs M (lst M i q):=⟨hi,by have:=Cu M i;show i+(runEnd M i - i)=runEnd M i;lia,Al7 _,rfl,hq⟩
theorem Gs.adv {M:Nat}{p:Probe} (g:Gs M p):Gs M (adv M p):=by
 by_cases z:p.more > 0
 ·rw[T7 z]
  exact⟨g.i,by have:=g.e;show p.j+1+(p.more - 1)=runEnd M p.i;lia,by have:=g.le;show p.i<=p.j+1;lia,g.d,g.q⟩
 ·rw[Pl z]
  have:=Cu M (nxt M p.i p.perturb)
  refine⟨Iz ..,by show nxt M p.i p.perturb+(runEnd M (nxt M p.i p.perturb) - nxt M p.i p.perturb)=runEnd M (nxt M p.i p.perturb);lia,Al7 _,g.d,?_⟩
  have:=g.q
  exact Nat.lt_of_le_of_lt (Nat.div_le_self ..) this
theorem Gs.it {M:Nat}:∀ {n:Nat}{p:Probe},Gs M p->Gs M (it M n p)
 |0,_,g=>g
 |n+1,_,g=>Gs.it (n:=n) g.adv
theorem Gs.jle {M:Nat}{p:Probe} (g:Gs M p):p.j<=M:=by
 have:=(Cu M p.i).2.2 g.i
 have:=g.e
 lia
theorem Lc (t:SetTable) (h:Int):Gs t.mask (t.probeStart h):=by
 rw[Aab]
 refine Afm (by have:=Nat.mod_lt (bits h) (show t.mask+1 > 0 by lia);lia) ?_
 unfold bits
 have h1:=Int.emod_nonneg h (b:=(2 ^ 64:Int)) (by decide)
 have h2:=Int.emod_lt_of_pos h (b:=(2 ^ 64:Int)) (by decide)
 lia
theorem Ux {M:Nat}:∀ {n:Nat}{p:Probe},n<=p.more->it M n p={ p with j:=p.j+n,more:=p.more - n }
 |0,p,_=>rfl
 |n+1,p,h=>by
  rw[Nx,Ux (n:=n) (by lia)]
  rw[T7 (show p.more - n > 0 by lia)]
  show Probe.mk _ _ _ _ _=Probe.mk _ _ _ _ _
  congr 1
theorem Nw {M:Nat}{p:Probe} (hd:p.dummy=none):it M (p.more+1) p=lst M (nxt M p.i p.perturb) (p.perturb / 32):=by
 rw[Nx,Ux (Al7 _)]
 rw[Pl (show ¬ p.more - p.more > 0 by lia)]
 unfold lst
 rw[<- hd]
def lp (M:Nat):Nat->Nat->Nat->Nat×Nat
 |0,i,q=>(i,q)
 |n+1,i,q=>lp M n (nxt M i q) (q / 32)
theorem Le {M:Nat}:∀ (n i q:Nat),i<=M->∃ k,k<=10 * n/\it M k (lst M i q)=lst M (lp M n i q).1 (lp M n i q).2
 |0,i,q,_=>⟨0,Al7 _,rfl⟩
 |n+1,i,q,hi=>by
  obtain⟨k,hk,e⟩:=Le n (nxt M i q) (q / 32) (Iz ..)
  have hm:=Cu M i
  refine⟨(lst M i q).more+1+k,?_,?_⟩
  ·have:(lst M i q).more=runEnd M i - i:=rfl
   lia
  ·rw[Hd,Nw rfl]
   exact e
theorem Px (M:Nat):∀ (a b i q:Nat),lp M (a+b) i q=lp M b (lp M a i q).1 (lp M a i q).2
 |0,b,i,q=>by rw[Aol];rfl
 |a+1,b,i,q=>by rw[Nat.succ_add];exact Px M a b _ _
theorem Pz (M:Nat):∀ (n i q:Nat),(lp M n i q).2=q / 32 ^ n
 |0,i,q=>by show q=q / 1;rw[Nat.div_one]
 |n+1,i,q=>by
  show (lp M n (nxt M i q) (q / 32)).2=_
  rw[Pz M n,Nat.div_div_eq_div_mul,Nat.pow_succ,Nat.mul_comm]
theorem Ab8 (M:Nat):∀ (n i q:Nat),i<=M->(lp M n i q).1<=M
 |0,_,_,h=>h
 |n+1,i,q,_=>Ab8 M n _ _ (Iz ..)
def orb (M:Nat) (n:Nat):Nat:=(lp M n 0 0).1
theorem Ak4 (M n:Nat):lp M n 0 0=(orb M n,0):=by
 have h:=Pz M n 0 0
 rw[Nat.zero_div] at h
 exact Prod.ext rfl h
def Msk (M:Nat):Prop:=M=7\/M=31\/M=127
def Aj7 (M:Nat):Nat->Nat->List Nat
 |0,_=>[]
 |n+1,i=>i::Aj7 M n (nxt M i 0)
theorem Rc {M:Nat}:∀ {n i s:Nat},s∈Aj7 M n i->∃ k,k < n/\(lp M k i 0).1=s
 |0,_,_,h=>nomatch h
 |n+1,i,s,h=>by
  rcases List.mem_cons.mp h with z|z
  ·exact⟨0,by lia,z.symm⟩
  ·obtain⟨k,hk,e⟩:=Rc z
   exact⟨k+1,by lia,by show (lp M k (nxt M i 0) (0 / 32)).1=s;rw[Nat.zero_div];exact e⟩
theorem N7 {M:Nat} (h:Msk M):(∀ s,s<=M->∃ k,k<=M/\orb M k=s)/\orb M (M+1)=0:=by
 have key:∀ M,((List.range (M+1)).all fun s=>(Aj7 M (M+1) 0).contains s)=true->∀ s,s<=M->∃ k,k<=M/\orb M k=s:=fun M hk s hs=>by
  have:=List.all_eq_true.mp hk s (List.mem_range.mpr (by lia))
  obtain⟨k,hk,e⟩:=Rc (List.contains_iff_mem.mp this)
  exact⟨k,by lia,e⟩
 rcases h with rfl|rfl|rfl
 ·exact⟨key 7 (by decide),by decide⟩
 ·exact⟨key 31 (by decide +kernel),by decide +kernel⟩
 ·exact⟨key 127 (by decide +kernel),by decide +kernel⟩
theorem Py {M i s:Nat} (h:Msk M) (hi:i<=M) (hs:s<=M):∃ k,k<=M/\(lp M k i 0).1=s:=by
 obtain⟨a,ha,ea⟩:=(N7 h).1 i hi
 obtain⟨b,hb,eb⟩:=(N7 h).1 s hs
 have ez:=(N7 h).2
 have st:∀ c,orb M (a+c)=(lp M c i 0).1:=fun c=>by
  show (lp M (a+c) 0 0).1=_
  rw[Px,Ak4,ea]
 rcases Nat.lt_or_ge b a with z|z
 ·refine⟨M+1+b - a,by lia,?_⟩
  rw[<- st,show a+(M+1+b - a)=M+1+b by lia]
  show (lp M (M+1+b) 0 0).1=s
  rw[Px,Ak4,ez]
  exact eb
 ·refine⟨b - a,by lia,?_⟩
  rw[<- st,show a+(b - a)=b by lia]
  exact eb
theorem Ajf {M:Nat}{p:Probe} (h:Msk M) (g:Gs M p) {s:Nat} (hs:s<=M):∃ n,n < 10 * (M+15)/\(it M n p).j=s:=by
 have hq:=g.q
 have hm:=Cu M p.i
 have he:=g.e
 have hle:=g.le
 obtain⟨k2,hk2,e2⟩:=Le 12 (nxt M p.i p.perturb) (p.perturb / 32) (Iz M p.i p.perturb)
 have hz:(lp M 12 (nxt M p.i p.perturb) (p.perturb / 32)).2=0:=by
  rw[Pz,Nat.div_div_eq_div_mul]
  exact Nat.div_eq_of_lt (by lia)
 rw[hz] at e2
 have hle2:=Ab8 M 12 (nxt M p.i p.perturb) (p.perturb / 32) (Iz ..)
 generalize (lp M 12 (nxt M p.i p.perturb) (p.perturb / 32)).1=i2 at e2 hle2
 obtain⟨l,hl,el⟩:=Py h hle2 hs
 obtain⟨k3,hk3,e3⟩:=Le l i2 0 hle2
 refine⟨p.more+1+k2+k3,by lia,?_⟩
 rw[Hd,Hd,Nw g.d,e2,e3,el]
 rfl
end TY
end L2
end S_TY1
section S_TY2
namespace L2
namespace TY
open PySem PySem.SetTable
theorem Lh {α:Type} [DecidableEq α]:∀ {l m:List α},l.Nodup->(∀ x∈l,x∈m)->l.length<=m.length
 |[],_,_,_=>Amz _
 |x::l,m,h,hs=>by
  obtain⟨h1,h2⟩:=List.nodup_cons.mp h
  have hx:=hs x (Al6 ..)
  have ih:=Lh (l:=l) (m:=m.erase x) h2 fun y hy=>(List.mem_erase_of_ne (fun e=>h1 (by rw[<- e];exact hy))).mpr (hs y (Al4 _ hy))
  rw[List.length_erase_of_mem hx] at ih
  have:=List.length_pos_of_mem hx
  rw[Amh]
  lia
def Tk (t:SetTable) (j:Nat):Prop:=∃ i:Nat,t.place[i]?=some j
def at' (t:SetTable) (h:Int) (n:Nat):Nat:=(it t.mask n (t.probeStart h)).j
structure TOK (t:SetTable) (hs:List Int):Prop where
 dm:t.dummies=#[]
 len:t.place.size=hs.length
 up:Up t.place
 le:∀ (i j:Nat),t.place[i]?=some j->j<=t.mask
 mskOk:Msk t.mask
 few:hs.length<=t.mask
 reach:∀ (i j:Nat) (h:Int),t.place[i]?=some j->hs[i]?=some h->∃ n,at' t h n=j/\∀ m,m < n->Tk t (at' t h m)
theorem TOK.inj {t:SetTable}{hs:List Int} (k:TOK t hs) {i i' j:Nat} (h1:t.place[i]?=some j) (h2:t.place[i']?=some j):i=i':=by
 rw[<- G4 k.up h1,G4 k.up h2]
theorem TOK.free {t:SetTable}{hs:List Int} (k:TOK t hs):∃ s,s<=t.mask/\¬ Tk t s:=by
 refine Am2 fun hn=>?_
 have hall:∀ s,s<=t.mask->Tk t s:=fun s hs=>Am2 fun h=>hn ⟨s,hs,h⟩
 have:=Lh (l:=List.range (t.mask+1)) (m:=t.place.toList) List.nodup_range fun s hs=>by
  obtain⟨i,hi⟩:=hall s (by have:=List.mem_range.mp hs;lia)
  rw[<- Array.getElem?_toList] at hi
  exact Amk hi
 rw[List.length_range,Amc] at this
 have:=k.len
 have:=k.few
 lia
theorem TOK.stop {t:SetTable}{hs:List Int} (k:TOK t hs) (h:Int):∃ N,N < 10 * (t.mask+15)/\¬ Tk t (at' t h N):=by
 obtain⟨s,hs,hn⟩:=k.free
 obtain⟨n,h1,h2⟩:=Ajf k.mskOk (Lc t h) hs
 exact⟨n,h1,by show ¬ Tk t (it t.mask n (t.probeStart h)).j;rw[h2];exact hn⟩
def Oth (t:SetTable) (hs:List Int) (h:Int) (l:Nat):Prop:=∃ (i:Nat) (h':Int),t.place[i]?=some (at' t h l)/\hs[i]?=some h'/\h'≠h
inductive Meets (t:SetTable) (hs:List Int) (h:Int) (n:Nat):Option Met->Prop
 |free (m:Nat) (h1:n<=m) (h2:¬ Tk t (at' t h m)) (h3:∀ l,n<=l->l < m->Oth t hs h l):Meets t hs h n (some (.empty (at' t h m) none))
 |cand (m i:Nat) (h1:n<=m) (h2:t.place[i]?=some (at' t h m)) (h3:hs[i]?=some h) (h4:∀ l,n<=l->l < m->Oth t hs h l):Meets t hs h n (some (.candidate (at' t h m) i (it t.mask (m+1) (t.probeStart h))))
theorem Ut {t:SetTable}{hs:List Int} (k:TOK t hs) {ha:Nat->Int} (hh:∀ (i:Nat) (h:Int),hs[i]?=some h->ha i=h) {h:Int}{N:Nat} (hN:¬ Tk t (at' t h N)):∀ (fuel n:Nat),n<=N->N - n < fuel->Meets t hs h n (SetTable.probe.go t ha h fuel (it t.mask n (t.probeStart h)))
 |0,_,_,hf=>absurd hf (Aoe _)
 |fuel+1,n,hn,hf=>by
  rw[SetTable.probe.go]
  have gd:=(Gs.it (n:=n) (Lc t h)).d
  by_cases hk:Tk t (at' t h n)
  ·obtain⟨i,hi⟩:=hk
   have es:t.slot (it t.mask n (t.probeStart h)).j=.live i:=M5 k.up hi
   rw[es]
   dsimp only
   have hil:i < hs.length:=by have:=(Array.getElem?_eq_some_iff.mp hi).1;have:=k.len;lia
   have hq:hs[i]?=some hs[i]:=Amb hil
   rw[hh i _ hq,R0,<- Nx]
   by_cases e:hs[i]=h
   ·rw[Amf (by simp[e])]
    exact .cand n i (Al7 _) hi (by rw[hq,e]) fun l h1 h2=>by lia
   ·rw[Aml (by simp[e])]
    have hne:n≠N:=fun z=>hN (z ▸ ⟨i,hi⟩)
    have ih:=Ut k hh hN fuel (n+1) (by lia) (by lia)
    generalize SetTable.probe.go t ha h fuel (it t.mask (n+1) (t.probeStart h))=r at ih
    have ho:Oth t hs h n:=⟨i,_,hi,hq,e⟩
    have hx:∀ {m:Nat},(∀ l,n+1<=l->l < m->Oth t hs h l)->∀ l,n<=l->l < m->Oth t hs h l:=fun h3 l l1 l2=>by
     rcases Nat.lt_or_ge n l with z|z
     ·exact h3 l (by lia) l2
     ·have:l=n:=by lia
      subst this;exact ho
    cases ih with
    |free m h1 h2 h3=>exact .free m (by lia) h2 (hx h3)
    |cand m i h1 h2 h3 h4=>exact .cand m i (by lia) h2 h3 (hx h4)
  ·have es:t.slot (it t.mask n (t.probeStart h)).j=.empty:=Tn k.dm fun i hi=>hk ⟨i,hi⟩
   rw[es]
   dsimp only
   rw[gd]
   exact .free n (Al7 _) hk fun l h1 h2=>by lia
theorem Ja {t:SetTable}{hs:List Int} (k:TOK t hs) {ha:Nat->Int} (hh:∀ (i:Nat) (h:Int),hs[i]?=some h->ha i=h) {h:Int}{N n:Nat} (hN:¬ Tk t (at' t h N)) (hn:n<=N) (hb:N < 10 * (t.mask+15)):Meets t hs h n (t.probe ha h (it t.mask n (t.probeStart h))) :=
 Ut k hh hN _ n hn (by unfold turns;lia)
theorem Ld {α:Type}{l:List α}{p:Nat}{x:α} (hp:p<=l.length) (k:Nat):(l.take p++x::l.drop p)[k]?=if k < p then l[k]? else if k=p then some x else l[k - 1]?:=by
 have hl:(l.take p).length=p:=by rw[Am4];lia
 by_cases h1:k < p
 ·rw[Amf h1,Amm (by lia),List.getElem?_take,Amf h1]
 ·rw[Aml h1,Amt (by lia),hl]
  by_cases h2:k=p
  ·rw[Amf h2,h2,Nat.sub_self];rfl
  ·rw[Aml h2]
   obtain⟨d,rfl⟩:∃ d,k=p+1+d:=⟨k - (p+1),by lia⟩
   rw[show p+1+d - p=d+1 by lia,Am5,List.getElem?_drop,show p+1+d - 1=p+d by lia]
theorem Y4 {xs:Array Nat}{p x:Nat} (hp:p<=xs.size) (k:Nat):(insertAt xs p x)[k]?=if k < p then xs[k]? else if k=p then some x else xs[k - 1]?:=by
 rw[<- Array.getElem?_toList,SetTable.toList_insertAt,Ld (by simpa using hp),Array.getElem?_toList,Array.getElem?_toList]
theorem Yi {xs:Array Nat}{j:Nat} (hs:Up xs):below xs j<=xs.size:=by
 rcases Nat.lt_or_ge xs.size (below xs j) with z|z
 ·unfold below at z
  have:∀ (fuel lo hi:Nat),lo<=hi->hi<=xs.size->below.go xs j fuel lo hi<=xs.size:=by
   intro fuel
   induction fuel with
   |zero=>intro lo hi h1 h2;show lo<=_;lia
   |succ f ih =>
    intro lo hi h1 h2
    rw[below.go]
    by_cases hl:lo < hi
    ·rw[Amf hl]
     dsimp only
     split
     ·exact ih _ _ (by lia) h2
     ·exact ih _ _ (by lia) (by lia)
    ·rw[Aml hl];lia
  have:=this xs.size 0 xs.size (Amz _) (Al7 _)
  lia
 ·exact z
theorem Ag9 {t:SetTable}{hs:List Int} (k:TOK t hs) {h:Int}{m:Nat} (h2:¬ Tk t (at' t h m)) (h3:∀ l,l < m->Tk t (at' t h l)) (hf:hs.length+1<=t.mask) :
  TOK (t.put (at' t h m)).1 (hs.take (t.put (at' t h m)).2++h::hs.drop (t.put (at' t h m)).2):=by
 have hd:(t.put (at' t h m)).1.dummies=#[]:=by
  show (if has t.dummies _ then _ else t.dummies)=_
  rw[k.dm];rfl
 have hp:(t.put (at' t h m)).2=below t.place (at' t h m):=rfl
 have hpl:(t.put (at' t h m)).1.place=insertAt t.place (below t.place (at' t h m)) (at' t h m):=rfl
 have hmk:(t.put (at' t h m)).1.mask=t.mask:=rfl
 rw[hp]
 generalize (t.put (at' t h m)).1=t' at hd hpl hmk
 have hle:=Yi (j:=at' t h m) k.up
 have hlen:=k.len
 have hat:∀ h n,at' t' h n=at' t h n:=fun h n=>by unfold at' SetTable.probeStart;rw[hmk]
 have hlt:∀ (i y:Nat),t.place[i]?=some y->(y < at' t h m ↔ i < below t.place (at' t h m)):=fun i y hy=>J0 k.up hy
 have hne:∀ (i y:Nat),t.place[i]?=some y->y≠at' t h m:=fun i y hy e=>h2 ⟨i,e ▸ hy⟩
 have hle2:at' t h m<=t.mask:=(Gs.it (Lc t h)).jle
 generalize hB:below t.place (at' t h m)=p at hpl hle hlt
 have hgt:∀ i,t'.place[i]?=if i < p then t.place[i]? else if i=p then some (at' t h m) else t.place[i - 1]?:=fun i=>by rw[hpl];exact Y4 hle i
 have up:∀ j,Tk t j->Tk t' j:=fun j ⟨i,hi⟩=>by
  by_cases z:i < p
  ·exact⟨i,by rw[hgt,Amf z];exact hi⟩
  ·exact⟨i+1,by rw[hgt,Aml (by lia),Aml (by lia)];exact hi⟩
 refine⟨hd,?_,fun a b y z hab hy hz=>?_,fun i j hi=>?_,by rw[hmk];exact k.mskOk,?_,fun i j h' hi hh=>?_⟩
 ·rw[hpl,<- Amc,SetTable.toList_insertAt]
  simp;lia
 ·rw[hgt] at hy hz
  by_cases a1:a < p
  ·rw[Amf a1] at hy
   by_cases b1:b < p
   ·rw[Amf b1] at hz;exact k.up _ _ _ _ hab hy hz
   ·rw[Aml b1] at hz
    by_cases b2:b=p
    ·rw[Amf b2] at hz;cases hz;exact (hlt _ _ hy).mpr a1
    ·rw[Aml b2] at hz;exact k.up _ _ _ _ (by lia) hy hz
  ·rw[Aml a1] at hy
   rw[Aml (by lia),Aml (by lia)] at hz
   by_cases a2:a=p
   ·rw[Amf a2] at hy;cases hy
    have h5:=hlt _ _ hz
    have h6:=hne _ _ hz
    lia
   ·rw[Aml a2] at hy
    exact k.up _ _ _ _ (by lia) hy hz
 ·rw[hmk]
  rw[hgt] at hi
  split at hi
  ·exact k.le _ _ hi
  ·split at hi
   ·cases hi;exact hle2
   ·exact k.le _ _ hi
 ·rw[hmk];simp;lia
 ·rw[hgt] at hi
  rw[Ld (by lia)] at hh
  by_cases z1:i < p
  ·rw[Amf z1] at hi hh
   obtain⟨n,e,q⟩:=k.reach _ _ _ hi hh
   exact⟨n,by rw[hat];exact e,fun m hm=>by rw[hat];exact up _ (q m hm)⟩
  ·rw[Aml z1] at hi hh
   by_cases z2:i=p
   ·rw[Amf z2] at hi hh
    cases hi;cases hh
    exact⟨m,hat ..,fun l hl=>by rw[hat];exact up _ (h3 l hl)⟩
   ·rw[Aml z2] at hi hh
    obtain⟨n,e,q⟩:=k.reach _ _ _ hi hh
    exact⟨n,by rw[hat];exact e,fun m hm=>by rw[hat];exact up _ (q m hm)⟩
theorem Yy (f mv:Nat) (led:Bool):TOK (.fresh f mv led) [] where
 dm:=rfl
 len:=rfl
 up:=fun i k y z _ h _=>by simp[SetTable.fresh] at h
 le:=fun i j h=>by simp[SetTable.fresh] at h
 mskOk:=.inl rfl
 few:=by simp
 reach:=fun i j h h1 _=>by simp[SetTable.fresh] at h1
end TY
end L2
end S_TY2
section S_TY3
namespace L2
namespace TY
open PySem PySem.SetTable
def go' (M:Nat) (h:Int) (n:Nat):Nat:=(it M n (lst M (bits h % (M+1)) (bits h))).j
def Ow (ow:Array (Option Nat)) (j:Nat):Prop:=∃ k:Nat,ow[j]?=some (some k)
theorem Ea {ow:Array (Option Nat)}{j:Nat} (hj:j < ow.size):(ow[j]?=some none/\(ow.getD j (some 0)).isNone=true)\/(Ow ow j/\(ow.getD j (some 0)).isNone=false):=by
 have hg:ow.getD j (some 0)=ow[j]:=by simp[Array.getD,hj]
 have hq:ow[j]?=some ow[j]:=Anu hj
 rw[hg]
 cases e:ow[j] with
 |none=>exact .inl ⟨by rw[hq,e],rfl⟩
 |some k=>exact .inr ⟨⟨k,by rw[hq,e]⟩,rfl⟩
theorem Mi {M:Nat}{ow:Array (Option Nat)} (hz:ow.size=M+1):∀ (fuel i q:Nat),i<=M->(∃ L,L < fuel/\ow[(lp M L i q).1]?=some none)->∃ n j,layClean.free M ow fuel i q=some j/\(it M n (lst M i q)).j=j/\ow[j]?=some none/\∀ m,m < n->Ow ow (it M m (lst M i q)).j
 |0,_,_,_,⟨_,h,_⟩=>absurd h (Aoe _)
 |fuel+1,i,q,hi,⟨L,hL,hn⟩=>by
  rw[layClean.free]
  have hr:=Cu M i
  have hb:∀ k,k < runEnd M i+1 - i->i+k < ow.size:=fun k hk=>by have:=hr.2.2 hi;lia
  have hm:(lst M i q).more=runEnd M i - i:=rfl
  have hrun:∀ k,k < runEnd M i+1 - i->(it M k (lst M i q)).j=i+k:=fun k hk=>by
   rw[Ux (by rw[hm];lia)];rfl
  cases e:(List.range (runEnd M i+1 - i)).find? fun k=>(ow.getD (i+k) (some 0)).isNone with
  |some k =>
   obtain⟨h2,h1,h3⟩:=List.find?_range_eq_some.mp e
   have hk:k < runEnd M i+1 - i:=List.mem_range.mp h1
   refine⟨k,i+k,rfl,hrun k hk,?_,fun m hmk=>?_⟩
   ·rcases Ea (hb k hk) with z|z
    ·exact z.1
    ·rw[z.2] at h2;cases h2
   ·rw[hrun m (by lia)]
    rcases Ea (hb m (by lia)) with z|z
    ·have:=h3 m hmk
     rw[z.2] at this;simp at this
    ·exact z.1
  |none =>
   have hall:∀ k,k < runEnd M i+1 - i->Ow ow (i+k):=fun k hk=>by
    have:=List.find?_eq_none.mp e k (List.mem_range.mpr hk)
    rcases Ea (hb k hk) with z|z
    ·exact absurd z.2 this
    ·exact z.1
   have hL0:L≠0:=fun z=>by
    subst z
    obtain⟨k,hk⟩:=hall 0 (by lia)
    have hn:ow[i]?=some none:=hn
    rw[Nat.add_zero,hn] at hk
    cases hk
   obtain⟨L',rfl⟩:∃ L',L=L'+1:=⟨L - 1,by lia⟩
   obtain⟨n,j,f1,f2,f3,f4⟩:=Mi hz fuel (nxt M i q) (q / 32) (Iz ..) ⟨L',by lia,hn⟩
   have hlp:it M (runEnd M i - i+1) (lst M i q)=lst M (nxt M i q) (q / 32):=Nw (p:=lst M i q) rfl
   refine⟨runEnd M i - i+1+n,j,f1,by rw[Hd,hlp];exact f2,f3,fun m hmn=>?_⟩
   rcases Nat.lt_or_ge m (runEnd M i - i+1) with z|z
   ·rw[hrun m (by lia)];exact hall m (by lia)
   ·obtain⟨d,rfl⟩:∃ d,m=runEnd M i - i+1+d:=⟨m - (runEnd M i - i+1),by lia⟩
    rw[Hd,hlp]
    exact f4 d (by lia)
structure OW (M:Nat) (ow:Array (Option Nat)) (pre:List Int):Prop where
 size:ow.size=M+1
 lt:∀ j k:Nat,ow[j]?=some (some k)->k < pre.length
 inj:∀ j j' k:Nat,ow[j]?=some (some k)->ow[j']?=some (some k)->j=j'
 has:∀ (k:Nat) (h:Int),pre[k]?=some h->∃ n,ow[go' M h n]?=some (some k)/\∀ m,m < n->Ow ow (go' M h m)
theorem OW.room {M:Nat}{ow:Array (Option Nat)}{pre:List Int} (o:OW M ow pre) (hp:pre.length<=M):∃ s,s<=M/\ow[s]?=some none:=by
 refine Am2 fun hn=>?_
 have hall:∀ s,s<=M->Ow ow s:=fun s hs=>by
  rcases Ea (show s < ow.size by rw[o.size];lia) with z|z
  ·exact absurd ⟨s,hs,z.1⟩ hn
  ·exact z.1
 have hf:∀ s,s<=M->ow[s]?=some (some (((ow[s]?).getD none).getD 0)):=fun s hs=>by
  obtain⟨k,hk⟩:=hall s hs
  rw[hk];rfl
 have:=Lh (l:=(List.range (M+1)).map fun s=>((ow[s]?).getD none).getD 0) (m:=List.range pre.length) (by
  refine List.pairwise_map.mpr (List.Pairwise.imp_of_mem ?_ List.nodup_range)
  intro a b ha hb hab e
  have ha':=hf a (by have:=List.mem_range.mp ha;lia)
  have hb':=hf b (by have:=List.mem_range.mp hb;lia)
  rw[<- e] at hb'
  exact hab (o.inj _ _ _ ha' hb')) fun x hx=>by
  obtain⟨s,hs,rfl⟩:=List.mem_map.mp hx
  exact List.mem_range.mpr (o.lt _ _ (hf s (by have:=List.mem_range.mp hs;lia)))
 rw[Ama,List.length_range,List.length_range] at this
 lia
theorem Abm (h:Int):bits h < 2 ^ 64:=by
 unfold bits
 have h1:=Int.emod_nonneg h (b:=(2 ^ 64:Int)) (by decide)
 have h2:=Int.emod_lt_of_pos h (b:=(2 ^ 64:Int)) (by decide)
 lia
theorem Y7 {M i q s:Nat} (h:Msk M) (hi:i<=M) (hq:q < 2 ^ 64) (hs:s<=M):∃ L,L < M+15/\(lp M L i q).1=s:=by
 have hz:(lp M 13 i q).2=0:=by
  rw[Pz]
  exact Nat.div_eq_of_lt (by lia)
 obtain⟨k,hk,e⟩:=Py h (Ab8 M 13 i q hi) hs
 refine⟨13+k,by lia,?_⟩
 rw[Px,hz]
 exact e
def Ai8 (M:Nat) (F:Option (Array (Option Nat)×Nat)->Int->Option (Array (Option Nat)×Nat)):Prop:=∀ (ow:Array (Option Nat)) (k:Nat) (h:Int) (j:Nat),layClean.free M ow (turns M) (bits h % (M+1)) (bits h)=some j->F (some (ow,k)) h=some (ow.setIfInBounds j (some k),k+1)
theorem OW.step {M:Nat}{F:Option (Array (Option Nat)×Nat)->Int->Option (Array (Option Nat)×Nat)} (hF:Ai8 M F) {ow:Array (Option Nat)}{pre:List Int} (o:OW M ow pre) (hM:Msk M) (hp:pre.length<=M) (h:Int):∃ ow',F (some (ow,pre.length)) h=some (ow',pre.length+1)/\OW M ow' (pre++[h]):=by
 obtain⟨s,hs,hn⟩:=o.room hp
 have hi:bits h % (M+1)<=M:=by have:=Nat.mod_lt (bits h) (show M+1 > 0 by lia);lia
 obtain⟨L,hL,e⟩:=Y7 hM hi (Abm h) hs
 obtain⟨n,j,f1,f2,f3,f4⟩:=Mi o.size (turns M) (bits h % (M+1)) (bits h) hi ⟨L,by unfold turns;lia,by rw[e];exact hn⟩
 have hj:j < ow.size:=(Array.getElem?_eq_some_iff.mp f3).1
 have hg:∀ a:Nat,(ow.setIfInBounds j (some pre.length))[a]?=if j=a then some (some pre.length) else ow[a]?:=fun a=>by
  rw[Array.getElem?_setIfInBounds]
  by_cases z:j=a
  ·subst z;simp[hj]
  ·simp[z]
 refine⟨ow.setIfInBounds j (some pre.length),hF _ _ _ _ f1,?_⟩
 have keep:∀ a,Ow ow a->Ow (ow.setIfInBounds j (some pre.length)) a:=fun a ⟨k,hk⟩=>by
  by_cases z:j=a
  ·exact⟨_,by rw[hg,Amf z]⟩
  ·exact⟨k,by rw[hg,Aml z];exact hk⟩
 refine⟨by simp[o.size],fun a k hk=>?_,fun a b k ha hb=>?_,fun k h' hk=>?_⟩
 ·rw[hg] at hk
  rw[Amn,Am0]
  split at hk
  ·cases hk;lia
  ·have:=o.lt _ _ hk;lia
 ·rw[hg] at ha hb
  split at ha
  ·rename_i z
   cases ha
   split at hb
   ·rename_i z2;lia
   ·have:=o.lt _ _ hb;lia
  ·split at hb
   ·cases hb
    have:=o.lt _ _ ha;lia
   ·exact o.inj _ _ _ ha hb
 ·rcases Nat.lt_or_ge k pre.length with z|z
  ·rw[Amm z] at hk
   obtain⟨n',g1,g2⟩:=o.has k h' hk
   refine⟨n',?_,fun m hm=>keep _ (g2 m hm)⟩
   rw[hg,Aml fun e=>by rw[<- e,f3] at g1;cases g1]
   exact g1
  ·have hkl:k=pre.length:=by
    have:=(List.getElem?_eq_some_iff.mp hk).1
    rw[Amn,Am0] at this
    lia
   subst hkl
   rw[Amt (Al7 _),Nat.sub_self] at hk
   cases hk
   refine⟨n,?_,fun m hm=>keep _ (f4 m hm)⟩
   rw[hg,Amf (show j=go' M h n from f2.symm)]
theorem OW.fold {M:Nat}{F:Option (Array (Option Nat)×Nat)->Int->Option (Array (Option Nat)×Nat)} (hF:Ai8 M F) (hM:Msk M):∀ {hs:List Int}{ow:Array (Option Nat)}{pre:List Int},OW M ow pre->pre.length+hs.length<=M+1->∃ ow',hs.foldl F (some (ow,pre.length))=some (ow',(pre++hs).length)/\OW M ow' (pre++hs)
 |[],ow,pre,o,_=>⟨ow,by rw[Ang];rfl,by rw[Ang];exact o⟩
 |h::hs,ow,pre,o,hl=>by
  rw[Amh] at hl
  obtain⟨ow1,e1,o1⟩:=o.step hF hM (by lia) h
  have e2:pre.length+1=(pre++[h]).length:=by simp
  obtain⟨ow2,e3,o2⟩:=OW.fold hF hM o1 (hs:=hs) (by rw[<- e2];lia)
  refine⟨ow2,?_,by rw[List.append_assoc] at o2;exact o2⟩
  rw[List.foldl_cons,e1,e2,e3,List.append_assoc];rfl
theorem Nz {M:Nat} (hM:Msk M) (hs:Array Int) (hl:hs.size<=M+1):∃ ow,layClean M hs=some ow/\OW M ow hs.toList:=by
 have o0:OW M (Array.replicate (M+1) none) []:=by
  refine⟨by simp,fun j k h=>?_,fun j j' k h _=>?_,fun k h hk=>by simp at hk⟩
  ·rw[Array.getElem?_replicate] at h;split at h<;>cases h
  ·rw[Array.getElem?_replicate] at h;split at h<;>cases h
 unfold layClean
 rw[<- Array.foldl_toList]
 have key:∀ F,Ai8 M F->∃ ow,(hs.toList.foldl F (some (Array.replicate (M+1) none,0))).map (·.1)=some ow/\OW M ow hs.toList:=fun F hF=>by
  obtain⟨ow,e,o⟩:=OW.fold hF hM o0 (hs:=hs.toList) (by simpa using hl)
  have e:hs.toList.foldl F (some (Array.replicate (M+1) none,0))=_:=e
  exact⟨ow,by rw[e];rfl,by simpa using o⟩
 refine key _ fun ow k h j hj=>?_
 simp[hj]
theorem Ab6 {M f mv:Nat}{led plain:Bool} (hM:Msk M) (es:Array (Int×Value)) (hl:es.size<=M):∃ t order,laid M f mv led plain (es.map (·.1))=some (t,order)/\t.led=led/\t.plain=plain/\t.mask=M/\(order.filterMap (es[·]?)).toList.Perm es.toList/\TOK t ((order.filterMap (es[·]?)).toList.map (·.1)):=by
 obtain⟨ow,e,o⟩:=Nz hM (es.map (·.1)) (by simp;lia)
 have hsz:(es.map (·.1)).toList.length=es.size:=by simp
 let live:List (Nat×Nat):=(List.range (M+1)).filterMap fun j=>(ow.getD j none).map (j,·)
 have hgd:∀ j k:Nat,ow.getD j none=some k ↔ ow[j]?=some (some k):=fun j k=>by
  rw[Array.getD_eq_getD_getElem?]
  cases ow[j]? with
  |none=>simp
  |some x=>simp
 have hmem:∀ j k,(j,k)∈live ↔ ow[j]?=some (some k):=fun j k=>by
  show (j,k)∈(List.range (M+1)).filterMap _ ↔ _
  rw[List.mem_filterMap]
  constructor
  ·rintro ⟨a,_,ha⟩
   obtain⟨b,hb,he⟩:=Option.map_eq_some_iff.mp ha
   cases he
   exact (hgd _ _).mp hb
  ·intro h
   refine⟨j,List.mem_range.mpr ?_,by rw[(hgd _ _).mpr h];rfl⟩
   have:=(Array.getElem?_eq_some_iff.mp h).1
   rw[o.size] at this
   lia
 have hsort:live.Pairwise fun a b=>a.1 < b.1:=by
  refine List.Pairwise.filterMap _ ?_ (List.pairwise_lt_range (n:=M+1))
  intro a a' haa b hb b' hb'
  obtain⟨x,_,rfl⟩:=Option.map_eq_some_iff.mp hb
  obtain⟨y,_,rfl⟩:=Option.map_eq_some_iff.mp hb'
  exact haa
 have hlt:∀ k∈live.map (·.2),k < es.size:=fun k hk=>by
  obtain⟨⟨j,k'⟩,hjk,rfl⟩:=List.mem_map.mp hk
  have:=o.lt _ _ ((hmem _ _).mp hjk)
  rw[hsz] at this;exact this
 have hnd:(live.map (·.2)).Nodup:=by
  refine List.pairwise_map.mpr (List.Pairwise.imp_of_mem ?_ hsort)
  intro a b ha hb hab e
  have h1:=(hmem a.1 a.2).mp ha
  have h2:=(hmem b.1 b.2).mp hb
  rw[<- e] at h2
  have:=o.inj _ _ _ h1 h2
  lia
 have hperm:(live.map (·.2)).Perm (List.range es.size):=by
  refine (List.perm_ext_iff_of_nodup hnd List.nodup_range).mpr fun k=>⟨fun hk=>List.mem_range.mpr (hlt k hk),fun hk=>?_⟩
  have hk:=List.mem_range.mp hk
  obtain⟨n,h1,_⟩:=o.has k (es[k]).1 (by simp[hk])
  exact List.mem_map.mpr ⟨(_,k),(hmem _ _).mpr h1,rfl⟩
 have hlist:((live.map (·.2)).toArray.filterMap (es[·]?)).toList=(live.map (·.2)).filterMap (es[·]?):=by simp
 have hget:∀ i:Nat,((live.map (·.2)).filterMap (es[·]?))[i]?=(live[i]?).bind fun jk=>es[jk.2]?:=by
  have:∀ (l:List (Nat×Nat)),(∀ k∈l.map (·.2),k < es.size)->∀ i:Nat,((l.map (·.2)).filterMap (es[·]?))[i]?=(l[i]?).bind fun jk=>es[jk.2]?:=by
   intro l
   induction l with
   |nil=>intro _ i;simp
   |cons a l ih =>
    intro h i
    have ha:a.2 < es.size:=h a.2 (by simp)
    rw[Amr,List.filterMap_cons_some (b:=es[a.2]) (by simp[ha])]
    cases i with
    |zero=>simp[ha]
    |succ i=>simpa using ih (fun k hk=>h k (by simp at hk ⊢;exact .inr hk)) i
  exact this live hlt
 have hP:((live.map (·.2)).toArray.filterMap (es[·]?)).toList.Perm es.toList:=by
  rw[hlist]
  exact (hperm.filterMap _).trans (by rw[filterMap_getElem?_range])
 refine⟨{ mask:=M,place:=(live.map (·.1)).toArray,dummies:=#[],finger:=f,led:=led,moves:=mv,plain:=plain },(live.map (·.2)).toArray,?_,rfl,rfl,rfl,hP,?_⟩
 ·unfold laid
  rw[e]
  rfl
 ·have hpl:∀ i j:Nat,((live.map (·.1)).toArray)[i]?=some j ↔ ∃ k,live[i]?=some (j,k):=fun i j=>by
   rw[List.getElem?_toArray,Amo]
   constructor
   ·intro h
    obtain⟨⟨a,b⟩,h1,h2⟩:=Option.map_eq_some_iff.mp h
    cases h2
    exact⟨b,h1⟩
   ·rintro ⟨k,hk⟩;rw[hk];rfl
  have tk:∀ j,Ow ow j->∃ i:Nat,((live.map (·.1)).toArray)[i]?=some j:=fun j ⟨k,hk⟩=>by
   obtain⟨i,hi⟩:=List.mem_iff_getElem?.mp ((hmem j k).mpr hk)
   exact⟨i,(hpl i j).mpr ⟨k,hi⟩⟩
  have hlen:live.length=es.size:=by
   have:=hperm.length_eq
   rw[Ama,List.length_range] at this
   exact this
  have hlen2:(((live.map (·.2)).toArray.filterMap (es[·]?)).toList.map (·.1)).length=es.size:=by
   rw[Ama,hP.length_eq];simp
  refine⟨rfl,?_,fun a b y z hab hy hz=>?_,fun i j hi=>?_,hM,by rw[hlen2];exact hl,fun i j h hi hh=>?_⟩
  ·rw[hlen2];simp[hlen]
  ·obtain⟨k1,h1⟩:=(hpl a y).mp hy
   obtain⟨k2,h2⟩:=(hpl b z).mp hz
   obtain⟨l1,e1⟩:=List.getElem?_eq_some_iff.mp h1
   obtain⟨l2,e2⟩:=List.getElem?_eq_some_iff.mp h2
   have:=List.pairwise_iff_getElem.mp hsort a b l1 l2 hab
   rw[e1,e2] at this
   exact this
  ·obtain⟨k,hk⟩:=(hpl i j).mp hi
   have:=(hmem j k).mp (Amk hk)
   have:=(Array.getElem?_eq_some_iff.mp this).1
   rw[o.size] at this
   show j<=M
   lia
  ·obtain⟨k,hk⟩:=(hpl i j).mp hi
   have hw:=(hmem j k).mp (Amk hk)
   rw[hlist,Amo,hget,hk] at hh
   obtain⟨ev,h1,h2⟩:=Option.map_eq_some_iff.mp hh
   have h1:es[k]?=some ev:=h1
   have hk':(es.map (·.1)).toList[k]?=some h:=by
    rw[Array.getElem?_toList,Array.getElem?_map,h1,<- h2];rfl
   obtain⟨n,g1,g2⟩:=o.has k h hk'
   refine⟨n,o.inj _ _ _ g1 hw,fun m hm=>tk _ (g2 m hm)⟩
end TY
end L2
end S_TY3
section S_TY4
namespace L2
namespace TY
open PySem PySem.Spec PyProof.Rows
section
variable {prog:Program}{w:World}{ds:List PyData}
structure NoClsK (prog:Program) (w:World) (d:PyData):Prop where
 out:∀ {n:Nat}{A:Around}{E:Value->Shared->Prop}{s:Shared}{v:Value}{as:List Addr}{Q:Bool->Shared->Prop},kOk d=true->Ng d<=n->Reads s.heap v d as->Q false s->wpAny (model prog w) A (ofAClassStatement n v) Q E s
theorem N4 (ih:∀ d∈ds,NoClsK prog w d):NoClsK prog w (.tuple ds):=by
 constructor
 intro n A E s v as Q hk hn r q
 rw[kOk] at hk
 rw[Ng] at hn
 cases r with
 |@tuple a o vs m xs as ho hc hd ra =>
 have hT:s.TypeIs (.ref a) "tuple":=⟨o,ho,hc⟩
 obtain⟨n,rfl⟩:∃ n',n=n'+1:=⟨n - 1,by lia⟩
 unfold ofAClassStatement
 refine Al2 (wpAny_typeOf hT ?_)
 show wpAny _ _ (pure true >>= _) _ _ s
 refine Al2 (Al3 ?_)
 simp only[Anl,Amd,Anh]
 refine Al2 (wpAny_seqItems ho hd ?_)
 refine Al2 ?_
 show wpAny _ _ (forIn vs _ _) _ _ s
 rw[<- Array.forIn_toList]
 refine wpAny_forIn_list _ (fun rest r s'=>r.1=none/\s'=s/\∃ left bs,ReadsAll s.heap rest left bs/\∀ d∈left,d∈ds) _ ?_ ?_ _ _ ⟨rfl,rfl,ds,as,ra,fun _ h=>h⟩
 ·rintro v rest r s' ⟨hr,rfl,left,bs,hl,hall⟩
  cases hl with
  |@cons _ _ d ds' as1 bs1 h1 hl' =>
   have hm:=hall d (Al6 ..)
   refine Al2 ((ih d hm).out (D3 hk hm) (by have:=Gi hm;lia) h1 ?_)
   simp only[Amd,Anh]
   exact Al3 ⟨rfl,rfl,ds',bs1,hl',fun e he=>hall e (Al4 _ he)⟩
 ·rintro ⟨r1,r2⟩ s' ⟨hr,rfl,_⟩
  simp only at hr
  subst hr
  exact Al3 q
theorem N3 (d:PyData):NoClsK prog w d:=by
 match d with
 |.int i =>
  constructor
  intro n A E s v as Q _ _ r q
  cases r with
  |int i t=>unfold ofAClassStatement;exact Al3 q
 |.str x =>
  constructor
  intro n A E s v as Q _ _ r q
  cases r with
  |str x t=>unfold ofAClassStatement;exact Al3 q
 |.tuple ds=>exact N4 fun d hd=>N3 d
 |.none=>constructor;intro n A E s v as Q h;simp[kOk] at h
 |.bool _=>constructor;intro n A E s v as Q h;simp[kOk] at h
 |.list _=>constructor;intro n A E s v as Q h;simp[kOk] at h
 |.dict _=>constructor;intro n A E s v as Q h;simp[kOk] at h
termination_by sizeOf d
decreasing_by
 have:=Am7 hd
 simp;lia
structure ByValK (prog:Program) (w:World) (d:PyData):Prop where
 out:∀ {n:Nat}{A:Around}{E:Value->Shared->Prop}{s:Shared}{v:Value}{as:List Addr}{Q:Bool->Shared->Prop},kOk d=true->Reads s.heap v d as->(∀ b,Q b s)->wpAny (model prog w) A (hashByValue n v) Q E s
theorem Np (ih:∀ d∈ds,ByValK prog w d):ByValK prog w (.tuple ds):=by
 constructor
 intro n A E s v as Q hk r q
 rw[kOk] at hk
 cases r with
 |@tuple a o vs m xs as ho hc hd ra =>
 have hT:s.TypeIs (.ref a) "tuple":=⟨o,ho,hc⟩
 cases n with
 |zero=>unfold hashByValue;exact Al3 (q _)
 |succ n =>
 unfold hashByValue
 refine Al2 (wpAny_specialOf hT F.slot_tuple_hash.lookup ?_)
 show wpAny _ _ (seqItems? (.ref a) >>= _) _ _ s
 refine Al2 (wpAny_seqItems ho hd ?_)
 refine Al2 ?_
 show wpAny _ _ (forIn vs _ _) _ _ s
 rw[<- Array.forIn_toList]
 refine wpAny_forIn_list _ (fun rest r s'=>s'=s/\∃ left bs,ReadsAll s.heap rest left bs/\∀ d∈left,d∈ds) _ ?_ ?_ _ _ ⟨rfl,ds,as,ra,fun _ h=>h⟩
 ·rintro v rest r s' ⟨rfl,left,bs,hl,hall⟩
  cases hl with
  |@cons _ _ d ds' as1 bs1 h1 hl' =>
   have hm:=hall d (Al6 ..)
   refine Al2 ((ih d hm).out (D3 hk hm) h1 fun b=>?_)
   cases b with
   |false=>exact Al3 (Al3 (q _))
   |true=>exact Al3 ⟨rfl,ds',bs1,hl',fun e he=>hall e (Al4 _ he)⟩
 ·rintro ⟨r1,r2⟩ s' ⟨rfl,_⟩
  cases r1 with
  |none=>exact Al3 (q _)
  |some b=>exact Al3 (q _)
theorem Ua (d:PyData):ByValK prog w d:=by
 match d with
 |.int i =>
  constructor
  intro n A E s v as Q _ r q
  cases r with
  |int i t=>cases n<;>(unfold hashByValue;exact Al3 (q _))
 |.str x =>
  constructor
  intro n A E s v as Q _ r q
  cases r with
  |str x t=>cases n<;>(unfold hashByValue;exact Al3 (q _))
 |.tuple ds=>exact Np fun d hd=>Ua d
 |.none=>constructor;intro n A E s v as Q h;simp[kOk] at h
 |.bool _=>constructor;intro n A E s v as Q h;simp[kOk] at h
 |.list _=>constructor;intro n A E s v as Q h;simp[kOk] at h
 |.dict _=>constructor;intro n A E s v as Q h;simp[kOk] at h
termination_by sizeOf d
decreasing_by
 have:=Am7 hd
 simp;lia
end
mutual
theorem M0 {h h':Heap}{d₀:Addr}{o₀:Obj}{es:Array (Int×Value)}{ep:Nat}{t:SetTable} (ho₀:h.get? d₀=some o₀) (hd₀:o₀.data=.set es ep t) (hs:Heap.SameBut d₀ h h') {d:PyData}{v:Value}{as:List Addr} (hk:kOk d=true) (r:Reads h v d as):Reads h' v d as:=by
 cases r with
 |int i t=>exact .int i t
 |str i t=>exact .str i t
 |@tuple a o _ _ _ _ ho hc hd ra =>
  refine .tuple ((hs.2 a ?_).trans ho) hc hd (Ez ho₀ hd₀ hs (by rw[kOk] at hk;exact hk) ra)
  rintro rfl
  cases ho.symm.trans ho₀
  cases hd₀.symm.trans hd
 |_=>simp[kOk] at hk
theorem Ez {h h':Heap}{d₀:Addr}{o₀:Obj}{es:Array (Int×Value)}{ep:Nat}{t:SetTable} (ho₀:h.get? d₀=some o₀) (hd₀:o₀.data=.set es ep t) (hs:Heap.SameBut d₀ h h') {ds:List PyData}{vs:List Value}{as:List Addr} (hk:Ie ds=true) (r:ReadsAll h vs ds as):ReadsAll h' vs ds as:=by
 cases r with
 |nil=>exact .nil
 |cons r rs =>
  rw[Ie,Ami] at hk
  exact .cons (M0 ho₀ hd₀ hs hk.1 r) (Ez ho₀ hd₀ hs hk.2 rs)
end
theorem He {h h':Heap}{d₀:Addr}{o₀:Obj}{es:Array (Int×Value)}{ep:Nat}{t:SetTable} (ho₀:h.get? d₀=some o₀) (hd₀:o₀.data=.set es ep t) (hs:Heap.SameBut d₀ h h') {d:PyData}{a:Addr} (k:B3 h d a):B3 h' d a:=by
 obtain⟨h1,h2,h3,as,r⟩:=k
 exact⟨h1,h2,h3,as,M0 ho₀ hd₀ hs h1 r⟩
def IsK (w:World) (h:Heap) (e:Int×Value) (k:PyData):Prop:=e.1=A1 w k/\∃ b,e.2=.ref b/\B3 h k b
theorem IsK.det {w:World}{h:Heap}{e:Int×Value}{k k':PyData} (x:IsK w h e k) (y:IsK w h e k'):k=k':=by
 obtain⟨_,b,e1,a1⟩:=x
 obtain⟨_,c,e2,a2⟩:=y
 rw[e1] at e2
 cases e2
 exact (Dl default w).inj a1 a2
structure EK (w:World) (h:Heap) (es:List (Int×Value)) (ds:List PyData):Prop where
 el:∀ e∈es,∃ k∈ds,IsK w h e k
 al:∀ k∈ds,∃ e∈es,IsK w h e k
 len:es.length=ds.length
 nd:ds.Nodup
theorem EK.mono {w:World}{h h':Heap}{es:List (Int×Value)}{ds:List PyData} (x:EK w h es ds) (hk:∀ k a,B3 h k a->B3 h' k a):EK w h' es ds :=
 ⟨fun e he=>let ⟨k,hm,h1,b,h2,h3⟩:=x.el e he;⟨k,hm,h1,b,h2,hk _ _ h3⟩,fun k hm=>let ⟨e,he,h1,b,h2,h3⟩:=x.al k hm;⟨e,he,h1,b,h2,hk _ _ h3⟩,x.len,x.nd⟩
theorem EK.perm {w:World}{h:Heap}{es es':List (Int×Value)}{ds:List PyData} (x:EK w h es ds) (p:es'.Perm es):EK w h es' ds :=
 ⟨fun e he=>x.el e (p.mem_iff.mp he),fun k hm=>let ⟨e,he,r⟩:=x.al k hm;⟨e,p.mem_iff.mpr he,r⟩,by rw[p.length_eq];exact x.len,x.nd⟩
theorem EK.add {w:World}{h:Heap}{es es':List (Int×Value)}{ds:List PyData}{e:Int×Value}{k:PyData} (x:EK w h es ds) (p:es'.Perm (es++[e])) (hk:IsK w h e k) (hn:k∉ds):EK w h es' (ds++[k]):=by
 refine EK.perm ⟨fun e' he=>?_,fun k' hm=>?_,by simp[x.len],?_⟩ p
 ·rcases List.mem_append.mp he with z|z
  ·obtain⟨k',hm,r⟩:=x.el e' z
   exact⟨k',Ana _ hm,r⟩
  ·rw[List.mem_singleton.mp z]
   exact⟨k,by simp,hk⟩
 ·rcases List.mem_append.mp hm with z|z
  ·obtain⟨e',he,r⟩:=x.al k' z
   exact⟨e',Ana _ he,r⟩
  ·rw[List.mem_singleton.mp z]
   exact⟨e,by simp,hk⟩
 ·rw[List.nodup_append]
  exact⟨x.nd,by simp,fun a ha b hb e=>hn (by rw[List.mem_singleton.mp hb] at e;rw[<- e];exact ha)⟩
theorem TOK.fits {t:SetTable}{hs:List Int} (k:TOK t hs):t.fits hs.length=true:=by
 unfold SetTable.fits SetTable.fill
 have h1:=k.len
 have h2:=k.few
 rw[k.dm,h1]
 simp
 exact h2
theorem TOK.odd {t:SetTable}{hs:List Int} (k:TOK t hs):t.gaveWay=false:=by
 unfold SetTable.gaveWay
 rcases k.mskOk with h|h|h<;>rw[h]<;>rfl
end TY
end L2
end S_TY4
section S_TY5
namespace L2
namespace TY
open PySem PySem.Spec PyProof.Rows
section
variable {prog:Program}{w:World}{A:Around}{E:Value->Shared->Prop}{s:Shared}
theorem Ad4 {b:Addr}{k:PyData} (hx:B3 s.heap k b):∀ {ys:List Value}{Q:Bool->Shared->Prop},(∀ y∈ys,∃ c k',y=.ref c/\B3 s.heap k' c)->Q false s->wpAny (model prog w) A (searchCouldBeSeen (.ref b) ys) Q E s:=by
 intro ys Q hy q
 unfold searchCouldBeSeen
 refine Al2 ?_
 refine wpAny_forIn_list _ (fun rest r s'=>r.1=none/\s'=s/\∀ y∈rest,y∈ys) _ ?_ ?_ _ _ ⟨rfl,rfl,fun _ h=>h⟩
 ·rintro v rest r s' ⟨hr,rfl,hall⟩
  obtain⟨c,k',rfl,hc⟩:=hy v (hall v (Al6 ..))
  have fin:r.1=none/\s'=s'/\∀ y∈rest,y∈ys:=⟨hr,rfl,fun y hy=>hall y (Al4 _ hy)⟩
  obtain⟨x1,x2,_,xs,xr⟩:=id hx
  obtain⟨c1,c2,_,cs,cr⟩:=id hc
  dsimp only
  split
  ·exact Al3 ⟨rfl,rfl,fin.2.2⟩
  ·refine Al2 ((Ln k).out x1 (by lia) xr ?_)
   simp only[Anl,Amd,Anh]
   refine Al2 ((Ln k').out c1 (by lia) cr ?_)
   simp only[Anl,Amd,Anh]
   refine Al2 ((N3 k).out x1 (by lia) xr ?_)
   simp only[Amd,Anh]
   refine Al2 ((N3 k').out c1 (by lia) cr ?_)
   simp only[Amd,Anh]
   exact Al3 ⟨rfl,rfl,fin.2.2⟩
 ·rintro ⟨r1,r2⟩ s' ⟨hr,rfl,_⟩
  simp only at hr
  subst hr
  exact Al3 q
set_option tactic.hygienic true in
theorem Z4 {a b:Addr}{o:Obj}{es:Array (Int×Value)}{ep:Nat}{t:SetTable}{ds:List PyData}{k:PyData} (hu:A.units+10 < cLine) (ho:s.heap.get? a=some o) (hd:o.data=.set es ep t) (ek:EK w s.heap es.toList ds) (tk:TOK t (es.toList.map (·.1))) (hx:B3 s.heap k b)
  {N:Nat} (hN:¬ Tk t (at' t (A1 w k) N)) (hb:N < 10 * (t.mask+15)) {Q:SetFound->Shared->Prop} (h1:k∈ds->Q (.there none) s) (h2:k∉ds->∀ m,¬ Tk t (at' t (A1 w k) m)->(∀ l,l < m->Tk t (at' t (A1 w k) l))->Q (.free (at' t (A1 w k) m) false) s) :
  ∀ (fuel n:Nat) (stand:Option SetTable.Probe),stand.getD (t.probeStart (A1 w k))=it t.mask n (t.probeStart (A1 w k))->n<=N->N - n < fuel->(∀ l,l < n->∃ (i:Nat) (e:Int×Value),t.place[i]?=some (at' t (A1 w k) l)/\es[i]?=some e/\¬ IsK w s.heap e k) ->
   wpAny (model prog w) A (setSearchFrom a (.ref b) (A1 w k) true fuel stand) Q E s:=by
 have hf:t.fits es.size=true:=by have:=tk.fits;rw[Ama,Amc] at this;exact this
 intro fuel
 induction fuel with
 |zero=>intro n stand _ _ hf;exact absurd hf (Aoe _)
 |succ fuel ih =>
  intro n stand hst hn hfu past
  unfold setSearchFrom
  refine Al2 (wpAny_setState_of ho hd hf ?_)
  dsimp only
  rw[tk.odd,hst]
  simp only[Amd,Anh]
  split
  ·rename_i met heq
   have hm:Meets t (es.toList.map (·.1)) (A1 w k) n (some met):=by
    rw[<- heq]
    refine Ja tk (fun i h hi=>?_) hN hn hb
    show ((es[i]?).map (·.1)).getD 0=h
    rw[Amo,Array.getElem?_toList] at hi
    rw[hi];rfl
   have oth:∀ l,Oth t (es.toList.map (·.1)) (A1 w k) l->∃ (i:Nat) (e:Int×Value),t.place[i]?=some (at' t (A1 w k) l)/\es[i]?=some e/\¬ IsK w s.heap e k:=fun l ⟨i,h',g1,g2,g3⟩=>by
    rw[Amo,Array.getElem?_toList] at g2
    obtain⟨e,e1,e2⟩:=Option.map_eq_some_iff.mp g2
    exact⟨i,e,g1,e1,fun ik=>g3 (e2.symm.trans ik.1)⟩
   cases hm with
   |free m g1 g2 g3 =>
    dsimp only
    have all:∀ l,l < m->∃ (i:Nat) (e:Int×Value),t.place[i]?=some (at' t (A1 w k) l)/\es[i]?=some e/\¬ IsK w s.heap e k:=fun l hl=>by
     rcases Nat.lt_or_ge l n with z|z
     ·exact past l z
     ·exact oth l (g3 l z hl)
    have hnot:k∉ds:=fun hkd=>by
     obtain⟨e,he,hek⟩:=ek.al k hkd
     obtain⟨i,hi⟩:=List.mem_iff_getElem?.mp he
     have hil:i < t.place.size:=by
      have:=(List.getElem?_eq_some_iff.mp hi).1
      have:=tk.len
      rw[Ama] at this
      lia
     have hpi:t.place[i]?=some t.place[i]:=Anu hil
     obtain⟨n',r1,r2⟩:=tk.reach i _ (A1 w k) hpi (by rw[Amo,hi,<- hek.1];rfl)
     rcases Nat.lt_trichotomy n' m with z|z|z
     ·obtain⟨i2,e2,q1,q2,q3⟩:=all n' z
      rw[r1] at q1
      have:=tk.inj q1 hpi
      subst this
      rw[Array.getElem?_toList] at hi
      rw[hi] at q2
      cases q2
      exact q3 hek
     ·subst z
      exact g2 ⟨i,by rw[r1];exact hpi⟩
     ·exact g2 (r2 m z)
    exact Al3 (h2 hnot m g2 fun l hl=>let ⟨i,_,q,_⟩:=all l hl;⟨i,q⟩)
   |cand m i g1 g2 g3 g4 =>
    dsimp only
    rw[Amo,Array.getElem?_toList] at g3
    obtain⟨e,e1,e2⟩:=Option.map_eq_some_iff.mp g3
    have hem:e∈es.toList:=by rw[<- Array.getElem?_toList] at e1;exact Amk e1
    obtain⟨k',hk',ik⟩:=ek.el e hem
    have hsee:∀ y∈(es.filter fun x=>x.1 == A1 w k).toList.map (·.2),∃ c k',y=.ref c/\B3 s.heap k' c:=fun y hy=>by
     obtain⟨e',he',rfl⟩:=List.mem_map.mp hy
     have he2:e'∈es.toList:=by
      rw[Array.toList_filter] at he'
      exact (List.mem_filter.mp he').1
     obtain⟨k2,_,_,c,q1,q2⟩:=ek.el e' he2
     exact⟨c,k2,q1,q2⟩
    obtain⟨eh,ey⟩:=e
    obtain⟨ik1,c,ik2,ik3⟩:=id ik
    simp only at ik2
    subst ik2
    have all:∀ l,l < m->∃ (i:Nat) (e:Int×Value),t.place[i]?=some (at' t (A1 w k) l)/\es[i]?=some e/\¬ IsK w s.heap e k:=fun l hl=>by
     rcases Nat.lt_or_ge l n with z|z
     ·exact past l z
     ·exact oth l (g4 l z hl)
    have hmN:m≠N:=fun z=>hN (z ▸ ⟨i,g2⟩)
    have hmN2:m < N:=by
     rcases Nat.lt_trichotomy m N with z|z|z
     ·exact z
     ·exact absurd z hmN
     ·obtain⟨i2,_,q,_⟩:=all N z
      exact absurd ⟨i2,q⟩ hN
    have hsm:t.sameMemory t.moves t.mask=some true:=by unfold SetTable.sameMemory;simp
    have hsl:=M5 tk.up g2
    cases hled:t.led with
    |false =>
     simp only[Ant,Anr]
     refine Al2 (Ad4 hx hsee ?_)
     simp only[Amd,Anh,e1]
     refine Al2 (Ani ((Dl prog w).eqBool hu ik3 hx ?_))
     refine Al2 (wpAny_setState_of ho hd hf ?_)
     by_cases hkk:k'=k
     ·rw[Ame hkk]
      simp only[Anq,Anr]
      exact Al3 (h1 (hkk ▸ hk'))
     ·rw[Amg hkk]
      simp only[Bool.and_false,Amd,Anh,hsm,Anr,hsl,e1]
      refine Al2 (wpAny_isSame_ref_self ?_)
      simp only[Anr]
      refine Al2 (Al3 ?_)
      dsimp only
      exact ih (m+1) _ rfl (by lia) (by lia) fun l hl=>(Nat.lt_or_ge l m).elim (all l) fun z=>⟨i,_,by rw[show l=m by lia];exact g2,e1,fun x=>hkk (ik.det x)⟩
    |true =>
     simp only[Anl,Amd,Anh,e1]
     refine Al2 (Ani ((Dl prog w).eqBool hu ik3 hx ?_))
     refine Al2 (wpAny_setState_of ho hd hf ?_)
     by_cases hkk:k'=k
     ·rw[Ame hkk]
      simp only[Anq,Anr]
      exact Al3 (h1 (hkk ▸ hk'))
     ·rw[Amg hkk]
      simp only[Bool.and_false,Amd,Anh,hsm,Anr,hsl,e1]
      refine Al2 (wpAny_isSame_ref_self ?_)
      simp only[Anr]
      refine Al2 (Al3 ?_)
      dsimp only
      exact ih (m+1) _ rfl (by lia) (by lia) fun l hl=>(Nat.lt_or_ge l m).elim (all l) fun z=>⟨i,_,by rw[show l=m by lia];exact g2,e1,fun x=>hkk (ik.det x)⟩
  ·rename_i hno
   have key:∀ ha:Nat->Int,(∀ (i:Nat) (h:Int),(es.toList.map (·.1))[i]?=some h->ha i=h)->∃ met,t.probe ha (A1 w k) (it t.mask n (t.probeStart (A1 w k)))=some met:=fun ha hh=>by
    have hm:=Ja tk hh hN hn hb
    generalize t.probe ha (A1 w k) (it t.mask n (t.probeStart (A1 w k)))=P at hm
    cases hm with
    |free=>exact⟨_,rfl⟩
    |cand=>exact⟨_,rfl⟩
   refine (hno _ (key _ fun i h hi=>?_).choose_spec).elim
   show ((es[i]?).map (·.1)).getD 0=h
   rw[Amo,Array.getElem?_toList] at hi
   rw[hi];rfl
def Rm (t:SetTable) (n:Nat):Prop:=(t.mask=7/\n<=4)\/(t.mask=31/\n<=18)\/(t.mask=127/\n<=76)
def SetK (w:World) (h:Heap) (a:Addr) (ds:List PyData):Prop :=
 ∃ o es ep t,h.get? a=some o/\o.ExactSet/\o.data=.set es ep t/\EK w h es.toList ds/\TOK t (es.toList.map (·.1))/\Rm t es.size
theorem Jc {h:Heap}{a:Addr}{o:Obj}{es:Array (Int×Value)}{ep:Nat}{t:SetTable}{ds:List PyData} (ho:h.get? a=some o) (hex:o.ExactSet) (hd:o.data=.set es ep t)
  {es':Array (Int×Value)}{t':SetTable} (ek:EK w h es'.toList ds) (tk:TOK t' (es'.toList.map (·.1))) (rm:Rm t' es'.size) :
  (h.update a (Obj.putSet es' t')).get? a=some { o with data:=.set es' (ep+1) t' }/\EK w (h.update a (Obj.putSet es' t')) es'.toList ds/\SetK w (h.update a (Obj.putSet es' t')) a ds:=by
 have hg:(h.update a (Obj.putSet es' t')).get? a=some { o with data:=.set es' (ep+1) t' }:=by
  have:=Heap.get?_update_self (Obj.putSet es' t') ho (by rw[putSet_of es' t' hd];rfl)
  rw[putSet_of es' t' hd] at this;exact this
 have ek':=ek.mono fun k b hk=>He ho hd (Heap.SameBut.update h a (Obj.putSet es' t')) hk
 exact⟨hg,ek',_,es',ep+1,t',hg,hex,rfl,ek',tk,rm⟩
theorem TOK.off {t:SetTable}{hs:List Int} (k:TOK t hs) (b:Bool):TOK (if b=true then t else { t with plain:=false }) hs:=by
 cases b with
 |true=>exact k
 |false=>exact⟨k.dm,k.len,k.up,k.le,k.mskOk,k.few,k.reach⟩
theorem Zh (t:SetTable) (b:Bool):(if b=true then t else { t with plain:=false }).mask=t.mask:=by cases b<;>rfl
theorem Ah0 {a:Addr}{o:Obj}{es:Array (Int×Value)}{ep:Nat}{t:SetTable} (ho:s.heap.get? a=some o) (hex:o.ExactSet) (hd:o.data=.set es ep t) {es1:Array (Int×Value)}{t2:SetTable}{ds1:List PyData} (ek1:EK w s.heap es1.toList ds1) (tk1:TOK t2 (es1.toList.map (·.1)))
  (rm:(t2.mask=7/\es1.size<=5)\/(t2.mask=31/\es1.size<=19)\/(t2.mask=127/\es1.size<=76)) {R:Bool->Shared->Prop} (h:∀ h',Heap.SameBut a s.heap h'->SetK w h' a ds1->R true { s with heap:=h' }) :
  wpAny (model prog w) A (do
   storeSet a es1 t2
   if (!false&&t2.tooFull)=true then do
     setRelay a (SetTable.grown es1.size)
     pure true
    else pure true) R E s:=by
 have hz76:es1.size<=76:=by lia
 have hzl:es1.size<=sizeLine:=by rw[Aoc];lia
 have hfill:t2.fill=es1.size:=by
  unfold SetTable.fill
  rw[tk1.dm,tk1.len];simp
 have hf2:t2.fits es1.size=true:=by have:=tk1.fits;rw[Ama,Amc] at this;exact this
 refine Al2 (wpAny_storeSet_of ho hd ?_ hzl)
 have hsb1:=Heap.SameBut.update s.heap a (Obj.putSet es1 t2)
 cases hfull:t2.tooFull with
 |false =>
  simp only[Ant,An5,Amd,Anh]
  refine Al3 (h _ hsb1 (Jc ho hex hd ek1 tk1 ?_).2.2)
  unfold SetTable.tooFull at hfull
  rw[hfill,decide_eq_false_iff_not] at hfull
  unfold Rm
  lia
 |true =>
  simp only[Ant,An5,Anr]
  unfold SetTable.tooFull at hfull
  rw[hfill,Anc] at hfull
  have hg:(s.heap.update a (Obj.putSet es1 t2)).get? a=some { o with data:=.set es1 (ep+1) t2 }:=by
   have:=Heap.get?_update_self (Obj.putSet es1 t2) ho (by rw[putSet_of es1 t2 hd];rfl)
   rw[putSet_of es1 t2 hd] at this;exact this
  have ek2:=ek1.mono fun k b hk=>He ho hd hsb1 hk
  obtain⟨M,hM1,hM2,hM3,hM4⟩:∃ M,SetTable.sizeAbove (SetTable.grown es1.size)=M+1/\Msk M/\es1.size<=M/\((M=31/\es1.size<=18)\/(M=127/\es1.size<=76)):=by
   rcases rm with ⟨z1,z2⟩|⟨z1,z2⟩|⟨z1,z2⟩
   ·have e5:es1.size=5:=by lia
    exact⟨31,by rw[e5];decide,.inr (.inl rfl),by lia,.inl ⟨rfl,by lia⟩⟩
   ·have e19:es1.size=19:=by lia
    exact⟨127,by rw[e19];decide,.inr (.inr rfl),by lia,.inr ⟨rfl,by lia⟩⟩
   ·lia
  unfold setRelay
  refine Al2 ?_
  refine Al2 (wpAny_setState_of hg rfl hf2 ?_)
  dsimp only
  have hno:¬ SetTable.sizeAbove (SetTable.grown es1.size) > sizeLine:=by rw[hM1,Aoc];lia
  rw[Aml hno]
  obtain⟨t3,order,l1,l2,l3,l4,l5,l6⟩:=Ab6 (f:=t2.finger) (mv:=t2.movedTo M) (led:=t2.led) (plain:=t2.plain) hM2 es1 hM3
  have hre:t2.relaid (es1.map (·.1)) (SetTable.grown es1.size)=some (t3,order):=by
   unfold SetTable.relaid
   rw[hM1]
   exact l1
  rw[hre]
  have hsz3:(order.filterMap (es1[·]?)).size=es1.size:=by rw[<- Amc,l5.length_eq,Amc]
  refine Al2 ?_
  show wpAny _ _ (if ((order.filterMap (es1[·]?)).size != es1.size)=true then _ else pure (order.filterMap (es1[·]?),t3)) _ _ _
  rw[Aml (by simp[hsz3])]
  refine Al3 ?_
  refine wpAny_storeSet_of hg rfl ?_ (by rw[hsz3];exact hzl)
  refine Al3 (h _ (hsb1.trans (Heap.SameBut.update _ a _)) (Jc hg hex rfl (ek2.perm l5) l6 ?_).2.2)
  unfold Rm
  rw[l4,hsz3]
  lia
theorem Z5 {a b:Addr}{ds:List PyData}{k:PyData}{Q:Bool->Shared->Prop} (hu:A.units+10 < cLine) (hS:SetK w s.heap a ds) (hx:B3 s.heap k b) (hl:ds.length < 76)
  (h:∀ h',Heap.SameBut a s.heap h'->SetK w h' a (if k∈ds then ds else ds++[k])->Q (!decide (k∈ds)) { s with heap:=h' }) :
  wpAny (model prog w) A (setAddHashed a (.ref b) (A1 w k)) Q E s:=by
 obtain⟨o,es,ep,t,ho,hex,hd,ek,tk,rm⟩:=id hS
 have hf:t.fits es.size=true:=by have:=tk.fits;rw[Ama,Amc] at this;exact this
 have hsz:es.size=ds.length:=by rw[<- ek.len];simp
 unfold setAddHashed setAddHashedIn
 refine Ani (Al2 (wpAny_setState_of ho hd hf ?_))
 dsimp only
 rw[show byScan (.ref b) es=false from rfl]
 simp only[Amd,Anh]
 unfold setSearch
 obtain⟨N,hN,hNf⟩:=tk.stop (A1 w k)
 have hmask:t.mask<=127:=by rcases tk.mskOk with z|z|z<;>lia
 refine Al2 (Z4 hu ho hd ek tk hx hNf hN (fun hk=>?_) (fun hk m g1 g2=>?_) 100000 0 none rfl (Amz _) (by lia) fun l hl=>absurd hl (Aoe _))
 ·have:=h s.heap (Heap.SameBut.refl a s.heap) (by rw[Amf hk];exact hS)
  rw[Ame hk] at this
  exact Al3 this
 ·rw[Aml hk,Amg hk] at h
  dsimp only
  refine Al2 (wpAny_setState_of ho hd hf ?_)
  dsimp only
  have hli:(SetTable.insertAt es (t.put (at' t (A1 w k) m)).2 (A1 w k,Value.ref b)).toList=es.toList.take (t.put (at' t (A1 w k) m)).2++(A1 w k,Value.ref b)::es.toList.drop (t.put (at' t (A1 w k) m)).2:=SetTable.toList_insertAt ..
  have hpm:(SetTable.insertAt es (t.put (at' t (A1 w k) m)).2 (A1 w k,Value.ref b)).toList.Perm (es.toList++[(A1 w k,Value.ref b)]):=by have:=SetTable.insertAt_perm es (t.put (at' t (A1 w k) m)).2 (A1 w k,Value.ref b);rw[Array.toList_push] at this;exact this
  have hmk:(t.put (at' t (A1 w k) m)).1.mask=t.mask:=rfl
  have tk1:=Ag9 tk g1 g2 (by rw[Ama,Amc];unfold Rm at rm;lia)
  rw[<- An0,<- List.map_drop] at tk1
  have tk2:TOK (t.put (at' t (A1 w k) m)).1 ((SetTable.insertAt es (t.put (at' t (A1 w k) m)).2 (A1 w k,Value.ref b)).toList.map (·.1)):=by
   rw[hli,Anp,Amr];exact tk1
  have ek1:=ek.add hpm ⟨rfl,b,rfl,hx⟩ hk
  have hs1:(SetTable.insertAt es (t.put (at' t (A1 w k) m)).2 (A1 w k,Value.ref b)).size=es.size+1:=by rw[<- Amc,hpm.length_eq];simp
  generalize (t.put (at' t (A1 w k) m)).1=t1 at hmk tk2
  generalize SetTable.insertAt es (t.put (at' t (A1 w k) m)).2 (A1 w k,Value.ref b)=es1 at tk2 ek1 hs1
  have hrm:∀ c:Bool,((if c=true then t1 else { t1 with plain:=false }).mask=7/\es1.size<=5)\/((if c=true then t1 else { t1 with plain:=false }).mask=31/\es1.size<=19)\/((if c=true then t1 else { t1 with plain:=false }).mask=127/\es1.size<=76):=fun c=>by
   rw[Zh,hmk,hs1]
   unfold Rm at rm
   lia
  obtain⟨x1,_,_,xs,xr⟩:=id hx
  rw[<- hs1]
  split
  ·refine Al2 ((Ua k).out x1 xr fun c=>?_)
   exact Ah0 ho hex hd ek1 (tk2.off c) (hrm c) h
  ·refine Al2 (Al3 ?_)
   exact Ah0 ho hex hd ek1 (tk2.off true) (hrm true) h
end
end TY
end L2
end S_TY5
section S_TY6
namespace L2
namespace TY
open PySem PySem.Spec PyProof.Rows L2.TX
mutual
theorem Jb {h h':Heap} (hh:∀ b o,h.get? b=some o->o.cls=.type "tuple"->h'.get? b=some o) {d:PyData}{v:Value}{as:List Addr} (hk:kOk d=true) (r:Reads h v d as):Reads h' v d as:=by
 cases r with
 |int i t=>exact .int i t
 |str i t=>exact .str i t
 |@tuple a o _ _ _ _ ho hc hd ra=>exact .tuple (hh _ _ ho hc) hc hd (D9 hh (by rw[kOk] at hk;exact hk) ra)
 |_=>simp[kOk] at hk
theorem D9 {h h':Heap} (hh:∀ b o,h.get? b=some o->o.cls=.type "tuple"->h'.get? b=some o) {ds:List PyData}{vs:List Value}{as:List Addr} (hk:Ie ds=true) (r:ReadsAll h vs ds as):ReadsAll h' vs ds as:=by
 cases r with
 |nil=>exact .nil
 |cons r rs =>
  rw[Ie,Ami] at hk
  exact .cons (Jb hh hk.1 r) (D9 hh hk.2 rs)
end
theorem Ej {h h':Heap} (hh:∀ b o,h.get? b=some o->o.cls=.type "tuple"->h'.get? b=some o) {d:PyData}{a:Addr} (k:B3 h d a):B3 h' d a:=by
 obtain⟨h1,h2,h3,as,r⟩:=k
 exact⟨h1,h2,h3,as,Jb hh h1 r⟩
theorem SetK.at' {w:World}{h h':Heap}{a:Addr}{ds:List PyData} (x:SetK w h a ds) (e:∀ o,h.get? a=some o->h'.get? a=some o) (hk:∀ d b,B3 h d b->B3 h' d b):SetK w h' a ds:=let ⟨o,es,ep,t,ho,hex,hd,ek,r⟩:=x;⟨o,es,ep,t,e _ ho,hex,hd,ek.mono hk,r⟩
noncomputable def met1K (xs:List PyData) (x:PyData):List PyData:=if x∈xs then xs else xs++[x]
noncomputable def metK (ys:List PyData):List PyData:=ys.foldl met1K []
theorem U6 (ys:List PyData) (x:PyData):metK (ys++[x])=met1K (metK ys) x:=by unfold metK;rw[List.foldl_append];rfl
theorem Uq (ys:List PyData):∀ xs:List PyData,(ys.foldl met1K xs).length<=xs.length+ys.length:=by
 induction ys with
 |nil=>intro xs;simp
 |cons y ys ih =>
  intro xs
  have h1:=ih (met1K xs y)
  have h2:(met1K xs y).length<=xs.length+1:=by unfold met1K;split<;>simp
  simp only[List.foldl_cons,Amh];lia
theorem Ace (ys:List PyData):(metK ys).length<=ys.length:=by have:=Uq ys [];simpa [metK] using this
section
variable {prog:Program}{w:World}{A:Around}{R:Result->Shared->Prop}{I:Addr}{fp wr:List Addr}{G:Array GenState->Array GenState->Prop}{n:Nat}{P:Nat->Value->Prop}{St:Nat->Shared->Prop}
theorem Xd (W:WalksS prog w A.in1 I fp wr G n P St) (S:Addr) (hSf:S∉fp) (hu:A.in1.units+10 < cLine) (h0:Heap) (ss:List PyData) (hval:∀ i v,P i v->∃ x b,ss[i]?=some x/\v=.ref b/\B3 h0 x b) (hb:n<=76) (hwr:∀ i (s:Shared) b o,St i s->b∈wr->s.heap.get? b=some o->o.cls≠.type "tuple") :
  ∀ (k i:Nat) (s:Shared),n - i=k->i<=n->St i s->(∀ d b,B3 h0 d b->B3 s.heap d b)->SetK w s.heap S (metK (ss.take i)) ->
   (∀ s',Moved (S::wr) G s s'->SetK w s'.heap S (metK (ss.take n))->R (.ok (.ret .none)) s') ->
   codeAny (model prog w) A (.builtin "set.update.loop" ⟨[.ref S,.ref I],[]⟩) R s:=by
 have hSw:S∉wr:=fun h=>hSf (W.sub _ h)
 have hsub:∀ b∈wr,b∈S::wr:=fun b hb=>Al4 _ hb
 intro k
 induction k with
 |zero =>
  intro i s hk hi hst hK hS hR
  have hkeep:∀ s',Moved wr G s s'->∀ d b,B3 s.heap d b->B3 s'.heap d b:=fun s' hm d b kd=>Ej (fun c o hc ht=>hm.heap c o (fun hw=>hwr i s c o hst hw hc ht) hc) kd
  have hin:i=n:=by lia
  subst hin
  refine codeAny_builtin F.entry_set_update_loop ?_
  rw[Around.under_plainId F.plain_set_update_loop _]
  show wpAny _ A.in1 (pyNext (.ref I) >>= _) _ _ s
  refine Al2 (W.done s _ _ hst fun s' hm=>?_)
  show wpAny _ A.in1 (ret Value.none) _ _ s'
  exact Al3 (hR s' (hm.mono hsub) (hS.at' (fun o e=>hm.heap S _ hSw e) (hkeep s' hm)))
 |succ k ih =>
  intro i s hk hi hst hK hS hR
  have hkeep:∀ s',Moved wr G s s'->∀ d b,B3 s.heap d b->B3 s'.heap d b:=fun s' hm d b kd=>Ej (fun c o hc ht=>hm.heap c o (fun hw=>hwr i s c o hst hw hc ht) hc) kd
  have hlt:i < n:=by lia
  refine codeAny_builtin F.entry_set_update_loop ?_
  rw[Around.under_plainId F.plain_set_update_loop _]
  show wpAny _ A.in1 (pyNext (.ref I) >>= _) _ _ s
  refine Al2 (W.item i s _ _ hlt hst fun v s' hP hst' hm=>?_)
  obtain⟨x,b,hx,rfl,hkb⟩:=hval i v hP
  have hxb:B3 s'.heap x b:=hkeep s' hm _ _ (hK _ _ hkb)
  have hS':=hS.at' (h':=s'.heap) (fun o e=>hm.heap S _ hSw e) (hkeep s' hm)
  show wpAny _ A.in1 (holding [Value.ref b] (setAdd S (.ref b)) >>= _) _ _ s'
  refine Al2 (Ani ?_)
  unfold setAdd
  refine Ani ?_
  refine Al2 ((Dl prog w).pyHash hu hxb ?_)
  have hroom:(metK (ss.take i)).length < 76:=by have:=Ace (ss.take i);have:=List.length_take_le i ss;lia
  refine Z5 (s:={ s' with toks:=s'.toks+Eu x }) hu hS' hxb hroom fun h' hsb hS2=>?_
  have hK2:∀ d b,B3 s'.heap d b->B3 h' d b:=fun d b kd=>by
   obtain⟨o,es,ep,t,ho,_,hd,_⟩:=hS'
   exact He ho hd hsb kd
  have hSi:SetK w h' S (metK (ss.take (i+1))):=by
   have e:ss.take (i+1)=ss.take i++[x]:=by rw[List.take_add_one,hx];rfl
   rw[e,U6]
   exact hS2
  refine Al3 ⟨plainId_quiet F.plain_set_update_loop _,ih (i+1) _ (by lia) hlt (W.frame _ s' _ _ hst' (Nat.le_add_right _ _) fun b hb o e=>?_) (fun d b kd=>hK2 _ _ (hkeep s' hm _ _ (hK _ _ kd))) hSi fun s'' hm'' hS''=>?_⟩
  ·rw[hsb.2 b (fun h:b=S=>hSf (by rw[<- h];exact hb))];exact e
  ·refine hR s'' (Moved.trans W.gtrans ((hm.mono hsub).then_heap (Nat.le_add_right _ _) fun b o hb e=>?_) hm'') hS''
   rw[hsb.2 b (fun h:b=S=>hb (by rw[h];exact Al6))];exact e
end
section
variable {prog:Program}{w:World}{A:Around}{E:Value->Shared->Prop}{s:Shared}
theorem set_listK {l:Addr}{items:Array Value}{ss:List PyData}{Q:Value->Shared->Prop} (hh:A.handled=none) (hl:s.heap.IsList l items) (hi:items.toList.length=ss.length) (hval:∀ (i:Nat) (v:Value),items[i]?=some v->∃ x b,ss[i]?=some x/\v=.ref b/\B3 s.heap x b) (hb:items.size<=76) (hu:A.units+20 < cLine)
  (h:∀ (h':Heap) (tk:Nat),SetK w h' s.heap.objs.size (metK ss)->(∀ b o,b < s.heap.objs.size->s.heap.get? b=some o->h'.get? b=some o)->Q (.ref s.heap.objs.size) { s with heap:=h',toks:=tk }) :
  wpAny (model prog w) A (call (.type "set") [.ref l]) Q E s:=by
 obtain⟨c,tl,hmro⟩:=PySem.F.called_set.mro
 have hmade:=PySem.F.called_set.made
 have hsub:=PySem.F.called_set.sub
 refine wpAny_call (codeAny_of_tree ?_)
 show wpAny _ _ (callAny (.type "set") _) _ _ _
 refine Al3 ⟨Code.quiet_builtin _ (by decide +kernel),codeAny_builtin PySem.F.entry_type_call ?_⟩
 rw[Around.under_plain (weight_type_call_type "set" [.ref l] []) rfl]
 have h1:=PySem.F.called_set.notType
 have h2:=PySem.F.called_set.canCreate
 have hct:=PySem.F.typeCall_set_1 (.ref l)
 repeat (any_goals (first|assumption|wp_step))
 refine codeAny_mono (V7 (.ref l) (E:=E) (Q₁:=fun obj s₁=>obj=.ref s.heap.objs.size/\s₁={ s with heap:=s.heap.push (Ax w) }) ⟨rfl,rfl⟩) fun r s₁ hr=>?_
 cases r with
 |error e=>exact hr
 |ok fl =>
  cases fl with
  |ret obj =>
   obtain⟨rfl,rfl⟩:=hr
   have hS:(s.heap.push (Ax w)).get? s.heap.objs.size=some (Ax w):=Amp _ rfl
   have hT:Shared.TypeIs { s with heap:=s.heap.push (Ax w) } (.ref s.heap.objs.size) "set":=⟨_,hS,rfl⟩
   have hli:=PySem.F.called_set.init.lookup
   have hbi:=PySem.F.called_set.init.bind (.ref s.heap.objs.size)
   repeat (any_goals (first|assumption|wp_step))
   refine codeAny_mono (codeAny_call_builtin (R:=wants (fun r s₂=>r=.none/\∃ h' tk,s₂={ s with heap:=h',toks:=tk }/\SetK w h' s.heap.objs.size (metK ss) /\
     (∀ b o,b < s.heap.objs.size->s.heap.get? b=some o->h'.get? b=some o)) E) PySem.F.called_set.init.plain PySem.F.entry_set_init (check_set_init_1 hT ?_)) fun r₂ s₂ hr₂=>?_
   ·obtain⟨ol,hol,hcl,nl,hdl⟩:=hl
    obtain⟨ocls,odict,odata,oslots⟩:=ol
    simp only at hcl hdl
    subst hcl;subst hdl
    have hol':(s.heap.push (Ax w)).get? l=some { cls:=.type "list",dict:=odict,data:=.seq items nl,slots:=oslots }:=Al5 _ hol
    have hsls:=PySem.F.sub_list_set
    have hslf:=PySem.F.sub_list_frozenset
    have hne:(Value.type "list" == Value.type "dict")=false:=by decide
    have hl1:(s.heap.push (Ax w)).IsList l items:=⟨_,hol',rfl,nl,rfl⟩
    unfold Builtin.«set.__init__» noKeywords Builtin.Frozenset.updateFrom
    generalize hPI:pyIter=PI
    wp_walk
    subst hPI
    refine wpAny_pyIter_list hl1 ?_
    refine Al2 (wpAny_runValue ?_)
    have hlS:l < s.heap.objs.size:=Al9 hol
    have hh3:A.in1.in1.in1.handled=none:=by simp[hh]
    have hneI:l≠(s.heap.push (Ax w)).objs.size:=by
     rw[Anj];exact Ams (Ane hlS)
    have hSf:s.heap.objs.size∉[(s.heap.push (Ax w)).objs.size,l]:=by
     rw[Anj];simp only[Amy,Aop,Amq,or_false,not_or]
     exact⟨Ams (Aox _),Aoy hlS⟩
    have hlen:ss.take items.size=ss:=An7 (by rw[<- hi,Amc];exact Al7 _)
    refine Xd ((Walks.list hh3 _ l hneI items).toS) s.heap.objs.size
     hSf (by show A.units+1+1+1+10 < cLine;lia) s.heap ss hval hb ?hwr (items.size - 0) 0 _ (by lia) (Amz _)
     ⟨⟨_,Amp _ rfl,rfl,rfl⟩,(hl1.push _)⟩ ?hK0 ?hS0 ?hR
    case hwr =>
     rintro i s2 b2 o2 ⟨⟨oi,hoi,hci,_⟩,_⟩ hbw hb2 hcl
     rw[List.mem_singleton.mp hbw,hoi] at hb2
     cases hb2
     rw[hci] at hcl
     exact absurd (Value.type.inj hcl) (by decide)
    case hK0=>exact fun d b kd=>Ej (fun c o hc _=>Al5 _ (Al5 _ hc)) kd
    case hS0 =>
     exact⟨Ax w,#[],0,_,Al5 _ hS,⟨rfl,rfl,rfl⟩,rfl,⟨fun e he=>by simp at he,fun k hk=>by simp[metK] at hk,rfl,List.nodup_nil⟩,Yy _ _ _,.inl ⟨rfl,by simp⟩⟩
    case hR =>
     intro s' hm hS'
     rw[hlen] at hS'
     obtain⟨h',g',d',tk',os'⟩:=s'
     have eg:g'=s.gens:=hm.gens
     have ed:d'=s.drawn:=hm.drawn
     have eo:os'=s.os:=hm.os
     subst eg;subst ed;subst eo
     show wpAny _ _ _ _ _ _
     refine Al3 ?_
     show wpAny _ _ (ret Value.none) _ _ _
     refine Al3 ⟨rfl,h',tk',rfl,hS',fun b o hb e=>?_⟩
     have hb1:b≠s.heap.objs.size:=Ams hb
     have hb2:b≠(s.heap.push (Ax w)).objs.size:=by
      rw[Anj];exact Ams (Ane hb)
     exact hm.heap b o (by simp only[Amy,Aop,Amq,or_false,not_or];exact⟨hb1,hb2⟩) (Al5 _ (Al5 _ e))
   ·cases r₂ with
    |error e=>exact hr₂
    |ok fl₂ =>
     cases fl₂ with
     |ret r =>
      obtain⟨rfl,h',tk,rfl,hS',hk'⟩:=hr₂
      repeat (any_goals (first|assumption|wp_step))
      exact h _ _ hS' hk'
     |_=>exact hr₂.elim
  |_=>exact hr.elim
end
end TY
end L2
end S_TY6
section S_ML41
namespace L2
namespace ML
open PySem PySem.Spec PyProof.Rows
def El (xs:List D) (x:D):List D:=if (xs.any fun d=>deq d x)=true then xs else xs++[x]
def Aar (ds:List D):List D:=ds.foldl El []
theorem Hk:∀ a b:List D,Bx (a++b)=Bx a++Bx b
 |[],b=>by rw[Bx];rfl
 |d::a,b=>by rw[Am9,Bx,Bx,Hk a b];rfl
theorem U1 {d:D} (h:Ig d=true):kOk (pyD d)=true:=by
 cases d with
 |tup ds=>unfold Ig at h;rw[Ami] at h;exact h.1
 |_=>exact B9 h
theorem Rg {d:D}:∀ {ds:List D},d∈ds->pyD d∈Bx ds
 |e::ds,h=>by
  rw[Bx]
  rcases List.mem_cons.mp h with rfl|h
  ·exact Al6 ..
  ·exact Al4 _ (Rg h)
theorem P1 {k:PyData}:∀ {ds:List D},k∈Bx ds->∃ d∈ds,pyD d=k
 |[],h=>by rw[Bx] at h;simp at h
 |e::ds,h=>by
  rw[Bx] at h
  rcases List.mem_cons.mp h with rfl|h
  ·exact⟨e,Al6 ..,rfl⟩
  ·obtain⟨d,hd,q⟩:=P1 h
   exact⟨d,Al4 _ hd,q⟩
theorem U9:∀ (ds xs:List D),(∀ d∈ds,Ig d=true)->(∀ d∈xs,Ig d=true)->Bx (ds.foldl El xs)=(Bx ds).foldl TY.met1K (Bx xs)
 |[],xs,_,_=>by rw[Bx];rfl
 |d::ds,xs,h1,h2=>by
  have hd:=h1 d (Al6 ..)
  have he:∀ e∈xs,deq e d=decide (pyD e=pyD d):=fun e he=>Abq (U1 (h2 e he)) (U1 hd)
  have hm:(xs.any fun e=>deq e d)=true ↔ pyD d∈Bx xs:=by
   rw[List.any_eq_true]
   constructor
   ·rintro ⟨e,h3,h4⟩
    rw[he e h3] at h4
    rw[<- Am6 h4];exact Rg h3
   ·intro h3
    obtain⟨e,h4,h5⟩:=P1 h3
    exact⟨e,h4,by rw[he e h4];exact Ame h5⟩
  rw[Bx,List.foldl_cons,List.foldl_cons]
  by_cases z:(xs.any fun e=>deq e d)=true
  ·have e1:El xs d=xs:=by unfold El;rw[Amf z]
   have e2:TY.met1K (Bx xs) (pyD d)=Bx xs:=by unfold TY.met1K;rw[Amf (hm.mp z)]
   rw[e1,e2]
   exact U9 ds xs (fun e he=>h1 e (Al4 _ he)) h2
  ·have e1:El xs d=xs++[d]:=by unfold El;rw[Aml z]
   have e2:TY.met1K (Bx xs) (pyD d)=Bx (xs++[d]):=by unfold TY.met1K;rw[Aml (fun y=>z (hm.mpr y)),Hk,Bx,Bx]
   rw[e1,e2]
   refine U9 ds _ (fun e he=>h1 e (Al4 _ he)) fun e he=>?_
   rcases List.mem_append.mp he with y|y
   ·exact h2 e y
   ·rw[List.mem_singleton.mp y];exact hd
theorem Lm:∀ ds:List D,(Bx ds).length=ds.length
 |[]=>by rw[Bx];rfl
 |d::ds=>by rw[Bx,Amh,Amh,Lm ds]
theorem Acf {ds:List D} (h:∀ d∈ds,Ig d=true):(TY.metK (Bx ds)).length=(Aar ds).length:=by
 have:=U9 ds [] h (fun _ h=>absurd h (by simp))
 unfold TY.metK Aar
 rw[<- Lm,this,Bx]
def Td:List D->MH->Option D:=fun xs m=>match xs with
 |[d]=>(sqL m d).bind fun ds=>(Hv ds).bind fun ts=>if ts.length < 64 then some (.int ((TX.metT ts).length:Nat)) else none
 |_=>none
noncomputable def shN:Nat->D->Bool
 |_,.int _=>true
 |_,.str _=>true
 |n+1,.tup ds=>ds.all (shN n)
 |_,_=>false
def shT:D->Bool
 |.tup ds=>shN 6 (.tup ds)
 |_=>false
theorem Aa6 {K:W.Frag}{H:Hp}{μ:List Addr}{B:Addr->Prop}:∀ (n:Nat) {d:D}{v:V},shN n d=true->Rep K H μ B d v->kOk (pyD d)=true/\Ng (pyD d)<=n
 |n,d,v,h,r=>by
  cases r with
  |int i=>rw[pyD];exact⟨rfl,Amz _⟩
  |str x ok=>rw[pyD,kOk];exact⟨ok,Amz _⟩
  |@tup ds a vs hq rs =>
   cases n with
   |zero=>exact B9 h
   |succ n =>
    rw[shN] at h
    have go:∀ {ds:List D}{vs:List V},Reps K H μ B ds vs->ds.all (shN n)=true->Ie (Bx ds)=true/\Mj (Bx ds)<=n:=by
     intro ds
     induction ds with
     |nil=>intro vs _ _;rw[Bx];exact⟨rfl,Amz _⟩
     |cons d ds ih =>
      intro vs rs h
      cases rs with
      |cons r rs =>
      rw[Amw,Ami] at h
      obtain⟨h1,h2⟩:=Aa6 n h.1 r
      obtain⟨h3,h4⟩:=ih rs h.2
      rw[Bx,Ie,Mj,h1,h3]
      exact⟨rfl,by lia⟩
    obtain⟨h1,h2⟩:=go rs h
    rw[pyD,kOk,Ng]
    exact⟨h1,by lia⟩
  |_=>cases n<;>exact B9 h
theorem V8 {K:W.Frag}{H:Hp}{μ:List Addr}{B:Addr->Prop}:∀ {ds:List D}{vs:List V},Reps K H μ B ds vs->ds.all shT=true->∀ d∈ds,Ig d=true
 |_,_,.nil,_,_,h=>absurd h (by simp)
 |_,_,.cons (d:=e) r rs,h,d,hd=>by
  rw[Amw,Ami] at h
  rcases List.mem_cons.mp hd with z|z
  ·rw[z]
   cases e with
   |tup ds =>
    obtain⟨h1,h2⟩:=Aa6 6 h.1 r
    show (kOk (pyD (.tup ds))&&decide (Ng (pyD (.tup ds))<=6))=true
    rw[h1,Ame h2];rfl
   |_=>exact B9 h.1
  ·exact V8 rs h.2 d z
def Ze:List D->MH->Option D:=fun xs m=>match xs with
 |[d]=>(sqL m d).bind fun ds=>if ds.all shT=true/\ds.length<=76 then some (.int ((Aar ds).length:Nat)) else none
 |_=>none
def SetN (h:Heap) (a:Addr) (n:Nat):Prop:=∃ o es ep t,h.get? a=some o/\o.ExactSet/\o.data=.set es ep t/\t.fits es.size=true/\es.size=n
theorem SetN.at' {h h':Heap}{a:Addr}{n:Nat} (x:SetN h a n) (e:∀ o,h.get? a=some o->h'.get? a=some o):SetN h' a n:=let ⟨o,es,ep,t,ho,r⟩:=x;⟨o,es,ep,t,e _ ho,r⟩
theorem Ahn {P:Program}{w:World}{h:Heap}{a:Addr}{ts:List Str} (x:TX.SetT P w h a ts):SetN h a ts.length:=by
 obtain⟨o,es,ep,t,ho,hex,hd,hel,hp,hf,_⟩:=x
 exact⟨o,es,ep,t,ho,hex,hd,hf,by rw[<- hp.length_eq];simp[TX.txs]⟩
theorem Ahm {w:World}{h:Heap}{a:Addr}{ds:List PyData} (x:TY.SetK w h a ds):SetN h a ds.length:=by
 obtain⟨o,es,ep,t,ho,hex,hd,ek,tk,_⟩:=x
 have:=tk.fits
 rw[Ama,Amc] at this
 exact⟨o,es,ep,t,ho,hex,hd,this,by rw[<- ek.len];simp⟩
noncomputable def Tx (a:Addr) (n:Nat):HO:=.ext fun h=>SetN h a n
section
variable {X:Cx}{e:Expr}{pos p p2 pos2:Pos}{k:Nat}{g:FL}
inductive tSetN (X:Cx) (g:FL) (N:List D->Option Nat) (σ:St) (H:Hp) (Q:VK):Prop
 |mk (env:A2) (μ:List Addr) (m:MH) (d:D) (ds:List D) (n:Nat) (S:Sim X.K H μ m) (E:EnvRep X.K H μ σ env) (h:g env m=some [d]) (h1:sqL m d=some ds) (h2:N ds=some n) (q:∀ a H',Same H H'->H a=none->H' a=some (Tx a n)->Q (.ref a) H')
def cT (ds:List D):Option Nat:=(Hv ds).bind fun ts=>if ts.length < 64 then some (TX.metT ts).length else none
def cK' (ds:List D):Option Nat:=if ds.all shT=true/\ds.length<=76 then some (Aar ds).length else none
theorem Ac3 (hr:Room k X.A) (hg:Gl X "set") (hm:X.mg "set"=none) (hv:bootBuiltins "set"=some (.type "set")) (ha:PL X [e] g) (he:starEach [e] X.env=(false,eval e X.env)::starEach [] X.env):PE X (.Call (.Name "set" p) [e] [] pos) (tSetN X g cT):=by
 intro pins s σ H Q I ⟨env,μ,m,d,ds,n,S,E,h,h1,h2,q⟩
 obtain⟨ts,h4,h3⟩:=bind_some h2
 split at h3
 ·rename_i hz
  cases h3
  refine Anb (D4 I hg hm hv ?_ (by decide) (by decide))
  refine PyProof.Rows.callWith_type1 (thn (ha pos pins s σ H (fun vs H1=>Same H H1/\Reps X.K H1 μ (·∈μ) [d] vs) I ⟨env,μ,m,[d],S,E,h,fun v H1 s1 r1=>⟨s1,r1⟩⟩) fun us s1 ⟨vs,H1,I1,r1,s1',rx⟩=>?_) he rfl
  obtain⟨v,rfl,r⟩:=rx.one
  obtain⟨u,rfl,ru⟩:=Ij r1
  obtain⟨a,xs,rfl,hq,rs⟩:=Hq (S.same s1') r h1
  cases ru
  obtain⟨its,rv,pl,hz'⟩:=I1.list hq
  obtain⟨st,okt⟩:=Rr rs rv h4
  have hl:its.length=ts.length:=st.length
  refine TX.set_list (items:=its.toArray) hr.hd pl.isList (by simpa using st) (by rw[Al8];unfold scanBound;lia) fun h' tk hS hk=>?_
  have kp:∀ b o,s1.heap.get? b=some o->h'.get? b=some o:=fun b o e=>hk b o (Al9 e) e
  have hN:=Ahn hS
  refine⟨.ref s1.heap.objs.size,upd H1 s1.heap.objs.size (Tx s1.heap.objs.size _),I1.laid (t':=tk) kp (Al7 _) ⟨hN,let ⟨o,_,_,_,ho,_⟩:=hN;⟨o,ho⟩,fun h1 h2 x e=>x.at' e⟩,rfl,q _ _ (s1'.trans (A6 I1.fresh)) (s1'.free I1.fresh) A8⟩
 ·exact Ae h3
theorem U2 {pins:List (Addr×Obj)}{σ:St}{H:Hp}{s:Shared}{μ:List Addr} (I:Inv X pins σ H s):∀ {ds:List D}{vs:List V}{us:List Value},Reps X.K H μ (·∈μ) ds vs->Vals vs us->(∀ d∈ds,Ig d=true)->us.length=(Bx ds).length/\∀ (i:Nat) (v:Value),us[i]?=some v->∃ x b,(Bx ds)[i]?=some x/\v=.ref b/\B3 s.heap x b
 |_,_,_,.nil,.nil,_=>⟨by rw[Bx];rfl,fun i v h=>by simp at h⟩
 |_,_,_,.cons (d:=d) r rs,.cons ru rv,h=>by
  obtain⟨b,rfl,hk⟩:=Ab5 r (h d (Al6 ..))
  obtain⟨i1,i2⟩:=U2 I rs rv fun e he=>h e (Al4 _ he)
  cases ru
  rw[Bx]
  refine⟨by rw[Amh,Amh,i1],fun i v hi=>?_⟩
  cases i with
  |zero=>cases hi;exact⟨_,b,rfl,rfl,Afq I hk⟩
  |succ i =>
   rw[Am5] at hi ⊢
   exact i2 i v hi
theorem Ac2 (hr:Room k X.A) (hg:Gl X "set") (hm:X.mg "set"=none) (hv:bootBuiltins "set"=some (.type "set")) (ha:PL X [e] g) (he:starEach [e] X.env=(false,eval e X.env)::starEach [] X.env):PE X (.Call (.Name "set" p) [e] [] pos) (tSetN X g cK'):=by
 intro pins s σ H Q I ⟨env,μ,m,d,ds,n,S,E,h,h1,h2,q⟩
 unfold cK' at h2
 split at h2
 ·rename_i hz
  cases h2
  refine Anb (D4 I hg hm hv ?_ (by decide) (by decide))
  refine PyProof.Rows.callWith_type1 (thn (ha pos pins s σ H (fun vs H1=>Same H H1/\Reps X.K H1 μ (·∈μ) [d] vs) I ⟨env,μ,m,[d],S,E,h,fun v H1 s1 r1=>⟨s1,r1⟩⟩) fun us s1 ⟨vs,H1,I1,r1,s1',rx⟩=>?_) he rfl
  obtain⟨v,rfl,r⟩:=rx.one
  obtain⟨u,rfl,ru⟩:=Ij r1
  obtain⟨a,xs,rfl,hq,rs⟩:=Hq (S.same s1') r h1
  cases ru
  obtain⟨its,rv,pl,hz'⟩:=I1.list hq
  have hall:∀ d∈ds,Ig d=true:=V8 rs hz.1
  obtain⟨hl,hv⟩:=U2 I1 rs rv hall
  have hlp:=Lm ds
  have hu:=hr.units
  refine TY.set_listK (ss:=Bx ds) (items:=its.toArray) hr.hd pl.isList (by simpa using hl) (fun i v hi=>hv i v (by simpa using hi)) (by rw[Al8];lia) (by lia) fun h' tk hS hk=>?_
  have kp:∀ b o,s1.heap.get? b=some o->h'.get? b=some o:=fun b o e=>hk b o (Al9 e) e
  have hN:=Ahm hS
  rw[Acf hall] at hN
  refine⟨.ref s1.heap.objs.size,upd H1 s1.heap.objs.size (Tx s1.heap.objs.size _),I1.laid (t':=tk) kp (Al7 _) ⟨hN,let ⟨o,_,_,_,ho,_⟩:=hN;⟨o,ho⟩,fun h1 h2 x e=>x.at' e⟩,rfl,q _ _ (s1'.trans (A6 I1.fresh)) (s1'.free I1.fresh) A8⟩
 ·exact Ae h2
theorem Mt {N:List D->Option Nat}{o:List D->MH->Option D} (ho:∀ xs m z,o xs m=some z->∃ d ds n,xs=[d]/\sqL m d=some ds/\N ds=some n/\n<=1000/\z=.int (n:Nat)) (hs:PE X (.Call (.Name "set" p2) [e] [] pos2) (tSetN X g N)) (hg:Gl X "len") (hm:X.mg "len"=none)
  (he2:starEach [.Call (.Name "set" p2) [e] [] pos2] X.env=(false,eval (.Call (.Name "set" p2) [e] [] pos2) X.env)::starEach [] X.env):PD X (.Call (.Name "len" p) [.Call (.Name "set" p2) [e] [] pos2] [] pos) (Av o g):=by
 intro pins s σ H Q I ⟨env,μ,m,out,S,E,h,q⟩
 obtain⟨xs,h1,h⟩:=bind_some h
 obtain⟨d,ds,n,rfl,h2,h3,hn,rfl⟩:=ho _ _ _ h
 refine Anb (D4 I hg hm boot_len ?_ (by decide) (by decide))
 refine PyProof.Rows.callWith_builtin1 (thn ((Lj hs Vm he2) pos pins s σ H (fun vs H1=>∃ a,vs=[.ref a]/\Same H H1/\H a=none/\H1 a=some (Tx a n)) I ⟨env,μ,m,d,ds,n,S,E,h1,h2,h3,fun a H' s1 hn hx=>⟨a,rfl,s1,hn,hx⟩⟩) fun us s1 ⟨vs,H1,I1,r1,a,hvs,s1',hno,hx⟩=>?_) he2 rfl
 subst hvs
 obtain⟨u,rfl,ru⟩:=Ij r1
 cases ru
 obtain⟨⟨ob,es,ep,t,g1,g2,g3,g4,g5⟩,_⟩:=(show ObjOk X.prog X.w X.K H1 s1.heap a (Tx a n) from I1.hok a _ hx)
 refine call_len_set g1 g2 g3 g4 (by lia) ?_
 rw[g5]
 exact⟨.int n,H1,I1.tok _,⟨_,rfl⟩,q _ _ s1' (.int _)⟩
theorem Y9 {xs:List D}{m:MH}{z:D} (h:Td xs m=some z):∃ d ds n,xs=[d]/\sqL m d=some ds/\cT ds=some n/\n<=1000/\z=.int (n:Nat):=by
 match xs,h with
 |[d],h =>
  obtain⟨ds,h1,h⟩:=bind_some h
  obtain⟨ts,h2,h⟩:=bind_some h
  split at h
  ·rename_i hz
   cases h
   have:=TX.metT_le ts
   exact⟨d,ds,_,rfl,h1,by unfold cT;rw[h2];show (if ts.length < 64 then _ else none)=_;rw[Amf hz],by lia,rfl⟩
  ·exact Ae h
theorem Acd (ds:List D):(Aar ds).length<=ds.length:=by
 have:∀ (ds xs:List D),(ds.foldl El xs).length<=xs.length+ds.length:=by
  intro ds
  induction ds with
  |nil=>intro xs;simp
  |cons d ds ih =>
   intro xs
   have h1:=ih (El xs d)
   have h2:(El xs d).length<=xs.length+1:=by unfold El;split<;>simp
   rw[List.foldl_cons,Amh];lia
 have:=this ds []
 simpa [Aar] using this
theorem Y8 {xs:List D}{m:MH}{z:D} (h:Ze xs m=some z):∃ d ds n,xs=[d]/\sqL m d=some ds/\cK' ds=some n/\n<=1000/\z=.int (n:Nat):=by
 match xs,h with
 |[d],h =>
  obtain⟨ds,h1,h⟩:=bind_some h
  split at h
  ·rename_i hz
   cases h
   have:=Acd ds
   exact⟨d,ds,_,rfl,h1,by unfold cK';rw[Amf hz],by lia,rfl⟩
  ·exact Ae h
theorem Adv (hr:Room k X.A) (hm:X.mg "len"=none) (hm2:X.mg "set"=none) (ha:QL X [e] g) (hg:Gl X "len":=by unfold Gl;kernel_rfl) (hg2:Gl X "set":=by unfold Gl;kernel_rfl) (he':B7 e=true:=by rfl):QD X (.Call (.Name "len" p) [.Call (.Name "set" p2) [e] [] pos2] [] pos) (Av Td g) :=
 ⟨Mt (fun _ _ _ h=>Y9 h) (Ac3 hr hg2 hm2 (by decide +kernel) ha.out (Ap he')) hg hm (Ap rfl)⟩
theorem Adu (hr:Room k X.A) (hm:X.mg "len"=none) (hm2:X.mg "set"=none) (ha:QL X [e] g) (hg:Gl X "len":=by unfold Gl;kernel_rfl) (hg2:Gl X "set":=by unfold Gl;kernel_rfl) (he':B7 e=true:=by rfl):QD X (.Call (.Name "len" p) [.Call (.Name "set" p2) [e] [] pos2] [] pos) (Av Ze g) :=
 ⟨Mt (fun _ _ _ h=>Y8 h) (Ac2 hr hg2 hm2 (by decide +kernel) ha.out (Ap he')) hg hm (Ap rfl)⟩
end
theorem Rz (n:Nat):Builtin.Slice.sliceAdjust none none (-1) (n:Int)=((n:Int) - 1,-1):=by
 simp[Builtin.Slice.sliceAdjust]
theorem Th (n:Nat):Builtin.Slice.slicePlaces ((n:Int) - 1) (-1) (-1)=n:=by
 unfold Builtin.Slice.slicePlaces
 rw[Aml (by decide),show (- -1:Int)=1 by decide,Int.ediv_one]
 split<;>lia
theorem Vq (xs:List Value):((List.range xs.length).filterMap fun (m:Nat)=>xs.toArray[(((xs.length:Int) - 1)+(m:Int) * (-1)).toNat]?).toArray=xs.reverse.toArray:=by
 congr 1
 have e:∀ m∈List.range xs.length,xs.toArray[(((xs.length:Int) - 1)+(m:Int) * (-1)).toNat]?=some (xs.getD (xs.length - 1 - m) Value.none):=fun m hm=>by
  have hm:=List.mem_range.mp hm
  rw[show (((xs.length:Int) - 1)+(m:Int) * (-1)).toNat=xs.length - 1 - m by lia,List.getElem?_toArray,Amb (by lia),Aoh,Amb (by lia)]
  rfl
 have fm:∀ l:List Nat,(∀ m∈l,m∈List.range xs.length)->l.filterMap (fun (m:Nat)=>xs.toArray[(((xs.length:Int) - 1)+(m:Int) * (-1)).toNat]?)=l.map fun m=>xs.getD (xs.length - 1 - m) Value.none:=by
  intro l
  induction l with
  |nil=>intro _;rfl
  |cons m l ih =>
   intro h
   rw[List.filterMap_cons,e m (h m (Al6 ..)),ih fun k hk=>h k (Al4 _ hk)]
   rfl
 rw[fm _ fun _ h=>h]
 apply List.ext_getElem?
 intro i
 by_cases hi:i < xs.length
 ·rw[List.getElem?_reverse hi,Amo,List.getElem?_range hi,Amb (by lia)]
  show some (xs.getD (xs.length - 1 - i) Value.none)=_
  rw[Aoh,Amb (by lia)]
  rfl
 ·rw[List.getElem?_eq_none (by simp;lia),List.getElem?_eq_none (by simp;lia)]
theorem E9 {prog:Program}{w:World}{A:Around}{E:Value->Shared->Prop}{s:Shared}{sl:Addr}{t:Tok}{n:Nat}{Q:Int×Int×Nat->Shared->Prop} (hs:s.heap.IsSliceOf sl .none .none (.int (-1) t))
  (h:Q ((n:Int) - 1,-1,n) s):wpAny (model prog w) A (Builtin.Slice.sliceApplied (.ref sl) (pure (n:Int))) Q E s:=by
 obtain⟨os,hos,hcs,hds⟩:=id hs
 unfold Builtin.Slice.sliceApplied Builtin.Slice.sliceFields
 refine Al2 (Al2 (wpAny_field hos hds (x:=.none) rfl (Al2 (wpAny_field hos hds (x:=.none) rfl (Al2 (wpAny_field hos hds (x:=.int (-1) t) rfl (Al3 ?_)))))))
 refine Al2 (HT.slicePart_ (.int (-1) t) ?_)
 show wpAny _ _ (if ((-1:Int) == 0)=true then _ else _) _ _ s
 rw[Aml (by decide)]
 refine Al2 (HT.slicePart_ .none (Al2 (HT.slicePart_ .none (Al2 (Al3 ?_)))))
 show wpAny _ _ (match Builtin.Slice.sliceAdjust none none (-1) (n:Int) with|(lo,hi)=>pure (lo,(-1:Int),Builtin.Slice.slicePlaces lo hi (-1))) _ _ s
 rw[Rz n]
 show wpAny _ _ (pure ((n:Int) - 1,(-1:Int),Builtin.Slice.slicePlaces ((n:Int) - 1) (-1) (-1))) _ _ s
 rw[Th]
 exact Al3 h
theorem Eh {prog:Program}{w:World}{A:Around}{E:Value->Shared->Prop}{s:Shared}{t sl:Addr}{tk:Tok}{its:List Value}{Q:Value->Shared->Prop} (ht:IsTup s.heap t its.toArray) (hs:s.heap.IsSliceOf sl .none .none (.int (-1) tk))
  (h:Q (.ref s.heap.objs.size) { s with heap:=s.heap.push { cls:=.type "tuple",data:=.seq its.reverse.toArray } }) (hsz:its.length<=sizeLine):wpAny (model prog w) A (getItem (.ref t) (.ref sl)) Q E s:=by
 obtain⟨os,hos,hcs,hds⟩:=id hs
 have hTs:s.TypeIs (.ref sl) "slice":=⟨os,hos,hcs⟩
 have htake:sizeOk (.seq its.reverse.toArray):=by
  show its.reverse.toArray.size<=sizeLine
  rw[Al8,List.length_reverse];exact hsz
 unfold getItem
 try with_reducible refine Ani ?_
 first|refine Al2 (Al3 ?_)|skip
 refine Al2 (wpAny_sequenceKey ht.typeIs (by decide) ?_)
 refine Al2 (wpAny_callSpecial?_slot (name:=Str.ofString "__getitem__") ht.typeIs PyProof.Rows.slot_tuple_getitem
  (wpAny_call_entry PyProof.Rows.slot_tuple_getitem ht.typeIs entry_tuple_getitem ?_ (args_tuple_getitem _ _)))
 show wpAny _ _ (Builtin.Tuple.tupleItemsOf (.ref t) >>= _) _ _ s
 refine Al2 (tupleItemsOf_ ht ?_)
 refine Al2 (wpAny_typeOf hTs ?_)
 rw[Amf (by decide)]
 rw[Al8]
 refine Al2 (E9 hs ?_)
 show wpAny _ _ (if ((((its.length:Int) - 1) == 0&&((-1:Int) == 1))&&(its.length == its.length))=true then _ else _) _ _ s
 rw[Aml (by simp),Vq]
 first
  |exact Al2 (m:=Builtin.Tuple.tupleExact _) (Am8 (Al3 ⟨_,rfl,Al3 h⟩) htake)
  |exact Al2 (m:=Builtin.Tuple.tupleExact _) (Am8 (Al2 (Al3 (Al3 ⟨_,rfl,Al3 h⟩))) htake)
  |exact Al2 (Al2 (m:=Builtin.Tuple.tupleExact _) (Am8 (Al3 (Al3 ⟨_,rfl,Al3 h⟩)) htake))
  |exact Al2 (Al2 (m:=Builtin.Tuple.tupleExact _) (Am8 (Al3 ⟨_,rfl,Al3 h⟩) htake))
section
variable {X:Cx}{e:Expr}{pos p p2 p3 p4:Pos}
noncomputable def Ajg (f:FE):FE:=fun env m=>(f env m).bind fun d=>match d with
 |.tup ds=>some (.tup ds.reverse)
 |_=>none
theorem Agq {f:FE} {j} (he:PD X e f):PD X (.Subscript e (.Slice none none (some (.UnaryOp .USub (.Constant (.int 1) j p3) p4)) p2) pos) (Ajg f):=by
 intro pins s σ H Q I h
 obtain⟨env,μ,m,d,S,E,h,q⟩:=h
 obtain⟨x,h1,h⟩:=bind_some h
 match x,h1,h with
 |.tup ds,h1,h =>
 cases h
 refine Subscript_ (thn (he pins s σ H (fun v H1=>Same H H1/\Rep X.K H1 μ (·∈μ) (.tup ds) v) I ⟨env,μ,m,.tup ds,S,E,h1,fun v H1 s1 r1=>⟨s1,r1⟩⟩) fun v s1 ⟨x',H1,I1,r1,s1',rx⟩=>?_)
 refine wpAny_Slice ?_
 rw[evalPart_none]
 refine Al3 ?_
 show wpAny _ _ (evalPart none X.env) _ _ s1
 rw[evalPart_none]
 refine Al3 ?_
 show wpAny _ _ (evalPart (some _) X.env) _ _ s1
 rw[evalPart_some]
 refine thn ((Akm (Ab (X:=X) (i:=1))).out pins s1 σ H1 (fun v H2=>Same H1 H2/\Rep X.K H2 μ (·∈μ) (.int (-1)) v) I1 ⟨env,μ,m,.int (-1),S.same s1',E.same s1',rfl,fun v H2 s2 r2=>⟨s2,r2⟩⟩) fun u s2 ⟨w,H2,I2,r2,s2',rw2⟩=>?_
 cases rw2
 obtain⟨t,rfl⟩:=r2
 cases rx.same s2' with
 |@tup _ a ys hq rs =>
 cases r1
 have I4:Inv X pins σ H2 { s2 with heap:=s2.heap.push { cls:=.type "slice",data:=.fields #[.none,.none,.int (-1) t] } }:=I2.kept (t':=s2.toks) fun b ob q=>Al5 _ q
 obtain⟨its,ri,pl,hz⟩:=I4.tuple hq
 have hlen:=ri.length
 have hg:wpAny (model X.prog X.w) X.A (getItem (.ref a) (.ref s2.heap.objs.size)) (EP X pins σ Q) X.xe { s2 with heap:=s2.heap.push { cls:=.type "slice",data:=.fields #[.none,.none,.int (-1) t] } }:=by
  refine Eh (its:=its) pl (Heap.IsSliceOf.new ..) ?_ (by lia)
  have hf:=I4.fresh
  exact⟨.ref _,_,I4.laid (t':=s2.toks) (o:=.tup ys.reverse) (fun b ob q=>Al5 _ q) (Al7 _) ⟨by rw[List.length_reverse];exact hz,_,ri.reverse,TupD.new _ _⟩,rfl,q _ _ ((s1'.trans s2').trans (A6 hf)) (.tup (.inl (.inl A8)) (rs.reverse.same (A6 hf)))⟩
 show wpAny (model X.prog X.w) X.A (subscriptTail e (.Slice none none (some (.UnaryOp .USub (.Constant (.int 1) j p3) p4)) p2) (.ref a) (.ref s2.heap.objs.size)) (EP X pins σ Q) X.xe { s2 with heap:=s2.heap.push { cls:=.type "slice",data:=.fields #[.none,.none,.int (-1) t] } }
 exact tail_any (ops:=[.ref a,.ref s2.heap.objs.size]) pl.typeIs PyProof.Rows.slot_tuple_getitem.lookup hg (by with_unfolding_all rfl)
theorem Ako {f:FE} {j} (ha:QD X e f):QD X (.Subscript e (.Slice none none (some (.UnaryOp .USub (.Constant (.int 1) j p3) p4)) p2) pos) (Ajg f):=⟨Agq ha.out⟩
end
inductive spN (K:W.Frag) (n:Nat) (fn:List D->Option D) (vs:List V) (H:Hp) (Q:VK) (E:XK):Prop
 |mk (ds:List D) (d:D) (r:Reps K H [] (fun _=>False) ds vs) (l:ds.length=n) (h:fn ds=some d) (q:∀ v H',Same H H'->Rep K H' [] (fun _=>False) d v->Q v H')
noncomputable def Aeo (n:Nat) (g:FS):List D->Option D:=fun ds=>(g (ds.map some++List.replicate (n - ds.length) none) []).bind fun o=>match o with
 |.rt d m=>if m.isEmpty=true then some d else Bm m d
 |.nx _ _=>some .non
 |_=>none
theorem Rk {K:W.Frag}{H:Hp}{B:Addr->Prop}{d:D}{v:V} (r:Rep K H [] B d v):Rep K H [] (fun _=>False) d v:=r.up (fun _ _ _ h=>h) (fun _ _ _ h _=>⟨h,fun z=>z⟩) fun _ _ h=>h
theorem Yv {P:Program}{w:World}{K:W.Frag}{mg:Str->Option Value}{base:Heap}{x qual:Str}{st:Stmt}{f:Addr}{fd:FuncData}{N ps:List Str}{k:Nat}{g:FS} (F:Fun K x qual st f fd) (S:FnScope N ps (Ao st))
  (hbody:∀ (cdv:Value) (A:Around) (outer:List Env) (s:Shared) (H:Hp) (E:XK),Room k (A.deeper (envOfC qual (Ao st) s.heap.objs.size f cdv)) ->
   Xg (Ug CX0 P w K mg base N qual (Ao st) f cdv A outer s H E).nox (B5 st) g):FnOk P w K mg base CX0 (k+1) f fd ps (spN K ps.length (Aeo N.length g)):=by
 refine F.ok S (fun vs H Q E h=>?_) (fun cdv A outer s H vs Q E hr h=>?_)
 ·obtain⟨ds,d,r,hl,_⟩:=h
  rw[<- r.length];exact hl
 ·obtain⟨ds,d,r,hl,h,q⟩:=h
  refine⟨_,hbody cdv A outer s H E hr,?_⟩
  obtain⟨o,h1,h2⟩:=bind_some h
  have S0:Sim K H [] []:=⟨List.nodup_nil,rfl,fun n a o h=>by simp at h⟩
  refine⟨_,[],[],o,S0,Es r,h1,?_⟩
  have fin:∀ {H':Hp}{μ':List Addr},Step H [] H' μ'->Same H H':=fun st b o e=>st.keep b o e (by simp)
  cases o with
  |rt d' m' =>
   refine fun v H' μ' st S' r'=>q v H' (fin st) ?_
   simp only at h2
   split at h2
   ·rename_i hm
    cases h2
    have hm0:m'=[]:=List.isEmpty_iff.mp hm
    have hμ:μ'=[]:=List.eq_nil_of_length_eq_zero (by rw[S'.len,hm0];rfl)
    subst hμ
    exact Rk r'
   ·exact Rk (Hy (B:=fun _=>False) S' (fun _ _ h=>h) r' h2)
  |nx env m'=>cases h2;exact fun σ' H' μ' st S' E'=>q _ H' (fin st) .non
  |bk _ _=>exact Ae h2
  |ct _ _=>exact Ae h2
structure ClN (P:Program) (w:World) (K:W.Frag) (mg:Str->Option Value) (base:Heap) (k:Nat) (x:Str) (n:Nat) (fn:List D->Option D):Prop where
 ex:∃ a fd ps,FnOk P w K mg base CX0 k a fd ps (spN K n fn)/\mg x=some (.ref a)/\W.keepIn K (.ref a)=true/\Binds K fd ps []
section
variable {P:Program}{w:World}{K:W.Frag}{mg:Str->Option Value}{base:Heap}{x:Str}{st:Stmt}{ps:List Str}{k n:Nat}
theorem Aa2 (N:List Str) (T:FD K mg x st ps) (g:FS) (fn:List D->Option D)
  (hbody:∀ (f:Addr) (cdv:Value) (A:Around) (outer:List Env) (s:Shared) (H:Hp) (E:XK),Room k (A.deeper (envOfC x (Ao st) s.heap.objs.size f cdv))->N.Nodup ->
   QSs (Ug CX0 P w K mg base N x (Ao st) f cdv A outer s H E).nox (B5 st) g) (hfn:fn=Aeo N.length g:=by rfl) (hn:ps.length=n:=by rfl) (S:FnScope N ps (Ao st):=by exact⟨rfl,rfl,rfl,by decide +kernel,rfl,by decide +kernel,by decide +kernel⟩):ClN P w K mg base (k+1) x n fn:=by
 obtain⟨a,fd,m,F,b⟩:=T.ex
 subst hfn hn
 exact⟨a,fd,ps,Yv F S fun cdv A outer s H E hr=>(hbody a cdv A outer s H E hr S.nd).out,m,F.kp,b⟩
end
section
variable {X:Cx}{e:Expr}{es:List Expr}{pos p:Pos}{x:Str}{k j n:Nat}{fn:List D->Option D}{g:FL}
def R5 (n:Nat) (fn:List D->Option D):List D->MH->Option D:=fun ds m=>if m.isEmpty=true then Ic n fn ds m else none
theorem Akl (F:ClN X.prog X.w X.K X.mg X.base k x n fn) (hr:Room j X.A) (ha:QL X (e::es) g) (hk:k<=j:=by decide) (hg:Gl X x:=by unfold Gl;kernel_rfl) (hdb:(x == ("__debug__":Str))=false:=by decide) (he':B7 e=true:=by rfl) (hpl':es.all B7=true:=by rfl) :
  QD X (.Call (.Name x p) (e::es) [] pos) (Av (R5 n fn) g):=by
 obtain⟨a,fd,ps,F,m,kp,b⟩:=F.ex
 refine⟨PE.imp (N8 F (hr.mono hk) hg m kp b .nil (Acw (X:=X)) ha.out hdb (Ap he') (Eb hpl')) fun σ H Q ⟨env,μ,m,d,S,E,h,q⟩=>?_⟩
 obtain⟨ds,h1,h⟩:=bind_some h
 unfold R5 at h
 split at h
 ·rename_i hm
  have hm0:m=[]:=List.isEmpty_iff.mp hm
  have hμ:μ=[]:=List.eq_nil_of_length_eq_zero (by rw[S.len,hm0];rfl)
  subst hμ
  obtain⟨ds',h2,h⟩:=bind_some h
  split at h
  ·rename_i hl
   exact⟨env,[],m,ds,S,E,h1,fun vs H1 s1 rs=>⟨ds',d,by rw[Ang];exact C4 (S.same s1) rs h2,hl,h,fun v H' s' r=>q v H' (s1.trans s') (r.up (fun _ _ _ h=>h) (fun _ _ _ h _=>⟨h,by simp⟩) fun _ _ h=>h)⟩⟩
  ·exact Ae h
 ·exact Ae h
end
noncomputable section
open Classical
def W {α:Type} (x:Option α) (Q:α->Prop):Prop:=∃ a,x=some a/\Q a
theorem W.out {d:α} (h:W x (fun a=>a=d)):x=some d:=by obtain⟨a,h1,h2⟩:=h;rw[h1,h2]
theorem W.imp {α:Type}{x:Option α}{P Q:α->Prop} (h:W x P) (i:∀ a,P a->Q a):W x Q:=by obtain⟨a,h1,h2⟩:=h;exact⟨a,h1,i a h2⟩
theorem Ac:W (some a) Q=Q a:=by
 apply propext;constructor
 ·rintro ⟨b,h,q⟩;cases h;exact q
 ·exact fun q=>⟨a,rfl,q⟩
theorem Bf:W none Q=False:=by
 apply propext;constructor
 ·rintro ⟨b,h,q⟩;exact Ae h
 ·exact False.elim
theorem W_bind:W (x.bind f) Q=W x (fun a=>W (f a) Q):=by
 cases x with
 |none=>rw[Bf];exact Bf
 |some a=>rw[Ac];rfl
theorem H9 [Decidable c]:W (if c then some x else none) Q=(c/\Q x):=by
 by_cases h:c
 ·rw[Amf h,Ac];simp[h]
 ·rw[Aml h,Bf];simp[h]
noncomputable def Aiy (Q:D->Prop):Out->Prop
 |.rt d m=>W (Bm m d) Q
 |.nx _ _=>Q .non
 |_=>False
theorem La {d:D}:Aiy Q (.rt d m)=W (Bm m d) Q:=rfl
theorem J9:Aiy Q (.nx e m)=Q .non:=rfl
theorem Bp:W (Ib n g ds) Q=W (g (ds.map some++List.replicate (n - ds.length) none) []) (Aiy Q):=by
 unfold Ib
 rw[W_bind]
 congr 1
 funext o
 cases o<;>first|rfl|exact Ac|exact Bf
noncomputable def Ahl (g:FS) (Q:Out->Prop):Out->Prop
 |.nx e m=>W (g e m) Q
 |o=>Q o
theorem Lr:Ahl g Q (.nx e m)=W (g e m) Q:=rfl
theorem Ls:Ahl g Q (.rt e m)=Q (.rt e m):=rfl
theorem Lp:Ahl g Q (.bk e m)=Q (.bk e m):=rfl
theorem Lq:Ahl g Q (.ct e m)=Q (.ct e m):=rfl
theorem Im:W (Br f g env m) Q=W (f env m) (Ahl g Q):=by
 unfold Br
 rw[W_bind]
 congr 1
 funext o
 cases o<;>first|rfl|exact Ac
theorem Pb:W (Ec env m) Q=Q (.nx env m):=Ac
theorem Pd:W (Cv f env m) Q=W (f env m) fun d=>Q (.rt d m):=by
 unfold Cv;rw[W_bind];congr 1;funext d;exact Ac
theorem Jp:W (Oc f env m) Q=W (f env m) fun ds=>Q (.rt (.ref m.length) (m++[.lst ds])):=by
 unfold Oc;rw[W_bind];congr 1;funext d;exact Ac
def cK (p q:Prop) (b:Bool):Prop:=(b=true->p)/\(b=false->q)
theorem R4:cK p q true=p:=by unfold cK;simp
theorem Xh:cK p q false=q:=by unfold cK;simp
theorem cK.mk {p q:Prop}{b:Bool} (h1:b=true->p) (h2:b=false->q):cK p q b:=⟨h1,h2⟩
theorem cK.dec [Decidable c] (h1:c->p) (h2:¬ c->q):cK p q (decide c):=⟨fun h=>h1 (Am6 h),fun h=>h2 (of_decide_eq_false h)⟩
theorem Er:W (if b=true then x else y) Q=cK (W x Q) (W y Q) b:=by
 cases b
 ·rw[Xh];rfl
 ·rw[R4];rfl
theorem X7 {t:FB}:W (sIf t f g env m) Q=W (t env m) (cK (W (f env m) Q) (W (g env m) Q)):=by
 unfold sIf;rw[W_bind];congr 1;funext c;exact Er
theorem Aew {d:D}:W (fC d env m) Q=Q d:=Ac
theorem Aev:W (f2 o f g env m) Q=W (f env m) fun x=>W (g env m) fun y=>W (o x y m) Q:=by
 unfold f2;rw[W_bind];congr 1;funext d;exact W_bind
theorem Il:W (Af env m) Q=Q []:=Ac
theorem Ee:W (Aa f g env m) Q=W (f env m) fun x=>W (g env m) fun xs=>Q (x::xs):=by
 unfold Aa;rw[W_bind];congr 1;funext d;rw[W_bind];congr 1;funext e;exact Ac
theorem Ed:W (Av o g env m) Q=W (g env m) fun xs=>W (o xs m) Q:=W_bind
theorem Ga:W (C9 o g env m) Q=W (g env m) fun xs=>W (o xs m) Q:=W_bind
theorem Oq:W (B2 g env m) Q=W (g env m) fun ds=>Q (.lst ds):=by
 unfold B2;rw[W_bind];congr 1;funext d;exact Ac
theorem Ox:W (Bw g env m) Q=W (g env m) fun ds=>ds.length<=1000000/\Q (.tup ds):=by
 unfold Bw;rw[W_bind];congr 1;funext d;exact H9
theorem Gc:W (Bc g env m) Q=W (g env m) fun ds=>ds.length<=1000000/\Q ds:=by
 unfold Bc;rw[W_bind];congr 1;funext d;exact H9
theorem G1:W (A7 f env m) Q=W (f env m) fun d=>W (asB d) Q:=W_bind
theorem Xl:W (asB (.bl b)) Q=Q b:=Ac
theorem Ov:W (Aej f env m) Q=W (f env m) fun d=>W (Ah1 m d) Q:=W_bind
theorem Pj:W (Ah1 m (.bl b)) Q=Q b:=Ac
theorem Om:W (Aam f g env m) Q=W (f env m) (cK (W (g env m) Q) (Q false)):=by
 unfold Aam;rw[W_bind];congr 1;funext c;rw[Er,Ac]
theorem Xs:W (fOr f g env m) Q=W (f env m) (cK (Q true) (W (g env m) Q)):=by
 unfold fOr;rw[W_bind];congr 1;funext c;rw[Er,Ac]
theorem Os:W (Abr f env m) Q=W (f env m) fun b=>Q (!b):=by
 unfold Abr;rw[W_bind];congr 1;funext c;exact Ac
theorem Jl:W (Nt f g env m) Q=W (f env m) fun d=>W (asB d) (cK (W (g env m) Q) (Q (.bl false))):=by
 unfold Nt;rw[W_bind,G1];congr 1;funext c;congr 1;funext c;rw[Er,Ac]
theorem Xq {t:FB}:W (fIf t f g env m) Q=W (t env m) (cK (W (f env m) Q) (W (g env m) Q)):=by
 unfold fIf;rw[W_bind];congr 1;funext c;exact Er
theorem Gb:W (Ir o o' f g h env m) Q=W (f env m) fun x=>W (g env m) fun y=>W (o x y m) fun z=>W (asB z) (cK (W (h env m) fun w=>W (o' y w m) Q) (Q (.bl false))):=by
 unfold Ir
 rw[W_bind];congr 1;funext x
 rw[W_bind];congr 1;funext y
 rw[W_bind];congr 1;funext z
 rw[W_bind];congr 1;funext k
 rw[Er,Ac,W_bind]
theorem Xt {l h:FO}:W (fSl f l h env m) Q=W (f env m) fun x=>W (l env m) fun lo=>W (h env m) fun hi=>W (oSl x lo hi) Q:=by
 unfold fSl
 rw[W_bind];congr 1;funext x
 rw[W_bind];congr 1;funext y
 rw[W_bind]
theorem Xr:W (fNo env m) Q=Q none:=Ac
theorem Jn:W (B6 f env m) Q=W (f env m) fun d=>W (asI d) fun i=>Q (some i):=by
 unfold B6
 rw[W_bind];congr 1;funext x
 rw[W_bind];congr 1;funext y
 exact Ac
theorem Xm:W (asI (.int i)) Q=Q i:=Ac
theorem L1 {z:List D}{lo hi:Option Int}{Q:D->Prop}:W (oSl (.tup z) lo hi) Q=Q (.tup (Ck z lo hi)):=Ac
def slK (lo hi:Option Int) (m:MH) (x:D) (Q:List D->Prop):Prop:=W (match x with
 |.tup _=>none
 |x=>(sq m x).bind fun ds=>some (Ck ds lo hi)) Q
theorem Ou {l h:FO}:W (Nc f l h env m) Q=W (f env m) fun x=>W (l env m) fun lo=>W (h env m) fun hi=>slK lo hi m x Q:=by
 unfold Nc slK
 rw[W_bind];congr 1;funext x
 rw[W_bind];congr 1;funext y
 rw[W_bind]<;>congr 1
theorem Z9 {lo hi:Option Int}{m:MH}{ds:List D}{Q:List D->Prop}:slK lo hi m (.lst ds) Q=Q (Ck ds lo hi):=Ac
theorem Ro {lo hi:Option Int}{m:MH}{ds:List D}{Q:List D->Prop}:slK lo hi m (.kl ds) Q=Q (Ck ds lo hi):=Ac
theorem On:W (Tu f g env m) Q=W (f env m) fun x=>W (g env m) fun y=>W (sqL m x) fun xs=>W (sqL m y) fun ys=>xs.length+ys.length<=1000000/\Q (xs++ys):=by
 unfold Tu
 rw[W_bind];congr 1;funext x
 rw[W_bind];congr 1;funext y
 rw[W_bind];congr 1;funext z
 rw[W_bind];congr 1;funext k
 exact H9
theorem Oo:W (Afj U f env m) Q=W (f env m) fun d=>W (tyD m d) fun T=>W (Ab2 T U) fun b=>Q (.bl b):=by
 unfold Afj
 rw[W_bind];congr 1;funext x
 rw[W_bind];congr 1;funext y
 rw[W_bind];congr 1;funext z
 exact Ac
theorem Ik:W (Nf env m) Q=Q true:=Ac
theorem Jm {cap:List Nat}{t:FB}:W (Ci cap k fw g t fe env m) Q=W (fw env m) fun w=>(w.chk m/\w.all.length<=1000000)/\W (D2 g t fe m (Tt cap k env) w.all) Q:=by
 unfold Ci
 rw[W_bind];congr 1;funext w
 by_cases h:w.chk m/\w.all.length<=1000000
 ·rw[Amf h];apply propext;exact⟨fun q=>⟨h,q⟩,fun q=>q.2⟩
 ·rw[Aml h,Bf];apply propext;exact⟨False.elim,fun q=>h q.1⟩
theorem Ce {t:FB}:W (D2 g t fe m env []) Q=Q []:=Ac
theorem B4 {t:FB}{d:D}:W (D2 g t fe m env (d::ds)) Q=W (g d env) fun env1=>W (t env1 m) (cK (W (fe env1 m) fun y=>W (D2 g t fe m env ds) fun ys=>Q (y::ys)) (W (D2 g t fe m env ds) Q)):=by
 rw[D2,W_bind];congr 1;funext e
 rw[W_bind];congr 1;funext ok
 rw[Er,W_bind]
 congr 1
 congr 1;funext y
 rw[W_bind];congr 1;funext z
 exact Ac
theorem Oe:W (Dm (.int i) (.int j) m) Q=Q (.int (i+j)):=Ac
theorem Of:W (Dm (.str i) (.str j) m) Q=(i.length+j.length<=1000000/\Q (.str (i++j))):=H9
theorem Og:W (Dm (.tup i) (.tup j) m) Q=(i.length+j.length<=1000000/\Q (.tup (i++j))):=H9
theorem Ph:W (Ai1 (.int i) (.int j) m) Q=Q (.int (i - j)):=Ac
theorem O5:W (Nh (.int i) (.int j) m) Q=(((-(2 ^ 64) < i/\i < 2 ^ 64)\/(-(2 ^ 64) < j/\j < 2 ^ 64))/\Q (.int (i * j))):=H9
theorem Ol:W (Aat (.int i) (.int j) m) Q=((0 < j/\j < 1073741824)/\Q (.int (i / j))):=H9
theorem O4:W (N5 (.int i) (.int j) m) Q=(0 < j/\Q (.int (i % j))):=H9
theorem X4:W (oLt (.int i) (.int j) m) Q=Q (.bl (decide (i < j))):=by
 rw[show oLt (.int i) (.int j) m=some (.bl (decide (i < j))) by rfl,Ac]
theorem X3:W (oLe (.int i) (.int j) m) Q=Q (.bl (decide (i<=j))):=Ac
theorem Xw:W (oGt (.int i) (.int j) m) Q=Q (.bl (decide (j < i))):=Ac
theorem Aic:W (oEq x y m) Q=W (Cw m x) fun x'=>W (Cw m y) fun y'=>dep x'<=60/\Q (.bl (deq x' y')):=by
 unfold oEq eqO
 rw[W_bind,W_bind];congr 1;funext x'
 rw[W_bind];congr 1;funext y'
 rw[H9,Ac]
theorem Aig:W (oNe x y m) Q=W (Cw m x) fun x'=>W (Cw m y) fun y'=>dep x'<=60/\Q (.bl (!deq x' y')):=by
 unfold oNe eqO
 rw[W_bind,W_bind];congr 1;funext x'
 rw[W_bind];congr 1;funext y'
 rw[H9,Ac]
theorem X2:W (oIx (.str z) (.int i) m) Q=(z.length<=1000000/\W (atI z.cps.toList i) fun c=>Q (.str ⟨#[c]⟩)):=by
 show W (if z.length<=1000000 then (atI z.cps.toList i).bind fun c=>some (.str ⟨#[c]⟩) else none) Q=_
 by_cases h:z.length<=1000000
 ·rw[Amf h,W_bind];simp only[h,true_and];congr 1;funext c;exact Ac
 ·rw[Aml h,Bf];simp[h]
theorem G3:W (oIx (.tup z) (.int i) m) Q=W (atI z i) Q:=rfl
theorem X1:W (oIx (.lst z) (.int i) m) Q=W (atI z i) Q:=rfl
theorem X0:W (oIx (.kl z) (.int i) m) Q=W (atI z i) Q:=rfl
theorem O2:W (Dz [.str z] m) Q=(z.length<=1000000/\Q (.int z.length)):=by
 show W ((if z.length<=1000000 then some z.length else none).bind fun n=>some (.int n)) Q=_
 rw[W_bind,H9,Ac]
theorem O3:W (Dz [.tup z] m) Q=Q (.int z.length):=Ac
theorem O0:W (Dz [.lst z] m) Q=Q (.int z.length):=Ac
theorem Oz:W (Dz [.kl z] m) Q=Q (.int z.length):=Ac
theorem O1:W (Dz [.ref n] m) Q=W (sq m (.ref n)) fun z=>Q (.int z.length):=by
 show W (((sq m (.ref n)).bind fun ds=>some ds.length).bind fun n=>some (.int n)) Q=_
 rw[W_bind,W_bind];congr 1;funext z;rw[Ac,Ac]
theorem Xk {d:D}:W (Ach [d] m) Q=W (sqL m d) fun ds=>W (J1 ds) fun bs=>Q (.bl (bs.all (fun b=>b))):=by
 unfold Ach
 simp only
 rw[W_bind];congr 1;funext z;rw[W_bind];congr 1;funext z;exact Ac
theorem Pf:W (sqL m (.lst z)) Q=Q z:=Ac
theorem Xy:W (oIn (.str x) (.str z) m) Q=Q (.bl (!(Builtin.Str.occurrences z x 0 z.length 1).isEmpty)):=by
 unfold oIn inO;rw[W_bind];simp only;rw[Ac,Ac]
theorem Xx:W (oIn x (.lst z) m) Q=W (Cw m x) fun x'=>W (Cw m (.lst z)) fun y'=>W (sq [] y') fun ds=>dep x'<=50/\Q (.bl (ds.any fun d=>deq d x')):=by
 unfold oIn inO;rw[W_bind];simp only
 rw[W_bind];congr 1;funext x';rw[W_bind];congr 1;funext z;rw[W_bind];congr 1;funext z;rw[H9,Ac]
theorem Du:W (Ic n fn ds m) Q=W (Cr m ds) fun ds'=>ds'.length=n/\W (fn ds') Q:=by
 unfold Ic
 rw[W_bind];congr 1;funext z
 by_cases h:z.length=n
 ·rw[Amf h];simp[h]
 ·rw[Aml h,Bf];simp[h]
theorem Cc:W (Cr m []) Q=Q []:=Ac
theorem Cb {d:D}:W (Cr m (d::ds)) Q=W (Cw m d) fun d'=>W (Cr m ds) fun ds'=>Q (d'::ds'):=by
 rw[Cr,W_bind];congr 1;funext z;rw[W_bind];congr 1;funext z;exact Ac
theorem Jq:W (Cw m (.bl b)) Q=Q (.bl b):=Ac
theorem Js:W (Cw m (.int b)) Q=Q (.int b):=Ac
theorem Jv:W (Cw m (.str b)) Q=Q (.str b):=Ac
theorem Ju:W (Cw m (.lst b)) Q=(Bn b=true/\Q (.lst b)):=H9
theorem Jt:W (Cw m (.kl b)) Q=(Bn b=true/\Q (.kl b)):=H9
theorem X9:W (tyD m (.bl b)) Q=Q "bool":=Ac
theorem Cj:W (Ab2 "bool" "bool") Q=Q true:=by rw[show Ab2 "bool" "bool"=some true by decide,Ac]
theorem Ye:W (Bm m (.bl b)) Q=Q (.bl b):=by rw[Bm,Ac]
theorem Yg:W (Bm m (.int b)) Q=Q (.int b):=by rw[Bm,Ac]
theorem Yh:W (Bm m (.str b)) Q=Q (.str b):=by rw[Bm,Ac]
def Aeq (m:MH) (d:D) (Q:Wk->Prop):Prop:=W (match d with
 |.str z=>some ⟨Ds z,Bv⟩
 |.tup ds=>some ⟨ds,Bv⟩
 |.lst ds=>some ⟨ds,Bv⟩
 |.kl ds=>some ⟨ds,Bv⟩
 |.ref n=>(match m[n]? with
  |some (.lst ds)=>some ⟨ds,fun m'=>m'[n]?=some (.lst ds)⟩
  |_=>none)
 |_=>none) Q
theorem Pk:W (Rv f env m) Q=W (f env m) fun d=>Aeq m d Q:=W_bind
theorem Ai5:Aeq m (.str z) Q=Q ⟨Ds z,Bv⟩:=Ac
theorem Ai6:Aeq m (.tup z) Q=Q ⟨z,Bv⟩:=Ac
theorem Ai3:Aeq m (.lst z) Q=Q ⟨z,Bv⟩:=Ac
theorem Ai4:Aeq m (.ref n) Q=W (sq m (.ref n)) fun ds=>Q ⟨ds,fun m'=>m'[n]?=some (.lst ds)⟩:=by
 unfold Aeq sq
 simp only
 cases m[n]? with
 |none=>rw[Bf,Bf]
 |some o=>cases o with
  |lst ds=>rw[Ac,Ac]
  |dct ds=>rw[Bf,Bf]
  |dcs ks ds=>rw[Bf,Bf]
def Ald (ds:List D) (Q:Wk->Prop):Prop:=W (match ds with
 |[.int j]=>if -(2 ^ 62)<=j/\j < 2 ^ 62 then some ⟨Df 0 j.toNat,Bv⟩ else none
 |_=>none) Q
theorem Jw:W (Hx g env m) Q=W (g env m) fun ds=>Ald ds Q:=W_bind
theorem Z2:Ald [.int j] Q=((-(2 ^ 62)<=j/\j < 2 ^ 62)/\Q ⟨Df 0 j.toNat,Bv⟩):=H9
theorem O9:W (Xj f g b env m) Q=W (f env m) fun w=>W (Ia w.chk g b w.all env m) Q:=W_bind
theorem Xv:W (Ia chk g b [] e m) Q=(chk m/\Q (.nx e m)):=by rw[Ia];exact H9
def To (chk:MH->Prop) (g:FG) (b:FS) (ds:List D) (Q:Out->Prop):Out->Prop
 |.nx e m=>W (Ia chk g b ds e m) Q
 |.ct e m=>W (Ia chk g b ds e m) Q
 |.bk e m=>Q (.nx e m)
 |.rt d m=>Q (.rt d m)
theorem Gy:To chk g b ds Q (.nx e m)=W (Ia chk g b ds e m) Q:=rfl
theorem Gx:To chk g b ds Q (.ct e m)=W (Ia chk g b ds e m) Q:=rfl
theorem Gw:To chk g b ds Q (.bk e m)=Q (.nx e m):=rfl
theorem Gz:To chk g b ds Q (.rt e m)=Q (.rt e m):=rfl
theorem Tz {d:D}:W (Ia chk g b (d::ds) e m) Q=(chk m/\W (g d e) fun e1=>W (b e1 m) (To chk g b ds Q)):=by
 rw[Ia]
 by_cases h:chk m
 ·rw[Amf h,W_bind]
  apply propext
  have k:∀ e1,W ((b e1 m).bind fun o=>match o with
   |.nx env2 m2=>Ia chk g b ds env2 m2
   |.ct env2 m2=>Ia chk g b ds env2 m2
   |.bk env2 m2=>some (.nx env2 m2)
   |.rt d m2=>some (.rt d m2)) Q=W (b e1 m) (To chk g b ds Q):=by
   intro e1
   rw[W_bind]
   congr 1
   funext o
   cases o<;>first|rfl|exact Ac
  exact⟨fun q=>⟨h,q.imp fun e1 q=>(k e1) ▸ q⟩,fun q=>q.2.imp fun e1 q=>(k e1) ▸ q⟩
 ·rw[Aml h,Bf];simp[h]
theorem Dg:Bv m=True:=rfl
theorem Aey {d:D}{l:A2}:W (Aj 0 (some d::l) m) Q=Q d:=Ac
theorem Aid {l:A2}:W (Tv 0 f (y::l) m) Q=W (f (y::l) m) fun ds=>Q (.nx (some (.ref m.length)::l) (m++[.lst ds])):=by unfold Tv;rw[W_bind];congr 1;funext d;exact Ac
theorem Ah7 {d:D}{l:A2}:W (Bb 0 d (y::l)) Q=Q (some d::l):=Ac
theorem Aez {d:D}{l:A2}:W (Aj 1 (x0::some d::l) m) Q=Q d:=Ac
theorem Aih {l:A2}:W (B0 1 f (x0::y::l) m) Q=W (f (x0::y::l) m) fun d=>Q (.nx (x0::some d::l) m):=by unfold B0;rw[W_bind];congr 1;funext d;exact Ac
theorem Ah8 {d:D}{l:A2}:W (Bb 1 d (x0::y::l)) Q=Q (x0::some d::l):=Ac
theorem Ae0 {d:D}{l:A2}:W (Aj 2 (x0::x1::some d::l) m) Q=Q d:=Ac
theorem Aii {l:A2}:W (B0 2 f (x0::x1::y::l) m) Q=W (f (x0::x1::y::l) m) fun d=>Q (.nx (x0::x1::some d::l) m):=by unfold B0;rw[W_bind];congr 1;funext d;exact Ac
theorem Aie {l:A2}:W (Tv 2 f (x0::x1::y::l) m) Q=W (f (x0::x1::y::l) m) fun ds=>Q (.nx (x0::x1::some (.ref m.length)::l) (m++[.lst ds])):=by unfold Tv;rw[W_bind];congr 1;funext d;exact Ac
theorem Aeu {d:D}{l:A2}:W (Bb 2 d (x0::x1::y::l)) Q=Q (x0::x1::some d::l):=Ac
theorem Ae1 {d:D}{l:A2}:W (Aj 3 (x0::x1::x2::some d::l) m) Q=Q d:=Ac
theorem Aij {l:A2}:W (B0 3 f (x0::x1::x2::y::l) m) Q=W (f (x0::x1::x2::y::l) m) fun d=>Q (.nx (x0::x1::x2::some d::l) m):=by unfold B0;rw[W_bind];congr 1;funext d;exact Ac
theorem Ah9 {d:D}{l:A2}:W (Bb 3 d (x0::x1::x2::y::l)) Q=Q (x0::x1::x2::some d::l):=Ac
theorem Aiq {d:D}{l:A2}:W (Aj 4 (x0::x1::x2::x3::some d::l) m) Q=Q d:=Ac
theorem Aik {l:A2}:W (B0 4 f (x0::x1::x2::x3::y::l) m) Q=W (f (x0::x1::x2::x3::y::l) m) fun d=>Q (.nx (x0::x1::x2::x3::some d::l) m):=by unfold B0;rw[W_bind];congr 1;funext d;exact Ac
theorem Aif {l:A2}:W (Tv 4 f (x0::x1::x2::x3::y::l) m) Q=W (f (x0::x1::x2::x3::y::l) m) fun ds=>Q (.nx (x0::x1::x2::x3::some (.ref m.length)::l) (m++[.lst ds])):=by unfold Tv;rw[W_bind];congr 1;funext d;exact Ac
theorem Aia {d:D}{l:A2}:W (Bb 4 d (x0::x1::x2::x3::y::l)) Q=Q (x0::x1::x2::x3::some d::l):=Ac
theorem Air {d:D}{l:A2}:W (Aj 5 (x0::x1::x2::x3::x4::some d::l) m) Q=Q d:=Ac
theorem Ail {l:A2}:W (B0 5 f (x0::x1::x2::x3::x4::y::l) m) Q=W (f (x0::x1::x2::x3::x4::y::l) m) fun d=>Q (.nx (x0::x1::x2::x3::x4::some d::l) m):=by unfold B0;rw[W_bind];congr 1;funext d;exact Ac
theorem Aib {d:D}{l:A2}:W (Bb 5 d (x0::x1::x2::x3::x4::y::l)) Q=Q (x0::x1::x2::x3::x4::some d::l):=Ac
theorem Ais {d:D}{l:A2}:W (Aj 6 (x0::x1::x2::x3::x4::x5::some d::l) m) Q=Q d:=Ac
theorem Aim {l:A2}:W (B0 6 f (x0::x1::x2::x3::x4::x5::y::l) m) Q=W (f (x0::x1::x2::x3::x4::x5::y::l) m) fun d=>Q (.nx (x0::x1::x2::x3::x4::x5::some d::l) m):=by unfold B0;rw[W_bind];congr 1;funext d;exact Ac
theorem Ait {d:D}{l:A2}:W (Aj 7 (x0::x1::x2::x3::x4::x5::x6::some d::l) m) Q=Q d:=Ac
theorem Ain {l:A2}:W (B0 7 f (x0::x1::x2::x3::x4::x5::x6::y::l) m) Q=W (f (x0::x1::x2::x3::x4::x5::x6::y::l) m) fun d=>Q (.nx (x0::x1::x2::x3::x4::x5::x6::some d::l) m):=by unfold B0;rw[W_bind];congr 1;funext d;exact Ac
theorem Aiu {d:D}{l:A2}:W (Aj 8 (x0::x1::x2::x3::x4::x5::x6::x7::some d::l) m) Q=Q d:=Ac
theorem Aio {l:A2}:W (B0 8 f (x0::x1::x2::x3::x4::x5::x6::x7::y::l) m) Q=W (f (x0::x1::x2::x3::x4::x5::x6::x7::y::l) m) fun d=>Q (.nx (x0::x1::x2::x3::x4::x5::x6::x7::some d::l) m):=by unfold B0;rw[W_bind];congr 1;funext d;exact Ac
theorem Aiv {d:D}{l:A2}:W (Aj 9 (x0::x1::x2::x3::x4::x5::x6::x7::x8::some d::l) m) Q=Q d:=Ac
theorem Aip {l:A2}:W (B0 9 f (x0::x1::x2::x3::x4::x5::x6::x7::x8::y::l) m) Q=W (f (x0::x1::x2::x3::x4::x5::x6::x7::x8::y::l) m) fun d=>Q (.nx (x0::x1::x2::x3::x4::x5::x6::x7::x8::some d::l) m):=by unfold B0;rw[W_bind];congr 1;funext d;exact Ac
end
theorem Cg:deq (.int i) (.int j)=decide (i=j):=by
 unfold deq pyD
 rw[show PyData.eqv (.int i) (.int j)=(i == j) by simp[PyData.eqv]]
 by_cases h:i=j<;>simp[h]
theorem C0:deq (.str i) (.str j)=decide (i=j):=by
 unfold deq pyD
 rw[show PyData.eqv (.str i) (.str j)=(i == j) by simp[PyData.eqv]]
 by_cases h:i=j<;>simp[h]
theorem Pr:deq (.bl i) (.bl j)=decide (i=j):=by
 cases i<;>cases j<;>decide
theorem C8:dep (.int i)=0:=by simp[dep]
theorem Cy:dep (.str i)=0:=by simp[dep]
theorem Pp:dep (.bl i)=0:=by simp[dep]
theorem G7:dep .non=0:=by simp[dep]
theorem Dh (ns:List Int):Bn (ns.map D.int)=true:=by
 induction ns with
 |nil=>rw[Anm,Bn]
 |cons n ns ih=>rw[Amr,Bn,ih,show B1 (D.int n)=true by simp[B1]];rfl
theorem E2 (h0:0<=i) (h1:i < xs.length) (q:∀ d,xs[i.toNat]?=some d->d∈xs->Q d):W (atI xs i) Q:=by
 unfold atI ixN
 rw[Amf h0,Amf h1]
 have hi:i.toNat < xs.length:=by lia
 refine⟨xs[i.toNat],?_,q _ (Amb hi) (Ann hi)⟩
 exact Amb hi
theorem Aek:(⟨#[c]⟩:Str).length=1:=rfl
theorem Gf:Tt [] k env=List.replicate k none:=rfl
theorem D1 {cap:List Nat}:Tt (i::cap) k env=(env[i]?).bind id::Tt cap k env:=rfl
theorem Bo {α:Type}{g:FG}{fe:FE}{m:MH}{env:A2}{h:α->D} (F:α->D) {xs:List α}{Q:List D->Prop} (k:∀ x∈xs,W (g (h x) env) fun e1=>W (fe e1 m) fun y=>y=F x) (q:Q (xs.map F)):W (D2 g Nf fe m env (xs.map h)) Q:=by
 induction xs generalizing Q with
 |nil=>rw[Anm,Ce];exact q
 |cons d ds ih =>
  rw[Amr,B4]
  refine (k d (Al6 ..)).imp fun e1 h1=>?_
  rw[Ik,R4]
  refine h1.imp fun y hy=>?_
  subst hy
  exact ih (fun e he=>k e (Al4 _ he)) q
theorem L8 (p:α->Bool):∀ xs:List α,J1 (xs.map fun x=>.bl (p x))=some (xs.map p)
 |[]=>rfl
 |x::xs=>by rw[Amr,J1,L8 p xs];rfl
theorem Nl {α:Type}{p:α->Bool}{xs:List α}{Q:List Bool->Prop}:W (J1 (xs.map fun x=>.bl (p x))) Q=Q (xs.map p):=by rw[L8,Ac]
theorem all_map {α:Type}{p:α->Bool}{xs:List α}:(xs.map p).all (fun b=>b)=xs.all p:=by rw[List.all_map];rfl
theorem Aap:(!(Builtin.Str.occurrences z ⟨#[c]⟩ 0 z.length 1).isEmpty)=decide (c∈z.cps.toList):=StrLaws.found_one z c
theorem Pv {x:Str}:x.length=x.cps.toList.length:=(Amc).symm
noncomputable section
open Classical
theorem X8:W (sq m (.tup ds)) Q=Q ds:=Ac
theorem Pe:W (sq m (.lst ds)) Q=Q ds:=Ac
theorem Pg:W (sqL m (.ref n)) Q=W (sq m (.ref n)) Q:=rfl
def Ai0 (o:List D->List D->Option (List D)) (d:D) (g:FL) (env:A2) (m:MH) (Q:Out->Prop):Prop:=W (match d with
 |.ref n=>(g env m).bind fun es=>(match m[n]? with
  |some (.lst ds)=>(o ds es).bind fun fs=>some (.nx env (m.set n (.lst fs)))
  |_=>none)
 |_=>none) Q
theorem Pa:W (Ad3 o f g env m) Q=W (f env m) fun d=>Ai0 o d g env m Q:=by
 unfold Ad3 Ai0
 rw[W_bind]<;>congr 1
theorem Ra:Ai0 o (.ref n) g env m Q=W (g env m) fun es=>W (sq m (.ref n)) fun ds=>W (o ds es) fun fs=>Q (.nx env (m.set n (.lst fs))):=by
 unfold Ai0 sq
 simp only
 rw[W_bind];congr 1;funext es
 cases m[n]? with
 |none=>rw[Bf,Bf]
 |some o=>cases o with
  |lst ds=>simp only;rw[Ac,W_bind];congr 1;funext j;exact Ac
  |dct ds=>rw[Bf,Bf]
  |dcs ks ds=>rw[Bf,Bf]
theorem O7 {d:D}:W (Aci ds [d]) Q=(ds.length < 1000000/\Q (ds++[d])):=H9
theorem Ge {d:D}:W (Ew [d] m) Q=W (sq m d) fun ds=>Q (.tup ds):=W_bind.trans (by congr 1;funext ds;exact Ac)
theorem Jo {d:D}:W (Zf [d] m) Q=W (sq m d) Q:=rfl
theorem O8:W (Aep f g env m) Q=W (f env m) fun d=>W (g d env) fun e=>Q (.nx e m):=by
 unfold Aep
 rw[W_bind];congr 1;funext x
 rw[W_bind];congr 1;funext y
 exact Ac
theorem Oj:W (Abp n g (.tup ds) env) Q=(ds.length=n/\W (g ds env) Q):=by
 unfold Abp
 simp only
 by_cases h:ds.length=n
 ·rw[Amf h];simp[h]
 ·rw[Aml h,Bf];simp[h]
theorem Jk {d:D}:W (J5 g h (d::ds) env) Q=W (g d env) fun e=>W (h ds e) Q:=W_bind
theorem Oi:W (Ae8 [] env) Q=Q env:=Ac
def Akq (xs:List D) (y:D) (Q:List D->Prop):Prop:=W (match y with
 |.int i=>if 0<=i/\i < 2 ^ 62/\xs.length * i.toNat<=1000000 then some (Hn xs i.toNat) else none
 |_=>none) Q
theorem Ot:W (Aix g f env m) Q=W (g env m) fun xs=>W (f env m) fun y=>Akq xs y Q:=by
 unfold Aix Akq
 rw[W_bind];congr 1;funext x
 rw[W_bind]<;>congr 1
theorem Rj:Akq xs (.int i) Q=((0<=i/\i < 2 ^ 62/\xs.length * i.toNat<=1000000)/\Q (Hn xs i.toNat)):=H9
theorem L3:W (sq (.lst ds::m) (.ref 0)) Q=Q ds:=Ac
theorem Alk {n:Nat}{ds:List D}{m:MH}{Q:D->Prop} (h:m[n]?=some (.lst ds)):W (Bm m (.ref n)) Q=cK (Q (.lst ds)) (W (xpL m ds) fun es=>Q (.lst es)) (A0 ds):=by
 rw[Bm,h]
 show W (if _ then _ else _) Q=_
 rw[Er,Ac,W_bind]
 congr 2;funext es;exact Ac
theorem T5:W (Bm (.lst ds::m) (.ref 0)) Q=cK (Q (.lst ds)) (W (xpL (.lst ds::m) ds) fun es=>Q (.lst es)) (A0 ds):=Alk rfl
end
theorem W.eq (h:W x fun d=>d=a):W x Q=Q a:=by rw[h.out,Ac]
mutual
theorem Jg:∀ {d:D},Bg d=true->Bm m d=some d
 |.non,_=>by rw[Bm]
 |.bl _,_=>by rw[Bm]
 |.int _,_=>by rw[Bm]
 |.str _,_=>by rw[Bm]
 |.tup ds,h=>by rw[Bg] at h;rw[Bm,H0 h];rfl
 |.lst _,h=>by simp[Bg] at h
 |.kl _,h=>by simp[Bg] at h
 |.ref _,h=>by simp[Bg] at h
theorem H0:∀ {ds:List D},A0 ds=true->Hz m ds=some ds
 |[],_=>by rw[Hz]
 |d::ds,h=>by
  rw[A0,Ami] at h
  rw[Hz,Jg h.1,H0 h.2];rfl
end
mutual
theorem Iy:∀ {d:D},Bg d=true->B1 d=true
 |.non,_=>by simp[B1]
 |.bl _,_=>by simp[B1]
 |.int _,_=>by simp[B1]
 |.str _,_=>by simp[B1]
 |.tup ds,h=>by rw[Bg] at h;rw[B1];exact A3 h
 |.lst _,h=>by simp[Bg] at h
 |.kl _,h=>by simp[Bg] at h
 |.ref _,h=>by simp[Bg] at h
theorem A3:∀ {ds:List D},A0 ds=true->Bn ds=true
 |[],_=>by rw[Bn]
 |d::ds,h=>by
  rw[A0,Ami] at h
  rw[Bn,Iy h.1,A3 h.2];rfl
end
theorem Nb {d:D} (h:Bg d=true):Cw m d=some d:=by
 have h2:=Iy h
 cases d<;>first|(simp[Bg] at h;done)|(unfold Cw;simp only;rw[Amf h2])
theorem Yf {d:D} (h:Bg d=true):W (Bm m d) Q=Q d:=by rw[Jg h,Ac]
theorem Jr {d:D} (h:Bg d=true):W (Cw m d) Q=Q d:=by rw[Nb h,Ac]
theorem Da:Bg .non=true:=by simp[Bg]
theorem Bi:Bg (.int b)=true:=by simp[Bg]
theorem Bq:Bg (.str b)=true:=by simp[Bg]
theorem Bd:Bg (.tup ds)=A0 ds:=by rw[Bg]
theorem Bl:A0 []=true:=by rw[A0]
theorem Am {d:D}:A0 (d::ds)=(Bg d&&A0 ds):=by rw[A0]
theorem Cs:∀ {ds:List D},A0 ds=true ↔ ∀ d∈ds,Bg d=true
 |[]=>by simp[A0]
 |d::ds=>by rw[A0,Ami,Cs];simp
theorem Ca:A0 (ds++es)=(A0 ds&&A0 es):=by
 rw[Aog,Ami,Cs,Cs,Cs]
 constructor
 ·exact fun h=>⟨fun d hd=>h d (Ana _ hd),fun d hd=>h d (Amu _ hd)⟩
 ·rintro ⟨h1,h2⟩ d hd
  rcases List.mem_append.mp hd with hd|hd
  ·exact h1 d hd
  ·exact h2 d hd
theorem Ak {α:Type}{f:α->D}{xs:List α} (h:∀ x,Bg (f x)=true):A0 (xs.map f)=true:=by
 rw[Cs];intro d hd;obtain⟨x,_,rfl⟩:=List.mem_map.mp hd;exact h x
theorem J7:deq (.tup []) (.tup [])=true:=by simp[deq,pyD,Bx,PyData.eqv,PyData.eqvAll]
theorem Cz:deq (.tup (x::xs)) (.tup (y::ys))=(deq x y&&deq (.tup xs) (.tup ys)):=by
 simp[deq,pyD,Bx,PyData.eqv,PyData.eqvAll]
theorem Afb:deq (.tup []) (.tup (x::xs))=false:=by simp[deq,pyD,Bx,PyData.eqv,PyData.eqvAll]
theorem Aak:deq (.tup (x::xs)) (.tup [])=false:=by simp[deq,pyD,Bx,PyData.eqv,PyData.eqvAll]
theorem Afa {t:Str}:deq (.int i) (.str t)=false:=by simp[deq,pyD,PyData.eqv]
theorem Afc {t:Str}:deq (.str t) (.int i)=false:=by simp[deq,pyD,PyData.eqv]
theorem Uh [DecidableEq α] (h:∀ x y,deq (f x) (f y)=decide (x=y)):∀ xs ys:List α,deq (.tup (xs.map f)) (.tup (ys.map f))=decide (xs=ys)
 |[],[]=>by simp[J7]
 |[],y::ys=>by simp[Afb]
 |x::xs,[]=>by simp[Aak]
 |x::xs,y::ys=>by
  rw[Amr,Amr,Cz,h,Uh h xs ys]
  by_cases e1:x=y<;>by_cases e2:xs=ys<;>simp[e1,e2]
theorem Cm:dep (.tup ds)=Gh ds+1:=by rw[dep]
theorem Cf {n:Nat}:∀ {ds:List D},(∀ d∈ds,dep d<=n)->Gh ds<=n
 |[],_=>by rw[Gh];exact Amz _
 |d::ds,h=>by
  rw[Gh]
  have h1:=h d (Al6 ..)
  have h2:=Cf (n:=n) (ds:=ds) fun e he=>h e (Al4 _ he)
  lia
noncomputable def U5 {α:Type} (I:List α->A2->MH->Prop) (xs:List α) (Q:Out->Prop):Out->Prop
 |.nx e m=>I xs e m
 |.ct e m=>I xs e m
 |.bk e m=>Q (.nx e m)
 |.rt d m=>Q (.rt d m)
theorem Gu:U5 I xs Q (.nx e m)=I xs e m:=rfl
theorem Gr:U5 I xs Q (.ct e m)=I xs e m:=rfl
theorem Gq:U5 I xs Q (.bk e m)=Q (.nx e m):=rfl
theorem Gv {d:D}:U5 I xs Q (.rt d m)=Q (.rt d m):=rfl
theorem T1 {α:Type}{h:α->D}{chk:MH->Prop}{g:FG}{b:FS}{Q:Out->Prop} (I:List α->A2->MH->Prop) (hs:∀ x xs e m,I (x::xs) e m->chk m/\W (g (h x) e) fun e1=>W (b e1 m) (U5 I xs Q)) (he:∀ e m,I [] e m->chk m/\Q (.nx e m)) :
  ∀ {xs:List α}{e:A2}{m:MH},I xs e m->W (Ia chk g b (xs.map h) e m) Q
 |[],e,m,hi=>by
  rw[Anm,Xv];exact he e m hi
 |x::xs,e,m,hi=>by
  rw[Amr,Tz]
  obtain⟨h1,h2⟩:=hs x xs e m hi
  refine⟨h1,h2.imp fun e1 h3=>h3.imp fun o ho=>?_⟩
  cases o with
  |nx e m=>exact T1 I hs he ho
  |ct e m=>exact T1 I hs he ho
  |bk e m=>exact ho
  |rt d m=>exact ho
noncomputable def Tc (I:Nat->A2->MH->Prop) (k:Nat) (Q:Out->Prop):Out->Prop
 |.nx e m=>I k e m
 |.ct e m=>I k e m
 |.bk e m=>Q (.nx e m)
 |.rt d m=>Q (.rt d m)
theorem Gn:Tc I k Q (.nx e m)=I k e m:=rfl
theorem Gm:Tc I k Q (.ct e m)=I k e m:=rfl
theorem Gk:Tc I k Q (.bk e m)=Q (.nx e m):=rfl
theorem Gp {d:D}:Tc I k Q (.rt d m)=Q (.rt d m):=rfl
theorem Aex (I:Nat->A2->MH->Prop) (hs:∀ (k:Nat) e m,k < n->I k e m->chk m/\W (g (h k) e) fun e1=>W (b e1 m) (Tc I (k+1) Q)) (he:∀ e m,I n e m->chk m/\Q (.nx e m)) (h0:I 0 e m):W (Ia chk g b ((List.range n).map h) e m) Q:=by
 refine T1 (h:=h) (fun xs e m=>∃ k,k<=n/\xs=(List.range n).drop k/\I k e m) ?_ ?_ ⟨0,Amz _,rfl,h0⟩
 ·rintro x xs e m ⟨k,hk,hx,hi⟩
  have hk2:k < n:=by
   rcases Nat.lt_or_ge k n with h|h
   ·exact h
   ·rw[List.drop_eq_nil_of_le (by simpa using h)] at hx;cases hx
  rw[Aos (by simpa using hk2),List.getElem_range] at hx
  obtain⟨e1,e2⟩:=List.cons.inj hx
  rw[e1,e2]
  obtain⟨h1,h2⟩:=hs k e m hk2 hi
  refine⟨h1,h2.imp fun e1 h3=>h3.imp fun o ho=>?_⟩
  cases o with
  |nx e m=>exact⟨k+1,hk2,rfl,ho⟩
  |ct e m=>exact⟨k+1,hk2,rfl,ho⟩
  |bk e m=>exact ho
  |rt d m=>exact ho
 ·rintro e m ⟨k,hk,hx,hi⟩
  have:k=n:=by
   have:=Anw List.length hx
   simp at this;lia
  subst this
  exact he e m hi
theorem G2 {lo:Int}{n:Nat}{chk:MH->Prop}{g:FG}{b:FS}{Q:Out->Prop}{e:A2}{m:MH} (I:Nat->A2->MH->Prop) (hs:∀ (k:Nat) e m,k < n->I k e m->chk m/\W (g (.int (lo+k)) e) fun e1=>W (b e1 m) (Tc I (k+1) Q)) (he:∀ e m,I n e m->chk m/\Q (.nx e m)) (h0:I 0 e m):W (Ia chk g b (Df lo n) e m) Q:=Aex I hs he h0
theorem Lo:Df 0 3=[.int 0,.int 1,.int 2]:=rfl
theorem Nk {l:List α}:W (atI (x::l) 0) Q=Q x:=by
 rw[show atI (x::l) 0=some x by unfold atI ixN;rw[Amf (by decide),Amf (by simp<;>lia)];rfl,Ac]
theorem Rw {l:List α}:W (atI (x::y::l) 1) Q=Q y:=by
 rw[show atI (x::y::l) 1=some y by unfold atI ixN;rw[Amf (by decide),Amf (by simp<;>lia)];rfl,Ac]
theorem Rx {l:List α}:W (atI (x::y::z::l) 2) Q=Q z:=by
 rw[show atI (x::y::z::l) 2=some z by unfold atI ixN;rw[Amf (by decide),Amf (by simp<;>lia)];rfl,Ac]
theorem Xn {l:List α}:W (atI (x::y::z::w::l) 3) Q=Q w:=by
 rw[show atI (x::y::z::w::l) 3=some w by unfold atI ixN;rw[Amf (by decide),Amf (by simp<;>lia)];rfl,Ac]
theorem G0 {α β:Type}{f:α->β}{xs:List α}{k:Nat} (h:k < xs.length) {Q:β->Prop}:W (atI (xs.map f) (k:Int)) Q=Q (f xs[k]):=by
 rw[show atI (xs.map f) (k:Int)=some (f xs[k]) by unfold atI ixN;rw[Amf (by lia),Amf (by simp;lia)];simp[h],Ac]
theorem Z3 {n d:Nat}:HT.sIx n d none=d:=rfl
theorem Ad2 {n d k:Nat}:HT.sIx n d (some (k:Int))=min k n:=by
 unfold HT.sIx
 simp only
 by_cases h:((k:Nat):Int) < 0
 ·lia
 ·rw[Aml h];lia
theorem Aaj {α:Type}{xs:List α}{n:Nat}:Ck xs none (some (n:Int))=xs.take n:=by
 unfold Ck
 rw[Z3,Ad2,List.drop_zero,Nat.sub_zero]
 by_cases h:n<=xs.length
 ·rw[Nat.min_eq_left h]
 ·rw[Nat.min_eq_right (by lia),An7 (Al7 _),An7 (by lia)]
theorem Aiw:Ck [x,y,z,w] none (some 3)=[x,y,z]:=rfl
inductive Mark where
 |n (i:Int)
 |s (t:Str)
 deriving DecidableEq
structure Mk where
 a:Int
 b:Int
 c:Int
 ms:List Mark
 deriving DecidableEq
noncomputable def Mark.d:Mark->D
 |.n i=>.int i
 |.s t=>.str t
def Mk.d (x:Mk):D:=.tup [.int x.a,.int x.b,.int x.c,.tup (x.ms.map Mark.d)]
noncomputable def Mark.lt:Mark->Mark->Bool
 |.n i,.n j=>decide (i < j)
 |.n _,.s _=>true
 |.s _,.n _=>false
 |.s t,.s u=>decide (t.cps.toList < u.cps.toList)
def mlt:List Mark->List Mark->Bool
 |[],[]=>false
 |[],_::_=>true
 |_::_,[]=>false
 |x::xs,y::ys=>if x=y then mlt xs ys else x.lt y
def Mk.older (x y:Mk):Bool :=
 if x.a≠y.a then decide (x.a < y.a) else if x.b≠y.b then decide (x.b < y.b) else if x.c≠y.c then decide (x.c < y.c) else
 if x.ms=[]\/y.ms=[] then decide (x.ms≠[]/\y.ms=[]) else mlt x.ms y.ms
theorem Mark.deq (x y:Mark):deq x.d y.d=decide (x=y):=by
 cases x<;>cases y<;>simp[Mark.d,Cg,C0,Afa,Afc]
theorem Mk.deq (x y:Mk):L2.ML.deq x.d y.d=decide (x=y):=by
 unfold Mk.d
 rw[Cz,Cz,Cz,Cz,J7,Cg,Cg,Cg,Uh Mark.deq]
 obtain⟨a,b,c,ms⟩:=x
 obtain⟨a',b',c',ms'⟩:=y
 by_cases h1:a=a'<;>by_cases h2:b=b'<;>by_cases h3:c=c'<;>by_cases h4:ms=ms'<;>simp[h1,h2,h3,h4]
theorem Mark.pure (x:Mark):Bg x.d=true:=by cases x<;>simp[Mark.d,Bg]
theorem Mk.pure (x:Mk):Bg x.d=true:=by
 unfold Mk.d
 rw[Bd,Am,Am,Am,Am,Bi,Bi,Bi,Bd,Ak Mark.pure,Bl];rfl
theorem Mark.dep (x:Mark):dep x.d=0:=by cases x<;>simp[Mark.d,C8,Cy]
theorem Mk.dep (x:Mk):L2.ML.dep x.d<=2:=by
 unfold Mk.d
 rw[Cm]
 have h:Gh (x.ms.map Mark.d)<=0:=Cf fun d hd=>by
  obtain⟨m,_,rfl⟩:=List.mem_map.mp hd
  rw[Mark.dep];exact Al7 _
 have:Gh [D.int x.a,D.int x.b,D.int x.c,D.tup (x.ms.map Mark.d)]<=1:=Cf fun d hd=>by
  simp only[Amy,Amq,or_false] at hd
  rcases hd with rfl|rfl|rfl|rfl
  ·rw[C8];lia
  ·rw[C8];lia
  ·rw[C8];lia
  ·rw[Cm];lia
 lia
theorem C1 (xs:List Mark):A0 (xs.map Mark.d)=true:=Ak Mark.pure
theorem D5 (l:List Mark):(L2.ML.dep (.tup (l.map Mark.d))<=60)=True:=by
 have h:Gh (l.map Mark.d)<=0:=Cf fun d hd=>by
  obtain⟨m,_,rfl⟩:=List.mem_map.mp hd
  rw[Mark.dep];exact Al7 _
 rw[Cm];simp;lia
theorem P3 (x:Mk):(L2.ML.dep x.d<=60)=True:=by have:=Mk.dep x;simp;lia
theorem J6 (l:List Mark):L2.ML.deq (.tup (l.map Mark.d)) (.tup [])=decide (l=[]):=by cases l<;>simp[J7,Aak]
theorem P4 {x:Mk}{m:MH}{Q:D->Prop}:W (oIx x.d (.int 0) m) Q=Q (.int x.a):=by unfold Mk.d;rw[G3,Nk]
theorem P5 {x:Mk}{m:MH}{Q:D->Prop}:W (oIx x.d (.int 1) m) Q=Q (.int x.b):=by unfold Mk.d;rw[G3,Rw]
theorem P6 {x:Mk}{m:MH}{Q:D->Prop}:W (oIx x.d (.int 2) m) Q=Q (.int x.c):=by unfold Mk.d;rw[G3,Rx]
theorem Ae4:J1 []=some []:=rfl
theorem P7:∀ xs:List Mark,mlt xs xs=false
 |[]=>rfl
 |x::xs=>by rw[mlt,Amf rfl];exact P7 xs
theorem Tb (l r:List Nat) (h:l≠r):decide (l < r)=!decide (r < l):=by
 by_cases h1:l < r
 ·have h2:¬ r < l:=List.lt_asymm h1
  simp[h1,h2]
 ·have h2:r < l:=by
   rcases Classical.em (r < l) with h3|h3
   ·exact h3
   ·exact absurd (List.le_antisymm (List.not_lt.mp h3) (List.not_lt.mp h1)) h
  simp[h1,h2]
theorem Aeb {t u:Str} (h:t.cps.toList=u.cps.toList):t=u:=by
 obtain⟨⟨a⟩⟩:=t
 obtain⟨⟨b⟩⟩:=u
 simp at h
 rw[h]
theorem Mark.self (x:Mark):x.lt x=false:=by
 cases x with
 |n i=>simp[Mark.lt]
 |s t=>simp[Mark.lt,List.lt_irrefl]
theorem Mark.tri {x y:Mark} (h:x≠y):x.lt y=!y.lt x:=by
 cases x with
 |n i=>cases y with
  |n j =>
   have:i≠j:=fun e=>h (by rw[e])
   simp only[Mark.lt]
   by_cases h1:i < j
   ·simp[h1,show ¬ j < i by lia]
   ·simp[h1,show j < i by lia]
  |s t=>rfl
 |s t=>cases y with
  |n j=>rfl
  |s u=>exact Tb _ _ fun e=>h (by rw[Aeb e])
theorem Mark.trans {x y z:Mark} (h1:x.lt y=true) (h2:y.lt z=true):x.lt z=true:=by
 cases x with
 |n i=>cases y with
  |n j=>cases z with
   |n k=>simp[Mark.lt] at *;lia
   |s t=>rfl
  |s t=>cases z with
   |n k=>exact B9 h2
   |s u=>rfl
 |s t=>cases y with
  |n j=>exact B9 h1
  |s u=>cases z with
   |n k=>exact B9 h2
   |s v=>simp[Mark.lt] at *;exact List.lt_trans h1 h2
theorem Vb:∀ {xs ys:List Mark},xs≠ys->mlt xs ys=!mlt ys xs
 |[],[],h=>absurd rfl h
 |[],_::_,_=>rfl
 |_::_,[],_=>rfl
 |x::xs,y::ys,h=>by
  rw[mlt,mlt]
  by_cases e:x=y
  ·subst e
   rw[Amf rfl,Amf rfl]
   exact Vb fun z=>h (by rw[z])
  ·rw[Aml e,Aml fun z=>e z.symm]
   exact Mark.tri e
theorem Mn:∀ {xs ys zs:List Mark},mlt xs ys=true->mlt ys zs=true->mlt xs zs=true
 |[],[],_,h,_=>by exact B9 h
 |[],_::_,[],_,h=>by exact B9 h
 |[],_::_,_::_,_,_=>rfl
 |_::_,[],_,h,_=>by exact B9 h
 |_::_,_::_,[],_,h=>by exact B9 h
 |x::xs,y::ys,z::zs,h1,h2=>by
  rw[mlt] at h1 h2 ⊢
  by_cases e1:x=y
  ·subst e1
   rw[Amf rfl] at h1
   by_cases e2:x=z
   ·rw[Amf e2] at h2 ⊢
    exact Mn h1 h2
   ·rw[Aml e2] at h2 ⊢
    exact h2
  ·rw[Aml e1] at h1
   by_cases e2:y=z
   ·subst e2
    rw[Aml e1]
    exact h1
   ·rw[Aml e2] at h2
    have h3:=Mark.trans h1 h2
    by_cases e3:x=z
    ·subst e3
     rw[Mark.self] at h3
     exact B9 h3
    ·rw[Aml e3];exact h3
theorem Acg:mlt xs []=false:=by cases xs<;>rfl
theorem Tf (x:Mk):x.older x=false:=by
 unfold Mk.older
 rw[Aml (by simp),Aml (by simp),Aml (by simp)]
 split
 ·simp
 ·exact P7 _
theorem D6 {x y:Mk}:x.older y=true ↔ x.a < y.a\/x.a=y.a/\(x.b < y.b\/x.b=y.b/\(x.c < y.c\/x.c=y.c/\(x.ms≠[]/\(y.ms=[]\/mlt x.ms y.ms=true)))):=by
 obtain⟨a,b,c,ms⟩:=x
 obtain⟨a',b',c',ms'⟩:=y
 unfold Mk.older
 simp only
 by_cases h1:a=a'
 ·subst h1
  rw[Aml (by simp)]
  by_cases h2:b=b'
  ·subst h2
   rw[Aml (by simp)]
   by_cases h3:c=c'
   ·subst h3
    rw[Aml (by simp)]
    simp only[Int.lt_irrefl,false_or,true_and]
    by_cases h4:ms=[]\/ms'=[]
    ·rw[Amf h4,Anc]
     constructor
     ·exact fun h=>⟨h.1,.inl h.2⟩
     ·rintro ⟨h5,h6⟩
      exact⟨h5,h4.resolve_left h5⟩
    ·rw[Aml h4]
     rw[not_or] at h4
     exact⟨fun h=>⟨h4.1,.inr h⟩,fun h=>h.2.resolve_left h4.2⟩
   ·rw[Amf (by simpa using h3)]
    simp[h3]
  ·rw[Amf (by simpa using h2)]
   simp[h2]
 ·rw[Amf (by simpa using h1)]
  simp[h1]
theorem Hi {x y z:Mk} (h1:x.older y=true) (h2:y.older z=true):x.older z=true:=by
 rw[D6] at *
 rcases h1 with h1|⟨ha,h1|⟨hb,h1|⟨hc,hm,h1⟩⟩⟩
 ·rcases h2 with h2|⟨ha',_⟩
  ·exact .inl (by lia)
  ·exact .inl (by lia)
 ·rcases h2 with h2|⟨ha',h2|⟨hb',_⟩⟩
  ·exact .inl (by lia)
  ·exact .inr ⟨by lia,.inl (by lia)⟩
  ·exact .inr ⟨by lia,.inl (by lia)⟩
 ·rcases h2 with h2|⟨ha',h2|⟨hb',h2|⟨hc',_⟩⟩⟩
  ·exact .inl (by lia)
  ·exact .inr ⟨by lia,.inl (by lia)⟩
  ·exact .inr ⟨by lia,.inr ⟨by lia,.inl (by lia)⟩⟩
  ·exact .inr ⟨by lia,.inr ⟨by lia,.inl (by lia)⟩⟩
 ·rcases h2 with h2|⟨ha',h2|⟨hb',h2|⟨hc',hm',h2⟩⟩⟩
  ·exact .inl (by lia)
  ·exact .inr ⟨by lia,.inl (by lia)⟩
  ·exact .inr ⟨by lia,.inr ⟨by lia,.inl (by lia)⟩⟩
  ·refine .inr ⟨by lia,.inr ⟨by lia,.inr ⟨by lia,hm,?_⟩⟩⟩
   rcases h1 with h1|h1
   ·exact absurd h1 hm'
   ·rcases h2 with h2|h2
    ·exact .inl h2
    ·exact .inr (Mn h1 h2)
theorem N6 {x y:Mk} (h:x.older y=true):y.older x=false:=by
 cases e:y.older x with
 |false=>rfl
 |true =>
  have h2:=Hi h e
  rw[Tf] at h2
  exact B9 h2
theorem Vj {x y:Mk} (h:x≠y):x.older y=!y.older x:=by
 cases e:y.older x with
 |true=>exact N6 e
 |false =>
  show x.older y=true
  have e':¬ y.older x=true:=by rw[e];decide
  rw[D6] at e' ⊢
  by_cases ha:x.a=y.a
  ·by_cases hb:x.b=y.b
   ·by_cases hc:x.c=y.c
    ·have hm:x.ms≠y.ms:=fun z=>h (by cases x;cases y;simp at *;exact⟨ha,hb,hc,z⟩)
     refine .inr ⟨ha,.inr ⟨hb,.inr ⟨hc,?_⟩⟩⟩
     have e2:¬ (y.ms≠[]/\(x.ms=[]\/mlt y.ms x.ms=true)):=fun z=>e' (.inr ⟨ha.symm,.inr ⟨hb.symm,.inr ⟨hc.symm,z⟩⟩⟩)
     by_cases h4:y.ms=[]
     ·exact⟨fun z=>hm (by rw[z,h4]),.inl h4⟩
     ·have e3:¬ (x.ms=[]\/mlt y.ms x.ms=true):=fun z=>e2 ⟨h4,z⟩
      rw[not_or] at e3
      refine⟨e3.1,.inr ?_⟩
      rw[Vb hm]
      cases q:mlt y.ms x.ms with
      |true=>exact absurd q e3.2
      |false=>rfl
    ·rcases Int.lt_or_gt_of_ne hc with h5|h5
     ·exact .inr ⟨ha,.inr ⟨hb,.inl h5⟩⟩
     ·exact absurd (.inr ⟨ha.symm,.inr ⟨hb.symm,.inl h5⟩⟩) e'
   ·rcases Int.lt_or_gt_of_ne hb with h5|h5
    ·exact .inr ⟨ha,.inl h5⟩
    ·exact absurd (.inr ⟨ha.symm,.inl h5⟩) e'
  ·rcases Int.lt_or_gt_of_ne ha with h5|h5
   ·exact .inl h5
   ·exact absurd (.inl h5) e'
noncomputable def Mk.next (x:Mk):Mk:=if x.ms=[] then ⟨x.a,x.b,x.c+1,[.n 0]⟩ else ⟨x.a,x.b,x.c,x.ms++[.n 0]⟩
noncomputable def Mark.pos:Mark->Prop
 |.n i=>0<=i
 |.s _=>True
theorem Ab9 {m:Mark} (h:m.pos):m.lt (.n 0)=false:=by
 cases m with
 |n i=>simp only[Mark.pos] at h;simp[Mark.lt];exact h
 |s t=>rfl
theorem P9:∀ xs:List Mark,mlt xs (xs++[.n 0])=true
 |[]=>rfl
 |x::xs=>by rw[Am9,mlt,Amf rfl];exact P9 xs
theorem Zb (hp:∀ m∈xs,m.pos) (h:mlt xs [.n 0]=true):xs=[]:=by
 cases xs with
 |nil=>rfl
 |cons x xs =>
  rw[mlt] at h
  by_cases e:x=.n 0
  ·rw[Amf e,Acg] at h;exact B9 h
  ·rw[Aml e,Ab9 (hp x (Al6 ..))] at h;exact B9 h
theorem I0 (x:Mk):x.older x.next=true:=by
 rw[D6]
 unfold Mk.next
 by_cases h:x.ms=[]
 ·rw[Amf h];exact .inr ⟨rfl,.inr ⟨rfl,.inl (by show x.c < x.c+1;lia)⟩⟩
 ·rw[Aml h];exact .inr ⟨rfl,.inr ⟨rfl,.inr ⟨rfl,h,.inr (P9 _)⟩⟩⟩
def Ak5 (Q:List D->Prop) (d:D):Prop:=∃ es,d=.lst es/\A0 es=true/\Q es
theorem P0 (h:A0 es=true):Ak5 Q (.lst es)=Q es:=by
 apply propext
 constructor
 ·rintro ⟨fs,e,_,q⟩;cases e;exact q
 ·exact fun q=>⟨es,rfl,h,q⟩
theorem Ji:W (L9 n fn ds m) Q=W (Cr m ds) fun ds'=>ds'.length=n/\W (fn ds') (Ak5 Q):=by
 unfold L9
 rw[W_bind,Du]
 congr 1;funext ds'
 apply propext
 refine⟨fun⟨h1,h2⟩=>⟨h1,h2.imp fun d h=>?_⟩,fun⟨h1,h2⟩=>⟨h1,h2.imp fun d h=>?_⟩⟩
 ·cases d with
  |lst es =>
   simp only at h
   rw[H9] at h
   exact⟨es,rfl,h.1,h.2⟩
  |_=>rw[Bf] at h;exact h.elim
 ·obtain⟨es,rfl,h1,h2⟩:=h
  simp only
  rw[H9]
  exact⟨h1,h2⟩
theorem Xz:W (oIs (.bl b) (.bl c) m) Q=Q (.bl (b == c)):=Ac
theorem Gd:W (Vf (.bl b) (.bl c) m) Q=Q (.bl (b != c)):=Ac
theorem G6 {α β:Type}{f:α->β}{xs:List α}{lo hi:Option Int}:Ck (xs.map f) lo hi=(Ck xs lo hi).map f:=by
 unfold Ck;rw[Ama,An0,List.map_drop]
theorem Eg {α:Type}{xs:List α}{lo hi:Option Int}{x:α} (h:x∈Ck xs lo hi):x∈xs:=by
 unfold Ck at h;exact List.mem_of_mem_drop (List.mem_of_mem_take h)
theorem Dv {α:Type}{xs:List α}{lo hi:Option Int}:(Ck xs lo hi).length<=xs.length:=by
 unfold Ck;rw[Am4,An9];lia
theorem Mp {z:Mk} (ha:0<=z.a) (hb:0<=z.b) (hc:0<=z.c) (hm:∀ m∈z.ms,m.pos):z.older ⟨0,0,0,[.n 0]⟩=false:=by
 cases h:z.older ⟨0,0,0,[.n 0]⟩ with
 |false=>rfl
 |true =>
  rw[D6] at h
  simp only at h
  rcases h with h|⟨_,h|⟨_,h|⟨_,h,h2|h2⟩⟩⟩
  ·lia
  ·lia
  ·lia
  ·cases h2
  ·exact absurd (Zb hm h2) h
def oD:Option Mk->D
 |none=>.non
 |some h=>h.d
abbrev Pc:=Mk×Option Mk
def pD (p:Pc):D:=.tup [p.1.d,oD p.2]
theorem Hg (o:Option Mk):Bg (oD o)=true:=by
 cases o with
 |none=>exact Da
 |some x=>exact x.pure
theorem Hj (p:Pc):Bg (pD p)=true:=by unfold pD;rw[Bd,Am,Am,Bl,p.1.pure,Hg];rfl
theorem D7 (ps:List Pc):A0 (ps.map pD)=true:=Ak Hj
theorem Afz (o:Option Mk):dep (oD o)<=2:=by
 cases o with
 |none=>show dep .non<=2;rw[G7];lia
 |some x=>exact x.dep
theorem Agf (p:Pc):dep (pD p)<=3:=by
 unfold pD
 rw[Cm]
 have:Gh [p.1.d,oD p.2]<=2:=Cf fun d hd=>by
  simp only[Amy,Amq,or_false] at hd
  rcases hd with rfl|rfl
  ·exact p.1.dep
  ·exact Afz p.2
 lia
theorem Acv (ps:List Pc):dep (.tup (ps.map pD))<=4:=by
 rw[Cm]
 have:Gh (ps.map pD)<=3:=Cf fun d hd=>by
  obtain⟨p,_,rfl⟩:=List.mem_map.mp hd
  exact Agf p
 lia
open Classical
noncomputable section
theorem Oy:W (Aen [.bl b] m) Q=Q (.int (if b then 1 else 0)):=Ac
end
end ML
end L2
end S_ML41
section S_MM7
namespace L2
namespace ML
open PySem
theorem mp1 {a:D}{l:A2}:List.map some [a]++l=some a::l:=rfl
theorem mp2 {a b:D}{l:A2}:List.map some [a,b]++l=some a::some b::l:=rfl
theorem mp3 {a b c:D}{l:A2}:List.map some [a,b,c]++l=some a::some b::some c::l:=rfl
theorem ln1 {a:D}:[a].length=1:=rfl
theorem ln2 {a b:D}:[a,b].length=2:=rfl
theorem ln3 {a b c:D}:[a,b,c].length=3:=rfl
theorem Yk {p q:Prop}{b:Bool} (h:b=true):cK p q b=p:=by rw[h,R4]
theorem Yj {p q:Prop}{b:Bool} (h:b=false):cK p q b=q:=by rw[h,Xh]
theorem Xu:W (fVI i k env m) Q=W (Aj i env m) fun d=>W (oIx d (.int k) m) Q:=by unfold fVI;simp only[Aev,Aew]
theorem Ya {d:D}:W (fVI 0 k (some d::e) m) Q=W (oIx d (.int k) m) Q:=by rw[Xu,Aey]
theorem Yb {d:D}:W (fVI 1 k (x::some d::e) m) Q=W (oIx d (.int k) m) Q:=by rw[Xu,Aez]
theorem Yc {d:D}:W (fVI 2 k (x::y::some d::e) m) Q=W (oIx d (.int k) m) Q:=by rw[Xu,Ae0]
theorem Yd {d:D}:W (fVI 3 k (x::y::z::some d::e) m) Q=W (oIx d (.int k) m) Q:=by rw[Xu,Ae1]
theorem Xo:W (fC1 fn a env m) Q=W (a env m) fun x=>W (Cw m x) fun x'=>W (fn [x']) Q:=by unfold fC1;simp only[Ed,Ee,Il,Du,Cb,Cc,Amh,An1,Nat.reduceAdd,true_and]
theorem Xp:W (fC2 fn a b env m) Q=W (a env m) fun x=>W (b env m) fun y=>W (Cw m x) fun x'=>W (Cw m y) fun y'=>W (fn [x',y']) Q:=by unfold fC2;simp only[Ed,Ee,Il,Du,Cb,Cc,Amh,An1,Nat.reduceAdd,true_and]
end ML
end L2
end S_MM7
section S_MM8
namespace L2
namespace ML
open PySem
variable {m:MH}
theorem T3 {i j:Int}{Q:D->Prop}:W (Zg [.int i,.int j] m) Q=Q (.int (if j > i then j else i)):=Ac
end ML
end L2
end S_MM8
section S_MS1
namespace L2
namespace ML
open PyProof.Rows PySem.W
section
variable {O:KeyOrd} (key:Nat->O.α)
end
section
variable {O:KeyOrd}{key:Nat->O.α}{n:Nat}{c:Nat->Nat->Option Bool}{p:Array Nat}
end
end ML
end L2
end S_MS1
section S_MP1
namespace L2
namespace ML
open PySem PySem.Spec PyProof.Rows
structure Pos (z:Mk):Prop where
 a:0<=z.a
 b:0<=z.b
 c:0<=z.c
 ms:∀ m∈z.ms,m.pos
abbrev old0:Mk:=⟨0,0,0,[.n 0]⟩
end ML
end L2
end S_MP1
section S_K36a
namespace K36a
open PySem L2 L2.ML
noncomputable section
noncomputable def top (i:Nat):Stmt:=PySem.Challenge.pw_stretchbook_k36_is_shelf.main.body.getD i (.Pass ⟨0,0,0,0⟩)
abbrev Ahu:Stmt:=top 3
abbrev Ahr:Stmt:=top 7
abbrev Ahs:Stmt:=top 8
abbrev Aba:Stmt:=top 10
abbrev Ahw:Stmt:=top 11
abbrev Abb:Stmt:=top 12
abbrev Abc:Stmt:=top 13
abbrev Ahx:Stmt:=top 14
abbrev Ahp:Stmt:=top 15
abbrev Ahy:Stmt:=top 16
abbrev Aa7:Stmt:=top 17
abbrev Aa8:Stmt:=top 18
abbrev Aa9:Stmt:=top 19
abbrev Aht:Stmt:=top 20
abbrev Ahv:Stmt:=top 21
abbrev Abd:Stmt:=top 22
abbrev Ahq:Stmt:=top 23
abbrev Abe:Stmt:=top 24
abbrev M7:Stmt:=top 25
def Ajo:FS:=(Cv (Nt (Ir oLe oLe (fC (.int 1)) (Av Dz (Aa (Aj 0) Af)) (fC (.int 8))) (Av Ach (Aa (B2 (Ci [] 1 (Rv (Aj 0)) (Bb 0) Nf (f2 oIn (Aj 0) (fC (.str (Str.ofString "abcdefghijklmnopqrstuvwxyz")))))) Af))))
def Ul:List D->Option D:=Ib 1 Ajo
def Ajl:FS:=(Br (B0 1 (B2 (Tu (B2 (Bc (Aa (fVI 0 0) Af))) (B2 (Ci [] 1 (Rv (fVI 0 2)) (Bb 0) Nf (fVI 0 0)))))) (Br (sIf (fOr (A7 (f2 oGt (Av Dz (Aa (fVI 0 2) Af)) (fC (.int 40)))) (A7 (f2 oNe (Av Td (Aa (Aj 1) Af)) (Av Dz (Aa (Aj 1) Af))))) (Cv (fC (.bl false))) Ec) (Cv (Av Ach (Aa (B2 (Ci [] 1 (Rv (Aj 1)) (Bb 0) Nf (fC1 Ul (Aj 0)))) Af)))))
def Uk:List D->Option D:=Ib 2 Ajl
def Ajm:FS:=(Br (B0 1 (B2 (Ci [] 1 (Rv (Aj 0)) (Bb 0) Nf (fSl (Aj 0) fNo (B6 (fC (.int 2))))))) (Br (sIf (fOr (A7 (f2 oGt (Av Dz (Aa (Aj 1) Af)) (fC (.int 40)))) (A7 (f2 oNe (Av Ze (Aa (Aj 1) Af)) (Av Dz (Aa (Aj 1) Af))))) (Cv (fC (.bl false))) Ec) (Cv (Av Ach (Aa (B2 (Ci [] 1 (Rv (Aj 0)) (Bb 0) Nf (fC1 Uk (Aj 0)))) Af)))))
def Mh:List D->Option D:=Ib 2 Ajm
def Abx:FS:=(Br (sIf (A7 (f2 oEq (Av Dz (Aa (Aj 0) Af)) (fC (.int 0)))) (Cv (f2 Nh (fC (.int 7919)) (Aj 1))) Ec) (Cv (f2 Dm (f2 oIx (Aj 0) (f2 N5 (Aj 1) (Av Dz (Aa (Aj 0) Af)))) (f2 Nh (fC (.int 7919)) (f2 Aat (Aj 1) (Av Dz (Aa (Aj 0) Af)))))))
def Ha:List D->Option D:=Ib 2 Abx
def Ajq:FS:=(Br (Tv 2 (Bc Af)) (Br (B0 3 (f2 Aat (Aj 0) (fC (.int 2)))) (Br (Xj (Hx (Aa (Av Dz (Aa (Aj 1) Af)) Af)) (Bb 4) (Br (B0 5 (f2 N5 (f2 Nh (f2 Dm (f2 N5 (Aj 0) (fC (.int 1000003))) (fC (.int 1))) (f2 Dm (fC (.int 48271)) (f2 Nh (fC (.int 31)) (Aj 4)))) (fC (.int 2147483629)))) (Br (B0 5 (f2 N5 (f2 Nh (f2 Dm (f2 Dm (Aj 5) (f2 Nh (f2 Nh (fC (.int 7919)) (Aj 4)) (Aj 4))) (fC (.int 11))) (fC (.int 69621))) (fC (.int 999983)))) (Br (sIf (A7 (f2 oEq (f2 N5 (Aj 0) (fC (.int 2))) (fC (.int 0)))) (B0 5 (Aj 3)) Ec) (Br (Ad3 Aci (Aj 2) (Aa (f2 N5 (Aj 5) (f2 oIx (Aj 1) (Aj 4))) Af)) (B0 3 (f2 Aat (Aj 3) (f2 oIx (Aj 1) (Aj 4))))))))) (Cv (Aj 2)))))
def Nv:List D->Option D:=Ib 6 Ajq
def Aby:FS:=(Br (B0 1 (B2 (Bc (Aa (fC (.int 0)) (Aa (fC (.int 1)) (Aa (fC (.int 10)) (Aa (fC (.str (Str.ofString "a"))) (Aa (fC (.str (Str.ofString "ab"))) (Aa (fC (.str (Str.ofString "b"))) (Aa (fC (.str (Str.ofString "zz"))) Af)))))))))) (Br (B0 2 (f2 oIx (B2 (Bc (Aa (fC (.int 0)) (Aa (fC (.int 0)) (Aa (fC (.int 1)) (Aa (fC (.int 2)) Af)))))) (fVI 0 3))) (Br (B0 3 (f2 Dm (fVI 0 0) (f2 Nh (fC (.int 8)) (Av Aen (Aa (Nt (f2 oEq (fVI 0 3) (fC (.int 0))) (f2 oGt (fVI 0 4) (fC (.int 3)))) Af))))) (Cv (Bw (Aa (Aj 3) (Aa (fVI 0 1) (Aa (fVI 0 2) (Aa (Av Ew (Aa (B2 (Nc (B2 (Bc (Aa (f2 oIx (Aj 1) (fVI 0 4)) (Aa (f2 oIx (Aj 1) (fVI 0 5)) Af)))) fNo (B6 (Aj 2)))) Af)) Af)))))))))
def Iu:List D->Option D:=Ib 4 Aby
def Abz:FS:=(Br (sIf (A7 (f2 oEq (fVI 0 3) (Bw Af))) (Cv (Bw (Aa (fVI 0 0) (Aa (fVI 0 1) (Aa (f2 Dm (fVI 0 2) (fC (.int 1))) (Aa (Bw (Aa (fC (.int 0)) Af)) Af)))))) Ec) (Cv (f2 Dm (fSl (Aj 0) fNo (B6 (fC (.int 3)))) (Bw (Aa (f2 Dm (fVI 0 3) (Bw (Aa (fC (.int 0)) Af))) Af)))))
def Hb:List D->Option D:=Ib 1 Abz
def Ajr:FS:=(Br (sIf (A7 (f2 oGt (fVI 0 0) (fC (.int 0)))) (Cv (Bw (Aa (f2 Dm (fVI 0 0) (fC (.int 1))) (Aa (fC (.int 0)) (Aa (fC (.int 0)) (Aa (Bw (Aa (fC (.int 0)) Af)) Af)))))) Ec) (Br (sIf (A7 (f2 oGt (fVI 0 1) (fC (.int 0)))) (Cv (Bw (Aa (fC (.int 0)) (Aa (f2 Dm (fVI 0 1) (fC (.int 1))) (Aa (fC (.int 0)) (Aa (Bw (Aa (fC (.int 0)) Af)) Af)))))) Ec) (Cv (Bw (Aa (fC (.int 0)) (Aa (fC (.int 0)) (Aa (f2 Dm (fVI 0 2) (fC (.int 1))) (Aa (Bw (Aa (fC (.int 0)) Af)) Af))))))))
def Uo:List D->Option D:=Ib 1 Ajr
def Ajj:FS:=(Br (B0 2 (Bw (Aa (fC (.int 0)) (Aa (fC (.int 0)) (Aa (fC (.int 0)) (Aa (Bw (Aa (fC (.int 0)) Af)) Af)))))) (Br (sIf (A7 (f2 oEq (Aj 0) (fC (.int 0)))) (Cv (Bw (Aa (Bw (Aa (Aj 1) (Aa (fC .non) Af))) Af))) Ec) (Br (sIf (A7 (f2 oEq (Aj 0) (fC (.int 1)))) (Cv (Bw (Aa (Bw (Aa (Aj 1) (Aa (fC1 Uo (Aj 1)) Af))) Af))) Ec) (Br (sIf (A7 (f2 oEq (Aj 0) (fC (.int 2)))) (Cv (Bw (Aa (Bw (Aa (Aj 1) (Aa (Bw (Aa (fVI 1 0) (Aa (f2 Dm (fVI 1 1) (fC (.int 1))) (Aa (fC (.int 0)) (Aa (Bw (Aa (fC (.int 0)) Af)) Af))))) Af))) Af))) Ec) (Br (sIf (A7 (f2 oEq (Aj 0) (fC (.int 3)))) (Cv (Bw (Aa (Bw (Aa (Aj 1) (Aa (fC1 Hb (Aj 1)) Af))) Af))) Ec) (Br (sIf (A7 (f2 oEq (Aj 0) (fC (.int 4)))) (Cv (Bw (Aa (Bw (Aa (Aj 2) (Aa (fC .non) Af))) Af))) Ec) (Br (sIf (Aam (A7 (f2 oEq (Aj 0) (fC (.int 5)))) (A7 (f2 oNe (Aj 1) (Aj 2)))) (Cv (Bw (Aa (Bw (Aa (Aj 2) (Aa (Aj 1) Af))) (Aa (Bw (Aa (fC1 Hb (Aj 1)) (Aa (fC .non) Af))) Af)))) Ec) (Cv (Bw (Aa (Bw (Aa (Aj 2) (Aa (fC1 Hb (Aj 1)) Af))) Af))))))))))
def Uj:List D->Option D:=Ib 3 Ajj
def Ajs:FS:=(Cv (f2 oIx (B2 (Bc (Aa (fC (.str (Str.ofString "a"))) (Aa (fC (.str (Str.ofString "ab"))) (Aa (fC (.str (Str.ofString "abc"))) (Aa (fC (.str (Str.ofString "b"))) (Aa (fC (.str (Str.ofString "part"))) (Aa (fC (.str (Str.ofString "need"))) (Aa (fC (.str (Str.ofString "zz"))) (Aa (fC (.str (Str.ofString "abcdefgh"))) Af)))))))))) (Aj 0)))
def R7:List D->Option D:=Ib 1 Ajs
def Abu:FS:=(Br (Tv 2 (Bc Af)) (Br (Xj (Hx (Aa (f2 Aat (Av Dz (Aa (Aj 1) Af)) (fC (.int 8))) Af)) (Bb 3) (Br (B0 4 (fC1 R7 (f2 oIx (Aj 1) (f2 Nh (fC (.int 8)) (Aj 3))))) (sIf (Aam (A7 (f2 oNe (Aj 4) (Aj 0))) (A7 (f2 Dr (Aj 4) (B2 (Ci [] 1 (Rv (Aj 2)) (Bb 0) Nf (fVI 0 0)))))) (Ad3 Aci (Aj 2) (Aa (Bw (Aa (Aj 4) (Aa (fC2 Uj (f2 oIx (Aj 1) (f2 Dm (f2 Nh (fC (.int 8)) (Aj 3)) (fC (.int 1)))) (fC1 Iu (B2 (Nc (Aj 1) (B6 (f2 Dm (f2 Nh (fC (.int 8)) (Aj 3)) (fC (.int 2)))) (B6 (f2 Dm (f2 Nh (fC (.int 8)) (Aj 3)) (fC (.int 8)))))))) Af))) Af)) Ec))) (Cv (Av Ew (Aa (Aj 2) Af)))))
def Md:List D->Option D:=Ib 5 Abu
def Abv:FS:=(Br (B0 1 (B2 (C9 (L9 2 Nv) (Aa (Aj 0) (Aa (B2 (Tu (B2 (Bc (Aa (fC (.int 8)) (Aa (fC (.int 3)) (Aa (fC (.int 3)) (Aa (fC (.int 4)) (Aa (fC (.int 4)) (Aa (fC (.int 7)) (Aa (fC (.int 7)) (Aa (fC (.int 4)) Af)))))))))) (B2 (Aix (Bc (Aa (fC (.int 8)) (Aa (fC (.int 7)) (Aa (fC (.int 3)) (Aa (fC (.int 3)) (Aa (fC (.int 4)) (Aa (fC (.int 4)) (Aa (fC (.int 7)) (Aa (fC (.int 7)) Af))))))))) (fC (.int 3)))))) Af))))) (Br (B0 2 (fC1 R7 (fVI 1 0))) (Cv (Bw (Aa (Aj 2) (Aa (fC1 Iu (B2 (Nc (Aj 1) (B6 (fC (.int 1))) (B6 (fC (.int 7)))))) (Aa (fC2 Md (Aj 2) (B2 (Nc (Aj 1) (B6 (fC (.int 8))) (B6 (f2 Dm (fC (.int 8)) (f2 Nh (fC (.int 8)) (fVI 1 7))))))) Af)))))))
def Me:List D->Option D:=Ib 3 Abv
def Ep:FS:=(Br (Tv 4 (Bc Af)) (Br (Xj (Hx (Aa (Aj 3) Af)) (Bb 5) (Br (B0 6 (fC1 Me (fC2 Ha (Aj 0) (f2 Dm (Aj 1) (Aj 5))))) (sIf (A7 (f2 Dr (fSl (Aj 6) fNo (B6 (fC (.int 2)))) (B2 (Ci [] 1 (Rv (Aj 4)) (Bb 0) Nf (fSl (Aj 0) fNo (B6 (fC (.int 2)))))))) (Ad3 Aci (Aj 4) (Aa (Aj 6) Af)) Ec))) (Cv (Av Ew (Aa (Aj 4) Af)))))
def Abw:FS:=(Br (B0 2 (B2 (C9 (L9 2 Nv) (Aa (fC2 Ha (Aj 0) (fC (.int 0))) (Aa (B2 (Bc (Aa (fC (.int 16)) (Aa (fC (.int 10)) Af)))) Af))))) (Br (B0 3 (fVI 2 1)) (Br (sIf (A7 (f2 oEq (fVI 2 0) (fC (.int 3)))) (B0 3 (fC (.int 40))) Ec) Ep)))
def Mf:List D->Option D:=Ib 7 Abw
def Ajn:FS:=(Cv (f2 oIx (B2 (Bc (Aa (fC (.str (Str.ofString ""))) (Aa (fC (.str (Str.ofString "abcdefghi"))) (Aa (fC (.str (Str.ofString "Ab"))) (Aa (fC (.str (Str.ofString "a b"))) (Aa (fC (.str (Str.ofString "a1"))) (Aa (fC (.str (Str.ofString "a_"))) (Aa (fC (.str (Str.ofString "-"))) (Aa (fC (.str (Str.ofString "zZ"))) Af)))))))))) (Aj 0)))
def Nu:List D->Option D:=Ib 1 Ajn
def Ajp:FS:=(Br (Xj (Hx (Aa (Aj 1) Af)) (Bb 2) (sIf (A7 (f2 oLt (Av Dz (Aa (Aj 0) Af)) (Aj 1))) (Tv 0 (Tu (Aj 0) (B2 (Bc (Aa (Bw (Aa (fC (.str (Str.ofString "q"))) (Aa (Bw (Aa (fC (.int 7)) (Aa (fC (.int 0)) (Aa (Aj 2) (Aa (Bw Af) Af))))) (Aa (Bw Af) Af)))) Af))))) Ec)) (Cv (Aj 0)))
def Um:List D->Option D:=Aeo 3 Ajp
def Ab0:FS:=(Br (sIf (A7 (f2 oEq (fVI 1 0) (fC (.int 0)))) (Cv (Av (R5 2 Um) (Aa (Aj 0) (Aa (f2 oIx (B2 (Bc (Aa (fC (.int 40)) (Aa (fC (.int 41)) Af)))) (f2 N5 (fVI 1 1) (fC (.int 2)))) Af)))) Ec) (Br (sIf (A7 (f2 oEq (Aj 0) (B2 (Bc Af)))) (Oc (Bc (Aa (Bw (Aa (fC1 Nu (fVI 1 1)) (Aa (Bw (Aa (fC (.int 1)) (Aa (fC (.int 0)) (Aa (fC (.int 0)) (Aa (Bw Af) Af))))) (Aa (Bw Af) Af)))) Af))) Ec) (Br (B0 2 (f2 N5 (fVI 1 2) (Av Dz (Aa (Aj 0) Af)))) (Br (Aep (f2 oIx (Aj 0) (Aj 2)) (Abp 3 (J5 (Bb 3) (J5 (Bb 4) (J5 (Bb 5) Ae8))))) (Br (B0 6 (fIf (A7 (f2 oGt (Av Dz (Aa (Aj 5) Af)) (fC (.int 0)))) (f2 oIx (Aj 5) (f2 N5 (fVI 1 3) (Av Dz (Aa (Aj 5) Af)))) (Bw (Aa (fC (.str (Str.ofString "b"))) (Aa (Bw (Aa (Bw (Aa (Aj 4) (Aa (fC .non) Af))) Af)) Af))))) (Br (sIf (A7 (f2 oEq (fVI 1 0) (fC (.int 1)))) (B0 7 (Bw (Aa (fC1 Nu (fVI 1 1)) (Aa (Aj 4) (Aa (Aj 5) Af))))) (sIf (A7 (f2 oEq (fVI 1 0) (fC (.int 2)))) (B0 7 (Bw (Aa (Aj 3) (Aa (Aj 4) (Aa (f2 Dm (Aj 5) (Bw (Aa (Bw (Aa (fC1 Nu (fVI 1 1)) (Aa (f2 oIx (Aj 6) (fC (.int 1))) Af))) Af))) Af))))) (sIf (A7 (f2 oEq (fVI 1 0) (fC (.int 3)))) (B0 7 (Bw (Aa (Aj 3) (Aa (Aj 4) (Aa (f2 Dm (Aj 5) (Bw (Aa (Bw (Aa (Aj 3) (Aa (f2 oIx (Aj 6) (fC (.int 1))) Af))) Af))) Af))))) (sIf (A7 (f2 oEq (fVI 1 0) (fC (.int 4)))) (B0 7 (Bw (Aa (Aj 3) (Aa (Aj 4) (Aa (f2 Dm (Aj 5) (Bw (Aa (Aj 6) Af))) Af))))) (sIf (A7 (f2 oEq (fVI 1 0) (fC (.int 7)))) (Br (B0 8 (B2 (Ci [] 1 (Hx (Aa (f2 Ai1 (f2 oIx (B2 (Bc (Aa (fC (.int 40)) (Aa (fC (.int 41)) Af)))) (f2 N5 (fVI 1 1) (fC (.int 2)))) (Av Dz (Aa (Aj 5) Af))) Af)) (Bb 0) Nf (f2 Dm (f2 Dm (fC (.str (Str.ofString "q"))) (f2 oIx (fC (.str (Str.ofString "abcdefgh"))) (f2 Aat (Aj 0) (fC (.int 8))))) (f2 oIx (fC (.str (Str.ofString "abcdefgh"))) (f2 N5 (Aj 0) (fC (.int 8)))))))) (B0 7 (Bw (Aa (Aj 3) (Aa (Aj 4) (Aa (f2 Dm (Aj 5) (Av Ew (Aa (B2 (Ci [6] 1 (Rv (Aj 8)) (Bb 1) Nf (Bw (Aa (Aj 1) (Aa (fVI 0 1) Af))))) Af))) Af)))))) (sIf (A7 (f2 oEq (fVI 1 0) (fC (.int 5)))) (Br (B0 9 (f2 N5 (fVI 1 1) (f2 Dm (Av Dz (Aa (Aj 0) Af)) (fC (.int 1))))) (Oc (Tu (B2 (Tu (B2 (Nc (Aj 0) fNo (B6 (Aj 9)))) (B2 (Bc (Aa (Bw (Aa (Aj 3) (Aa (Aj 4) (Aa (fSl (Aj 5) (B6 (fC (.int 1))) fNo) Af)))) Af))))) (B2 (Nc (Aj 0) (B6 (Aj 9)) fNo))))) (B0 7 (Bw (Aa (Aj 3) (Aa (Aj 4) (Aa (Ajg (Aj 5)) Af))))))))))) (Oc (Tu (B2 (Tu (B2 (Nc (Aj 0) fNo (B6 (Aj 2)))) (B2 (Bc (Aa (Aj 7) Af))))) (B2 (Nc (Aj 0) (B6 (f2 Dm (Aj 2) (fC (.int 1)))) fNo))))))))))
def Et:List D->Option D:=Aeo 10 Ab0
def Ajk:FS:=(Br (B0 1 (fC (.str (Str.ofString "abcdefghijklmnopqrstuvwxyz")))) (Cv (Nt (Ir oLt oLt (fC (.int 0)) (Av Dz (Aa (Aj 0) Af)) (fC (.int 9))) (f2 oEq (Av Dz (Aa (B2 (Ci [1] 1 (Rv (Aj 0)) (Bb 1) (A7 (f2 Dr (Aj 1) (Aj 0))) (Aj 1))) Af)) (fC (.int 0))))))
def R6:List D->Option D:=Ib 2 Ajk
def Ab1:FS:=(Br (Xj (Hx (Aa (Av Dz (Aa (Aj 0) Af)) Af)) (Bb 1) (Br (Aep (f2 oIx (Aj 0) (Aj 1)) (Abp 3 (J5 (Bb 2) (J5 (Bb 3) (J5 (Bb 4) Ae8))))) (Br (sIf (fOr (A7 (f2 oGt (Aj 1) (fC (.int 39)))) (fOr (A7 (f2 oGt (Av Dz (Aa (Aj 4) Af)) (fC (.int 40)))) (Abr (Aej (fC1 R6 (Aj 2)))))) (Cv (fC (.bl false))) Ec) (Br (sIf (A7 (f2 oIn (Bw (Aa (Aj 2) (Aa (Aj 3) Af))) (B2 (Ci [] 1 (Rv (B2 (Nc (Aj 0) fNo (B6 (Aj 1))))) (Bb 0) Nf (fSl (Aj 0) fNo (B6 (fC (.int 2)))))))) (Cv (fC (.bl false))) Ec) (Xj (Hx (Aa (Av Dz (Aa (Aj 4) Af)) Af)) (Bb 5) (Br (B0 6 (f2 oIx (f2 oIx (Aj 4) (Aj 5)) (fC (.int 0)))) (sIf (fOr (Abr (Aej (fC1 R6 (Aj 6)))) (A7 (f2 oIn (Aj 6) (B2 (Tu (B2 (Bc (Aa (Aj 2) Af))) (B2 (Ci [] 1 (Rv (fSl (Aj 4) fNo (B6 (Aj 5)))) (Bb 0) Nf (fVI 0 0)))))))) (Cv (fC (.bl false))) Ec))))))) (Cv (fC (.bl true))))
def Mg:List D->Option D:=Ib 7 Ab1
def Abt:FS:=(Br (B0 1 (fC2 Mf (Aj 0) (fC (.int 1)))) (Br (sIf (A7 (f2 Vf (fC1 Mh (Aj 1)) (fC (.bl true)))) (Cv (fC (.bl false))) Ec) (Br (Xj (Hx (Aa (Av Zg (Aa (fC (.int 2)) (Aa (Av Dz (Aa (B2 (Nc (Aj 0) (B6 (fC (.int 41))) (B6 (fC (.int 61))))) Af)) Af))) Af)) (Bb 2) (Br (B0 3 (B2 (C9 (L9 2 Nv) (Aa (fC2 Ha (Aj 0) (f2 Dm (fC (.int 41)) (Aj 2))) (Aa (B2 (Bc (Aa (fC (.int 8)) (Aa (fC (.int 8)) (Aa (fC (.int 40)) (Aa (fC (.int 3)) (Aa (fC (.int 2)) (Aa (fC (.int 8)) (Aa (fC (.int 8)) (Aa (fC (.int 40)) (Aa (fC (.int 3)) Af))))))))))) Af))))) (Br (B0 4 (Av (R5 2 Et) (Aa (B2 (C9 Zf (Aa (Aj 1) Af))) (Aa (B2 (Nc (Aj 3) fNo (B6 (fC (.int 4))))) Af)))) (Br (sIf (Aam (A7 (f2 oEq (fVI 3 4) (fC (.int 1)))) (A7 (f2 oLt (Av Dz (Aa (Aj 4) Af)) (fC (.int 42))))) (B0 4 (Av (R5 2 Et) (Aa (Aj 4) (Aa (B2 (Nc (Aj 3) (B6 (fC (.int 5))) fNo)) Af)))) Ec) (Br (B0 5 (fC1 Mh (Av Ew (Aa (Aj 4) Af)))) (sIf (fOr (Abr (Aej (Afj "bool" (Aj 5)))) (A7 (f2 oNe (Aj 5) (fC1 Mg (Aj 4))))) (Cv (fC (.bl false))) Ec)))))) (Cv (f2 oIs (fC1 Mh (Aj 1)) (fC (.bl true)))))))
def G9:List D->Option D:=Ib 6 Abt
theorem sc_law:FnScope ["_law_script","_law_shelf_here","_law_k","_law_ds","_law_entries","_law_told"] ["_law_script"] (Ao M7):=⟨rfl,rfl,rfl,by decide +kernel,rfl,by decide +kernel,by decide +kernel⟩
structure Blt (mg:Str->Option Value):Prop where
 b_all:mg "all"=none
 b_bool:mg "bool"=none
 b_int:mg "int"=none
 b_isinstance:mg "isinstance"=none
 b_len:mg "len"=none
 b_list:mg "list"=none
 b_max:mg "max"=none
 b_range:mg "range"=none
 b_set:mg "set"=none
 b_tuple:mg "tuple"=none
structure Txt (K:W.Frag) (mg:Str->Option Value):Prop where
 c_LETTERS:GC K mg "LETTERS" (.str (Str.ofString "abcdefghijklmnopqrstuvwxyz"))
 c_MOST_LETTERS:GC K mg "MOST_LETTERS" (.int 8)
 c_MOST_ENTRIES:GC K mg "MOST_ENTRIES" (.int 40)
 c_MOST_NEEDS:GC K mg "MOST_NEEDS" (.int 40)
 h_z5:FD K mg "is_name" Ahu ["text"]
 h_z2:FD K mg "is_entry" Ahr ["entry"]
 h_z3:FD K mg "is_shelf" Ahs ["thing"]
 h_z13:FD K mg "_law_cell" Aba ["_law_script","_law_k"]
 h_z7:FD K mg "_law_draws" Ahw ["_law_cell_here","_law_sizes"]
 h_z14:FD K mg "_law_make" Abb ["_law_ds"]
 h_z15:FD K mg "_law_next" Abc ["_law_make_here"]
 h_z8:FD K mg "_law_great" Ahx ["_law_make_here"]
 h_z0:FD K mg "_law_need_span" Ahp ["_law_way","_law_make_here"]
 h_z9:FD K mg "_law_title" Ahy ["_law_k"]
 h_z10:FD K mg "_law_needs" Aa7 ["_law_owner","_law_ds"]
 h_z11:FD K mg "_law_entry" Aa8 ["_law_cell_here"]
 h_z12:FD K mg "_law_shelf" Aa9 ["_law_script","_law_first"]
 h_z4:FD K mg "_law_strange" Aht ["_law_k"]
 h_z6:FD K mg "_law_filled" Ahv ["_law_entries","_law_many"]
 h_z16:FD K mg "_law_bent" Abd ["_law_entries","_law_ds"]
 h_z1:FD K mg "_law_is_title" Ahq ["_law_name"]
 h_z17:FD K mg "_law_due" Abe ["_law_entries"]
section
variable {P:Program}{w:World}{K:W.Frag}{mg:Str->Option Value}{base:Heap} (T:Txt K mg ) (B:Blt mg)
include T B
theorem Aj0:Cl P w K mg base 1 "is_name" 1 Ul :=
 Do ["text"] T.h_z5 Ajo Ul fun _ _ _ _ _ _ _ hr nd=>(Al (Aw (Ads (Vw Af7 Af7 Ab (Bj B.b_len (Ag (Ai 0) Ad)) (Ai2 T.c_MOST_LETTERS)) (Adz (Vx rfl B.b_all (Ag (Cd (Cp [] ["sign"] rfl (Hl (Ai 0)) (C6 0) (fun _ _ _ _ _ _=>(E4 (show (["sign"]:List Str).Nodup by decide))) (fun _ _ _ _ _ _=>De) (fun _ _ _ _ _ _=>(Mw (Acn hr) (Ai 0) (Ai2 T.c_LETTERS))))) Ad))))))
theorem Ajz:Cl P w K mg base 2 "is_entry" 1 Uk :=
 Do ["entry","names"] T.h_z2 Ajl Uk fun _ _ _ _ _ _ _ hr nd=>(Ah (A5 nd (Cd (Mv (Cd (Cq (Ag (An (Ai 0) Ab) Ad))) (Cd (Cp [] ["need"] rfl (Hl (An (Ai 0) Ab)) (C6 0) (fun _ _ _ _ _ _=>(E4 (show (["need"]:List Str).Nodup by decide))) (fun _ _ _ _ _ _=>De) (fun _ _ _ _ _ _=>(An (Ai 0) Ab))))))) (Ah (Bu (Dc (Tj (Aq Mr (Bj B.b_len (Ag (An (Ai 0) Ab) Ad)) (Ai2 T.c_MOST_NEEDS)) (Mx (Aq (Vk hr) (Adv hr B.b_len B.b_set (Ag (Ai 1) Ad)) (Bj B.b_len (Ag (Ai 1) Ad)))))) (Al (Aw Xi)) Be) (Al (Aw (Vx rfl B.b_all (Ag (Cd (Cp [] ["name"] rfl (Hl (Ai 1)) (C6 0) (fun _ _ _ _ _ _=>(E4 (show (["name"]:List Str).Nodup by decide))) (fun _ _ _ _ _ _=>De) (fun _ _ _ _ _ _=>(q_c (Aj0 T B) hr (Ag (Ai 0) Ad))))) Ad))))))
theorem Ack:Cl P w K mg base 3 "is_shelf" 1 Mh :=
 Do ["thing","parts"] T.h_z3 Ajm Mh fun _ _ _ _ _ _ _ hr nd=>(Ah (Rh [] ["entry"] nd rfl (Hl (Ai 0)) (C6 0) (fun _ _ _ _ _ _=>(E4 (show (["entry"]:List Str).Nodup by decide))) (fun _ _ _ _ _ _=>De) (fun _ _ _ _ _ _=>(Ad0 (Ai 0) Bt (A4 Ab)))) (Ah (Bu (Dc (Tj (Aq Mr (Bj B.b_len (Ag (Ai 1) Ad)) (Ai2 T.c_MOST_ENTRIES)) (Mx (Aq (Vk hr) (Adu hr B.b_len B.b_set (Ag (Ai 1) Ad)) (Bj B.b_len (Ag (Ai 1) Ad)))))) (Al (Aw Xi)) Be) (Al (Aw (Vx rfl B.b_all (Ag (Cd (Cp [] ["entry"] rfl (Hl (Ai 0)) (C6 0) (fun _ _ _ _ _ _=>(E4 (show (["entry"]:List Str).Nodup by decide))) (fun _ _ _ _ _ _=>De) (fun _ _ _ _ _ _=>(q_c (Ajz T B) hr (Ag (Ai 0) Ad))))) Ad))))))
theorem Vh:Cl P w K mg base 1 "_law_cell" 2 Ha :=
 Do ["_law_script","_law_k"] T.h_z13 Abx Ha fun _ _ _ _ _ _ _ hr nd=>(Ah (Bu (Aq (Co hr) (Bj B.b_len (Ag (Ai 0) Ad)) Ab) (Al (Aw (As Ct Ab (Ai 1)))) Be) (Al (Aw (As A9 (An (Ai 0) (As C7 (Ai 1) (Bj B.b_len (Ag (Ai 0) Ad)))) (As Ct Ab (As Mq (Ai 1) (Bj B.b_len (Ag (Ai 0) Ad))))))))
theorem Acm:Cl P w K mg base 1 "_law_draws" 2 Nv :=
 Do ["_law_cell_here","_law_sizes","_law_found","_law_digits","_law_k","_law_mixed"] T.h_z7 Ajq Nv fun _ _ _ _ _ _ _ hr nd=>(Ah (Ri nd (Cq Ad)) (Ah (A5 nd (As Mq (Ai 0) Ab)) (Ah (Hm Ans rfl (My B.b_range (Ag (Bj B.b_len (Ag (Ai 1) Ad)) Ad)) (Ti nd) (Ah (A5 nd (As C7 (As Ct (As A9 (As C7 (Ai 0) Ab) Ab) (As A9 Ab (As Ct Ab (Ai 4)))) Ab)) (Ah (A5 nd (As C7 (As Ct (As A9 (As A9 (Ai 5) (As Ct (As Ct Ab (Ai 4)) (Ai 4))) Ab) Ab) Ab)) (Ah (Bu (Aq (Co hr) (As C7 (Ai 0) Ab) Ab) (Al (A5 nd (Ai 3))) Be) (Ah (Vz (Ai 2) (Ag (As C7 (Ai 5) (An (Ai 1) (Ai 4))) Ad)) (Al (A5 nd (As Mq (Ai 3) (An (Ai 1) (Ai 4)))))))))) (Al (Aw (Ai 2))))))
theorem Aaw:Cl P w K mg base 1 "_law_make" 1 Iu :=
 Do ["_law_ds","_law_marks","_law_many","_law_great_here"] T.h_z14 Aby Iu fun _ _ _ _ _ _ _ hr nd=>(Ah (A5 nd (Cd (Cq (Ag Ab (Ag Ab (Ag Ab (Ag Ex (Ag Ex (Ag Ex (Ag Ex Ad)))))))))) (Ah (A5 nd (An (Cd (Cq (Ag Ab (Ag Ab (Ag Ab (Ag Ab Ad)))))) (An (Ai 0) Ab))) (Ah (A5 nd (As A9 (An (Ai 0) Ab) (As Ct Ab (Ahf B.b_int (Ag (Ads (Mw (Co hr) (An (Ai 0) Ab) Ab) (Adz (Mw Mr (An (Ai 0) Ab) Ab))) Ad))))) (Al (Aw (Au (Ag (Ai 3) (Ag (An (Ai 0) Ab) (Ag (An (Ai 0) Ab) (Ag (D8 B.b_tuple (Ag (Cd (E8 (Cd (Cq (Ag (An (Ai 1) (An (Ai 0) Ab)) (Ag (An (Ai 1) (An (Ai 0) Ab)) Ad)))) Bt (A4 (Ai 2)))) Ad)) Ad))))))))))
theorem Vi:Cl P w K mg base 1 "_law_next" 1 Hb :=
 Do ["_law_make_here"] T.h_z15 Abz Hb fun _ _ _ _ _ _ _ hr nd=>(Ah (Bu (Aq (Co hr) (An (Ai 0) Ab) (Au Ad)) (Al (Aw (Au (Ag (An (Ai 0) Ab) (Ag (An (Ai 0) Ab) (Ag (As A9 (An (Ai 0) Ab) Ab) (Ag (Au (Ag Ab Ad)) Ad))))))) Be) (Al (Aw (As A9 (Ad0 (Ai 0) Bt (A4 Ab)) (Au (Ag (As A9 (An (Ai 0) Ab) (Au (Ag Ab Ad))) Ad))))))
theorem Aj2:Cl P w K mg base 1 "_law_great" 1 Uo :=
 Do ["_law_make_here"] T.h_z8 Ajr Uo fun _ _ _ _ _ _ _ hr nd=>(Ah (Bu (Aq Mr (An (Ai 0) Ab) Ab) (Al (Aw (Au (Ag (As A9 (An (Ai 0) Ab) Ab) (Ag Ab (Ag Ab (Ag (Au (Ag Ab Ad)) Ad))))))) Be) (Ah (Bu (Aq Mr (An (Ai 0) Ab) Ab) (Al (Aw (Au (Ag Ab (Ag (As A9 (An (Ai 0) Ab) Ab) (Ag Ab (Ag (Au (Ag Ab Ad)) Ad))))))) Be) (Al (Aw (Au (Ag Ab (Ag Ab (Ag (As A9 (An (Ai 0) Ab) Ab) (Ag (Au (Ag Ab Ad)) Ad)))))))))
theorem Ajy:Cl P w K mg base 2 "_law_need_span" 2 Uj :=
 Do ["_law_way","_law_make_here","_law_oldest"] T.h_z0 Ajj Uj fun _ _ _ _ _ _ _ hr nd=>(Ah (A5 nd (Au (Ag Ab (Ag Ab (Ag Ab (Ag (Au (Ag Ab Ad)) Ad)))))) (Ah (Bu (Aq (Co hr) (Ai 0) Ab) (Al (Aw (Au (Ag (Au (Ag (Ai 1) (Ag Z0 Ad))) Ad)))) Be) (Ah (Bu (Aq (Co hr) (Ai 0) Ab) (Al (Aw (Au (Ag (Au (Ag (Ai 1) (Ag (q_c (Aj2 T B) hr (Ag (Ai 1) Ad)) Ad))) Ad)))) Be) (Ah (Bu (Aq (Co hr) (Ai 0) Ab) (Al (Aw (Au (Ag (Au (Ag (Ai 1) (Ag (Au (Ag (An (Ai 1) Ab) (Ag (As A9 (An (Ai 1) Ab) Ab) (Ag Ab (Ag (Au (Ag Ab Ad)) Ad))))) Ad))) Ad)))) Be) (Ah (Bu (Aq (Co hr) (Ai 0) Ab) (Al (Aw (Au (Ag (Au (Ag (Ai 1) (Ag (q_c (Vi T B) hr (Ag (Ai 1) Ad)) Ad))) Ad)))) Be) (Ah (Bu (Aq (Co hr) (Ai 0) Ab) (Al (Aw (Au (Ag (Au (Ag (Ai 2) (Ag Z0 Ad))) Ad)))) Be) (Ah (Bu (Dc (V2 (Aq (Co hr) (Ai 0) Ab) (Oa (Aq (Vk hr) (Ai 1) (Ai 2))))) (Al (Aw (Au (Ag (Au (Ag (Ai 2) (Ag (Ai 1) Ad))) (Ag (Au (Ag (q_c (Vi T B) hr (Ag (Ai 1) Ad)) (Ag Z0 Ad))) Ad))))) Be) (Al (Aw (Au (Ag (Au (Ag (Ai 2) (Ag (q_c (Vi T B) hr (Ag (Ai 1) Ad)) Ad))) Ad)))))))))))
theorem Af6:Cl P w K mg base 1 "_law_title" 1 R7 :=
 Do ["_law_k"] T.h_z9 Ajs R7 fun _ _ _ _ _ _ _ hr nd=>(Al (Aw (An (Cd (Cq (Ag Ex (Ag Ex (Ag Ex (Ag Ex (Ag Ex (Ag Ex (Ag Ex (Ag Ex Ad)))))))))) (Ai 0))))
theorem Af2:Cl P w K mg base 3 "_law_needs" 2 Md :=
 Do ["_law_owner","_law_ds","_law_needs_here","_law_j","_law_other"] T.h_z10 Abu Md fun _ _ _ _ _ _ _ hr nd=>(Ah (Ri nd (Cq Ad)) (Ah (Hm Ans rfl (My B.b_range (Ag (As Mq (Bj B.b_len (Ag (Ai 1) Ad)) Ab) Ad)) (Ti nd) (Ah (A5 nd (q_c (Af6 T B) hr (Ag (An (Ai 1) (As Ct Ab (Ai 3))) Ad))) (Al (Bu (Dc (V2 (Aq (Vk hr) (Ai 4) (Ai 0)) (Oa (Aq (Li hr) (Ai 4) (Cd (Cp [] ["_law_need"] rfl (Hl (Ai 2)) (C6 0) (fun _ _ _ _ _ _=>(E4 (show (["_law_need"]:List Str).Nodup by decide))) (fun _ _ _ _ _ _=>De) (fun _ _ _ _ _ _=>(An (Ai 0) Ab)))))))) (Al (Vz (Ai 2) (Ag (Au (Ag (Ai 4) (Ag (q_c (Ajy T B) hr (Ag (An (Ai 1) (As A9 (As Ct Ab (Ai 3)) Ab)) (Ag (q_c (Aaw T B) hr (Ag (Cd (E8 (Ai 1) (A4 (As A9 (As Ct Ab (Ai 3)) Ab)) (A4 (As A9 (As Ct Ab (Ai 3)) Ab)))) Ad)) Ad))) Ad))) Ad))) Be)))) (Al (Aw (D8 B.b_tuple (Ag (Ai 2) Ad))))))
theorem Af3:Cl P w K mg base 4 "_law_entry" 1 Me :=
 Do ["_law_cell_here","_law_ds","_law_name"] T.h_z11 Abv Me fun _ _ _ _ _ _ _ hr nd=>(Ah (A5 nd (Cd (Akk (Acm T B) hr (Ag (Ai 0) (Ag (Cd (Mv (Cd (Cq (Ag Ab (Ag Ab (Ag Ab (Ag Ab (Ag Ab (Ag Ab (Ag Ab (Ag Ab Ad)))))))))) (Cd (Akn (Cq (Ag Ab (Ag Ab (Ag Ab (Ag Ab (Ag Ab (Ag Ab (Ag Ab (Ag Ab Ad))))))))))))) Ad))))) (Ah (A5 nd (q_c (Af6 T B) hr (Ag (An (Ai 1) Ab) Ad))) (Al (Aw (Au (Ag (Ai 2) (Ag (q_c (Aaw T B) hr (Ag (Cd (E8 (Ai 1) (A4 Ab) (A4 Ab))) Ad)) (Ag (q_c (Af2 T B) hr (Ag (Ai 2) (Ag (Cd (E8 (Ai 1) (A4 Ab) (A4 (As A9 Ab (As Ct Ab (An (Ai 1) Ab)))))) Ad))) Ad))))))))
theorem Af4:Cl P w K mg base 5 "_law_shelf" 2 Mf :=
 Do ["_law_script","_law_first","_law_ds","_law_many","_law_shelf_here","_law_k","_law_entry_here"] T.h_z12 Abw Mf fun _ _ _ _ _ _ _ hr nd=>(Ah (A5 nd (Cd (Akk (Acm T B) hr (Ag (q_c (Vh T B) hr (Ag (Ai 0) (Ag Ab Ad))) (Ag (Cd (Cq (Ag Ab (Ag Ab Ad)))) Ad))))) (Ah (A5 nd (An (Ai 2) Ab)) (Ah (Bu (Aq (Co hr) (An (Ai 2) Ab) Ab) (Al (A5 nd Ab)) Be) (Ah (Ri nd (Cq Ad)) (Ah (Hm Ans rfl (My B.b_range (Ag (Ai 3) Ad)) (Ti nd) (Ah (A5 nd (q_c (Af3 T B) hr (Ag (q_c (Vh T B) hr (Ag (Ai 0) (Ag (As A9 (Ai 1) (Ai 5)) Ad))) Ad))) (Al (Bu (Aq (Li hr) (Ad0 (Ai 6) Bt (A4 Ab)) (Cd (Cp [] ["_law_one"] rfl (Hl (Ai 4)) (C6 0) (fun _ _ _ _ _ _=>(E4 (show (["_law_one"]:List Str).Nodup by decide))) (fun _ _ _ _ _ _=>De) (fun _ _ _ _ _ _=>(Ad0 (Ai 0) Bt (A4 Ab)))))) (Al (Vz (Ai 4) (Ag (Ai 6) Ad))) Be)))) (Al (Aw (D8 B.b_tuple (Ag (Ai 4) Ad)))))))))
theorem Acl:Cl P w K mg base 1 "_law_strange" 1 Nu :=
 Do ["_law_k"] T.h_z4 Ajn Nu fun _ _ _ _ _ _ _ hr nd=>(Al (Aw (An (Cd (Cq (Ag Ex (Ag Ex (Ag Ex (Ag Ex (Ag Ex (Ag Ex (Ag Ex (Ag Ex Ad)))))))))) (Ai 0))))
theorem Aj1:ClN P w K mg base 1 "_law_filled" 2 Um :=
 Aa2 ["_law_entries","_law_many","_law_k"] T.h_z6 Ajp Um fun _ _ _ _ _ _ _ hr nd=>(Ah (Hm Ans rfl (My B.b_range (Ag (Ai 1) Ad)) (Ti nd) (Al (Bu (Aq (Zj) (Bj B.b_len (Ag (Ai 0) Ad)) (Ai 1)) (Al (Ri nd (Mv (Ai 0) (Cd (Cq (Ag (Au (Ag Ex (Ag (Au (Ag Ab (Ag Ab (Ag (Ai 2) (Ag (Au Ad) Ad))))) (Ag (Au Ad) Ad)))) Ad)))))) Be))) (Al (Aw (Ai 0))))
theorem Aax:ClN P w K mg base 2 "_law_bent" 2 Et :=
 Aa2 ["_law_entries","_law_ds","_law_at","_law_name","_law_make_here","_law_needs_here","_law_other","_law_one","_law_more","_law_put"] T.h_z16 Ab0 Et fun _ _ _ _ _ _ _ hr nd=>(Ah (Bu (Aq (Co hr) (An (Ai 1) Ab) Ab) (Al (Aw (Akl (Aj1 T B) hr (Ag (Ai 0) (Ag (An (Cd (Cq (Ag Ab (Ag Ab Ad)))) (As C7 (An (Ai 1) Ab) Ab)) Ad))))) Be) (Ah (Bu (Aq (Co hr) (Ai 0) (Cd (Cq Ad))) (Al (N9 (Cq (Ag (Au (Ag (q_c (Acl T B) hr (Ag (An (Ai 1) Ab) Ad)) (Ag (Au (Ag Ab (Ag Ab (Ag Ab (Ag (Au Ad) Ad))))) (Ag (Au Ad) Ad)))) Ad)))) Be) (Ah (A5 nd (As C7 (An (Ai 1) Ab) (Bj B.b_len (Ag (Ai 0) Ad)))) (Ah (Aa5 (An (Ai 0) (Ai 2)) (Aa4 rfl (Em (Ti nd) (Em (Ti nd) (Em (Ti nd) Aa3))))) (Ah (V0 nd (Als (Aq Mr (Bj B.b_len (Ag (Ai 5) Ad)) Ab) (An (Ai 5) (As C7 (An (Ai 1) Ab) (Bj B.b_len (Ag (Ai 5) Ad)))) (Au (Ag Ex (Ag (Au (Ag (Au (Ag (Ai 4) (Ag Z0 Ad))) Ad)) Ad))))) (Ah (Bu (Aq (Co hr) (An (Ai 1) Ab) Ab) (Al (A5 nd (Au (Ag (q_c (Acl T B) hr (Ag (An (Ai 1) Ab) Ad)) (Ag (Ai 4) (Ag (Ai 5) Ad)))))) (Al (Bu (Aq (Co hr) (An (Ai 1) Ab) Ab) (Al (A5 nd (Au (Ag (Ai 3) (Ag (Ai 4) (Ag (As A9 (Ai 5) (Au (Ag (Au (Ag (q_c (Acl T B) hr (Ag (An (Ai 1) Ab) Ad)) (Ag (An (Vy 6) Ab) Ad))) Ad))) Ad)))))) (Al (Bu (Aq (Co hr) (An (Ai 1) Ab) Ab) (Al (A5 nd (Au (Ag (Ai 3) (Ag (Ai 4) (Ag (As A9 (Ai 5) (Au (Ag (Au (Ag (Ai 3) (Ag (An (Vy 6) Ab) Ad))) Ad))) Ad)))))) (Al (Bu (Aq (Co hr) (An (Ai 1) Ab) Ab) (Al (A5 nd (Au (Ag (Ai 3) (Ag (Ai 4) (Ag (As A9 (Ai 5) (Au (Ag (Vy 6) Ad))) Ad)))))) (Al (Bu (Aq (Co hr) (An (Ai 1) Ab) Ab) (Ah (Rh [] ["_law_k"] nd rfl (My B.b_range (Ag (As Af8 (An (Cd (Cq (Ag Ab (Ag Ab Ad)))) (As C7 (An (Ai 1) Ab) Ab)) (Bj B.b_len (Ag (Ai 5) Ad))) Ad)) (C6 0) (fun _ _ _ _ _ _=>(E4 (show (["_law_k"]:List Str).Nodup by decide))) (fun _ _ _ _ _ _=>De) (fun _ _ _ _ _ _=>(As A9 (As A9 Ex (An Ex (As Mq (Ai 0) Ab))) (An Ex (As C7 (Ai 0) Ab))))) (Al (A5 nd (Au (Ag (Ai 3) (Ag (Ai 4) (Ag (As A9 (Ai 5) (D8 B.b_tuple (Ag (Cd (Cp [6] ["_law_other","_law_word"] rfl (Hl (Ai 8)) (C6 1) (fun _ _ _ _ _ _=>(E4 (show (["_law_other","_law_word"]:List Str).Nodup by decide))) (fun _ _ _ _ _ _=>De) (fun _ _ _ _ _ _=>(Au (Ag (Ai 1) (Ag (An (Vy 0) Ab) Ad)))))) Ad))) Ad))))))) (Al (Bu (Aq (Co hr) (An (Ai 1) Ab) Ab) (Ah (A5 nd (As C7 (An (Ai 1) Ab) (As A9 (Bj B.b_len (Ag (Ai 0) Ad)) Ab))) (Al (N9 (Mv (Cd (Mv (Cd (E8 (Ai 0) Bt (A4 (Ai 9)))) (Cd (Cq (Ag (Au (Ag (Ai 3) (Ag (Ai 4) (Ag (Ad0 (Ai 5) (A4 Ab) Bt) Ad)))) Ad))))) (Cd (E8 (Ai 0) (A4 (Ai 9)) Bt)))))) (Al (A5 nd (Au (Ag (Ai 3) (Ag (Ai 4) (Ag (Ako (Ai 5)) Ad))))))))))))))))) (Al (N9 (Mv (Cd (Mv (Cd (E8 (Ai 0) Bt (A4 (Ai 2)))) (Cd (Cq (Ag (Ai 7) Ad))))) (Cd (E8 (Ai 0) (A4 (As A9 (Ai 2) Ab)) Bt)))))))))))
theorem Af1:Cl P w K mg base 1 "_law_is_title" 1 R6 :=
 Do ["_law_name","_law_letters"] T.h_z1 Ajk R6 fun _ _ _ _ _ _ _ hr nd=>(Ah (V0 nd Ex) (Al (Aw (Ads (Vw Zj Zj Ab (Bj B.b_len (Ag (Ai 0) Ad)) Ab) (Adz (Mw (Co hr) (Bj B.b_len (Ag (Cd (Cp [1] ["_law_letters","_law_sign"] rfl (Hl (Ai 0)) (C6 1) (fun _ _ _ _ _ _=>(E4 (show (["_law_letters","_law_sign"]:List Str).Nodup by decide))) (fun _ _ _ _ _ _=>(Ahi (Aq (Li hr) (Ai 1) (Vy 0)))) (fun _ _ _ _ _ _=>(Ai 1)))) Ad)) Ab))))))
theorem Af5:Cl P w K mg base 2 "_law_due" 1 Mg :=
 Do ["_law_entries","_law_k","_law_name","_law_make_here","_law_needs_here","_law_j","_law_word"] T.h_z17 Ab1 Mg fun _ _ _ _ _ _ _ hr nd=>(Ah (Hm Ans rfl (My B.b_range (Ag (Bj B.b_len (Ag (Ai 0) Ad)) Ad)) (Ti nd) (Ah (Aa5 (An (Ai 0) (Ai 1)) (Aa4 rfl (Em (Ti nd) (Em (Ti nd) (Em (Ti nd) Aa3))))) (Ah (Bu (Dc (Tj (Aq Mr (Ai 1) Ab) (Tj (Aq Mr (Bj B.b_len (Ag (Ai 4) Ad)) Ab) (Mx (Vu (Vv (q_c (Af1 T B) hr (Ag (Ai 2) Ad)))))))) (Al (Aw Xi)) Be) (Ah (Bu (Aq (Acn hr) (Au (Ag (Ai 2) (Ag (Ai 3) Ad))) (Cd (Cp [] ["_law_one"] rfl (Hl (Cd (E8 (Ai 0) Bt (A4 (Ai 1))))) (C6 0) (fun _ _ _ _ _ _=>(E4 (show (["_law_one"]:List Str).Nodup by decide))) (fun _ _ _ _ _ _=>De) (fun _ _ _ _ _ _=>(Ad0 (Ai 0) Bt (A4 Ab)))))) (Al (Aw Xi)) Be) (Al (Hm Ans rfl (My B.b_range (Ag (Bj B.b_len (Ag (Ai 4) Ad)) Ad)) (Ti nd) (Ah (A5 nd (An (An (Ai 4) (Ai 5)) Ab)) (Al (Bu (Dc (Tj (Vu (Vv (q_c (Af1 T B) hr (Ag (Ai 6) Ad)))) (Mx (Aq (Acn hr) (Ai 6) (Cd (Mv (Cd (Cq (Ag (Ai 2) Ad))) (Cd (Cp [] ["_law_need"] rfl (Hl (Ad0 (Ai 4) Bt (A4 (Ai 5)))) (C6 0) (fun _ _ _ _ _ _=>(E4 (show (["_law_need"]:List Str).Nodup by decide))) (fun _ _ _ _ _ _=>De) (fun _ _ _ _ _ _=>(An (Ai 0) Ab)))))))))) (Al (Aw Xi)) Be))))))))) (Al (Aw Xi)))
theorem Af0 {a:Addr}{fd:FuncData} (F:Fun K "law" "law" M7 a fd):FnOk P w K mg base CX0 6 a fd ["_law_script"] (spP K 1 G9) :=
 Ak8 F sc_law Abt G9 rfl rfl fun cdv A outer s H E hr=>(Ah (A5 sc_law.nd (q_c (Af4 T B) hr (Ag (Ai 0) (Ag Ab Ad)))) (Ah (Bu (Aq Zi (q_c (Ack T B) hr (Ag (Ai 1) Ad)) Xi) (Al (Aw Xi)) Be) (Ah (Hm Ans rfl (My B.b_range (Ag (Adw rfl B.b_max (Ag Ab (Ag (Bj B.b_len (Ag (Cd (E8 (Ai 0) (A4 Ab) (A4 Ab))) Ad)) Ad))) Ad)) (Ti sc_law.nd) (Ah (A5 sc_law.nd (Cd (Akk (Acm T B) hr (Ag (q_c (Vh T B) hr (Ag (Ai 0) (Ag (As A9 Ab (Ai 2)) Ad))) (Ag (Cd (Cq (Ag Ab (Ag Ab (Ag Ab (Ag Ab (Ag Ab (Ag Ab (Ag Ab (Ag Ab (Ag Ab Ad))))))))))) Ad))))) (Ah (A5 sc_law.nd (Akl (Aax T B) hr (Ag (Cd (Ady B.b_list (Ag (Ai 1) Ad))) (Ag (Cd (E8 (Ai 3) Bt (A4 Ab))) Ad)))) (Ah (Bu (Dc (V2 (Aq (Co hr) (An (Ai 3) Ab) Ab) (Oa (Aq (Zj) (Bj B.b_len (Ag (Ai 4) Ad)) Ab)))) (Al (A5 sc_law.nd (Akl (Aax T B) hr (Ag (Ai 4) (Ag (Cd (E8 (Ai 3) (A4 Ab) Bt)) Ad))))) Be) (Ah (A5 sc_law.nd (q_c (Ack T B) hr (Ag (D8 B.b_tuple (Ag (Ai 4) Ad)) Ad))) (Al (Bu (Dc (Tj (Vu (Vv (Ahg (Ai 5) B.b_isinstance B.b_bool (by decide +kernel)))) (Mx (Aq (Vk hr) (Ai 5) (q_c (Af5 T B) hr (Ag (Ai 4) Ad)))))) (Al (Aw Xi)) Be))))))) (Al (Aw (Mw Aj3 (q_c (Ack T B) hr (Ag (Ai 1) Ad)) Xi))))))
end
end
end K36a
end S_K36a
section S_VA
namespace K36a
open PySem L2 L2.ML
set_option hygiene false in
local macro_rules|`(tactic| simp_arith[$a,*])=>`(tactic| ((try dsimp only[mp1,mp2,mp3,ln1,ln2,ln3,List.replicate,Nat.reduceAdd,Nat.reduceSub]);simp only[↓Yk,↓Yj,↓Ya,↓Yb,↓Yc,↓Yd,↓Xo,↓Xp,↓La,↓J9,↓Bp,↓Lr,↓Ls,↓Lp,↓Lq,↓Im,↓Pb,↓Pd,↓Jp,↓R4,↓Xh,↓X7,↓Aew,↓Aev,↓Il,↓Ee,↓Ed,↓Ga,↓Oq,↓Ox,↓Gc,↓G1,↓Xl,↓Ov,↓Pj,↓Om,↓Xs,↓Os,↓Jl,↓Xq,↓Gb,↓Xt,↓Xr,↓Jn,↓Xm,↓L1,↓Ou,↓Z9,↓Ro,↓On,↓Oo,↓Ik,↓Jm,↓Ce,↓B4,↓Oe,↓Of,↓Og,↓Ph,↓O5,↓Ol,↓O4,↓X4,↓X3,↓Xw,↓Aic,↓Aig,↓X2,↓G3,↓X1,↓X0,↓O2,↓O3,↓O0,↓Oz,↓O1,↓Xk,↓Pf,↓Xy,↓Xx,↓Du,↓Cc,↓Cb,↓Jq,↓Js,↓Jv,↓Ju,↓Jt,↓X9,↓Cj,↓Ye,↓Yg,↓Yh,↓Pk,↓Ai5,↓Ai6,↓Ai3,↓Ai4,↓Jw,↓Z2,↓O9,↓Gy,↓Gx,↓Gw,↓Gz,↓Dg,↓Aey,↓Aid,↓Ah7,↓Aez,↓Aih,↓Ah8,↓Ae0,↓Aii,↓Aie,↓Aeu,↓Ae1,↓Aij,↓Ah9,↓Aiq,↓Aik,↓Aif,↓Aia,↓Air,↓Ail,↓Aib,↓Ais,↓Aim,↓Ait,↓Ain,↓Aiu,↓Aio,↓Aiv,↓Aip,Anl,Ant,R4,Xh,↓X8,↓Pe,↓Pg,↓Pa,↓Ra,↓O7,↓Ge,↓Jo,↓O8,↓Oj,↓Jk,↓Oi,↓Ot,↓Rj,↓L3,Amh,An1,Ama,Aof,Am9,Amr,Anm,List.replicate,Aon,Aoo,Nat.reduceAdd,Nat.reduceSub,Aol,true_and,Cg,C0,Pr,C8,Cy,Pp,G7,Dh,decide_true,decide_false,Gf,D1,An3,Am5,Anv,_root_.id,L3,Yf,Jr,Da,Bi,Bq,Bd,Bl,Am,Ca,Anq,Aod,An5,Mk.pure,Mark.pure,C1,↓Nk,↓Rw,↓Rx,↓Xn,Aiw,↓Gu,↓Gr,↓Gq,↓Gv,Int.reduceEq,Int.reduceLT,Int.reduceLE,Int.reduceAdd,Int.reduceSub,Int.reduceMul,Int.reduceToNat,Int.reducePow,Int.reduceNeg,Int.reduceMod,Int.reduceDiv,Nat.reduceLeDiff,Nat.reduceMul,Nat.reduceEqDiff,Nat.reducePow,Nat.reduceLT,and_true,and_self,true_or,or_true,Al7,Int.le_refl,Amz,↓Gn,↓Gm,↓Gk,↓Gp,Lo,Amd,Aor,D5,P3,J6,Mark.deq,Mk.deq,Int.zero_add,↓P4,↓P5,↓P6,An4,List.any_nil,Amw,Aoq,Bool.false_or,Bool.true_or,Aow,Aot,↓Ji,↓Xz,↓Gd,P0,Hg,Hj,D7,Aok,Aoj,Aoi,Anx,G6,bne_self_eq_false,↓T5,↓Oy,$a,*]))
set_option hygiene false in
local macro_rules|`(tactic| array_get_dec)=>`(tactic| try simp_arith[true_and])
theorem Nq (ns:List Int) (hl:ns.length<=63) (k:Int) (hk:0<=k) (hk2:k < 100000):W (Ha [.kl (ns.map .int),.int k]) fun d=>∃ c,d=.int c:=by
 unfold Ha Abx
 rw[Bp]
 array_get_dec
 refine cK.dec (fun h=>⟨_,rfl⟩) fun h=>?_
 have hm:=Int.emod_nonneg k (b:=(ns.length:Int)) (by lia)
 have hm2:=Int.emod_lt_of_pos k (b:=(ns.length:Int)) (by lia)
 refine⟨by lia,E2 hm (by simpa using hm2) fun d _ hd=>?_⟩
 obtain⟨c,_,rfl⟩:=List.mem_map.mp hd
 array_get_dec
 exact⟨⟨by lia,by lia⟩,_,rfl⟩
def InR (vs sz:List Int):Prop:=vs.length=sz.length/\∀ (i:Nat) (v z:Int),vs[i]?=some v->sz[i]?=some z->0<=v/\v < z
theorem J8 (c:Int) (sz:List Int) (hn:sz.length<=60) (hp:∀ z∈sz,0 < z/\z < 1000):W (Nv [.int c,.lst (sz.map .int)]) fun d=>∃ vs:List Int,d=.lst (vs.map .int)/\InR vs sz:=by
 unfold Nv Ajq
 rw[Bp]
 array_get_dec
 refine⟨⟨by lia,by lia⟩,G2 (fun k e m=>∃ (vs:List Int) (g:Int) (u v:Option D),m=[.lst (vs.map .int)]/\e=[some (.int c),some (.lst (sz.map .int)),some (.ref 0),some (.int g),u,v]/\vs.length=k/\∀ (i:Nat) (v z:Int),vs[i]?=some v->sz[i]?=some z->0<=v/\v < z) ?_ ?_ ⟨[],_,_,_,rfl,rfl,rfl,fun i v z h=>by cases h⟩⟩
 ·rintro k e m hk ⟨vs,g,u,v,rfl,rfl,hv,hr⟩
  refine⟨trivial,?_⟩
  have hk':k < sz.length:=by simpa using hk
  have hz:=hp _ (Ann hk')
  have b1:=Int.emod_nonneg c (b:=1000003) (by decide)
  have b2:=Int.emod_lt_of_pos c (b:=1000003) (by decide)
  have app:∀ (w g':Int) {u v:Option D},0<=w->w < sz[k]->vs.length < 1000000/\∃ (vs_1:List Int) (g:Int) (u_1 v_1:Option D),[MObj.lst (vs.map D.int++[D.int w])]=[MObj.lst (vs_1.map D.int)]/\[some (D.int c),some (D.lst (sz.map D.int)),some (D.ref 0),some (D.int g'),u,v]=[some (D.int c),some (D.lst (sz.map D.int)),some (D.ref 0),some (D.int g),u_1,v_1]/\vs_1.length=k+1/\∀ (i:Nat) (v z:Int),vs_1[i]?=some v->sz[i]?=some z->0<=v/\v < z:=fun w g' u v h1 h2=>by
   refine⟨by lia,vs++[w],g',u,v,by simp,rfl,by simp[hv],fun i x z hx hz=>?_⟩
   by_cases hi:i < vs.length
   ·rw[Amm hi] at hx
    exact hr i x z hx hz
   ·have hi2:=(List.getElem?_eq_some_iff.mp hx).1
    rw[Amn,Am0] at hi2
    have e:i=vs.length:=by lia
    subst e
    rw[Amt (Al7 _)] at hx
    simp at hx
    subst hx
    rw[hv,Amb hk'] at hz
    cases hz
    exact⟨h1,h2⟩
  simp_arith[G0 hk']
  refine⟨.inl ⟨by lia,by lia⟩,.inr ⟨by lia,by lia⟩,cK.dec (fun _=>⟨hz.1,?_⟩) fun _=>⟨hz.1,?_⟩⟩
  ·obtain⟨a1,a2⟩:=app (g % sz[k]) (g / sz[k]) (Int.emod_nonneg _ (by lia)) (Int.emod_lt_of_pos _ hz.1)
   exact⟨a1,⟨hz.1,by lia⟩,a2⟩
  ·obtain⟨a1,a2⟩:=app _ (g / sz[k]) (Int.emod_nonneg _ (by lia)) (Int.emod_lt_of_pos _ hz.1)
   exact⟨a1,⟨hz.1,by lia⟩,a2⟩
 ·rintro e m ⟨vs,g,u,v,rfl,rfl,hv,hr⟩
  refine⟨trivial,?_⟩
  simp_arith[Ak fun _=>Bi]
  exact⟨vs,rfl,by lia,hr⟩
theorem Abi {α:Type}{x y z w v:α}{l:List α}{Q:α->Prop}:W (atI (x::y::z::w::v::l) 4) Q=Q v:=by
 rw[show atI (x::y::z::w::v::l) 4=some v by unfold atI ixN;rw[Amf (by decide),Amf (by simp<;>lia)];rfl,Ac]
theorem Aet {α:Type}{x y z w v u:α}{l:List α}{Q:α->Prop}:W (atI (x::y::z::w::v::u::l) 5) Q=Q u:=by
 rw[show atI (x::y::z::w::v::u::l) 5=some u by unfold atI ixN;rw[Amf (by decide),Amf (by simp<;>lia)];rfl,Ac]
theorem six {vs:List Int} (h:InR vs [3,3,4,4,7,7]):∃ a b c d e f:Int,vs=[a,b,c,d,e,f]/\(0<=d/\d < 4)/\(0<=e/\e < 7)/\(0<=f/\f < 7)/\0<=a/\0<=b/\0<=c:=by
 obtain⟨hl,h⟩:=h
 match vs,hl with
 |[a,b,c,d,e,f],_=>exact⟨a,b,c,d,e,f,rfl,h 3 d 4 rfl rfl,h 4 e 7 rfl rfl,h 5 f 7 rfl rfl,(h 0 a 3 rfl rfl).1,(h 1 b 3 rfl rfl).1,(h 2 c 4 rfl rfl).1⟩
theorem Afw {d:D} (h:d∈[D.int 0,D.int 1,D.int 10,D.str (Str.ofString "a"),D.str (Str.ofString "ab"),D.str (Str.ofString "b"),D.str (Str.ofString "zz")]):∃ m:Mark,d=m.d/\m.pos:=by
 simp only[Amy,Amq,or_false] at h
 rcases h with rfl|rfl|rfl|rfl|rfl|rfl|rfl
 ·exact⟨.n 0,rfl,by simp[Mark.pos]⟩
 ·exact⟨.n 1,rfl,by simp[Mark.pos]⟩
 ·exact⟨.n 10,rfl,by simp[Mark.pos]⟩
 ·exact⟨.s _,rfl,trivial⟩
 ·exact⟨.s _,rfl,trivial⟩
 ·exact⟨.s _,rfl,trivial⟩
 ·exact⟨.s _,rfl,trivial⟩
theorem Pw (vs:List Int) (h:InR vs [3,3,4,4,7,7]):W (Iu [.lst (vs.map .int)]) fun d=>∃ y:Mk,d=y.d/\y.ms.length<=2/\Pos y:=by
 obtain⟨a,b,c,g,e,f,rfl,hg,he,hf,pa,pb,pc⟩:=six h
 unfold Iu Aby
 rw[Bp]
 simp_arith[Abi,Aet]
 refine E2 hg.1 (by simpa using hg.2) fun d _ hd=>?_
 obtain⟨n,rfl⟩:∃ n:Int,d=.int n:=by
  simp only[Amy,Amq,or_false] at hd
  rcases hd with rfl|rfl|rfl|rfl<;>exact⟨_,rfl⟩
 have fin:∀ t:Int,0<=t->W (atI [D.int 0,D.int 1,D.int 10,D.str (Str.ofString "a"),D.str (Str.ofString "ab"),D.str (Str.ofString "b"),D.str (Str.ofString "zz")] e) fun x=>W (atI [D.int 0,D.int 1,D.int 10,D.str (Str.ofString "a"),D.str (Str.ofString "ab"),D.str (Str.ofString "b"),D.str (Str.ofString "zz")] f) fun x_1=>W (Bm [] (D.tup [D.int t,D.int b,D.int c,D.tup (Ck [x,x_1] none (some n))])) fun d=>∃ y:Mk,d=y.d/\y.ms.length<=2/\Pos y:=fun t ht=>by
  refine E2 he.1 (by simpa using he.2) fun d1 _ hd1=>E2 hf.1 (by simpa using hf.2) fun d2 _ hd2=>?_
  obtain⟨m1,rfl,q1⟩:=Afw hd1
  obtain⟨m2,rfl,q2⟩:=Afw hd2
  have ec:Ck [m1.d,m2.d] none (some n)=(Ck [m1,m2] none (some n)).map Mark.d:=G6 (xs:=[m1,m2]) (f:=Mark.d)
  rw[ec]
  array_get_dec
  exact⟨⟨t,b,c,Ck [m1,m2] none (some n)⟩,rfl,Dv (xs:=[m1,m2]),ht,pb,pc,fun m hm=>by
   have:=Eg hm
   simp only[Amy,Amq,or_false] at this
   rcases this with rfl|rfl
   ·exact q1
   ·exact q2⟩
 simp_arith[Abi,Aet]
 exact cK.dec (fun _=>fin _ (by split<;>lia)) fun _=>fin _ (by lia)
theorem Za (x:Mk) (hx:x.ms.length<=1000) {Q:D->Prop}:W (Hb [x.d]) Q=Q x.next.d:=W.eq <| by
 unfold Hb Abz
 rw[Bp]
 unfold Mk.d
 array_get_dec
 refine cK.dec (fun h=>?_) fun h=>⟨by lia,?_⟩
 ·unfold Mk.next;rw[Amf h];rfl
 ·unfold Mk.next;rw[Aml h];simp;rfl
def Aks (p:Pc):Prop:=p.1.ms.length<=1000/\∀ h,p.2=some h->h.ms.length<=1000
def Aes (ps:List Pc):Prop:=ps.Pairwise fun p q=>p.1.older q.1=true/\∃ h,p.2=some h/\h.older q.1=true
structure Sp (ps:List Pc):Prop where
 ok:Aes ps
 sm:∀ p∈ps,Aks p
 len:ps.length<=2
theorem Zd (x:Mk):x.next.ms.length<=x.ms.length+1:=by
 unfold Mk.next;split<;>simp
theorem sp1 {x:Mk} (hx:x.ms.length<=100):Sp [(x,none)]:=⟨Anz ..,fun p hp=>by rw[List.mem_singleton.mp hp];exact⟨by show x.ms.length<=_;lia,fun h e=>nomatch e⟩,by simp⟩
theorem sp2 {x y:Mk} (hx:x.ms.length<=100) (hy:y.ms.length<=200):Sp [(x,some y)]:=⟨Anz ..,fun p hp=>by rw[List.mem_singleton.mp hp];exact⟨by show x.ms.length<=_;lia,fun h e=>by cases e;lia⟩,by simp⟩
theorem Y1 (x:Mk):W (Uo [x.d]) fun d=>∃ y:Mk,d=y.d/\y.ms.length<=1:=by
 unfold Uo Ajr
 rw[Bp]
 array_get_dec
 exact cK.dec (fun _=>⟨⟨x.a+1,0,0,[.n 0]⟩,rfl,by simp⟩) fun _=>cK.dec (fun _=>⟨⟨0,x.b+1,0,[.n 0]⟩,rfl,by simp⟩) fun _=>⟨⟨0,0,x.c+1,[.n 0]⟩,rfl,by simp⟩
theorem Mo (w:Int) (x:Mk) (hx:x.ms.length<=100) (px:Pos x):W (Uj [.int w,x.d]) fun d=>∃ ps:List Pc,d=.tup (ps.map pD)/\Sp ps:=by
 unfold Uj Ajj
 rw[Bp]
 have nl:=Zd x
 simp_arith[Za x (by lia)]
 refine cK.dec (fun _=>⟨[(x,none)],rfl,sp1 hx⟩) fun _=>cK.dec (fun _=>(Y1 x).imp fun d ⟨y,e,hy⟩=>?_) fun _=>cK.dec (fun _=>⟨[(x,some ⟨x.a,x.b+1,0,[.n 0]⟩)],rfl,sp2 hx (by simp)⟩) fun _=>cK.dec (fun _=>⟨[(x,some x.next)],rfl,sp2 hx (by lia)⟩) fun _=>cK.dec (fun _=>⟨[(⟨0,0,0,[.n 0]⟩,none)],rfl,sp1 (by simp)⟩) fun _=>cK.dec (fun _=>?_) fun _=>⟨[(⟨0,0,0,[.n 0]⟩,some x.next)],rfl,sp2 (by simp) (by lia)⟩
 ·subst e
  array_get_dec
  exact⟨[(x,some y)],rfl,sp2 hx (by lia)⟩
 ·have eo:deq x.d (.tup [.int 0,.int 0,.int 0,.tup [.int 0]])=decide (x=old0):=Mk.deq x old0
  refine cK.mk (fun h=>⟨[(⟨0,0,0,[.n 0]⟩,some x),(x.next,none)],rfl,?_⟩) fun _=>⟨[(⟨0,0,0,[.n 0]⟩,some x.next)],rfl,sp2 (by simp) (by lia)⟩
  have hne:x≠old0:=fun z=>by subst z;rw[eo] at h;simp at h
  have ho:old0.older x=true:=by rw[Vj (fun z=>hne z.symm),Mp px.a px.b px.c px.ms];rfl
  refine⟨List.pairwise_cons.mpr ⟨fun q hq=>?_,Anz ..⟩,fun p hp=>?_,by simp⟩
  ·rw[List.mem_singleton.mp hq]
   exact⟨Hi ho (I0 x),x,rfl,I0 x⟩
  ·simp only[Amy,Amq,or_false] at hp
   rcases hp with rfl|rfl
   ·exact⟨by simp,fun h e=>by cases e;lia⟩
   ·exact⟨by show x.next.ms.length<=_;lia,fun h e=>nomatch e⟩
noncomputable def Hw:List Str:=[Str.ofString "a",Str.ofString "ab",Str.ofString "abc",Str.ofString "b",Str.ofString "part",Str.ofString "need",Str.ofString "zz",Str.ofString "abcdefgh"]
theorem Ru (k:Int) (h0:0<=k) (h1:k < 8):W (R7 [.int k]) fun d=>∃ t:Str,d=.str t/\t∈Hw:=by
 unfold R7 Ajs
 rw[Bp]
 array_get_dec
 refine E2 h0 (by simpa using h1) fun d _ hd=>?_
 simp only[Amy,Amq,or_false] at hd
 rcases hd with rfl|rfl|rfl|rfl|rfl|rfl|rfl|rfl<;>array_get_dec<;>exact⟨_,rfl,by simp[Hw]⟩
abbrev Nd:=Str×List Pc
def nD (n:Nd):D:=.tup [.str n.1,.tup (n.2.map pD)]
theorem N1 (n:Nd):Bg (nD n)=true:=by
 unfold nD
 rw[Bd,Am,Am,Bl,Bq,Bd,D7];rfl
theorem Afy (n:Nd):dep (nD n)<=5:=by
 unfold nD
 rw[Cm]
 have:Gh [D.str n.1,.tup (n.2.map pD)]<=4:=Cf fun d hd=>by
  simp only[Amy,Amq,or_false] at hd
  rcases hd with rfl|rfl
  ·rw[Cy];lia
  ·exact Acv n.2
 lia
theorem Ni {vs sz:List Int} (h:InR vs sz) (lo hi:Option Int):InR (Ck vs lo hi) (Ck sz lo hi):=by
 obtain⟨hl,h⟩:=h
 unfold Ck
 rw[hl]
 refine⟨by rw[Am4,Am4,An9,An9,hl],fun i v z hv hz=>?_⟩
 have h1:=(List.getElem?_eq_some_iff.mp hv).1
 rw[Am4] at h1
 rw[List.getElem?_take_of_lt (by lia),List.getElem?_drop] at hv hz
 exact h _ v z hv hz
structure NsOk (ow:Str) (ns:List Nd):Prop where
 nd:(ow::ns.map (·.1)).Nodup
 tt:∀ t∈ns.map (·.1),t∈Hw
theorem NsOk.add {ow:Str}{ns:List Nd} (h:NsOk ow ns) {t:Str}{ps:List Pc} (h1:t∈Hw) (h2:t≠ow) (h3:t∉ns.map (·.1)):NsOk ow (ns++[(t,ps)]) where
 nd:=by
  rw[Anp,<- Am9,List.nodup_append]
  refine⟨h.nd,by simp,fun a ha b hb e=>?_⟩
  rw[show b=t by simpa using hb] at e
  rcases List.mem_cons.mp ha with z|z
  ·exact h2 (e.symm.trans z)
  ·exact h3 (e ▸ z)
 tt:=fun u hu=>by
  rw[Anp] at hu
  rcases List.mem_append.mp hu with z|z
  ·exact h.tt u z
  ·rw[show u=t by simpa using z];exact h1
theorem O6 {x:D} (hx:Bg x=true) (hd:dep x<=50) {z:List D} (hz:Bn z=true) {m:MH}{Q:D->Prop}:W (Dr x (.lst z) m) Q=Q (.bl !(z.any fun d=>deq d x)):=by
 have e1:Cw m x=some x:=Nb hx
 have e2:Cw m (.lst z)=some (.lst z):=by
  unfold Cw
  simp only
  rw[Amf (by rw[B1];exact hz)]
 have e:Dr x (.lst z) m=some (.bl !(z.any fun d=>deq d x)):=by
  unfold Dr inO
  simp only[e1,e2,Anv]
  rw[show sq [] (D.lst z)=some z from rfl]
  simp only[Anv]
  rw[Amf hd]
  rfl
 rw[e,Ac]
theorem X5 {t:Str}{z:List D} (hz:Bn z=true) {m:MH}{Q:D->Prop}:W (Dr (.str t) (.lst z) m) Q=Q (.bl !(z.any fun d=>deq d (.str t))):=O6 Bq (by rw[Cy];lia) hz
abbrev P8:List Int:=[8,7,3,3,4,4,7,7]
theorem Aj8 {n k:Nat} (hn:n<=4) (hk:k < n):(Hn P8 n)[8 * k]?=some 8/\(Hn P8 n)[8 * k+1]?=some 7/\Ck (Hn P8 n) (some ((8 * k+2:Nat):Int)) (some ((8 * k+8:Nat):Int))=[3,3,4,4,7,7]:=by
 have:(n=1/\k=0)\/(n=2/\k=0)\/(n=2/\k=1)\/(n=3/\k=0)\/(n=3/\k=1)\/(n=3/\k=2)\/(n=4/\k=0)\/(n=4/\k=1)\/(n=4/\k=2)\/(n=4/\k=3):=by lia
 rcases this with ⟨rfl,rfl⟩|⟨rfl,rfl⟩|⟨rfl,rfl⟩|⟨rfl,rfl⟩|⟨rfl,rfl⟩|⟨rfl,rfl⟩|⟨rfl,rfl⟩|⟨rfl,rfl⟩|⟨rfl,rfl⟩|⟨rfl,rfl⟩<;>decide
theorem Zc (ow:Str) (vs:List Int) (n:Nat) (hn:n<=4) (h:InR vs (Hn P8 n)):W (Md [.str ow,.lst (vs.map .int)]) fun d=>∃ ns:List Nd,d=.tup (ns.map nD)/\(∀ n∈ns,Sp n.2)/\ns.length<=4/\NsOk ow ns:=by
 have hlen:vs.length=8 * n:=by rw[h.1,Ho];rfl
 unfold Md Abu
 rw[Bp]
 array_get_dec
 refine⟨⟨by lia,by lia⟩,G2 (fun k e m=>∃ (ns:List Nd) (u v:Option D),m=[.lst (ns.map nD)]/\e=[some (.str ow),some (.lst (vs.map .int)),some (.ref 0),u,v]/\ns.length<=k/\(∀ n∈ns,Sp n.2)/\NsOk ow ns) ?_ ?_ ⟨[],_,_,rfl,rfl,Al7 _,(fun _ h=>absurd h (by simp)),by simp,(fun _ h=>absurd h (by simp))⟩⟩
 ·rintro k e m hk ⟨ns,u,v,rfl,rfl,hns,hsp,hno⟩
  refine⟨trivial,?_⟩
  have hk':k < n:=by lia
  obtain⟨p0,p1,p2⟩:=Aj8 hn hk'
  have i0:8 * k < vs.length:=by lia
  have i1:8 * k+1 < vs.length:=by lia
  have b0:=h.2 (8 * k) vs[8 * k] 8 (Amb i0) p0
  have e0:(8:Int) * (k:Int)=((8 * k:Nat):Int):=by lia
  have e1:((8 * k:Nat):Int)+1=((8 * k+1:Nat):Int):=by lia
  have e2:((8 * k:Nat):Int)+2=((8 * k+2:Nat):Int):=by lia
  have e8:((8 * k:Nat):Int)+8=((8 * k+8:Nat):Int):=by lia
  simp_arith[e0,e1,e2,e8,G0 i0,G0 i1]
  refine (Ru _ b0.1 b0.2).imp fun d ⟨t,e,ht⟩=>?_
  subst e
  simp_arith[e0,e1,e2,e8,G0 i0,G0 i1]
  have stay:∃ (ns_1:List Nd) (u v:Option D),[MObj.lst (ns.map nD)]=[MObj.lst (ns_1.map nD)]/\[some (D.str ow),some (D.lst (vs.map D.int)),some (D.ref 0),some (D.int k),some (D.str t)]=[some (D.str ow),some (D.lst (vs.map D.int)),some (D.ref 0),u,v]/\ns_1.length<=k+1/\(∀ n∈ns_1,Sp n.2)/\NsOk ow ns_1:=⟨ns,_,_,rfl,rfl,by lia,hsp,hno⟩
  refine cK.mk (fun hne=>⟨by lia,Bo (fun n=>.str n.1) (fun n hn=>?_) ?_⟩) fun _=>stay
  ·unfold nD
   array_get_dec
  rw[X5 (A3 (Ak fun _=>Bq))]
  array_get_dec
  refine cK.mk (fun hni=>(Pw _ (by rw[<- p2];exact Ni h _ _)).imp fun d ⟨y,e,hy,py⟩=>?_) fun _=>stay
  subst e
  array_get_dec
  refine (Mo _ y (by lia) py).imp fun d ⟨ps,e,hps⟩=>?_
  subst e
  refine⟨by lia,ns++[(t,ps)],_,_,by simp[nD],rfl,by simp;lia,fun n hn=>?_,hno.add ht ?_ ?_⟩
  ·rcases List.mem_append.mp hn with h|h
   ·exact hsp n h
   ·rw[List.mem_singleton.mp h];exact hps
  ·exact fun z=>by rw[Ame z] at hne;cases hne
  ·intro hm
   obtain⟨x,h1,h2⟩:=List.mem_map.mp hm
   have ha:((ns.map fun x=>D.str x.1).any fun d=>deq d (.str t))=true:=List.any_eq_true.mpr ⟨.str x.1,List.mem_map.mpr ⟨x,h1,rfl⟩,by rw[C0];exact Ame h2⟩
   rw[ha] at hni
   cases hni
 ·rintro e m ⟨ns,u,v,rfl,rfl,hns,hsp,hno⟩
  refine⟨trivial,?_⟩
  simp_arith[Ak N1]
  exact⟨ns,rfl,hsp,by lia,hno⟩
structure En where
 nm:Str
 mv:Mk
 nd:List Nd
structure EnOk (e:En):Prop where
 nm:e.nm∈Hw
 ms:e.mv.ms.length<=2
 pos:Pos e.mv
 sp:∀ n∈e.nd,Sp n.2
 len:e.nd.length<=4
 ns:NsOk e.nm e.nd
def kD (e:En):D:=.tup [.str e.nm,e.mv.d]
def eD (e:En):D:=.tup [.str e.nm,e.mv.d,.tup (e.nd.map nD)]
theorem Ny (e:En):Bg (kD e)=true:=by
 unfold kD
 rw[Bd,Am,Am,Bl,Bq,e.mv.pure];rfl
theorem Bs (e:En):Bg (eD e)=true:=by
 unfold eD
 rw[Bd,Am,Am,Am,Bl,Bq,e.mv.pure,Bd,Ak N1];rfl
theorem Uy (e:En):dep (kD e)<=3:=by
 unfold kD
 rw[Cm]
 have:Gh [D.str e.nm,e.mv.d]<=2:=Cf fun d hd=>by
  simp only[Amy,Amq,or_false] at hd
  rcases hd with rfl|rfl
  ·rw[Cy];lia
  ·exact e.mv.dep
 lia
theorem Aaq (a b:En):deq (kD a) (kD b)=decide (a.nm=b.nm/\a.mv=b.mv):=by
 unfold kD
 rw[Cz,Cz,J7,C0,Mk.deq]
 by_cases h1:a.nm=b.nm<;>by_cases h2:a.mv=b.mv<;>simp[h1,h2]
theorem Aln {α:Type}{x y z:α}:Ck [x,y,z] none (some 2)=[x,y]:=rfl
abbrev Z32:List Int:=[8,3,3,4,4,7,7,4]++Hn P8 3
theorem Xf {m:Int} (h0:0<=m) (h1:m < 4):Ck Z32 (some 8) (some (8+8 * m))=Hn P8 m.toNat:=by
 have:m=0\/m=1\/m=2\/m=3:=by lia
 rcases this with rfl|rfl|rfl|rfl<;>decide
theorem Yt (c:Int):W (Me [.int c]) fun d=>∃ e:En,d=eD e/\EnOk e:=by
 unfold Me Abv
 rw[Bp]
 array_get_dec
 refine⟨by decide,by decide,?_⟩
 refine (J8 c Z32 (by decide) (by decide)).imp fun d ⟨vs,e,hv⟩=>?_
 subst e
 have hlen:vs.length=32:=hv.1
 have i0:0 < vs.length:=by lia
 have i7:7 < vs.length:=by lia
 have b0:=hv.2 0 vs[0] 8 (Amb i0) rfl
 have b7:=hv.2 7 vs[7] 4 (Amb i7) rfl
 have c0:(0:Int)=((0:Nat):Int):=rfl
 have w0:∀ {Q:D->Prop},W (atI (vs.map D.int) 0) Q=Q (.int vs[0]):=G0 (k:=0) i0
 have w7:∀ {Q:D->Prop},W (atI (vs.map D.int) 7) Q=Q (.int vs[7]):=G0 (k:=7) i7
 simp_arith[w0,w7,Ak fun _=>Bi]
 refine (Ru _ b0.1 b0.2).imp fun d ⟨t,e,ht⟩=>?_
 subst e
 refine (Pw _ (by have:=Ni hv (some 1) (some 7);rwa [show Ck Z32 (some 1) (some 7)=[3,3,4,4,7,7] by decide] at this)).imp fun d ⟨y,e,hy,py⟩=>?_
 subst e
 array_get_dec
 refine (Zc t _ vs[7].toNat (by lia) (by rw[<- Xf b7.1 b7.2];exact Ni hv _ _)).imp fun d ⟨ns,e,hsp,hln,hno⟩=>?_
 subst e
 simp_arith[Ak N1]
 exact⟨⟨t,y,ns⟩,rfl,ht,hy,py,hsp,hln,hno⟩
def Dst (a b:En):Prop:=¬ (a.nm=b.nm/\a.mv=b.mv)
structure Sh (es:List En):Prop where
 ok:∀ e∈es,EnOk e
 len:es.length<=40
 dst:es.Pairwise Dst
theorem Yr {e:En}{Q:D->Prop}:W (oSl (eD e) none (some 2)) Q=Q (kD e):=by
 unfold eD kD
 rw[L1,Aln]
theorem Je (ns:List Int) (hl:ns.length<=63) (f:Int) (hf:0<=f) (hf2:f < 1000) (n:Int) (h0:0<=n) (h1:n<=40) (vd:Option D):W (Ep [some (.kl (ns.map .int)),some (.int f),vd,some (.int n),none,none,none] []) (Aiy fun d=>∃ es:List En,d=.tup (es.map eD)/\Sh es):=by
 unfold Ep
 array_get_dec
 refine⟨⟨by lia,by lia⟩,G2 (fun k e m=>∃ (es:List En) (u v:Option D),m=[.lst (es.map eD)]/\e=[some (.kl (ns.map .int)),some (.int f),vd,some (.int n),some (.ref 0),u,v]/\(∀ e∈es,EnOk e)/\es.length<=k/\es.Pairwise Dst) ?_ ?_ ⟨[],_,_,rfl,rfl,(fun _ h=>nomatch h),Al7 _,.nil⟩⟩
 ·rintro k e m hk ⟨es,u,v,rfl,rfl,h1,h2,h3⟩
  refine⟨trivial,?_⟩
  array_get_dec
  refine (Nq ns hl _ (by lia) (by lia)).imp fun d ⟨c2,e⟩=>?_
  subst e
  array_get_dec
  refine (Yt c2).imp fun d ⟨en,e,hen⟩=>?_
  subst e
  simp_arith[Yr]
  refine⟨by lia,Bo kD (fun e he=>?_) ?_⟩
  ·simp_arith[Yr]
  rw[O6 (Ny en) (by have:=Uy en;lia) (A3 (Ak Ny))]
  array_get_dec
  refine cK.mk (fun h=>⟨by lia,es++[en],_,_,by simp,rfl,fun e he=>?_,by simp;lia,?_⟩) fun _=>⟨es,_,_,rfl,rfl,h1,by lia,h3⟩
  ·rcases List.mem_append.mp he with h'|h'
   ·exact h1 e h'
   ·rw[List.mem_singleton.mp h'];exact hen
  ·refine List.pairwise_append.mpr ⟨h3,Anz ..,fun a ha b hb=>?_⟩
   rw[List.mem_singleton.mp hb]
   intro hab
   have h':((es.map kD).any fun d=>deq d (kD en))=false:=by simpa using h
   have:=List.any_eq_false.mp h' (kD a) (List.mem_map.mpr ⟨a,ha,rfl⟩)
   rw[Aaq,Ame hab] at this
   exact this rfl
 ·rintro e m ⟨es,u,v,rfl,rfl,h1,h2,h3⟩
  refine⟨trivial,?_⟩
  simp_arith[Ak Bs]
  exact⟨es,rfl,h1,by lia,h3⟩
theorem Z8 (ns:List Int) (hl:ns.length<=63) (f:Int) (hf:0<=f) (hf2:f < 1000):W (Mf [.kl (ns.map .int),.int f]) fun d=>∃ es:List En,d=.tup (es.map eD)/\Sh es:=by
 unfold Mf Abw
 rw[Bp]
 array_get_dec
 refine (Nq ns hl 0 (by decide) (by decide)).imp fun d ⟨c,e⟩=>?_
 subst e
 array_get_dec
 refine⟨by simp[Bn,B1],(J8 c [16,10] (by decide) (by decide)).imp fun d ⟨vs,e,hv⟩=>?_⟩
 subst e
 have hlen:vs.length=2:=hv.1
 have i0:0 < vs.length:=by lia
 have i1:1 < vs.length:=by lia
 have b1:=hv.2 1 vs[1] 10 (Amb i1) rfl
 have w0:∀ {Q:D->Prop},W (atI (vs.map D.int) 0) Q=Q (.int vs[0]):=G0 (k:=0) i0
 have w1:∀ {Q:D->Prop},W (atI (vs.map D.int) 1) Q=Q (.int vs[1]):=G0 (k:=1) i1
 simp_arith[w0,w1,Ak fun _=>Bi]
 exact cK.dec (fun _=>Je ns hl f hf hf2 40 (by decide) (by decide) _) fun _=>Je ns hl f hf hf2 vs[1] (by lia) (by lia) _
end K36a
end S_VA
section S_VB
namespace K36a
open PySem L2 L2.ML
set_option hygiene false in
local macro_rules|`(tactic| simp_arith[$a,*])=>`(tactic| ((try dsimp only[mp1,mp2,mp3,ln1,ln2,ln3,List.replicate,Nat.reduceAdd,Nat.reduceSub]);simp only[↓Yk,↓Yj,↓Ya,↓Yb,↓Yc,↓Yd,↓Xo,↓Xp,↓La,↓J9,↓Bp,↓Lr,↓Ls,↓Lp,↓Lq,↓Im,↓Pb,↓Pd,↓Jp,↓R4,↓Xh,↓X7,↓Aew,↓Aev,↓Il,↓Ee,↓Ed,↓Ga,↓Oq,↓Ox,↓Gc,↓G1,↓Xl,↓Ov,↓Pj,↓Om,↓Xs,↓Os,↓Jl,↓Xq,↓Gb,↓Xt,↓Xr,↓Jn,↓Xm,↓L1,↓Ou,↓Z9,↓Ro,↓On,↓Oo,↓Ik,↓Jm,↓Ce,↓B4,↓Oe,↓Of,↓Og,↓Ph,↓O5,↓Ol,↓O4,↓X4,↓X3,↓Xw,↓Aic,↓Aig,↓X2,↓G3,↓X1,↓X0,↓O2,↓O3,↓O0,↓Oz,↓O1,↓Xk,↓Pf,↓Xy,↓Xx,↓Du,↓Cc,↓Cb,↓Jq,↓Js,↓Jv,↓Ju,↓Jt,↓X9,↓Cj,↓Ye,↓Yg,↓Yh,↓Pk,↓Ai5,↓Ai6,↓Ai3,↓Ai4,↓Jw,↓Z2,↓O9,↓Gy,↓Gx,↓Gw,↓Gz,↓Dg,↓Aey,↓Aid,↓Ah7,↓Aez,↓Aih,↓Ah8,↓Ae0,↓Aii,↓Aie,↓Aeu,↓Ae1,↓Aij,↓Ah9,↓Aiq,↓Aik,↓Aif,↓Aia,↓Air,↓Ail,↓Aib,↓Ais,↓Aim,↓Ait,↓Ain,↓Aiu,↓Aio,↓Aiv,↓Aip,Anl,Ant,R4,Xh,↓X8,↓Pe,↓Pg,↓Pa,↓Ra,↓O7,↓Ge,↓Jo,↓O8,↓Oj,↓Jk,↓Oi,↓Ot,↓Rj,↓L3,Amh,An1,Ama,Aof,Am9,Amr,Anm,List.replicate,Aon,Aoo,Nat.reduceAdd,Nat.reduceSub,Aol,true_and,Cg,C0,Pr,C8,Cy,Pp,G7,Dh,decide_true,decide_false,Gf,D1,An3,Am5,Anv,_root_.id,L3,Yf,Jr,Da,Bi,Bq,Bd,Bl,Am,Ca,Anq,Aod,An5,Mk.pure,Mark.pure,C1,↓Nk,↓Rw,↓Rx,↓Xn,Aiw,↓Gu,↓Gr,↓Gq,↓Gv,Int.reduceEq,Int.reduceLT,Int.reduceLE,Int.reduceAdd,Int.reduceSub,Int.reduceMul,Int.reduceToNat,Int.reducePow,Int.reduceNeg,Int.reduceMod,Int.reduceDiv,Nat.reduceLeDiff,Nat.reduceMul,Nat.reduceEqDiff,Nat.reducePow,Nat.reduceLT,and_true,and_self,true_or,or_true,Al7,Int.le_refl,Amz,↓Gn,↓Gm,↓Gk,↓Gp,Lo,Amd,Aor,D5,P3,J6,Mark.deq,Mk.deq,Int.zero_add,↓P4,↓P5,↓P6,An4,List.any_nil,Amw,Aoq,Bool.false_or,Bool.true_or,Aow,Aot,↓Ji,↓Xz,↓Gd,P0,Hg,Hj,D7,Aok,Aoj,Aoi,Anx,G6,bne_self_eq_false,↓T5,↓Oy,↓T3,$a,*]))
set_option hygiene false in
local macro_rules|`(tactic| array_get_dec)=>`(tactic| try simp_arith[true_and])
theorem L0 {α:Type}{g:FG}{t:FB}{fe:FE}{m:MH}{env:A2}{h:α->D} (p:α->Bool) (F:α->D):∀ {xs:List α}{Q:List D->Prop},(∀ x∈xs,W (g (h x) env) fun e1=>W (t e1 m) fun ok=>ok=p x/\(ok=true->W (fe e1 m) fun y=>y=F x))->Q ((xs.filter p).map F)->W (D2 g t fe m env (xs.map h)) Q
 |[],Q,_,q=>by rw[Anm,Ce];exact q
 |x::xs,Q,k,q=>by
  rw[Amr,B4]
  refine (k x (Al6 ..)).imp fun e1 h1=>h1.imp fun ok h2=>?_
  obtain⟨h2,h3⟩:=h2
  have ih:=fun {Q:List D->Prop}=>L0 (g:=g) (t:=t) (fe:=fe) (m:=m) (env:=env) (h:=h) p F (xs:=xs) (Q:=Q) fun e he=>k e (Al4 _ he)
  constructor
  ·intro hk
   refine (h3 hk).imp fun y hy=>?_
   subst hy
   refine ih ?_
   rw[List.filter_cons,Amf (h2 ▸ hk),Amr] at q
   exact q
  ·intro hk
   refine ih ?_
   rw[List.filter_cons,Aml (by rw[<- h2,hk];decide)] at q
   exact q
theorem Afg {e:En}{m:MH}{Q:D->Prop}:W (oIx (eD e) (.int 0) m) Q=Q (.str e.nm):=by unfold eD;rw[G3,Nk]
theorem Afh {e:En}{m:MH}{Q:D->Prop}:W (oIx (eD e) (.int 2) m) Q=Q (.tup (e.nd.map nD)):=by unfold eD;rw[G3,Rx]
abbrev Afv:List Nat:=(Str.ofString "abcdefghijklmnopqrstuvwxyz").cps.toList
noncomputable def By (t:Str):Bool:=decide (1<=t.length)&&decide (t.length<=8)&&t.cps.toList.all fun c=>decide (c∈Afv)
theorem Ve (t:Str) (ht:t.length<=5000) {Q:D->Prop}:W (Ul [.str t]) Q=Q (.bl (By t)):=W.eq <| by
 unfold Ul Ajo
 rw[Bp]
 array_get_dec
 refine⟨by lia,cK.dec (fun h1=>cK.dec (fun h2=>⟨by unfold Ds;rw[Ama,<- Pv];lia,?_⟩) fun h2=>?_) fun h1=>?_⟩
 ·refine Bo (fun c=>.bl (decide (c∈Afv))) (fun c _=>?_) ?_
  ·simp_arith[Aap]
  ·rw[Nl,all_map]
   unfold By
   rw[Ame (show 1<=t.length by lia),Ame (show t.length<=8 by lia)]
   rfl
 ·unfold By
  rw[Amg (show ¬ t.length<=8 by lia)]
  simp
 ·unfold By
  rw[Amg (show ¬ 1<=t.length by lia)]
  simp
theorem X6 {c:Nat}{z:Str}{m:MH}{Q:D->Prop}:W (Dr (.str ⟨#[c]⟩) (.str z) m) Q=Q (.bl !decide (c∈z.cps.toList)):=by
 have e:Dr (.str ⟨#[c]⟩) (.str z) m=some (.bl !decide (c∈z.cps.toList)):=by rw[<- Aap];rfl
 rw[e,Ac]
theorem Rt (t:Str) (ht:t.length<=5000) {Q:D->Prop}:W (R6 [.str t]) Q=Q (.bl (By t)):=W.eq <| by
 unfold R6 Ajk
 rw[Bp]
 array_get_dec
 refine⟨by lia,cK.dec (fun h1=>cK.dec (fun h2=>⟨by unfold Ds;rw[Ama,<- Pv];lia,?_⟩) fun h2=>?_) fun h1=>?_⟩
 ·unfold Ds
  refine L0 (fun c=>!decide (c∈Afv)) (fun c=>.str ⟨#[c]⟩) (fun c _=>?_) ?_
  ·simp_arith[X6]
   exact fun _=>trivial
  ·array_get_dec
   congr 1
   unfold By
   rw[Ame (show 1<=t.length by lia),Ame (show t.length<=8 by lia),Aog,Anc]
   have e1:((t.cps.toList.filter fun c=>!decide (c∈Afv)).length:Int)=0 ↔ (t.cps.toList.filter fun c=>!decide (c∈Afv))=[]:=by
    rw[<- List.length_eq_zero_iff];lia
   rw[e1,List.filter_eq_nil_iff,Anq,An5,List.all_eq_true]
   exact⟨fun h c hc=>Am2 fun z=>h c hc (by rw[Bool.not_eq_true] at z;rw[z];rfl),fun h c hc z=>by rw[h c hc] at z;cases z⟩
 ·unfold By
  rw[Amg (show ¬ t.length<=8 by lia)]
  simp
 ·unfold By
  rw[Amg (show ¬ 1<=t.length by lia)]
  simp
noncomputable def Hf {α:Type} [DecidableEq α] (xs:List α) (x:α):List α:=if x∈xs then xs else xs++[x]
def Aem {α:Type} [DecidableEq α] (l:List α):List α:=l.foldl Hf []
theorem N0 {α:Type} [DecidableEq α]:∀ (l xs:List α),xs.Nodup->(l.foldl Hf xs).length<=xs.length+l.length/\((l.foldl Hf xs).length=xs.length+l.length ↔ (xs++l).Nodup)
 |[],xs,h=>by simp[h]
 |y::l,xs,h=>by
  rw[List.foldl_cons,Amh]
  by_cases z:y∈xs
  ·have e:Hf xs y=xs:=by unfold Hf;rw[Amf z]
   rw[e]
   obtain⟨h1,_⟩:=N0 l xs h
   refine⟨by lia,⟨fun q=>by lia,fun q=>?_⟩⟩
   rw[List.nodup_append] at q
   exact absurd rfl (q.2.2 y z y (Al6 ..))
  ·have e:Hf xs y=xs++[y]:=by unfold Hf;rw[Aml z]
   have hn:(xs++[y]).Nodup:=by
    rw[List.nodup_append]
    exact⟨h,by simp,fun a ha b hb e=>z (by rw[List.mem_singleton.mp hb] at e;rw[<- e];exact ha)⟩
   obtain⟨h1,h2⟩:=N0 l (xs++[y]) hn
   rw[e]
   rw[Amn,Am0] at h1 h2
   rw[List.append_assoc] at h2
   refine⟨by lia,?_⟩
   rw[show xs.length+(l.length+1)=xs.length+1+l.length by lia]
   exact h2
theorem U7 {α:Type} [DecidableEq α] (l:List α):(Aem l).length=l.length ↔ l.Nodup:=by
 have:=(N0 l [] List.nodup_nil).2
 simpa [Aem] using this
theorem P2 {α:Type} [DecidableEq α] {f:α->D} (hf:∀ a b,deq (f a) (f b)=decide (a=b)):∀ (l xs:List α),(l.map f).foldl El (xs.map f)=(l.foldl Hf xs).map f
 |[],_=>rfl
 |y::l,xs=>by
  rw[Amr,List.foldl_cons,List.foldl_cons]
  have ha:((xs.map f).any fun d=>deq d (f y))=decide (y∈xs):=by
   rw[Aog,List.any_eq_true,Anc]
   constructor
   ·rintro ⟨d,hd,h⟩
    obtain⟨a,ha,rfl⟩:=List.mem_map.mp hd
    rw[hf] at h
    rw[<- Am6 h];exact ha
   ·exact fun h=>⟨f y,List.mem_map.mpr ⟨y,h,rfl⟩,by rw[hf];simp⟩
  have e:El (xs.map f) (f y)=(Hf xs y).map f:=by
   unfold El Hf
   rw[ha]
   by_cases z:y∈xs
   ·rw[Amf (Ame z),Amf z]
   ·rw[Aml (by simp[z]),Aml z,Anp];rfl
  rw[e]
  exact P2 hf l (Hf xs y)
theorem Tq (ts:List Str):Hv (ts.map .str)=some ts:=by
 induction ts with
 |nil=>rfl
 |cons t ts ih=>rw[Amr,Hv,ih];rfl
theorem Nm {ts:List Str}{m:MH}{Q:D->Prop}:W (Td [.lst (ts.map .str)] m) Q=(ts.length < 64/\Q (.int ((Aem ts).length:Nat))):=by
 have e:Td [.lst (ts.map .str)] m=if ts.length < 64 then some (.int ((Aem ts).length:Nat)) else none:=by
  show ((Hv (ts.map .str)).bind _)=_
  rw[Tq];rfl
 rw[e];exact H9
theorem T2 {ds:List D}{m:MH}{Q:D->Prop}:W (Ze [.lst ds] m) Q=((ds.all shT=true/\ds.length<=76)/\Q (.int ((Aar ds).length:Nat))):=H9
end K36a
end S_VB
section S_VC
namespace K36a
open PySem L2 L2.ML
set_option hygiene false in
local macro_rules|`(tactic| simp_arith[$a,*])=>`(tactic| ((try dsimp only[mp1,mp2,mp3,ln1,ln2,ln3,List.replicate,Nat.reduceAdd,Nat.reduceSub]);simp only[↓Yk,↓Yj,↓Ya,↓Yb,↓Yc,↓Yd,↓Xo,↓Xp,↓La,↓J9,↓Bp,↓Lr,↓Ls,↓Lp,↓Lq,↓Im,↓Pb,↓Pd,↓Jp,↓R4,↓Xh,↓X7,↓Aew,↓Aev,↓Il,↓Ee,↓Ed,↓Ga,↓Oq,↓Ox,↓Gc,↓G1,↓Xl,↓Ov,↓Pj,↓Om,↓Xs,↓Os,↓Jl,↓Xq,↓Gb,↓Xt,↓Xr,↓Jn,↓Xm,↓L1,↓Ou,↓Z9,↓Ro,↓On,↓Oo,↓Ik,↓Jm,↓Ce,↓B4,↓Oe,↓Of,↓Og,↓Ph,↓O5,↓Ol,↓O4,↓X4,↓X3,↓Xw,↓Aic,↓Aig,↓X2,↓G3,↓X1,↓X0,↓O2,↓O3,↓O0,↓Oz,↓O1,↓Xk,↓Pf,↓Xy,↓Xx,↓Du,↓Cc,↓Cb,↓Jq,↓Js,↓Jv,↓Ju,↓Jt,↓X9,↓Cj,↓Ye,↓Yg,↓Yh,↓Pk,↓Ai5,↓Ai6,↓Ai3,↓Ai4,↓Jw,↓Z2,↓O9,↓Gy,↓Gx,↓Gw,↓Gz,↓Dg,↓Aey,↓Aid,↓Ah7,↓Aez,↓Aih,↓Ah8,↓Ae0,↓Aii,↓Aie,↓Aeu,↓Ae1,↓Aij,↓Ah9,↓Aiq,↓Aik,↓Aif,↓Aia,↓Air,↓Ail,↓Aib,↓Ais,↓Aim,↓Ait,↓Ain,↓Aiu,↓Aio,↓Aiv,↓Aip,Anl,Ant,R4,Xh,↓X8,↓Pe,↓Pg,↓Pa,↓Ra,↓O7,↓Ge,↓Jo,↓O8,↓Oj,↓Jk,↓Oi,↓Ot,↓Rj,↓L3,Amh,An1,Ama,Aof,Am9,Amr,Anm,List.replicate,Aon,Aoo,Nat.reduceAdd,Nat.reduceSub,Aol,true_and,Cg,C0,Pr,C8,Cy,Pp,G7,Dh,decide_true,decide_false,Gf,D1,An3,Am5,Anv,_root_.id,L3,Yf,Jr,Da,Bi,Bq,Bd,Bl,Am,Ca,Anq,Aod,An5,Mk.pure,Mark.pure,C1,↓Nk,↓Rw,↓Rx,↓Xn,Aiw,↓Gu,↓Gr,↓Gq,↓Gv,Int.reduceEq,Int.reduceLT,Int.reduceLE,Int.reduceAdd,Int.reduceSub,Int.reduceMul,Int.reduceToNat,Int.reducePow,Int.reduceNeg,Int.reduceMod,Int.reduceDiv,Nat.reduceLeDiff,Nat.reduceMul,Nat.reduceEqDiff,Nat.reducePow,Nat.reduceLT,and_true,and_self,true_or,or_true,Al7,Int.le_refl,Amz,↓Gn,↓Gm,↓Gk,↓Gp,Lo,Amd,Aor,D5,P3,J6,Mark.deq,Mk.deq,Int.zero_add,↓P4,↓P5,↓P6,An4,List.any_nil,Amw,Aoq,Bool.false_or,Bool.true_or,Aow,Aot,↓Ji,↓Xz,↓Gd,P0,Hg,Hj,D7,Aok,Aoj,Aoi,Anx,G6,bne_self_eq_false,↓T5,↓Oy,↓T3,↓Nm,↓T2,$a,*]))
set_option hygiene false in
local macro_rules|`(tactic| array_get_dec)=>`(tactic| try simp_arith[true_and])
noncomputable def nms (l:List Nd):List Str:=l.map (·.1)
theorem Vd {n:Nd}{m:MH}{Q:D->Prop}:W (oIx (nD n) (.int 0) m) Q=Q (.str n.1):=by unfold nD;rw[G3,Nk]
theorem Aas {n:Nd}{m:MH}{Q:D->Prop}:W (oIx (nD n) (.int 1) m) Q=Q (.tup (n.2.map pD)):=by unfold nD;rw[G3,Rw]
theorem Abj {t:Str}{ts:List Str}{m:MH}{Q:D->Prop}:W (Td [.lst (.str t::ts.map .str)] m) Q=((t::ts).length < 64/\Q (.int ((Aem (t::ts)).length:Nat))):=Nm (ts:=t::ts)
def enB (e:En):Bool:=decide (e.nd.length<=40)&&decide ((e.nm::nms e.nd).Nodup)&&(e.nm::nms e.nd).all By
structure Wk (e:En):Prop where
 few:e.nd.length<=200
 sh:∀ t∈e.nm::nms e.nd,t.length<=5000
theorem Ys (e:En) (h:Wk e) {Q:D->Prop}:W (Uk [eD e]) Q=Q (.bl (enB e)):=W.eq <| by
 unfold Uk Ajl
 rw[Bp]
 have hf:=h.few
 have hln:(nms e.nd).length=e.nd.length:=Ama ..
 simp_arith[Afg,Afh]
 refine⟨by lia,Bo (fun n=>.str n.1) (fun n hn=>?_) ?_⟩
 ·simp_arith[Vd]
 have e0:(e.nd.map fun n=>D.str n.1)=(nms e.nd).map .str:=by unfold nms;rw[List.map_map];rfl
 have hnd:=U7 (e.nm::nms e.nd)
 rw[Amh,hln] at hnd
 simp_arith[e0,Abj,Cg]
 refine⟨by lia,cK.dec (fun h1=>?_) fun h1=>⟨by lia,?_⟩⟩
 ·unfold enB
  rw[Amg (show ¬ e.nd.length<=40 by lia)];rfl
 ·refine cK.mk (fun h2=>?_) fun h2=>?_
  ·have h3:¬ (e.nm::nms e.nd).Nodup:=fun z=>by
    have:=hnd.mpr z
    simp at h2
    lia
   unfold enB
   rw[Amg h3,Bool.and_false];rfl
  ·have h3:(e.nm::nms e.nd).Nodup:=hnd.mp (by simp at h2;lia)
   rw[Ve e.nm (h.sh _ (Al6 ..))]
   refine⟨by lia,?_⟩
   refine Bo (fun t=>.bl (By t)) (fun t ht=>?_) ?_
   ·simp_arith[Ve t (h.sh t (Al4 _ ht))]
   ·show W (J1 ((e.nm::nms e.nd).map fun t=>D.bl (By t))) _
    rw[Nl,all_map]
    unfold enB
    rw[Ame (show e.nd.length<=40 by lia),Ame h3]
    rfl
noncomputable def key (e:En):Str×Mk:=(e.nm,e.mv)
def shB (es:List En):Bool:=decide (es.length<=40)&&decide ((es.map key).Nodup)&&es.all enB
def kP (b:Str×Mk):D:=.tup [.str b.1,b.2.d]
theorem Uz (a b:Str×Mk):deq (kP a) (kP b)=decide (a=b):=by
 have:=Aaq ⟨a.1,a.2,[]⟩ ⟨b.1,b.2,[]⟩
 refine this.trans ?_
 rw[decide_eq_decide]
 exact⟨fun h=>Prod.ext h.1 h.2,fun h=>by rw[h];exact⟨rfl,rfl⟩⟩
theorem Ajv (b:Str×Mk):shT (kP b)=true:=by
 show ([D.str b.1,b.2.d].all (shN 5))=true
 rw[Amw,Amw,Aoq,Aod]
 show ([D.int b.2.a,.int b.2.b,.int b.2.c,.tup (b.2.ms.map Mark.d)].all (shN 4))=true
 have h:((b.2.ms.map Mark.d).all (shN 3))=true:=List.all_eq_true.mpr fun d hd=>by
  obtain⟨m,_,rfl⟩:=List.mem_map.mp hd
  cases m<;>rfl
 rw[Amw,Amw,Amw,Amw,Aoq,Aod]
 exact h
theorem Rn (es:List En) (h:∀ e∈es,Wk e) (hl:es.length<=1000) {Q:D->Prop}:W (Mh [.tup (es.map eD)]) Q=Q (.bl (shB es)):=W.eq <| by
 unfold Mh Ajm
 rw[Bp]
 array_get_dec
 refine⟨by lia,Bo kD (fun e he=>?_) ?_⟩
 ·simp_arith[Yr]
 have e0:es.map kD=(es.map key).map kP:=by rw[List.map_map];rfl
 have hm:Aar ((es.map key).map kP)=(Aem (es.map key)).map kP:=P2 Uz (es.map key) []
 have hln:(es.map key).length=es.length:=Ama ..
 have hnd:=U7 (es.map key)
 rw[hln] at hnd
 rw[e0]
 simp_arith[hm,Cg]
 refine cK.dec (fun h1=>?_) fun h1=>⟨⟨List.all_eq_true.mpr fun d hd=>?_,by lia⟩,cK.mk (fun h2=>?_) fun h2=>⟨by lia,Bo (fun e=>.bl (enB e)) (fun e he=>?_) ?_⟩⟩
 ·unfold shB
  rw[Amg (show ¬ es.length<=40 by lia)];rfl
 ·obtain⟨b,_,rfl⟩:=List.mem_map.mp hd
  exact Ajv b
 ·have h3:¬ (es.map key).Nodup:=fun z=>by
   have:=hnd.mpr z
   simp at h2
   lia
  unfold shB
  rw[Amg h3,Bool.and_false];rfl
 ·simp_arith[Bs,Ys e (h e he)]
 ·have h3:(es.map key).Nodup:=hnd.mp (by simp at h2;lia)
  rw[Nl,all_map]
  unfold shB
  rw[Ame (show es.length<=40 by lia),Ame h3]
  rfl
theorem Ajw {es:List En}{e:En}:((es.map kD).any fun d=>deq d (.tup [.str e.nm,e.mv.d]))=decide (key e∈es.map key):=by
 rw[Aog,List.any_eq_true,Anc]
 constructor
 ·rintro ⟨d,hd,h⟩
  obtain⟨b,hb,rfl⟩:=List.mem_map.mp hd
  have h:deq (kP (key b)) (kP (key e))=true:=h
  rw[Uz] at h
  rw[<- Am6 h];exact List.mem_map.mpr ⟨b,hb,rfl⟩
 ·intro h
  obtain⟨b,hb,hk⟩:=List.mem_map.mp h
  refine⟨kD b,List.mem_map.mpr ⟨b,hb,rfl⟩,?_⟩
  show deq (kP (key b)) (kP (key e))=true
  rw[Uz,hk];simp
theorem Akt {ts:List Str}{t:Str}:((ts.map D.str).any fun d=>deq d (.str t))=decide (t∈ts):=by
 rw[Aog,List.any_eq_true,Anc]
 constructor
 ·rintro ⟨d,hd,h⟩
  obtain⟨u,hu,rfl⟩:=List.mem_map.mp hd
  rw[C0] at h
  rw[<- Am6 h];exact hu
 ·exact fun h=>⟨.str t,List.mem_map.mpr ⟨t,h,rfl⟩,by rw[C0];simp⟩
theorem Abl {es:List En} (h:40 < es.length):shB es=false:=by
 unfold shB
 rw[Amg (show ¬ es.length<=40 by lia)];rfl
theorem Pm {es:List En}{e:En} (he:e∈es) (h:enB e=false):shB es=false:=by
 unfold shB
 have:es.all enB=false:=by
  rw[Bool.eq_false_iff]
  intro z
  rw[List.all_eq_true.mp z e he] at h
  cases h
 rw[this,Bool.and_false]
theorem Abk {es:List En} (h:¬ (es.map key).Nodup):shB es=false:=by
 unfold shB
 rw[Amg h,Bool.and_false];rfl
theorem Pn {e:En}{t:Str} (ht:t∈e.nm::nms e.nd) (h:By t=false):enB e=false:=by
 unfold enB
 have:(e.nm::nms e.nd).all By=false:=by
  rw[Bool.eq_false_iff]
  intro z
  rw[List.all_eq_true.mp z t ht] at h
  cases h
 rw[this,Bool.and_false]
theorem Ae3 {e:En} (h:¬ (e.nm::nms e.nd).Nodup):enB e=false:=by
 unfold enB
 rw[Amg h,Bool.and_false];rfl
theorem Hu {α:Type}{l:List α}{k:Nat} (hk:k < l.length) (h:l[k]∈l.take k):¬ l.Nodup:=fun z=>by
 have:(l.take (k+1)).Nodup:=(List.take_sublist _ _).nodup z
 rw[List.take_add_one,Amb hk,List.nodup_append] at this
 exact this.2.2 _ h _ (by simp) rfl
theorem Xb {α:Type}{l:List α}{k:Nat} (hk:k < l.length) (h:(l.take k).Nodup) (hn:l[k]∉l.take k):(l.take (k+1)).Nodup:=by
 rw[List.take_add_one,Amb hk,List.nodup_append]
 exact⟨h,by simp,fun a ha b hb e=>hn (by rw[show b=l[k] by simpa using hb] at e;rw[<- e];exact ha)⟩
theorem Afd (es:List En) (h:∀ e∈es,Wk e) (hl:es.length<=1000) {Q:D->Prop}:W (Mg [.lst (es.map eD)]) Q=Q (.bl (shB es)):=W.eq <| by
 unfold Mg Ab1
 rw[Bp]
 array_get_dec
 refine⟨⟨by lia,by lia⟩,G2 (fun k e m=>m=[]/\k<=40/\((es.take k).map key).Nodup/\(∀ x∈es.take k,enB x=true)/\∃ a b c d u v,e=[some (.lst (es.map eD)),a,b,c,d,u,v]) ?_ ?_ ⟨rfl,by lia,by simp,(fun _ h=>absurd h (by simp)),_,_,_,_,_,_,rfl⟩⟩
 ·rintro k e m hk ⟨rfl,hk40,g1,g2,a,b,c,d,u,v,rfl⟩
  refine⟨trivial,?_⟩
  have hk':k < es.length:=by simpa using hk
  have hw:=h es[k] (Ann hk')
  have hf:=hw.few
  have er:eD es[k]=D.tup [D.str es[k].nm,es[k].mv.d,.tup (es[k].nd.map nD)]:=rfl
  have hem:es[k]∈es:=Ann hk'
  have hkm:(es.map key)[k]'(by simpa using hk')=key es[k]:=by simp
  have hdp:=Uy es[k]
  simp_arith[G0 hk',er,Rt es[k].nm (hw.sh _ (Al6 ..)),Aaj,<- An0]
  refine cK.dec (fun h1=>by rw[Abl (by lia)]) fun h1=>cK.dec (fun h2=>?_) fun h2=>cK.mk (fun h3=>?_) fun h3=>⟨by rw[Am4];lia,Bo kD (fun e he=>?_) ?_⟩
  ·rw[Pm hem (by unfold enB;rw[Amg (show ¬ es[k].nd.length<=40 by lia)];rfl)]
  ·rw[Pm hem (Pn (Al6 ..) (by simpa using h3))]
  ·simp_arith[Yr]
  have h3:By es[k].nm=true:=by simpa using h3
  refine⟨A3 (Ak Ny),Amv hdp (by decide),?_⟩
  rw[Ajw]
  refine cK.dec (fun h4=>?_) fun h4=>⟨⟨by lia,by lia⟩,?_⟩
  ·rw[Abk (Hu (k:=k) (by simpa using hk') (by rw[hkm,<- An0];exact h4))]
  generalize hE:es[k]=e0 at *
  have hln:(nms e0.nd).length=e0.nd.length:=Ama ..
  refine G2 (fun j e m=>m=[]/\(e0.nm::(nms e0.nd).take j).Nodup/\(∀ t∈e0.nm::(nms e0.nd).take j,By t=true)/\∃ u v,e=[some (.lst (es.map eD)),some (.int k),some (.str e0.nm),some e0.mv.d,some (.tup (e0.nd.map nD)),u,v]) ?_ ?_ ⟨rfl,by simp,(fun t ht=>by rw[show t=e0.nm by simpa using ht];exact h3),_,_,rfl⟩
  ·rintro j e m hj ⟨rfl,j1,j2,u,v,rfl⟩
   refine⟨trivial,?_⟩
   have hj':j < e0.nd.length:=by simpa using hj
   have hjn:j < (nms e0.nd).length:=by lia
   have hjw:(nms e0.nd)[j]=e0.nd[j].1:=by simp[nms]
   have hmem:e0.nd[j].1∈e0.nm::nms e0.nd:=Al4 _ (by rw[<- hjw];exact Ann hjn)
   simp_arith[G0 hj',Vd,Rt e0.nd[j].1 (hw.sh _ hmem),Aaj,<- An0]
   refine cK.mk (fun q1=>by rw[Pm hem (Pn hmem (by simpa using q1))]) fun q1=>⟨by rw[Am4];lia,Bo (fun n=>.str n.1) (fun n hn=>?_) ?_⟩
   ·simp_arith[Vd]
   have q1:By e0.nd[j].1=true:=by simpa using q1
   have e1:((e0.nd.take j).map fun n=>D.str n.1)=((nms e0.nd).take j).map .str:=by unfold nms;rw[<- An0,List.map_map];rfl
   rw[e1,Akt]
   have hL:(e0.nm::nms e0.nd)[j+1]'(by rw[Amh];lia)=e0.nd[j].1:=by rw[List.getElem_cons_succ];exact hjw
   refine⟨by rw[Ama,Am4];lia,A3 (Ak (f:=D.str) (xs:=e0.nm::(nms e0.nd).take j) fun _=>Bq),cK.mk (fun q2=>?_) fun q2=>?_⟩
   ·rw[Pm hem (Ae3 (Hu (k:=j+1) (by rw[Amh];lia) (by
     rw[hL,List.take_succ_cons]
     rw[Bool.or_eq_true,Anc,Anc] at q2
     rcases q2 with q2|q2
     ·rw[<- q2];exact Al6 ..
     ·exact Al4 _ q2)))]
   ·rw[Bool.or_eq_false_iff,decide_eq_false_iff_not,decide_eq_false_iff_not] at q2
    refine⟨?_,fun t ht=>?_,_,_,rfl⟩
    ·have:=Xb (l:=e0.nm::nms e0.nd) (k:=j+1) (by rw[Amh];lia) (by rw[List.take_succ_cons];exact j1) (by
      rw[hL,List.take_succ_cons]
      intro z
      rcases List.mem_cons.mp z with z|z
      ·exact q2.1 z.symm
      ·exact q2.2 z)
     rw[List.take_succ_cons] at this
     exact this
    ·rw[List.take_add_one,Amb hjn,hjw] at ht
     rcases List.mem_cons.mp ht with z|z
     ·rw[z];exact h3
     ·rcases List.mem_append.mp z with z|z
      ·exact j2 t (Al4 _ z)
      ·rw[show t=e0.nd[j].1 by simpa using z];exact q1
  ·rintro e m ⟨rfl,j1,j2,u,v,rfl⟩
   refine⟨trivial,?_⟩
   have e9:((e0.nd.length:Nat):Int).toNat=(nms e0.nd).length:=by rw[hln];exact Int.toNat_natCast _
   rw[e9,List.take_length] at j1 j2
   have hen:enB e0=true:=by
    unfold enB
    rw[Ame (show e0.nd.length<=40 by lia),Ame j1,List.all_eq_true.mpr j2];rfl
   refine⟨rfl,by lia,?_,fun x hx=>?_,_,_,_,_,_,_,rfl⟩
   ·rw[An0] at g1 h4 ⊢
    exact Xb (by simpa using hk') g1 (by rw[hkm];exact h4)
   ·rw[List.take_add_one,Amb hk',hE] at hx
    rcases List.mem_append.mp hx with z|z
    ·exact g2 x z
    ·rw[show x=e0 by simpa using z];exact hen
 ·rintro e m ⟨rfl,hk40,g1,g2,a,b,c,d,u,v,rfl⟩
  refine⟨trivial,?_⟩
  array_get_dec
  have e9:((es.length:Nat):Int).toNat=es.length:=Int.toNat_natCast _
  rw[e9,List.take_length] at g1 g2
  rw[e9] at hk40
  unfold shB
  rw[Ame hk40,Ame g1,List.all_eq_true.mpr g2]
  rfl
theorem sqA {M r:MH}{a:List D}{Q:List D->Prop}:W (sq (M++.lst a::r) (.ref M.length)) Q=Q a:=by
 have e:(M++MObj.lst a::r)[M.length]?=some (.lst a):=by simp
 have e2:sq (M++MObj.lst a::r) (.ref M.length)=some a:=by unfold sq;simp only[e]
 rw[e2,Ac]
theorem xpA {M:MH}{a:List D} (h:A0 a=true) {Q:D->Prop}:W (Bm (M++[.lst a]) (.ref M.length)) Q=Q (.lst a):=by
 have e:(M++[MObj.lst a])[M.length]?=some (.lst a):=by simp
 have e2:Bm (M++[MObj.lst a]) (.ref M.length)=some (.lst a):=by rw[Bm];simp only[e,h,Anr]
 rw[e2,Ac]
def Aiz (Q:D->Prop):Out->Prop
 |.rt d m=>if m.isEmpty=true then Q d else W (Bm m d) Q
 |.nx _ _=>Q .non
 |_=>False
theorem Pt {Q:D->Prop}{d:D}:Aiz Q (.rt d [])=Q d:=rfl
theorem Lb {Q:D->Prop}{d:D}{o:MObj}{m:MH}:Aiz Q (.rt d (o::m))=W (Bm (o::m) d) Q:=rfl
theorem Yu {Q:D->Prop}{d:D}{o:MObj}{M:MH}:Aiz Q (.rt d (M++[o]))=W (Bm (M++[o]) d) Q:=by
 have e:(M++[o]).isEmpty=false:=by cases M<;>rfl
 show (if (M++[o]).isEmpty=true then Q d else W (Bm (M++[o]) d) Q)=_
 rw[e];rfl
theorem Aah {n:Nat}{g:FS}{ds:List D}{Q:D->Prop}:W (Aeo n g ds) Q=W (g (ds.map some++List.replicate (n - ds.length) none) []) (Aiz Q):=by
 unfold Aeo
 rw[W_bind]
 congr 1
 funext o
 cases o with
 |rt d m =>
  show W (if m.isEmpty=true then some d else Bm m d) Q=(if m.isEmpty=true then Q d else W (Bm m d) Q)
  split
  ·exact Ac
  ·rfl
 |nx e m=>exact Ac
 |bk e m=>exact Bf
 |ct e m=>exact Bf
theorem Jj {n:Nat}{fn:List D->Option D}{ds:List D}{Q:D->Prop}:W (R5 n fn ds []) Q=W (Ic n fn ds []) Q:=rfl
theorem Oh {α:Type}{g:FG}{fe:FE}{m:MH}{env:A2}{h:α->D} (P:D->Prop):∀ {xs:List α}{Q:List D->Prop},(∀ x∈xs,W (g (h x) env) fun e1=>W (fe e1 m) P)->(∀ ys:List D,ys.length=xs.length->(∀ y∈ys,P y)->Q ys)->W (D2 g Nf fe m env (xs.map h)) Q
 |[],Q,_,q=>by rw[Anm,Ce];exact q [] rfl fun _ h=>absurd h (by simp)
 |x::xs,Q,k,q=>by
  rw[Amr,B4]
  refine (k x (Al6 ..)).imp fun e1 h1=>?_
  rw[Ik,R4]
  refine h1.imp fun y hy=>?_
  exact Oh P (fun z hz=>k z (Al4 _ hz)) fun ys hl hp=>q (y::ys) (by simp[hl]) fun z hz=>(List.mem_cons.mp hz).elim (fun e=>e ▸ hy) (hp z)
theorem Io {f g:FS}{env:A2}{m:MH}{Q:Out->Prop} (S:A2->MH->Prop) (h1:W (f env m) fun o=>(∃ e m',o=.nx e m'/\S e m')\/∃ d m',o=.rt d m'/\Q (.rt d m')) (h2:∀ e m',S e m'->W (g e m') Q):W (Br f g env m) Q:=by
 rw[Im]
 refine h1.imp fun o h=>?_
 rcases h with ⟨e,m',q,s⟩|⟨d,m',q,s⟩
 ·subst q;exact h2 e m' s
 ·subst q;exact s
structure Wb (w:Nat) (e:En):Prop where
 few:e.nd.length<=w
 sh:∀ t∈e.nm::nms e.nd,t.length<=100
theorem Wb.wk {w:Nat}{e:En} (h:Wb w e) (hw:w<=200):Wk e:=⟨by have:=h.few;lia,fun t ht=>by have:=h.sh t ht;lia⟩
theorem Wb.mono {w v:Nat}{e:En} (h:Wb w e) (hw:w<=v):Wb v e:=⟨by have:=h.few;lia,h.sh⟩
theorem Eo (k:Int) (h0:0<=k) (h1:k < 8):W (Nu [.int k]) fun d=>∃ t:Str,d=.str t/\t.length<=100:=by
 unfold Nu Ajn
 rw[Bp]
 array_get_dec
 refine E2 h0 (by simpa using h1) fun d _ hd=>?_
 simp only[Amy,Amq,or_false] at hd
 rcases hd with rfl|rfl|rfl|rfl|rfl|rfl|rfl|rfl<;>array_get_dec<;>exact⟨_,rfl,by decide +kernel⟩
noncomputable def qE (j:Int):En:=⟨Str.ofString "q",⟨7,0,j,[]⟩,[]⟩
theorem Ahe (w:Nat) (j:Int):Wb w (qE j):=⟨Amz _,fun t ht=>by
 rw[show t=Str.ofString "q" by simpa [qE,nms] using ht]
 decide +kernel⟩
theorem Abf {w:Nat}{fs:List En}{e:En} (h:∀ e∈fs,Wb w e) (he:Wb w e):∀ x∈fs++[e],Wb w x:=fun x hx=>by
 rcases List.mem_append.mp hx with z|z
 ·exact h x z
 ·rw[List.mem_singleton.mp z];exact he
theorem Ui (es:List En) (w n:Nat) (hn:n<=200) (hl:es.length<=n) (h:∀ e∈es,Wb w e) (k:Int) (k0:0<=k) (k1:k<=41):W (Um [.lst (es.map eD),.int k]) fun d=>∃ fs:List En,d=.lst (fs.map eD)/\fs.length<=n+41/\∀ e∈fs,Wb w e:=by
 unfold Um Ajp
 rw[Aah]
 array_get_dec
 refine⟨⟨by lia,by lia⟩,G2 (fun j e m=>∃ (fs:List En) (u:Option D),fs.length<=n+j/\(∀ e∈fs,Wb w e)/\((m=[]/\e=[some (.lst (fs.map eD)),some (.int k),u])\/∃ M:MH,m=M++[.lst (fs.map eD)]/\e=[some (.ref M.length),some (.int k),u])) ?_ ?_ ⟨es,_,by lia,h,.inl ⟨rfl,rfl⟩⟩⟩
 ·rintro j e m hj ⟨fs,u,f1,f2,⟨rfl,rfl⟩|⟨M,rfl,rfl⟩⟩
  ·refine⟨trivial,?_⟩
   array_get_dec
   exact cK.dec (fun _=>⟨by lia,fs++[qE j],_,by rw[Amn,Am0];lia,Abf f2 (Ahe w j),.inr ⟨[],by rw[Anp];rfl,rfl⟩⟩) fun _=>⟨fs,_,by lia,f2,.inl rfl⟩
  ·refine⟨trivial,?_⟩
   simp_arith[sqA]
   refine cK.dec (fun _=>⟨by lia,fs++[qE j],_,by rw[Amn,Am0];lia,Abf f2 (Ahe w j),.inr ⟨M++[_],by rw[Anp];rfl,rfl⟩⟩) fun _=>⟨fs,_,by lia,f2,.inr ⟨M,rfl,rfl⟩⟩
 ·rintro e m ⟨fs,u,f1,f2,⟨rfl,rfl⟩|⟨M,rfl,rfl⟩⟩
  ·refine⟨trivial,?_⟩
   simp_arith[Pt]
   exact⟨fs,rfl,by lia,f2⟩
  ·refine⟨trivial,?_⟩
   simp_arith[Yu,xpA (Ak Bs)]
   exact⟨fs,rfl,by lia,f2⟩
end K36a
end S_VC
section S_VF
namespace K36a
open PySem L2 L2.ML
set_option hygiene false in
local macro_rules|`(tactic| simp_arith[$a,*])=>`(tactic| ((try dsimp only[mp1,mp2,mp3,ln1,ln2,ln3,List.replicate,Nat.reduceAdd,Nat.reduceSub]);simp only[↓Yk,↓Yj,↓Ya,↓Yb,↓Yc,↓Yd,↓Xo,↓Xp,↓La,↓J9,↓Bp,↓Lr,↓Ls,↓Lp,↓Lq,↓Im,↓Pb,↓Pd,↓Jp,↓R4,↓Xh,↓X7,↓Aew,↓Aev,↓Il,↓Ee,↓Ed,↓Ga,↓Oq,↓Ox,↓Gc,↓G1,↓Xl,↓Ov,↓Pj,↓Om,↓Xs,↓Os,↓Jl,↓Xq,↓Gb,↓Xt,↓Xr,↓Jn,↓Xm,↓L1,↓Ou,↓Z9,↓Ro,↓On,↓Oo,↓Ik,↓Jm,↓Ce,↓B4,↓Oe,↓Of,↓Og,↓Ph,↓O5,↓Ol,↓O4,↓X4,↓X3,↓Xw,↓Aic,↓Aig,↓X2,↓G3,↓X1,↓X0,↓O2,↓O3,↓O0,↓Oz,↓O1,↓Xk,↓Pf,↓Xy,↓Xx,↓Du,↓Cc,↓Cb,↓Jq,↓Js,↓Jv,↓Ju,↓Jt,↓X9,↓Cj,↓Ye,↓Yg,↓Yh,↓Pk,↓Ai5,↓Ai6,↓Ai3,↓Ai4,↓Jw,↓Z2,↓O9,↓Gy,↓Gx,↓Gw,↓Gz,↓Dg,↓Aey,↓Aid,↓Ah7,↓Aez,↓Aih,↓Ah8,↓Ae0,↓Aii,↓Aie,↓Aeu,↓Ae1,↓Aij,↓Ah9,↓Aiq,↓Aik,↓Aif,↓Aia,↓Air,↓Ail,↓Aib,↓Ais,↓Aim,↓Ait,↓Ain,↓Aiu,↓Aio,↓Aiv,↓Aip,Anl,Ant,R4,Xh,↓X8,↓Pe,↓Pg,↓Pa,↓Ra,↓O7,↓Ge,↓Jo,↓O8,↓Oj,↓Jk,↓Oi,↓Ot,↓Rj,↓L3,Amh,An1,Ama,Aof,Am9,Amr,Anm,List.replicate,Aon,Aoo,Nat.reduceAdd,Nat.reduceSub,Aol,true_and,Cg,C0,Pr,C8,Cy,Pp,G7,Dh,decide_true,decide_false,Gf,D1,An3,Am5,Anv,_root_.id,L3,Yf,Jr,Da,Bi,Bq,Bd,Bl,Am,Ca,Anq,Aod,An5,Mk.pure,Mark.pure,C1,↓Nk,↓Rw,↓Rx,↓Xn,Aiw,↓Gu,↓Gr,↓Gq,↓Gv,Int.reduceEq,Int.reduceLT,Int.reduceLE,Int.reduceAdd,Int.reduceSub,Int.reduceMul,Int.reduceToNat,Int.reducePow,Int.reduceNeg,Int.reduceMod,Int.reduceDiv,Nat.reduceLeDiff,Nat.reduceMul,Nat.reduceEqDiff,Nat.reducePow,Nat.reduceLT,and_true,and_self,true_or,or_true,Al7,Int.le_refl,Amz,↓Gn,↓Gm,↓Gk,↓Gp,Lo,Amd,Aor,D5,P3,J6,Mark.deq,Mk.deq,Int.zero_add,↓P4,↓P5,↓P6,An4,List.any_nil,Amw,Aoq,Bool.false_or,Bool.true_or,Aow,Aot,↓Ji,↓Xz,↓Gd,P0,Hg,Hj,D7,Aok,Aoj,Aoi,Anx,G6,bne_self_eq_false,↓T5,↓Oy,↓T3,↓Nm,↓T2,↓Pt,↓Lb,$a,*]))
set_option hygiene false in
local macro_rules|`(tactic| array_get_dec)=>`(tactic| try simp_arith[true_and])
theorem Afe (e:En):dep (eD e)<=8:=by
 unfold eD
 rw[Cm]
 have hk:=Uy e
 unfold kD at hk
 rw[Cm] at hk
 have:Gh [D.str e.nm,e.mv.d,.tup (e.nd.map nD)]<=7:=Cf fun d hd=>by
  simp only[Amy,Amq,or_false] at hd
  rcases hd with rfl|rfl|rfl
  ·rw[Cy];lia
  ·have:dep e.mv.d<=Gh [D.str e.nm,e.mv.d]:=by rw[Gh,Gh,Gh];lia
   lia
  ·rw[Cm]
   have:Gh (e.nd.map nD)<=5:=Cf fun d hd=>by
    obtain⟨n,_,rfl⟩:=List.mem_map.mp hd
    exact Afy n
   lia
 lia
theorem Ae9 (xs:List En):dep (.lst (xs.map eD))<=60:=by
 have h:Gh (xs.map eD)<=8:=Cf fun d hd=>by
  obtain⟨x,_,rfl⟩:=List.mem_map.mp hd
  exact Afe x
 rw[dep]
 lia
theorem Yq {ds:List D}:deq (.lst ds) (.lst [])=ds.isEmpty:=by cases ds<;>rfl
theorem Lx {w:Nat}{r:En} (h:Wb w r) {ns:List Nd} (h1:∀ n∈ns,n.1.length<=100) (h2:ns.length<=41):Wb (w+41) ⟨r.nm,r.mv,r.nd++ns⟩:=by
 have:=h.few
 refine⟨by show (r.nd++ns).length<=_;rw[Amn];lia,fun t ht=>?_⟩
 rcases List.mem_cons.mp ht with z|z
 ·rw[z];exact h.sh _ (Al6 ..)
 ·obtain⟨n,hn,rfl⟩:=List.mem_map.mp z
  rcases List.mem_append.mp hn with y|y
  ·exact h.sh _ (Al4 _ (List.mem_map.mpr ⟨n,y,rfl⟩))
  ·exact h1 n y
theorem Abg {w:Nat}{r:En} (h:Wb w r) {ns:List Nd} (h1:∀ n∈ns,n∈r.nd) (h2:ns.length<=r.nd.length):Wb (w+41) ⟨r.nm,r.mv,ns⟩:=by
 have:=h.few
 refine⟨by show ns.length<=_;lia,fun t ht=>?_⟩
 rcases List.mem_cons.mp ht with z|z
 ·rw[z];exact h.sh _ (Al6 ..)
 ·obtain⟨n,hn,rfl⟩:=List.mem_map.mp z
  exact h.sh _ (Al4 _ (List.mem_map.mpr ⟨n,h1 n hn,rfl⟩))
theorem Aeg {w:Nat}{r:En} (h:Wb w r) {t:Str} (ht:t.length<=100):Wb (w+41) ⟨t,r.mv,r.nd⟩:=by
 have:=h.few
 refine⟨by show r.nd.length<=_;lia,fun u hu=>?_⟩
 rcases List.mem_cons.mp hu with z|z
 ·rw[z];exact ht
 ·exact h.sh _ (Al4 _ z)
theorem Aec {ys:List D} (h:∀ y∈ys,∃ t:Str,y=.str t/\t.length<=100):∃ ts:List Str,ys=ts.map .str/\∀ t∈ts,t.length<=100:=by
 induction ys with
 |nil=>exact⟨[],rfl,fun _ h=>absurd h (by simp)⟩
 |cons y ys ih =>
  obtain⟨t,rfl,ht⟩:=h y (Al6 ..)
  obtain⟨ts,rfl,hts⟩:=ih fun z hz=>h z (Al4 _ hz)
  exact⟨t::ts,rfl,fun u hu=>(List.mem_cons.mp hu).elim (fun e=>e ▸ ht) (hts u)⟩
def Bk (w n:Nat) (r:D):Prop:=∃ fs:List En,r=.lst (fs.map eD)/\fs.length<=2 * n+50/\∀ e∈fs,Wb (w+41) e
theorem T9 (es:List En) (w n:Nat) (hw:w<=100) (hn:n<=200) (hl:es.length<=n) (h:∀ e∈es,Wb w e) (a b c d:Int) (b0:0<=b/\b < 8) (c0:0<=c) (d0:0<=d):W (Et [.lst (es.map eD),.lst [.int a,.int b,.int c,.int d]]) (Bk w n):=by
 unfold Et Ab0
 rw[Aah]
 have em:=Int.emod_nonneg b (b:=2) (by decide)
 have em2:=Int.emod_lt_of_pos b (b:=2) (by decide)
 refine Io (fun e m=>m=[]/\e=[some (.lst (es.map eD)),some (.lst [.int a,.int b,.int c,.int d]),none,none,none,none,none,none,none,none]) ?_ ?_
 ·simp_arith[Jj]
  refine cK.dec (fun _=>E2 em (by simpa using em2) fun z _ hz=>?_) fun _=>.inl ⟨_,_,rfl,rfl,rfl⟩
  obtain⟨q,rfl,hq⟩:∃ q:Int,z=.int q/\(0<=q/\q<=41):=by
   simp only[Amy,Amq,or_false] at hz
   rcases hz with rfl|rfl<;>exact⟨_,rfl,by decide,by decide⟩
  simp_arith[Ak Bs]
  refine⟨A3 (Ak Bs),(Ui es w n hn hl h q hq.1 hq.2).imp fun r ⟨fs,e,f1,f2⟩=>.inr ⟨_,_,rfl,?_⟩⟩
  exact⟨fs,e,by lia,fun x hx=>(f2 x hx).mono (by lia)⟩
 rintro e m ⟨rfl,rfl⟩
 refine Io (fun e m=>m=[]/\es≠[]/\e=[some (.lst (es.map eD)),some (.lst [.int a,.int b,.int c,.int d]),none,none,none,none,none,none,none,none]) ?_ ?_
 ·simp_arith[Yq]
  refine⟨A3 (Ak Bs),rfl,Ae9 es,cK.mk (fun z=>(Eo b b0.1 b0.2).imp fun x ⟨t,e,ht⟩=>.inr ⟨_,_,rfl,?_⟩) fun z=>.inl ⟨_,_,rfl,rfl,fun q=>?_,rfl⟩⟩
  ·subst e
   rw[Lb]
   array_get_dec
   exact⟨[⟨t,⟨1,0,0,[]⟩,[]⟩],rfl,by show 1<=_;lia,fun x hx=>by
    rw[List.mem_singleton.mp hx]
    exact⟨Amz _,fun u hu=>by rw[show u=t by simpa [nms] using hu];exact ht⟩⟩
  ·rw[q] at z;cases z
 rintro e m ⟨rfl,hne,rfl⟩
 have hpos:0 < es.length:=List.length_pos_iff.mpr hne
 refine Io (fun e m=>m=[]/\∃ k:Int,0<=k/\k < es.length/\e=[some (.lst (es.map eD)),some (.lst [.int a,.int b,.int c,.int d]),some (.int k),none,none,none,none,none,none,none]) ?_ ?_
 ·array_get_dec
  refine⟨by lia,.inl ⟨_,_,rfl,rfl,_,Int.emod_nonneg _ (by lia),Int.emod_lt_of_pos _ (by lia),rfl⟩⟩
 rintro e m ⟨rfl,k,k0,k1,rfl⟩
 refine Io (fun e m=>m=[]/\∃ r:En,r∈es/\e=[some (.lst (es.map eD)),some (.lst [.int a,.int b,.int c,.int d]),some (.int k),some (.str r.nm),some r.mv.d,some (.tup (r.nd.map nD)),none,none,none,none]) ?_ ?_
 ·array_get_dec
  refine E2 k0 (by simpa using k1) fun z _ hz=>?_
  obtain⟨r,hr,rfl⟩:=List.mem_map.mp hz
  have er:eD r=D.tup [D.str r.nm,r.mv.d,.tup (r.nd.map nD)]:=rfl
  simp_arith[er]
  exact .inl ⟨_,_,rfl,rfl,r,hr,rfl⟩
 rintro e m ⟨rfl,r,hr,rfl⟩
 have hrw:=h r hr
 have hrf:=hrw.few
 refine Io (fun e m=>m=[]/\∃ o:Nd,o.1.length<=100/\e=[some (.lst (es.map eD)),some (.lst [.int a,.int b,.int c,.int d]),some (.int k),some (.str r.nm),some r.mv.d,some (.tup (r.nd.map nD)),some (nD o),none,none,none]) ?_ ?_
 ·array_get_dec
  refine cK.dec (fun hp=>⟨by lia,E2 (Int.emod_nonneg _ (by lia)) (by have:=Int.emod_lt_of_pos d (b:=(r.nd.length:Int)) (by lia);simpa using this) fun z _ hz=>?_⟩) fun _=>.inl ⟨_,_,rfl,rfl,(Str.ofString "b",[(r.mv,none)]),(by decide +kernel:(Str.ofString "b").length<=100),rfl⟩
  obtain⟨o,ho,rfl⟩:=List.mem_map.mp hz
  array_get_dec
  exact .inl ⟨_,_,rfl,rfl,o,hrw.sh _ (Al4 _ (List.mem_map.mpr ⟨o,ho,rfl⟩)),rfl⟩
 rintro e m ⟨rfl,o,ho,rfl⟩
 refine Io (fun e m=>m=[]/\∃ (x:En) (y z:Option D),Wb (w+41) x/\e=[some (.lst (es.map eD)),some (.lst [.int a,.int b,.int c,.int d]),some (.int k),some (.str r.nm),some r.mv.d,some (.tup (r.nd.map nD)),some (nD o),some (eD x),y,z]) ?_ ?_
 ·simp_arith[Aas]
  refine cK.dec (fun _=>?_) fun _=>cK.dec (fun _=>?_) fun _=>cK.dec (fun _=>?_) fun _=>cK.dec (fun _=>?_) fun _=>cK.dec (fun _=>?_) fun _=>cK.dec (fun _=>?_) fun _=>?_
  ·refine (Eo b b0.1 b0.2).imp fun x ⟨t,e,ht⟩=>?_
   subst e
   exact .inl ⟨_,_,rfl,rfl,⟨t,r.mv,r.nd⟩,_,_,Aeg hrw ht,rfl⟩
  ·refine (Eo b b0.1 b0.2).imp fun x ⟨t,e,ht⟩=>?_
   subst e
   exact⟨by lia,.inl ⟨_,_,rfl,rfl,⟨r.nm,r.mv,r.nd++[(t,o.2)]⟩,none,none,Lx hrw (fun n hn=>by rw[List.mem_singleton.mp hn];exact ht) (by simp),by simp[eD,nD]⟩⟩
  ·exact⟨by lia,.inl ⟨_,_,rfl,rfl,⟨r.nm,r.mv,r.nd++[(r.nm,o.2)]⟩,none,none,Lx hrw (fun n hn=>by rw[List.mem_singleton.mp hn];exact hrw.sh _ (Al6 ..)) (by simp),by simp[eD,nD]⟩⟩
  ·exact⟨by lia,.inl ⟨_,_,rfl,rfl,⟨r.nm,r.mv,r.nd++[o]⟩,none,none,Lx hrw (fun n hn=>by rw[List.mem_singleton.mp hn];exact ho) (by simp),by simp[eD]⟩⟩
  ·refine E2 em (by simpa using em2) fun z _ hz=>?_
   obtain⟨q,rfl,hq⟩:∃ q:Int,z=.int q/\(0<=q/\q<=41):=by
    simp only[Amy,Amq,or_false] at hz
    rcases hz with rfl|rfl<;>exact⟨_,rfl,by decide,by decide⟩
   array_get_dec
   refine⟨⟨by lia,by lia⟩,by rw[Df,Ama,List.length_range];lia,?_⟩
   unfold Df
   refine Oh (fun y=>∃ t:Str,y=.str t/\t.length<=100) (fun j hj=>?_) fun ys hl hp=>?_
   ·have hj:=List.mem_range.mp hj
    array_get_dec
    have h8:(Str.ofString "abcdefgh").cps.toList.length=8:=by decide +kernel
    have hq1:(Str.ofString "q").length=1:=by decide +kernel
    have la:∀ (u v:Str),(u++v).length=u.length+v.length:=fun u v=>by
     show (u.cps++v.cps).size=u.cps.size+v.cps.size
     exact Array.size_append
    have l1:∀ x:Nat,(⟨#[x]⟩:Str).length=1:=fun _=>rfl
    refine⟨by decide +kernel,E2 (by lia) (by rw[h8];lia) fun x _ _=>⟨by rw[hq1,l1];lia,by decide +kernel,E2 (by lia) (by rw[h8];lia) fun y _ _=>⟨by rw[la,hq1,l1,l1];lia,_,rfl,by rw[la,la,hq1,l1,l1];lia⟩⟩⟩
   ·obtain⟨ts,rfl,hts⟩:=Aec hp
    rw[Ama,List.length_range] at hl
    refine⟨by rw[Ama];lia,Bo (fun t=>nD (t,o.2)) (fun t ht=>?_) ?_⟩
    ·simp_arith[Aas]
     rfl
    ·exact⟨by rw[Ama];lia,.inl ⟨_,_,rfl,rfl,⟨r.nm,r.mv,r.nd++ts.map fun t=>(t,o.2)⟩,some (.lst (ts.map .str)),none,Lx hrw (fun n hn=>by obtain⟨t,ht,rfl⟩:=List.mem_map.mp hn;exact hts t ht) (by rw[Ama];lia),by simp[eD]⟩⟩
  ·have l1:=Dv (xs:=es) (lo:=none) (hi:=some (b % ((es.length:Int)+1)))
   have l2:=Dv (xs:=es) (lo:=some (b % ((es.length:Int)+1))) (hi:=none)
   refine⟨by lia,by lia,by simp;lia,.inr ⟨_,_,rfl,?_⟩⟩
   have hx:Wb (w+41) ⟨r.nm,r.mv,Ck r.nd (some 1) none⟩:=Abg hrw (fun n hn=>Eg hn) Dv
   rw[Lb,T5]
   have e1:(Ck es none (some (b % ((es.length:Int)+1)))).map eD++[D.tup [D.str r.nm,r.mv.d,D.tup ((Ck r.nd (some 1) none).map nD)]]++(Ck es (some (b % ((es.length:Int)+1))) none).map eD=(Ck es none (some (b % ((es.length:Int)+1)))++[En.mk r.nm r.mv (Ck r.nd (some 1) none)]++Ck es (some (b % ((es.length:Int)+1))) none).map eD:=by simp[eD]
   rw[e1,Ak Bs,R4]
   refine⟨_,rfl,by simp;lia,fun u hu=>?_⟩
   rcases List.mem_append.mp hu with z|z
   ·rcases List.mem_append.mp z with z|z
    ·exact (h u (Eg z)).mono (by lia)
    ·rw[List.mem_singleton.mp z];exact hx
   ·exact (h u (Eg z)).mono (by lia)
  ·show W (some (D.tup (r.nd.map nD).reverse)) _
   rw[Ac,<- List.map_reverse]
   exact .inl ⟨_,_,rfl,rfl,⟨r.nm,r.mv,r.nd.reverse⟩,_,_,Abg hrw (fun n hn=>List.mem_reverse.mp hn) (by simp),rfl⟩
 rintro e m ⟨rfl,x,y,z,hx,rfl⟩
 simp_arith[Ak Bs,Bs,Anq]
 have l1:=Dv (xs:=es) (lo:=none) (hi:=some k)
 have l2:=Dv (xs:=es) (lo:=some (k+1)) (hi:=none)
 refine⟨by lia,by simp;lia,Ck es none (some k)++[x]++Ck es (some (k+1)) none,by simp,by simp;lia,fun u hu=>?_⟩
 rcases List.mem_append.mp hu with z|z
 ·rcases List.mem_append.mp z with z|z
  ·exact (h u (Eg z)).mono (by lia)
  ·rw[List.mem_singleton.mp z];exact hx
 ·exact (h u (Eg z)).mono (by lia)
theorem T4 {f g:FS}{env:A2}{m:MH}{Q:Out->Prop} (S:A2->MH->Prop) (h1:W (f env m) fun o=>∃ e m',o=.nx e m'/\S e m') (h2:∀ e m',S e m'->W (g e m') Q):W (Br f g env m) Q:=by
 rw[Im]
 exact h1.imp fun o ⟨e,m',q,s⟩=>by subst q;exact h2 e m' s
theorem Dk {t:Str} (h:t∈Hw):By t=true/\t.length<=100:=by
 have:∀ t∈Hw,By t=true/\t.length<=100:=by decide +kernel
 exact this t h
theorem Akr {es:List En} (h:Sh es):∀ e∈es,Wb 4 e:=fun e he=>by
 have ho:=h.ok e he
 refine⟨ho.len,fun t ht=>?_⟩
 rcases List.mem_cons.mp ht with z|z
 ·rw[z];exact (Dk ho.nm).2
 ·exact (Dk (ho.ns.tt t z)).2
theorem Z7 {es:List En} (h:Sh es):shB es=true:=by
 unfold shB
 have h1:(es.map key).Nodup:=by
  refine List.pairwise_map.mpr (h.dst.imp fun {a b} hab e=>hab ?_)
  exact⟨Anw Prod.fst e,Anw Prod.snd e⟩
 have h2:es.all enB=true:=List.all_eq_true.mpr fun e he=>by
  have ho:=h.ok e he
  have hl:=ho.len
  unfold enB
  have hn:(e.nm::nms e.nd).Nodup:=ho.ns.nd
  have ha:(e.nm::nms e.nd).all By=true:=List.all_eq_true.mpr fun t ht=>by
   rcases List.mem_cons.mp ht with z|z
   ·rw[z];exact (Dk ho.nm).1
   ·exact (Dk (ho.ns.tt t z)).1
  rw[Ame (show e.nd.length<=40 by lia),Ame hn,ha];rfl
 rw[Ame h.len,Ame h1,h2];rfl
theorem law_true (ns:List Int) (hl:ns.length<=63):G9 [.kl (ns.map .int)]=some (.bl true):=W.out <| by
 unfold G9 Abt
 rw[Bp]
 array_get_dec
 refine (Z8 ns hl 1 (by decide) (by decide)).imp fun d ⟨es,e,h⟩=>?_
 subst e
 have hw0:=Akr h
 have h40:=h.len
 have hs0:∀ {Q:D->Prop},W (Mh [.tup (es.map eD)]) Q=Q (.bl true):=fun {Q}=>by rw[Rn es (fun e he=>(hw0 e he).wk (by decide)) (by lia),Z7 h]
 have hc:=Dv (xs:=ns) (lo:=some 41) (hi:=some 61)
 simp_arith[Ak Bs,hs0]
 refine⟨⟨by split<;>lia,by split<;>lia⟩,?_⟩
 generalize hN:(if ((Ck ns (some 41) (some 61)).length:Int) > 2 then ((Ck ns (some 41) (some 61)).length:Int) else 2).toNat=N
 have hN63:N<=63:=by rw[<- hN];split<;>lia
 refine G2 (fun k e m=>m=[]/\∃ a b c d,e=[some (.kl (ns.map .int)),some (.tup (es.map eD)),a,b,c,d]) ?_ ?_ ⟨rfl,_,_,_,_,rfl⟩
 ·rintro k e m hk ⟨rfl,u1,u2,u3,u4,rfl⟩
  refine⟨trivial,?_⟩
  rw[Aeu]
  refine T4 (fun e m=>m=[]/\∃ vs:List Int,InR vs [8,8,40,3,2,8,8,40,3]/\e=[some (.kl (ns.map .int)),some (.tup (es.map eD)),some (.int (0+k)),some (.lst (vs.map .int)),u3,u4]) ?_ ?_
  ·array_get_dec
   refine (Nq ns hl _ (by lia) (by lia)).imp fun d ⟨c,e⟩=>?_
   subst e
   array_get_dec
   refine⟨rfl,(J8 c [8,8,40,3,2,8,8,40,3] (by decide) (by decide)).imp fun d ⟨vs,e,hv⟩=>?_⟩
   subst e
   simp_arith[Ak fun _=>Bi]
   exact⟨_,_,rfl,rfl,vs,hv,rfl⟩
  rintro e m ⟨rfl,vs,hv,rfl⟩
  have hlen:vs.length=9:=hv.1
  match vs,hlen with
  |[a,b,c,d,q,a2,b2,c2,d2],_ =>
  have b0:0<=b/\b < 8:=hv.2 1 b 8 rfl rfl
  have c0:0<=c/\c < 40:=hv.2 2 c 40 rfl rfl
  have d0:0<=d/\d < 3:=hv.2 3 d 3 rfl rfl
  have b1:0<=b2/\b2 < 8:=hv.2 6 b2 8 rfl rfl
  have c1:0<=c2/\c2 < 40:=hv.2 7 c2 40 rfl rfl
  have d1:0<=d2/\d2 < 3:=hv.2 8 d2 3 rfl rfl
  refine T4 (fun e m=>m=[]/\∃ fs:List En,fs.length<=130/\(∀ x∈fs,Wb 45 x)/\e=[some (.kl (ns.map .int)),some (.tup (es.map eD)),some (.int (0+k)),some (.lst ([a,b,c,d,q,a2,b2,c2,d2].map .int)),some (.lst (fs.map eD)),u4]) ?_ ?_
  ·simp_arith[Jj]
   refine⟨A3 (Ak Bs),rfl,?_⟩
   show W (Et [D.lst (es.map eD),D.lst [.int a,.int b,.int c,.int d]]) _
   refine (T9 es 4 40 (by decide) (by decide) h40 hw0 a b c d b0 c0.1 d0.1).imp fun r ⟨fs,e,f1,f2⟩=>?_
   subst e
   exact⟨_,_,rfl,rfl,fs,f1,f2,rfl⟩
  rintro e m ⟨rfl,fs,f1,f2,rfl⟩
  refine T4 (fun e m=>m=[]/\∃ fs:List En,fs.length<=500/\(∀ x∈fs,Wb 86 x)/\e=[some (.kl (ns.map .int)),some (.tup (es.map eD)),some (.int (0+k)),some (.lst ([a,b,c,d,q,a2,b2,c2,d2].map .int)),some (.lst (fs.map eD)),u4]) ?_ ?_
  ·simp_arith[Jj,Abi,Cg]
   refine cK.mk (fun _=>cK.mk (fun _=>⟨A3 (Ak Bs),rfl,?_⟩) fun _=>⟨_,_,rfl,rfl,fs,by lia,fun x hx=>(f2 x hx).mono (by decide),rfl⟩) fun _=>⟨_,_,rfl,rfl,fs,by lia,fun x hx=>(f2 x hx).mono (by decide),rfl⟩
   show W (Et [D.lst (fs.map eD),D.lst [.int a2,.int b2,.int c2,.int d2]]) _
   refine (T9 fs 45 130 (by decide) (by decide) f1 f2 a2 b2 c2 d2 b1 c1.1 d1.1).imp fun r ⟨gs,e,g1,g2⟩=>?_
   subst e
   exact⟨_,_,rfl,rfl,gs,by lia,g2,rfl⟩
  rintro e m ⟨rfl,gs,g1,g2,rfl⟩
  have hk0:∀ x∈gs,Wk x:=fun x hx=>(g2 x hx).wk (by decide)
  simp_arith[Ak Bs,Rn gs hk0 (by lia),Afd gs hk0 (by lia)]
  exact⟨A3 (Ak Bs),_,_,_,_,rfl⟩
 ·rintro e m ⟨rfl,u1,u2,u3,u4,rfl⟩
  refine⟨trivial,?_⟩
  simp_arith[Ak Bs,hs0]
  rfl
end K36a
end S_VF
section S_K36h
namespace K36a
open PySem L2 L2.ML
noncomputable section
theorem all_mk {l:W.OpenLaw}{w:World}{K:W.Frag}{h:Heap}{mg:Str->Option Value}{fa:Addr} (X:K.In h) (G:h.Ns mainGlobals mg) (hfa:mg "law"=some (.ref fa))
  (f0:FM K "is_name" Ahu)
  (f1:FM K "is_entry" Ahr)
  (f2:FM K "is_shelf" Ahs)
  (f3:FM K "_law_cell" Aba)
  (f4:FM K "_law_draws" Ahw)
  (f5:FM K "_law_make" Abb)
  (f6:FM K "_law_next" Abc)
  (f7:FM K "_law_great" Ahx)
  (f8:FM K "_law_need_span" Ahp)
  (f9:FM K "_law_title" Ahy)
  (f10:FM K "_law_needs" Aa7)
  (f11:FM K "_law_entry" Aa8)
  (f12:FM K "_law_shelf" Aa9)
  (f13:FM K "_law_strange" Aht)
  (f14:FM K "_law_filled" Ahv)
  (f15:FM K "_law_bent" Abd)
  (f16:FM K "_law_is_title" Ahq)
  (f17:FM K "_law_due" Abe)
  {a_law:Addr}{oc_law kV_law dc_law pm_law cd_law ct_law:Value}{od_law an_law:Option Addr}{sl_law:Array (Option Value)} (n_law:W.nsIn K mainGlobals "law"=some (some (.ref a_law))) (l_law:K.lookup a_law=some ⟨oc_law,od_law,.func (W.fnOf "law" "law" (Dw M7) (B5 M7) (Ao M7) .none kV_law dc_law pm_law an_law cd_law ct_law),sl_law⟩) (c_law:W.codeIn K cd_law "law"=true) (k_law:W.keepIn K (.ref a_law)=true)
  {t_LETTERS:Tok} (n_LETTERS:W.nsIn K mainGlobals "LETTERS"=some (some (.str (Str.ofString "abcdefghijklmnopqrstuvwxyz") t_LETTERS)))
  {t_MOST_LETTERS:Tok} (n_MOST_LETTERS:W.nsIn K mainGlobals "MOST_LETTERS"=some (some (.int 8 t_MOST_LETTERS)))
  {t_MOST_ENTRIES:Tok} (n_MOST_ENTRIES:W.nsIn K mainGlobals "MOST_ENTRIES"=some (some (.int 40 t_MOST_ENTRIES)))
  {t_MOST_NEEDS:Tok} (n_MOST_NEEDS:W.nsIn K mainGlobals "MOST_NEEDS"=some (some (.int 40 t_MOST_NEEDS)))
  (z_all:W.nsIn K mainGlobals "all"=some none)
  (z_bool:W.nsIn K mainGlobals "bool"=some none)
  (z_int:W.nsIn K mainGlobals "int"=some none)
  (z_isinstance:W.nsIn K mainGlobals "isinstance"=some none)
  (z_len:W.nsIn K mainGlobals "len"=some none)
  (z_list:W.nsIn K mainGlobals "list"=some none)
  (z_max:W.nsIn K mainGlobals "max"=some none)
  (z_range:W.nsIn K mainGlobals "range"=some none)
  (z_set:W.nsIn K mainGlobals "set"=some none)
  (z_tuple:W.nsIn K mainGlobals "tuple"=some none) :
  ∃ fd:FuncData,(∀ (s:Shared) (v:Value),BindsTo s fd ⟨[v],[]⟩ [("_law_script",v)])/\∀ base:Heap,K.In base->base.Ns mainGlobals mg->FnOk l.prog w K mg base CX0 6 fa fd ["_law_script"] (spP K 1 G9):=by
 have e:=hfa.symm.trans (W.mg_of X G n_law)
 cases e
 have T:Txt K mg :=⟨Afl X G n_LETTERS,Us X G n_MOST_LETTERS,Us X G n_MOST_ENTRIES,Us X G n_MOST_NEEDS,f0.fd1 X G,f1.fd1 X G,f2.fd1 X G,f3.fd2 X G,f4.fd2 X G,f5.fd1 X G,f6.fd1 X G,f7.fd1 X G,f8.fd2 X G,f9.fd1 X G,f10.fd2 X G,f11.fd1 X G,f12.fd2 X G,f13.fd1 X G,f14.fd2 X G,f15.fd2 X G,f16.fd1 X G,f17.fd1 X G⟩
 have B:Blt mg:=⟨W.mg_none_of X G z_all,W.mg_none_of X G z_bool,W.mg_none_of X G z_int,W.mg_none_of X G z_isinstance,W.mg_none_of X G z_len,W.mg_none_of X G z_list,W.mg_none_of X G z_max,W.mg_none_of X G z_range,W.mg_none_of X G z_set,W.mg_none_of X G z_tuple⟩
 exact⟨_,fun s v=>.of_eq rfl,fun base _ _=>Af0 T B (Aan l_law c_law k_law)⟩
theorem M3 {K:W.Frag}{H:Hp}{μ:List Addr}{B:Addr->Prop}:∀ ns:List Int,Reps K H μ B (ns.map D.int) (ns.map V.int)
 |[]=>.nil
 |n::ns=>.cons (.int n) (M3 ns)
theorem walk {l:W.OpenLaw}{q:Program}{loose:List Str}{XP:(Str->Option Value)->Heap->Prop}{YP:World->Heap->Prop}{d:DefRec}{K:Params->W.Frag} (hn:l.most=some 63) (hdf:d.params.defaults=[])
  (hY:∀ (w:World) (h:Heap),YP w h->(K w.params).In h)
  (F:∀ (w:World) (mg:Str->Option Value) (fa:Addr) (h:Heap),(K w.params).In h->h.Ns mainGlobals mg->mg d.name=some (.ref fa) ->
   ∃ fd:FuncData,(∀ (s:Shared) (u:Value),BindsTo s fd ⟨[u],[]⟩ [("_law_script",u)])/\∀ base:Heap,(K w.params).In base->base.Ns mainGlobals mg->FnOk l.prog w (K w.params) mg base CX0 6 fa fd ["_law_script"] (spP (K w.params) 1 G9)) :
  W.WalkO q loose XP YP l.row.toRowW d [] (fun f vs=>PySem.call f vs) :=
 L2.walk_of (n:=63) (k:=6) (x:="_law_script") (CX:=fun _=>CX0) (sp:=fun w=>spP (K w.params) 1 G9) hn (by decide) hdf ⟨rfl,by decide,by decide⟩ hY F
  (fun w H a ns hl hO hS=>⟨[.kl (ns.map D.int)],.bl true,.cons (.kl (by
    rcases hS with (h|h)|h
    ·rcases hO a with z|⟨o,xs,z⟩<;>rw[z] at h<;>cases h
    ·exact .inl h
    ·exact .inr h) (M3 ns)) .nil,rfl,law_true ns hl,fun v H' _ r=>by cases r;rfl⟩) fun _ _ _ _ _ z=>z
end
end K36a
namespace PySem.W.Fast
def tw10044883288141191592:=()
def tw10119620021066884218:=()
def tw10186554266900507242:=()
def tw1028054004965718990:=()
def tw10284953143787213382:=()
def tw10324961575943008065:=()
def tw10343098333797952597:=()
def tw10586139147242749778:=()
def tw1063651722718423871:=()
def tw10698654659823998969:=()
def tw10747179565005078772:=()
def tw11012200686047656490:=()
def tw11131149663787186173:=()
def tw11731632534856917434:=()
def tw11771006407674208615:=()
def tw1204857065649938063:=()
def tw12104949772623994236:=()
def tw12214340533106062689:=()
def tw12243691705578910939:=()
def tw12535649314096574790:=()
def tw13114193572376505617:=()
def tw13126799775417771320:=()
def tw13513723763530003708:=()
def tw13568895086165739054:=()
def tw13620980413258329487:=()
def tw1362362518341396133:=()
def tw13775335242133023723:=()
def tw13839363253719679296:=()
def tw13876731130677037970:=()
def tw1389701407214329626:=()
def tw13969263900249013392:=()
def tw13990573324005580332:=()
def tw14066262324122380692:=()
def tw14138031592866021468:=()
def tw1422728718600881995:=()
def tw14581689099824286896:=()
def tw14970513820455396057:=()
def tw14990207306733778767:=()
def tw15621931941747208171:=()
def tw15701424487922945877:=()
def tw15703207806380502657:=()
def tw1576735479388512674:=()
def tw1592596401447567127:=()
def tw16007746483311698919:=()
def tw16159008962910860553:=()
def tw16223324875001862289:=()
def tw1640355192903210852:=()
def tw16412423557709484820:=()
def tw16448089702237837901:=()
def tw16880842961732987484:=()
def tw17129689231820311072:=()
def tw17157663907431589334:=()
def tw17180255807909609156:=()
def tw17217032946846893400:=()
def tw17459751487420812879:=()
def tw17753906466203756810:=()
def tw17943603575216414868:=()
def tw18337598531606753333:=()
def tw18440148389326050008:=()
def tw1858615607751277071:=()
def tw1953918914927756803:=()
def tw2219999366718406691:=()
def tw2277156115208168568:=()
def tw2375590944932974504:=()
def tw2600805990020462026:=()
def tw296769361720397225:=()
def tw3029810076043088160:=()
def tw3054313062482655402:=()
def tw3100267630195448452:=()
def tw3698304531144777502:=()
def tw3722033806494239373:=()
def tw3725424910890525972:=()
def tw3841480132291175080:=()
def tw4015738855561836497:=()
def tw4092244962303870589:=()
def tw4263980843288671258:=()
def tw446152771689836620:=()
def tw4517717513744337540:=()
def tw4729394738427746068:=()
def tw5018378743976584276:=()
def tw5172442086581548146:=()
def tw5181160160388054908:=()
def tw5708648995269708520:=()
def tw5722182469636419611:=()
def tw5914488486451063761:=()
def tw5933442611503818177:=()
def tw5976731687777213327:=()
def tw601732113985683474:=()
def tw6030692447284368038:=()
def tw6076200696721085961:=()
def tw6391186148049876940:=()
def tw6416163431345843035:=()
def tw6938642301944154257:=()
def tw6966638193100788645:=()
def tw7080281230902637106:=()
def tw713181681904199543:=()
def tw723816483438324937:=()
def tw7341336961381439788:=()
def tw7397252128260254495:=()
def tw7403640797987265208:=()
def tw7459554559535395804:=()
def tw7600636327979572392:=()
def tw7855103649844873226:=()
def tw8176756844575136817:=()
def tw8329625546920290319:=()
def tw8391759940144217942:=()
def tw863544052721702129:=()
def tw879905516166615232:=()
def tw888483924905497316:=()
def tw9223963564767629209:=()
def tw9227634972183209759:=()
def tw9378854737630790443:=()
def tw9684995046717729689:=()
def tw9765044713193742753:=()
def tw9803087982115234048:=()
end PySem.W.Fast
open PySem PySem.W PyProof.Rows
set_option maxRecDepth 100000 in
set_option maxHeartbeats 0 in
theorem PySem.Challenge.cw_stretchbook_k36_is_shelf_holds : PySem.Challenge.rw_stretchbook_k36_is_shelf.Holds := by
 w_on;o_law;k_head;(case hw=>w_witness2)
 k_fill
 refine K36a.walk (l:=PySem.Challenge.rw_stretchbook_k36_is_shelf) rfl rfl (fun w h Y=>W.kIn_of Y) ?F
 case F =>
  intro w mg fa h KX G hmg
  refine' K36a.all_mk KX G hmg (L2.ML.fm_mk ?n0 ?l0 ?c0 ?k0) (L2.ML.fm_mk ?n1 ?l1 ?c1 ?k1) (L2.ML.fm_mk ?n2 ?l2 ?c2 ?k2) (L2.ML.fm_mk ?n3 ?l3 ?c3 ?k3) (L2.ML.fm_mk ?n4 ?l4 ?c4 ?k4) (L2.ML.fm_mk ?n5 ?l5 ?c5 ?k5) (L2.ML.fm_mk ?n6 ?l6 ?c6 ?k6) (L2.ML.fm_mk ?n7 ?l7 ?c7 ?k7) (L2.ML.fm_mk ?n8 ?l8 ?c8 ?k8) (L2.ML.fm_mk ?n9 ?l9 ?c9 ?k9) (L2.ML.fm_mk ?n10 ?l10 ?c10 ?k10) (L2.ML.fm_mk ?n11 ?l11 ?c11 ?k11) (L2.ML.fm_mk ?n12 ?l12 ?c12 ?k12) (L2.ML.fm_mk ?n13 ?l13 ?c13 ?k13) (L2.ML.fm_mk ?n14 ?l14 ?c14 ?k14) (L2.ML.fm_mk ?n15 ?l15 ?c15 ?k15) (L2.ML.fm_mk ?n16 ?l16 ?c16 ?k16) (L2.ML.fm_mk ?n17 ?l17 ?c17 ?k17) ?n18 ?l18 ?c18 ?k18 ?n_LETTERS ?n_MOST_LETTERS ?n_MOST_ENTRIES ?n_MOST_NEEDS ?z_all ?z_bool ?z_int ?z_isinstance ?z_len ?z_list ?z_max ?z_range ?z_set ?z_tuple
  case n0|l0|c0|k0|n1|l1|c1|k1|n2|l2|c2|k2|n3|l3|c3|k3|n4|l4|c4|k4|n5|l5|c5|k5|n6|l6|c6|k6|n7|l7|c7|k7|n8|l8|c8|k8|n9|l9|c9|k9|n10|l10|c10|k10|n11|l11|c11|k11|n12|l12|c12|k12|n13|l13|c13|k13|n14|l14|c14|k14|n15|l15|c15|k15|n16|l16|c16|k16|n17|l17|c17|k17|n18|l18|c18|k18|n_LETTERS|n_MOST_LETTERS|n_MOST_ENTRIES|n_MOST_NEEDS|z_all|z_bool|z_int|z_isinstance|z_len|z_list|z_max|z_range|z_set|z_tuple=>k_is
end S_K36h
