import PyProof.Rows.All
import Wide.All
import OpenK.AllK
import Wide.FinOn
import PyProof.P3Eq
import PyProof.TupleKey
import PyProof.DictRoadsH
import PyProof.Rows.RowHeap
import Lean
import PyProof.EqAt
import PyProof.EqKinds
import PyProof.TupleCall
import KE.KDflt
import PyProof.NeData
import PyProof.ConsumeWalk
import PyProof.CompFree
import PyProof.StrWalks
import PyProof.Rows.ListMul
import PyProof.MinMaxWalk
import PyProof.WalkInts
import PyProof.SeqI3
import PyProof.WalksMore
import PyProof.Rows.Range3
import PyProof.Rows.TupTab
import KE.KRevIter
import PyProof.ListRange
import KE.KSortTup
import PyProof.Rows.StrNews2
import PyProof.Rows.StrJoin2
import KE.KNestM
import KE.KDictSum
import PyProof.Rows.EnumRows
import PyProof.ZipIter
import KE.KSortAsk
import PyProof.Rows.SetFrom
import PyProof.Rows.SortStr
import PyProof.SetRoads
import KE.KDictOf
import PyProof.AttrMissHeap
import KE.IntTextLaws
import PyProof.Rows.StrFirst
import PyProof.Rows.StrJoinMade
import PyProof.Rows.StrWeight2
import PyProof.Rows.CatFin
import PySem.Challenge.RW_stretchbook_k43_sound_and_tidy
set_option Elab.async false
set_option compiler.extract_closed false
set_option linter.all false
set_option maxRecDepth 100000
set_option maxHeartbeats 4000000
abbrev Aql:=@PySem.wpAny_bind
abbrev Aqm:=@PySem.wpAny_pure
abbrev Aqn:=@PySem.Heap.get?_push_of_some
abbrev Aqo:=@Nat.le_refl
abbrev Aqp:=@PySem.Heap.lt_size
abbrev Aqq:=@List.size_toArray
abbrev Aqr:=@List.mem_cons_of_mem
abbrev Aqs:=@List.map_cons
abbrev Aqt:=@PySem.Heap.get?_push_size
abbrev Aqu:=@List.getElem?_eq_getElem
abbrev Aqv:=@List.length_append
abbrev Aqw:=@List.length_map
abbrev Aqx:=@if_pos
abbrev Aqy:=@List.mem_cons_self
abbrev Aqz:=@Nat.lt_of_lt_of_le
abbrev Aq0:=@if_neg
abbrev Aq1:=@Bool.and_eq_true
abbrev Aq2:=@Nat.ne_of_lt
abbrev Aq3:=@List.getElem?_append_left
abbrev Aq4:=@List.mem_of_getElem?
abbrev Aq5:=@List.mem_append_right
abbrev Aq6:=@PySem.PassesOwn.never
abbrev Aq7:=@List.not_mem_nil
abbrev Aq8:=@List.mem_append_left
abbrev Aq9:=@List.getElem?_map
abbrev Ara:=@List.length_cons
abbrev Arb:=@Bool.false_ne_true
abbrev Arc:=@List.append_nil
abbrev Ard:=@Array.length_toList
abbrev Are:=@List.getElem?_append_right
abbrev Arf:=@Nat.le_trans
abbrev Arh:=@decide_eq_false
abbrev Ari:=@PySem.mem_of_lookup
abbrev Arj:=@Nat.lt_irrefl
abbrev Ark:=@List.mem_cons
abbrev Arl:=@Nat.zero_le
abbrev Arm:=@List.length_singleton
abbrev Arn:=@Option.some.inj
abbrev Aro:=@List.getElem?_cons_succ
abbrev Arp:=@Bool.false_eq_true
abbrev Arq:=@of_decide_eq_true
abbrev Ars:=@PySem.wpAny_call_entry
abbrev Art:=@decide_eq_true
abbrev Aru:=@PySem.Heap.get?_update_other
abbrev Arv:=@PySem.wpAny_newObj_type
abbrev Arw:=@PySem.wpAny_holding
abbrev Arx:=@List.any_cons
abbrev Ary:=@List.map_append
abbrev Arz:=@List.length_nil
abbrev Ar0:=@List.find?_cons
abbrev Ar1:=@List.getElem?_set_self
abbrev Ar2:=@Option.bind_some
abbrev Ar3:=@List.lookup_cons
abbrev Ar4:=@List.getElem_mem
abbrev Ar5:=@List.cons_append
abbrev Ar6:=@List.getElem?_eq_none
abbrev Ar7:=@Nat.lt_succ_of_lt
abbrev Ar8:=@PySem.sizeLine_eq
abbrev Ar9:=@List.map_nil
abbrev Asa:=@List.all_cons
abbrev Asb:=@List.length_take
abbrev Asc:=@congrArg
abbrev Asd:=@Option.isSome_some
abbrev Ase:=@PySem.wpAny_callSpecial?_slot
abbrev Asf:=@Bool.eq_iff_iff
abbrev Asg:=@PySem.Heap.size_push
abbrev Ash:=@decide_eq_true_eq
abbrev Asi:=@Bool.not_true
abbrev Asj:=@PySem.wpAny_Call_Name_kw
abbrev Asl:=@List.getElem?_set_ne
abbrev Asm:=@PySem.wpAny_passesOwn
abbrev Asn:=@List.drop_eq_getElem_cons
abbrev Aso:=@PySem.Heap.get?_update_self
abbrev Asp:=@Array.getElem?_eq_getElem
abbrev Asq:=@PySem.wpAny_mono
abbrev Asr:=@Ne.symm
abbrev Ass:=@PySem.wpAny_setField
abbrev Ast:=@Option.isSome_none
abbrev Asu:=@List.pairwise_singleton
abbrev Asv:=@List.getElem?_replicate
abbrev Asw:=@List.getElem?_cons_zero
abbrev Asx:=@PySem.wpAny_typeOf
abbrev Asy:=@Or.inl
abbrev Asz:=@Bool.not_false
abbrev As0:=@PySem.wpAny_getItem_str_slice
abbrev As1:=@PySem.MeetsSeq3.plain_eq_loop
abbrev As2:=@List.map_map
abbrev As3:=@decide_eq_decide
abbrev As4:=@Nat.lt_succ_self
abbrev As5:=@List.length_drop
abbrev As6:=@List.getElem?_of_mem
abbrev As7:=@PySem.wpAny_truthy_bool
abbrev As8:=@Bool.or_false
abbrev As9:=@Nat.le_succ
abbrev Ata:=@List.nil_append
abbrev Atb:=@Option.isNone_some
abbrev Atc:=@Option.isNone_none
abbrev Atd:=@Nat.ne_of_gt
abbrev Ate:=@Nat.le_of_lt
abbrev Atf:=@List.set_cons_zero
abbrev Atg:=@List.set_cons_succ
abbrev Ath:=@Bool.true_eq_false
abbrev Ati:=@Classical.byContradiction
abbrev Atj:=@Bool.false_and
abbrev Atk:=@True.intro
abbrev Atl:=@PySem.Obj.data_mapFields
abbrev Atm:=@PySem.wpAny_seqItems
abbrev Atn:=@List.sizeOf_lt_of_mem
noncomputable section
set_option tactic.hygienic false
section S_KTree
namespace L2
open PySem PySem.Spec
noncomputable instance pdDec:DecidableEq PyData:=fun _ _=>Classical.propDecidable _
mutual
def kOk:PyData->Bool
 |.int _=>true
 |.str x=>PyData.strOk x
 |.tuple ds=>U1 ds
 |_=>false
def U1:List PyData->Bool
 |[]=>true
 |d::ds=>kOk d&&U1 ds
def O3 (w:World):PyData->Int
 |.int i=>hashInt i
 |.str x=>hashStr w x
 |.tuple ds=>reduceHash (Builtin.Tuple.tupleHashOf (Bw w ds))
 |_=>0
def Bw (w:World):List PyData->List Int
 |[]=>[]
 |d::ds=>O3 w d::Bw w ds
def Io:PyData->Nat
 |.tuple ds=>Cf ds+1
 |_=>1
def Cf:List PyData->Nat
 |[]=>0
 |d::ds=>Io d+Cf ds
def Zw:PyData->Nat
 |.tuple ds=>U0 ds+1
 |_=>0
def U0:List PyData->Nat
 |[]=>0
 |d::ds=>max (Zw d) (U0 ds)
end
mutual
theorem Md:∀ {d:PyData},kOk d=true->d.canLay0=true
 |.int _,_=>by simp[PyData.canLay0]
 |.str x,h=>by rw[kOk] at h;simp[PyData.canLay0,h]
 |.tuple ds,h=>by rw[kOk] at h;rw[PyData.canLay0];exact Td h
 |.none,h=>by simp[kOk] at h
 |.bool _,h=>by simp[kOk] at h
 |.list _,h=>by simp[kOk] at h
 |.dict _,h=>by simp[kOk] at h
theorem Td:∀ {ds:List PyData},U1 ds=true->PyData.canLayAll0 ds=true
 |[],_=>by simp[PyData.canLayAll0]
 |d::ds,h=>by
  rw[U1,Aq1] at h
  simp[PyData.canLayAll0,Md h.1,Td h.2]
end
set_option tactic.hygienic true in
mutual
theorem Aji:∀ {d e:PyData},kOk d=true->kOk e=true->PyData.eqv d e=decide (d=e)
 |.int i,e,h,h'=>by
  cases e<;>first|(simp[kOk] at h';done)|(simp[PyData.eqv];done)|(rename_i j;simp[PyData.eqv];by_cases q:i=j<;>simp[q])
 |.str x,e,h,h'=>by
  cases e<;>first|(simp[kOk] at h';done)|(simp[PyData.eqv];done)|(rename_i j;simp[PyData.eqv];by_cases q:x=j<;>simp[q])
 |.tuple ds,e,h,h'=>by
  cases e<;>first|(simp[kOk] at h';done)|(simp[PyData.eqv];done)|skip
  rename_i es
  rw[kOk] at h h'
  rw[PyData.eqv,Adk h h',As3]
  constructor
  ·intro e;rw[e]
  ·intro e;injection e
 |.none,_,h,_=>by simp[kOk] at h
 |.bool _,_,h,_=>by simp[kOk] at h
 |.list _,_,h,_=>by simp[kOk] at h
 |.dict _,_,h,_=>by simp[kOk] at h
theorem Adk:∀ {ds es:List PyData},U1 ds=true->U1 es=true->PyData.eqvAll ds es=decide (ds=es)
 |[],[],_,_=>by simp[PyData.eqvAll]
 |[],e::es,_,_=>by simp[PyData.eqvAll]
 |d::ds,[],_,_=>by simp[PyData.eqvAll]
 |d::ds,e::es,h,h'=>by
  rw[U1,Aq1] at h h'
  rw[PyData.eqvAll,Aji h.1 h'.1,Adk h.2 h'.2]
  by_cases q1:d=e<;>by_cases q2:ds=es<;>simp[q1,q2]
end
section
variable {prog:Program}{w:World}
structure HashK (prog:Program) (w:World) (d:PyData):Prop where
 out:∀ {A:Around}{E:Value->Shared->Prop}{s:Shared}{v:Value}{as:List Addr}{Q:Int->Shared->Prop},kOk d=true->A.units+Zw d < cLine->Reads s.heap v d as->Q (O3 w d) { s with toks:=s.toks+Io d }->wpAny (model prog w) A (pyHash v) Q E s
theorem Mc {d:PyData}:∀ {ds:List PyData},d∈ds->Zw d<=U0 ds
 |e::ds,h=>by
  rw[U0]
  rcases List.mem_cons.mp h with rfl|h
  ·lia
  ·have:=Mc h;lia
theorem Me {d:PyData}:∀ {ds:List PyData},U1 ds=true->d∈ds->kOk d=true
 |e::ds,h,hm=>by
  rw[U1,Aq1] at h
  rcases List.mem_cons.mp hm with rfl|hm
  ·exact h.1
  ·exact Me h.2 hm
theorem Ei:∀ (xs ys:List PyData),Bw w (xs++ys)=Bw w xs++Bw w ys
 |[],ys=>by rw[Bw];rfl
 |x::xs,ys=>by rw[Ar5,Bw,Bw,Ei xs ys];rfl
theorem Eh:∀ (xs ys:List PyData),Cf (xs++ys)=Cf xs+Cf ys
 |[],ys=>by simp[Cf]
 |x::xs,ys=>by rw[Ar5,Cf,Cf,Eh xs ys];lia
theorem Ux (ih:∀ d∈ds,HashK prog w d):HashK prog w (.tuple ds):=by
 constructor
 intro A E s v as Q hk hu r q
 rw[kOk] at hk
 rw[Zw] at hu
 rw[O3,Io] at q
 cases r with
 |@tuple a o vs n xs as ho hc hd ra =>
 have hT:s.TypeIs (.ref a) "tuple":=⟨o,ho,hc⟩
 unfold pyHash
 first|unfold pyHashByItsType|skip
 first|refine Aql (wpAny_cRoomFor_or (.inr (by lia)) ?_)|skip
 refine Aql (wpAny_specialOf hT F.slot_tuple_hash.lookup ?_)
 show wpAny _ _ (if (some (Value.builtin "tuple.__hash__") == some Value.none)=true then _ else _) Q E s
 rw[Aq0 (by rw[beq_builtin_none];exact Arb)]
 refine Aql (wpAny_specialOf hT F.slot_tuple_hash.lookup ?_)
 show wpAny _ _ (callSpecialIfBoundUnlessNone? (.ref a) "__hash__" _ >>= _) Q E s
 refine Aql (wpAny_callSpecialIfBoundUnlessNone?_slot hT F.slot_tuple_hash (Ars F.slot_tuple_hash hT F.entry_tuple_hash ?_ (F.args_tuple_hash_1 _)))
 show wpAny _ _ (Builtin.Tuple.tupleItemsOf (.ref a) >>= _) _ _ s
 refine Aql (wpAny_tupleItemsOf ho hd ?_)
 refine Aql ?_
 rw[<- Array.forIn_toList]
 refine wpAny_forIn_list _
  (fun rest (b:Array Int) s'=>∃ done left bs,ds=done++left/\ReadsAll s.heap rest left bs/\b.toList=Bw w done/\s'={ s with toks:=s.toks+Cf done })
  _ ?_ ?_ _ _ ⟨[],ds,as,rfl,ra,by simp[Bw],by simp[Cf]⟩
 ·rintro x rest b s' ⟨done,left,bs,rfl,hl,hb,rfl⟩
  cases hl with
  |@cons _ _ d ds' as1 bs1 h1 hl' =>
   have hm:d∈done++d::ds':=by simp
   have hdp:=Mc hm
   refine Aql ((ih d hm).out (Me hk hm) (by show A.units+1+_ < _;lia) h1 ?_)
   have e1:b.toList++[O3 w d]=Bw w (done++[d]):=by rw[Ei,hb,Bw,Bw]
   have e2:s.toks+Cf done+Io d=s.toks+Cf (done++[d]):=by rw[Eh,Cf,Cf];lia
   first
    |exact Aqm ⟨done++[d],ds',bs1,by simp,hl',by rw[<- e1];simp,by rw[<- e2]⟩
    |exact Aql (Aqm (Aqm ⟨done++[d],ds',bs1,by simp,hl',by rw[<- e1];simp,by rw[<- e2]⟩))
 ·rintro b s' ⟨done,left,bs,rfl,hl,hb,rfl⟩
  cases hl
  rw[Arc] at q
  show wpAny _ _ (retInt (Builtin.Tuple.tupleHashOf b.toList)) _ _ _
  rw[hb]
  refine wpAny_ret_mkInt ?_
  show wpAny _ _ (if (decide (-(2:Int) ^ 63<=Builtin.Tuple.tupleHashOf (Bw w done))&&decide (Builtin.Tuple.tupleHashOf (Bw w done) < 2 ^ 63))=true then _ else _) Q E _
  unfold reduceHash at q
  by_cases hr:(decide (-(2:Int) ^ 63<=Builtin.Tuple.tupleHashOf (Bw w done))&&decide (Builtin.Tuple.tupleHashOf (Bw w done) < 2 ^ 63))=true
  ·rw[Aqx hr]
   rw[Aqx hr] at q
   exact Aqm (by simpa [Nat.add_assoc] using q)
  ·rw[Aq0 hr]
   rw[Aq0 hr] at q
   exact Aql (wpAny_rule (Aqm (by simpa [Nat.add_assoc] using q)))
theorem Adq (d:PyData):HashK prog w d:=by
 match d with
 |.int i =>
  constructor
  intro A E s v as Q _ _ r q
  cases r with
  |int i t=>simp only[O3,Io] at q;exact wpAny_pyHash_int q
 |.str x =>
  constructor
  intro A E s v as Q _ _ r q
  cases r with
  |str x t=>simp only[O3,Io] at q;exact wpAny_pyHash_str q
 |.tuple ds=>exact Ux fun d hd=>Adq d
 |.none=>constructor;intro A E s v as Q h;simp[kOk] at h
 |.bool _=>constructor;intro A E s v as Q h;simp[kOk] at h
 |.list _=>constructor;intro A E s v as Q h;simp[kOk] at h
 |.dict _=>constructor;intro A E s v as Q h;simp[kOk] at h
termination_by sizeOf d
decreasing_by
 have:=Atn hd
 simp;lia
structure QuietK (prog:Program) (w:World) (d:PyData):Prop where
 out:∀ {n:Nat}{A:Around}{E:Value->Shared->Prop}{s:Shared}{v:Value}{as:List Addr}{Q:Bool->Shared->Prop},kOk d=true->Zw d<=n->Reads s.heap v d as->Q true s->wpAny (model prog w) A (eqIsQuiet n v) Q E s
theorem Pl (ih:∀ d∈ds,QuietK prog w d):QuietK prog w (.tuple ds):=by
 constructor
 intro n A E s v as Q hk hn r q
 rw[kOk] at hk
 rw[Zw] at hn
 cases r with
 |@tuple a o vs m xs as ho hc hd ra =>
 have hT:s.TypeIs (.ref a) "tuple":=⟨o,ho,hc⟩
 obtain⟨n,rfl⟩:∃ n',n=n'+1:=⟨n - 1,by lia⟩
 unfold eqIsQuiet
 refine Aql (wpAny_specialOf hT F.slot_tuple_eq.lookup ?_)
 show wpAny _ _ (isInstance (.ref a) (.type "tuple") >>= _) _ _ s
 refine Aql (wpAny_isInstance hT isSubtype_tuple_tuple ?_)
 simp only[Asi,Arp,if_false]
 refine Aql (Atm ho hd ?_)
 refine Aql ?_
 show wpAny _ _ (forIn vs _ _) _ _ s
 rw[<- Array.forIn_toList]
 refine wpAny_forIn_list _ (fun rest r s'=>r.1=none/\s'=s/\∃ left bs,ReadsAll s.heap rest left bs/\∀ d∈left,d∈ds) _ ?_ ?_ _ _ ⟨rfl,rfl,ds,as,ra,fun _ h=>h⟩
 ·rintro v rest r s' ⟨hr,rfl,left,bs,hl,hall⟩
  cases hl with
  |@cons _ _ d ds' as1 bs1 h1 hl' =>
   have hm:=hall d (Aqy ..)
   refine Aql ((ih d hm).out (Me hk hm) (by have:=Mc hm;lia) h1 ?_)
   simp only[Asi,Arp,if_false]
   exact Aqm ⟨rfl,rfl,ds',bs1,hl',fun e he=>hall e (Aqr _ he)⟩
 ·rintro ⟨r1,r2⟩ s' ⟨hr,rfl,_⟩
  simp only at hr
  subst hr
  exact Aqm q
theorem Y7 (d:PyData):QuietK prog w d:=by
 match d with
 |.int i =>
  constructor
  intro n A E s v as Q _ _ r q
  cases r with
  |int i t=>rw[eqIsQuiet_byValue _ rfl];exact Aqm q
 |.str x =>
  constructor
  intro n A E s v as Q _ _ r q
  cases r with
  |str x t=>rw[eqIsQuiet_byValue _ rfl];exact Aqm q
 |.tuple ds=>exact Pl fun d hd=>Y7 d
 |.none=>constructor;intro n A E s v as Q h;simp[kOk] at h
 |.bool _=>constructor;intro n A E s v as Q h;simp[kOk] at h
 |.list _=>constructor;intro n A E s v as Q h;simp[kOk] at h
 |.dict _=>constructor;intro n A E s v as Q h;simp[kOk] at h
termination_by sizeOf d
decreasing_by
 have:=Atn hd
 simp;lia
mutual
theorem Of {es ep} (ho₀:h.get? d₀=some o₀) (hd₀:o₀.data=.dict es ep) (hs:Heap.SameBut d₀ h h') {d:PyData}{v:Value}{as:List Addr} (hk:kOk d=true) (r:Reads h v d as):Reads h' v d as:=by
 cases r with
 |int i t=>exact .int i t
 |str i t=>exact .str i t
 |@tuple a o _ _ _ _ ho hc hd ra =>
  refine .tuple ((hs.2 a ?_).trans ho) hc hd (G2 ho₀ hd₀ hs (by rw[kOk] at hk;exact hk) ra)
  rintro rfl
  cases ho.symm.trans ho₀
  cases hd₀.symm.trans hd
 |_=>simp[kOk] at hk
theorem G2 {es ep} (ho₀:h.get? d₀=some o₀) (hd₀:o₀.data=.dict es ep) (hs:Heap.SameBut d₀ h h') {ds:List PyData}{vs:List Value}{as:List Addr} (hk:U1 ds=true) (r:ReadsAll h vs ds as):ReadsAll h' vs ds as:=by
 cases r with
 |nil=>exact .nil
 |cons r rs =>
  rw[U1,Aq1] at hk
  exact .cons (Of ho₀ hd₀ hs hk.1 r) (G2 ho₀ hd₀ hs hk.2 rs)
end
mutual
theorem O0:∀ {d:PyData},kOk d=true->d.depth<=Zw d+1
 |.int _,_=>by simp[PyData.depth]
 |.str _,_=>by simp[PyData.depth]
 |.tuple ds,h=>by rw[kOk] at h;rw[Zw];have:=R5 h;simp[PyData.depth];lia
 |.none,h=>by simp[kOk] at h
 |.bool _,h=>by simp[kOk] at h
 |.list _,h=>by simp[kOk] at h
 |.dict _,h=>by simp[kOk] at h
theorem R5:∀ {ds:List PyData},U1 ds=true->PyData.depthAll ds<=U0 ds+1
 |[],_=>by simp[PyData.depthAll]
 |d::ds,h=>by
  rw[U1,Aq1] at h
  have h1:=O0 h.1
  have h2:=R5 h.2
  rw[U0];simp[PyData.depthAll];lia
end
def Ann (h:Heap) (d:PyData) (a:Addr):Prop:=kOk d=true/\Zw d<=6/\(∃ ds,d=.tuple ds)/\∃ as,Reads h (.ref a) d as
noncomputable def Ac1 (prog:Program) (w:World):HeapKind prog w PyData where
 is:=Ann
 hash:=O3 w
 draws:=Io
 room:=fun A=>A.units+10 < cLine
 inj:=fun hx hy=>by
  obtain⟨k1,_,_,as,r⟩:=hx
  obtain⟨_,_,_,bs,r'⟩:=hy
  exact SeqAt.Reads.unique _ _ _ _ _ (Md k1) r r'
 keeps:=fun x ho hd hs=>by
  obtain⟨h1,h2,h3,as,r⟩:=x
  exact⟨h1,h2,h3,as,Of ho hd hs h1 r⟩
 pyHash:=fun hu hk h=>by
  obtain⟨h1,h2,_,as,r⟩:=hk
  exact (Adq _).out h1 (by lia) r h
 eqBool:=fun hu hx hy h=>by
  obtain⟨h1,h2,_,as,r⟩:=hx
  obtain⟨h3,h4,_,bs,r'⟩:=hy
  refine SeqAt.eqBoolOverData _ _ _ _ _ _ _ _ _ _ _ _ r r' (Md h1) (Md h3) ?_ ?_
  ·have d1:=O0 h1
   have d2:=O0 h3
   lia
  ·rw[Aji h1 h3];exact h
 quiet:=fun hk h=>by
  obtain⟨h1,h2,_,as,r⟩:=hk
  exact (Y7 _).out h1 (by lia) r h
end
end L2
end S_KTree
section S_LayL
namespace L2
open PySem PySem.Spec PyProof.Rows
abbrev Key:=Sum Int Str
noncomputable def Abn:Key->Value->Bool
 |.inl k,v=>Value.isInt k v
 |.inr x,v=>Value.isStrOf x v
noncomputable def Ap7 (w:World):Key->Int
 |.inl k=>hashInt k
 |.inr x=>hashStr w x
theorem Bm:∀ {k:Key}{v:Value},Abn k v=true->(∃ i t,k=Sum.inl i/\v=Value.int i t)\/(∃ x t,k=Sum.inr x/\v=Value.str x t)
 |.inl i,v,h=>by
  obtain⟨t,e⟩:=Value.isInt_shape (k:=i) (v:=v) h
  exact .inl ⟨i,t,rfl,e⟩
 |.inr x,v,h=>by
  obtain⟨t,e⟩:=Value.isStrOf_shape (x:=x) (v:=v) h
  exact .inr ⟨x,t,rfl,e⟩
theorem Ds (x:Str) (t:Tok):Abn (.inr x) (.str x t)=true:=by simp[Abn,Value.isStrOf]
theorem Ajn (a b:Int):decide ((Sum.inl a:Key)=Sum.inl b)=(a == b):=by
 by_cases e:a=b
 ·subst e;simp
 ·have h:¬ (Sum.inl a:Key)=Sum.inl b:=fun q=>e (Sum.inl.inj q)
  rw[Arh h]
  exact (beq_eq_false_iff_ne.mpr e).symm
theorem Ajq (a b:Str):decide ((Sum.inr a:Key)=Sum.inr b)=decide (a=b):=by
 by_cases e:a=b
 ·subst e;simp
 ·have h:¬ (Sum.inr a:Key)=Sum.inr b:=fun q=>e (Sum.inr.inj q)
  rw[Arh h,Arh e]
theorem Ajo (a:Int) (b:Str):decide ((Sum.inl a:Key)=Sum.inr b)=false:=Arh (fun q=>nomatch q)
theorem Ajp (a:Str) (b:Int):decide ((Sum.inr a:Key)=Sum.inl b)=false:=Arh (fun q=>nomatch q)
def Dt (prog:Program) (w:World):PySem.KeyKind prog w Key where
 is:=Abn
 hash:=Ap7 w
 inj:=fun v a b ha hb=>by
  rcases Bm ha with ⟨i,t,rfl,rfl⟩|⟨x,t,rfl,rfl⟩
  ·rcases Bm hb with ⟨j,u,rfl,e⟩|⟨y,u,rfl,e⟩
   ·injection e with e1 _;rw[e1]
   ·exact nomatch e
  ·rcases Bm hb with ⟨j,u,rfl,e⟩|⟨y,u,rfl,e⟩
   ·exact nomatch e
   ·injection e with e1 _;rw[e1]
 byValue:=fun k v h=>by
  rcases Bm h with ⟨i,t,rfl,rfl⟩|⟨x,t,rfl,rfl⟩<;>rfl
 pyHash:=fun hv h=>by
  rcases Bm hv with ⟨i,t,rfl,rfl⟩|⟨x,t,rfl,rfl⟩
  ·exact wpAny_pyHash_int h
  ·exact wpAny_pyHash_str h
 eqBool:=fun hu hv h=>by
  rcases Bm hu with ⟨i,t,rfl,rfl⟩|⟨x,t,rfl,rfl⟩
  ·rcases Bm hv with ⟨j,u,rfl,rfl⟩|⟨y,u,rfl,rfl⟩
   ·rw[Ajn] at h;exact wpAny_eqBool_int h
   ·rw[Ajo] at h;exact SeqAt.EqAt.int_str i t y u _ _ _ _ h
  ·rcases Bm hv with ⟨j,u,rfl,rfl⟩|⟨y,u,rfl,rfl⟩
   ·rw[Ajp] at h;exact SeqAt.EqAt.str_int x t j u _ _ _ _ h
   ·rw[Ajq] at h;exact wpAny_eqBool_str h
 «strs»:=fun k x t v h=>by
  rcases Bm h with ⟨i,u,rfl,e⟩|⟨y,u,rfl,e⟩
  ·exact nomatch e
  ·injection e with e1 _
   subst e1
   cases v<;>rfl
inductive V where
 |non|bl (b:Bool)|int (i:Int)|str (x:Str)|byt (b:Array UInt8)|flt (b:UInt64)|ref (a:Addr)|ty (n:String)
 deriving DecidableEq
noncomputable def RelV:V->Value->Prop
 |.non,u=>u=Value.none
 |.bl b,u=>u=Value.bool b
 |.int i,u=>∃ t,u=Value.int i t
 |.str x,u=>∃ t,u=Value.str x t
 |.byt b,u=>∃ t,u=Value.bytes b t
 |.flt b,u=>∃ t,u=Value.float b t
 |.ref a,u=>u=Value.ref a
 |.ty n,u=>u=Value.type n
abbrev Vals:List V->List Value->Prop:=Paired RelV
theorem Vals.length {xs:List V}{us:List Value} (r:Vals xs us):xs.length=us.length:=Paired.length r
theorem Vals.get:∀ {xs:List V}{us:List Value}{i:Nat}{x:V},Vals xs us->xs[i]?=some x->∃ u,us[i]?=some u/\RelV x u
 |_,_,_,_,.nil,e=>by simp at e
 |_,_,0,_,.cons r _,e=>by simp at e;subst e;exact⟨_,rfl,r⟩
 |_,_,i+1,x,.cons _ t,e=>by
  obtain⟨u,h1,h2⟩:=Vals.get (i:=i) (x:=x) t (by simpa using e)
  exact⟨u,by simpa using h1,h2⟩
theorem Vals.append:∀ {xs ys:List V}{us ws:List Value},Vals xs us->Vals ys ws->Vals (xs++ys) (us++ws)
 |_,_,_,_,.nil,s=>s
 |_,_,_,_,.cons r t,s=>.cons r (Vals.append t s)
theorem Vals.take:∀ {xs:List V}{us:List Value} (n:Nat),Vals xs us->Vals (xs.take n) (us.take n)
 |_,_,0,_=>.nil
 |_,_,_+1,.nil=>.nil
 |_,_,n+1,.cons r t=>.cons r (Vals.take n t)
theorem Vals.drop:∀ {xs:List V}{us:List Value} (n:Nat),Vals xs us->Vals (xs.drop n) (us.drop n)
 |_,_,0,r=>r
 |_,_,_+1,.nil=>.nil
 |_,_,n+1,.cons _ t=>Vals.drop n t
def Air:Option V->Option Value->Prop
 |some v,some u=>RelV v u
 |none,none=>True
 |_,_=>False
def KV {κ:Type}:List (κ×V)->List (κ×Value)->Prop:=Paired fun (p:κ×V) (q:κ×Value)=>p.1=q.1/\RelV p.2 q.2
inductive HO where
 /-- a list -/
 |lst (xs:List V)
 /-- a tuple (never changes) -/
 |tup (xs:List V)
 /-- a dict whose keys are ints and texts;one whose keys are tuples of ints and texts (the empty one is both) -/
 |dK (kvs:List (Key×V))|dT (kvs:List (PyData×V))
 /-- a set of ints: its members,its size -/
 |set (S:Int->Bool) (n:Nat)
 /-- an instance of the class at C,its dict at dx,its attributes -/
 |ins (C dx:Addr) (fs:List (Str×V))
 /-- the dict of the instance at x -/
 |own (x:Addr)
 /-- the dict of an exception -/
 |xd (fs:List (Str×V))
 /-- a bound method,f of x -/
 |met (f x:Addr)
 /-- a range object lo,lo+1,.. below hi -/
 |rng (lo hi:Int)
 /-- a thing that is known to the object (the script;a dict while a loop walks it): read,never written while it is so -/
 |frz (o:Obj) (u:HO)
 /-- a code object's table -/
 |tbl (ps:Array Value)
 /-- any other thing,by what is true of its one object (a def of one's own: Ais a S n:=HO.ext fun h=>..) -/
 |ext (φ:Heap->Prop)
abbrev Hp:=Addr->Option HO
noncomputable def upd (H:Hp) (a:Addr) (o:HO):Hp:=fun b=>if b=a then some o else H b
theorem Be {H:Hp}{a:Addr}{o:HO}:upd H a o a=some o:=by unfold upd;rw[Aqx rfl]
theorem A0 {H:Hp}{a b:Addr}{o:HO} (h:b≠a):upd H a o b=H b:=by unfold upd;rw[Aq0 h]
theorem Ax {H:Hp}{a b:Addr}{o:HO} (h:H a=some o) (h':H b=none):a≠b:=by
 intro e;subst e;rw[h] at h';cases h'
def TupD (h:Heap) (a:Addr) (items:Array Value):Prop:=∃ o,h.get? a=some o/\o.cls=.type "tuple"/\∃ n,o.data=.seq items n/\o.dict=none
theorem TupD.is {h:Heap}{a:Addr}{items:Array Value} (x:TupD h a items):IsTup h a items:=let ⟨o,h1,h2,n,h3,_⟩:=x;⟨o,h1,h2,n,h3⟩
theorem TupD.new (h:Heap) (items:Array Value):TupD (h.push { cls:=.type "tuple",data:=.seq items }) h.objs.size items:=⟨_,Aqt _ rfl,rfl,_,rfl,rfl⟩
theorem TupD.lt {h:Heap}{a:Addr}{items:Array Value} (x:TupD h a items):a < h.objs.size:=let ⟨_,h1,_⟩:=x;Aqp h1
def Rd (H:Hp) (a:Addr) (u:HO):Prop:=H a=some u\/∃ o,H a=some (.frz o u)
def SqT (K:W.Frag) (H:Hp) (a:Addr) (xs:List V):Prop :=
 Rd H a (.tup xs) \/
  ∃ (o:Obj) (its:Array Value) (n:Nat),K.lookup a=some o/\o.cls=.type "tuple"/\o.data=.seq its n/\its.size<=sizeLine/\Vals xs its.toList/\o.dict=none
inductive KeyH (K:W.Frag) (H:Hp):PyData->V->Prop where
 |int (i:Int):KeyH K H (.int i) (.int i)
 |str (x:Str):KeyH K H (.str x) (.str x)
 |tup {ds:List PyData}{a:Addr}{vs:List V}:SqT K H a vs->Paired (KeyH K H) ds vs->KeyH K H (.tuple ds) (.ref a)
def KeyT (K:W.Frag) (H:Hp) (d:PyData) (b:Addr):Prop:=kOk d=true/\Zw d<=6/\(∃ ds,d=.tuple ds)/\KeyH K H d (.ref b)
def Ac7 (oc:Obj) (q:Str):Prop:=∃ (vs:Array Value) (t:Nat),oc.data=.fields vs/\vs[1]?=some (.str q t)
def Anr (H:Hp) (h:Heap) (a:Addr) (qs:Array Value):Prop:=∃ ps:Array Value,h.get? a=some (W.tabObj ps)/\TriplesOk ps.toList /\
 ∀ (pos:Pos) (cv:Value),codeAmong pos ps.toList=some cv->∃ (c:Addr) (oc:Obj) (u:HO) (q:Str) (t:Nat),qs[0]?=some (.str q t)/\cv=.ref c/\H c=some (.frz oc u)/\Ac7 oc q
section
variable (P:Program) (w:World) (K:W.Frag)
def ObjOk (H:Hp) (h:Heap) (a:Addr):HO->Prop
 |.lst xs=>xs.length<=sizeLine/\∃ (its:List Value) (n:Nat),Vals xs its/\h.get? a=some { cls:=.type "list",data:=.seq its.toArray n }
 |.tup xs=>xs.length<=sizeLine/\∃ its:List Value,Vals xs its/\TupD h a its.toArray
 |.dK kvs=>kvs.length<=sizeLine/\(a == sysModules)=false/\∃ vs,KV kvs vs/\h.DictOf (Dt P w) a vs
 |.dT kvs=>kvs.length<=sizeLine/\(a == sysModules)=false/\∃ xs:List (PyData×Addr×Value),
   Paired (fun (p:PyData×V) (q:PyData×Addr×Value)=>p.1=q.1/\KeyT K H q.1 q.2.1/\RelV p.2 q.2.2) kvs xs /\
   ∃ o es ep,h.get? a=some o/\o.ExactDict/\o.data=.dict es ep/\es.toList=xs.map (entryOfKey (Ac1 P w))/\(xs.map (·.1)).Nodup
 |.set S n=>h.SetOf (intKind P w) a S n
 |.ins C dx fs=>H dx=some (.own a)/\fs.length<=1000/\dx≠a/\h.get? a=some (W.instObj C dx) /\
   ∃ mA,h.Ns1 dx mA/\(∀ f,Air (fs.lookup f) (mA f))/\PySem.Within mA (fs.map (·.1))
 |.own _=>∃ o,h.get? a=some o
 |.xd fs=>∃ mA,h.Ns1 a mA/\∀ f,Air (fs.lookup f) (mA f)
 |.rng lo hi=>∃ t u v,h.get? a=some { cls:=.type "range",data:=.fields #[.int lo t,.int hi u,.int 1 v] }
 |.frz o u=>h.get? a=some o/\ObjOk H h a u
 |.tbl ps=>Anr H h a ps
 |.met f x=>h.get? a=some (W.methodObj (.ref f) (.ref x))
 |.ext φ=>φ h/\(∃ o,h.get? a=some o)/\∀ h1 h2:Heap,φ h1->(∀ o,h1.get? a=some o->h2.get? a=some o)->φ h2
def HOk (H:Hp) (h:Heap):Prop:=∀ a o,H a=some o->ObjOk P w K H h a o
end
section
variable {P:Program}{w:World}{K:W.Frag}{H H':Hp}{h h':Heap}{a:Addr}{o:HO}
theorem ObjOk.lt (x:ObjOk P w K H h a o):a < h.objs.size:=by
 cases o with
 |lst xs=>obtain⟨_,_,_,_,e⟩:=x;exact Aqp e
 |tup xs=>obtain⟨_,_,_,p⟩:=x;exact p.lt
 |dK kvs=>obtain⟨_,_,_,_,o,_,_,e,_⟩:=x;exact Aqp e
 |dT kvs=>obtain⟨_,_,_,_,o,_,_,e,_⟩:=x;exact Aqp e
 |set S n=>obtain⟨o,_,_,_,e,_⟩:=x;exact Aqp e
 |ins C dx fs=>obtain⟨_,_,_,e,_⟩:=x;exact Aqp e
 |own y=>obtain⟨_,e⟩:=x;exact Aqp e
 |xd fs=>obtain⟨_,⟨_,_,_,e,_⟩,_⟩:=x;exact Aqp e
 |rng lo hi=>obtain⟨_,_,_,e⟩:=x;exact Aqp e
 |frz ob u=>obtain⟨e,_⟩:=x;exact Aqp e
 |tbl ps=>obtain⟨_,e,_⟩:=x;exact Aqp e
 |met f y=>exact Aqp (show h.get? a=some _ from x)
 |ext φ=>obtain⟨_,⟨_,e⟩,_⟩:=x;exact Aqp e
theorem Paired.mapP {α β:Type}{F G:α->β->Prop}:∀ {l₁:List α}{l₂:List β},Paired F l₁ l₂->(∀ a b,F a b->G a b)->Paired G l₁ l₂
 |_,_,.nil,_=>.nil
 |_,_,.cons r t,f=>.cons (f _ _ r) (Paired.mapP t f)
theorem SqT.upR {K:W.Frag}{H H':Hp} (ht:∀ b xs,Rd H b (.tup xs)->Rd H' b (.tup xs)) {a:Addr}{xs:List V} (h:SqT K H a xs):SqT K H' a xs:=h.elim (fun z=>.inl (ht _ _ z)) .inr
theorem KeyH.up {K:W.Frag}{H H':Hp} (ht:∀ b xs,Rd H b (.tup xs)->Rd H' b (.tup xs)) (d:PyData):∀ {v:V},KeyH K H d v->KeyH K H' d v:=by
 match d with
 |.int i=>intro v h;cases h;exact .int _
 |.str x=>intro v h;cases h;exact .str _
 |.tuple ds =>
  intro v h
  cases h with
  |@tup _ a vs hs hp =>
  refine .tup (SqT.upR ht hs) ?_
  have go:∀ (es:List PyData) (us:List V),(∀ e∈es,e∈ds)->Paired (KeyH K H) es us->Paired (KeyH K H') es us:=by
   intro es us hm q
   induction q with
   |nil=>exact .nil
   |@cons e u es us h1 h2 ih=>exact .cons (KeyH.up ht e h1) (ih fun x hx=>hm x (Aqr _ hx))
  exact go ds vs (fun _ h=>h) hp
 |.none=>intro v h;cases h
 |.bool _=>intro v h;cases h
 |.list _=>intro v h;cases h
 |.dict _=>intro v h;cases h
termination_by sizeOf d
decreasing_by
 have:=Atn (hm e (Aqy ..))
 simp;lia
theorem KeyT.up {K:W.Frag}{H H':Hp} (ht:∀ b xs,Rd H b (.tup xs)->Rd H' b (.tup xs)) {d:PyData}{b:Addr} (h:KeyT K H d b):KeyT K H' d b:=⟨h.1,h.2.1,h.2.2.1,h.2.2.2.up ht⟩
theorem Rd.upd_none {H:Hp}{p:Addr}{o u:HO} (hn:H p=none) {c:Addr} (q:Rd H c u):Rd (upd H p o) c u:=by
 rcases q with q|⟨x,q⟩
 ·exact .inl (by rw[A0 (Ax q hn)];exact q)
 ·exact .inr ⟨x,by rw[A0 (Ax q hn)];exact q⟩
theorem ObjOk.stay (x:ObjOk P w K H h a o) (k:∀ b u,(b=a\/H b=some (.own a))->h.get? b=some u->h'.get? b=some u)
  (ho:∀ b,H b=some (.own a)->H' b=some (.own a)) (ht:∀ b xs,Rd H b (.tup xs)->Rd H' b (.tup xs)) (hf:∀ b x u,H b=some (.frz x u)->H' b=some (.frz x u)):ObjOk P w K H' h' a o:=by
 induction o with
 |lst xs=>obtain⟨z,its,n,r,e⟩:=x;exact⟨z,its,n,r,k _ _ (.inl rfl) e⟩
 |tup xs=>obtain⟨z,its,r,ob,e,c⟩:=x;exact⟨z,its,r,ob,k _ _ (.inl rfl) e,c⟩
 |dK kvs=>obtain⟨z,y,vs,r,ob,es,ep,e,c⟩:=x;exact⟨z,y,vs,r,ob,es,ep,k _ _ (.inl rfl) e,c⟩
 |dT kvs =>
  obtain⟨z,y,xs,r,ob,es,ep,e,c⟩:=x
  exact⟨z,y,xs,Paired.mapP r fun p q z=>⟨z.1,z.2.1.up ht,z.2.2⟩,ob,es,ep,k _ _ (.inl rfl) e,c⟩
 |set S n=>obtain⟨ob,es,ep,t,e,c⟩:=x;exact⟨ob,es,ep,t,k _ _ (.inl rfl) e,c⟩
 |ins C dx fs =>
  obtain⟨d,z,ne,e,mA,⟨od,es,ep,e2,c⟩,r⟩:=x
  exact⟨ho _ d,z,ne,k _ _ (.inl rfl) e,mA,⟨od,es,ep,k _ _ (.inr d) e2,c⟩,r⟩
 |own y=>obtain⟨ob,e⟩:=x;exact⟨ob,k _ _ (.inl rfl) e⟩
 |xd fs=>obtain⟨mA,⟨od,es,ep,e,c⟩,r⟩:=x;exact⟨mA,⟨od,es,ep,k _ _ (.inl rfl) e,c⟩,r⟩
 |rng lo hi=>obtain⟨t,u,v,e⟩:=x;exact⟨t,u,v,k _ _ (.inl rfl) e⟩
 |frz ob u ih=>obtain⟨e,q⟩:=x;exact⟨k _ _ (.inl rfl) e,ih q⟩
 |tbl ps =>
  obtain⟨qs,e,t,c⟩:=x
  exact⟨qs,k _ _ (.inl rfl) e,t,fun pos cv z=>let ⟨c',oc,u,q,t',z1,z2,z3,z4⟩:=c pos cv z;⟨c',oc,u,q,t',z1,z2,hf _ _ _ z3,z4⟩⟩
 |met f y =>
  have e:h.get? a=some (W.methodObj (.ref f) (.ref y)):=x
  show h'.get? a=some (W.methodObj (.ref f) (.ref y))
  exact k a _ (.inl rfl) e
 |ext φ=>obtain⟨p,⟨o,e⟩,st⟩:=x;exact⟨st _ _ p fun o q=>k _ _ (.inl rfl) q,⟨o,k _ _ (.inl rfl) e⟩,st⟩
theorem HOk.lt (x:HOk P w K H h) (e:H a=some o):a < h.objs.size:=(x a o e).lt
theorem HOk.fresh (x:HOk P w K H h) (e:h.objs.size<=a):H a=none:=by
 cases q:H a with
 |none=>rfl
 |some u=>exact absurd (Aqz (x.lt q) e) (Arj _)
theorem HOk.kept (x:HOk P w K H h) (k:∀ b u,h.get? b=some u->h'.get? b=some u):HOk P w K H h':=fun a o e =>
 (x a o e).stay (fun b u _ q=>k b u q) (fun _ q=>q) (fun _ _ q=>q) fun _ _ _ q=>q
theorem HOk.laid (x:HOk P w K H h) (k:∀ b u,h.get? b=some u->h'.get? b=some u) (hp:h.objs.size<=a) (new:ObjOk P w K (upd H a o) h' a o):HOk P w K (upd H a o) h':=fun b u e=>by
 have hn:=x.fresh hp
 by_cases hb:b=a
 ·subst hb;rw[Be] at e;cases e;exact new
 ·rw[A0 hb] at e
  exact (x b u e).stay (fun c v _ q=>k c v q) (fun c q=>by rw[A0 (Ax q hn)];exact q) (fun c xs q=>Rd.upd_none hn q) fun c x u q=>by rw[A0 (Ax q hn)];exact q
end
theorem Rd.ok {P:Program}{w:World}{K:W.Frag}{H:Hp}{h:Heap}{a:Addr}{u:HO} (r:Rd H a u) (x:HOk P w K H h):ObjOk P w K H h a u:=by
 rcases r with r|⟨o,r⟩
 ·exact x a u r
 ·obtain⟨_,q⟩:=x a _ r
  exact q
noncomputable def Mut:Option HO->Prop
 |some (.lst _)=>True
 |some (.dK _)=>True
 |some (.dT _)=>True
 |some (.set _ _)=>True
 |some (.ins _ _ _)=>True
 |some (.ext _)=>True
 |_=>False
theorem Rd.upd_mut {H:Hp}{x:Addr}{o:HO} (mu:Mut (H x)) {c:Addr}{xs:List V} (q:Rd H c (.tup xs)):Rd (upd H x o) c (.tup xs):=by
 rcases q with q|⟨y,q⟩
 ·exact .inl (by rw[A0 (fun z=>by subst z;rw[q] at mu;exact mu)];exact q)
 ·exact .inr ⟨y,by rw[A0 (fun z=>by subst z;rw[q] at mu;exact mu)];exact q⟩
section
variable {P:Program}{w:World}{K:W.Frag}{H:Hp}{h h':Heap}{x e:Addr}{o':HO}
theorem HOk.write (ok:HOk P w K H h) (mu:Mut (H x)) (he:e=x\/H e=some (.own x)) (k:∀ b u,b≠e->h.get? b=some u->h'.get? b=some u) (heo:∃ u,h'.get? e=some u)
  (new:ObjOk P w K (upd H x o') h' x o'):HOk P w K (upd H x o') h':=fun b u q=>by
 have nown:∀ c y,H c=some (.own y)->c≠x:=fun c y r z=>by subst z;rw[r] at mu;exact mu
 have ntup:∀ c xs,H c=some (.tup xs)->c≠x:=fun c xs r z=>by subst z;rw[r] at mu;exact mu
 by_cases hb:b=x
 ·subst hb;rw[Be] at q;cases q;exact new
 ·rw[A0 hb] at q
  by_cases hbe:b=e
  ·have q':H b=some (.own x):=by
    rcases he with z|z
    ·exact absurd (hbe.trans z) hb
    ·rw[hbe];exact z
   rw[q] at q';cases q'
   obtain⟨v,hv⟩:=heo
   exact⟨v,by rw[hbe];exact hv⟩
  ·refine (ok b u q).stay (fun c v hc r=>k c v ?_ r) (fun c r=>by rw[A0 (nown c b r)];exact r) (fun c xs r=>Rd.upd_mut mu r) fun c y u r=>by rw[A0 (fun z=>by subst z;rw[r] at mu;exact mu)];exact r
   rcases hc with rfl|hc
   ·exact hbe
   ·rintro rfl
    rcases he with z|z
    ·exact nown c b hc z
    ·rw[hc] at z;cases z;exact hb rfl
end
structure Un (fs ex:List Addr) (H H':Hp) (h h':Heap):Prop where
 keep:∀ b o,h.get? b=some o->H b=none->b∉fs->b∉ex->h'.get? b=some o
 slot:∀ b o,h.get? b=some o->H b=none->b∈fs->b∉ex->∃ sl,h'.get? b=some { o with slots:=sl }
 free:∀ b o,h.get? b=some o->H b=none->b∉ex->H' b=none
 there:∀ b o,h.get? b=some o->b∉ex->∃ o',h'.get? b=some o'
 tups:∀ b xs,H b=some (.tup xs)->H' b=some (.tup xs)
 frzs:∀ b o u,H b=some (.frz o u)->H' b=some (.frz o u)
 tbls:∀ b ps,H b=some (.tbl ps)->∃ more,H' b=some (.tbl (ps++more))
section
variable {fs fs' ex ex':List Addr}{H H1 H2:Hp}{h h1 h2 h':Heap}{a x e:Addr}{o:HO}
theorem Un.any (u:Un fs ex H H1 h h1) {b:Addr}{ob:Obj} (q:h.get? b=some ob) (n:H b=none) (hx:b∉ex):∃ sl,h1.get? b=some { ob with slots:=sl }:=by
 by_cases hb:b∈fs
 ·exact u.slot b ob q n hb hx
 ·exact⟨ob.slots,u.keep b ob q n hb hx⟩
theorem Un.kept (k:∀ b u,h.get? b=some u->h'.get? b=some u):Un fs ex H H h h' :=
 ⟨fun b ob q _ _ _=>k b ob q,fun b ob q _ _ _=>⟨ob.slots,k b ob q⟩,fun _ _ _ n _=>n,fun b ob q _=>⟨ob,k b ob q⟩,fun _ _ q=>q,fun _ _ _ q=>q,fun _ ps q=>⟨#[],by rw[q];simp⟩⟩
theorem Un.refl:Un fs ex H H h h:=Un.kept fun _ _ q=>q
theorem Un.laid (k:∀ b u,h.get? b=some u->h'.get? b=some u) (hp:h.objs.size<=a) (hn:H a=none):Un fs ex H (upd H a o) h h' where
 keep:=fun b u q _ _ _=>k b u q
 slot:=fun b u q _ _ _=>⟨u.slots,k b u q⟩
 free:=fun b u q n _=>by rw[A0 (Aq2 (Aqz (Aqp q) hp))];exact n
 there:=fun b u q _=>⟨u,k b u q⟩
 tups:=fun b xs q=>by rw[A0 (Ax q hn)];exact q
 frzs:=fun b u xs q=>by rw[A0 (Ax q hn)];exact q
 tbls:=fun b ps q=>⟨#[],by rw[A0 (Ax q hn),q];simp⟩
theorem Un.write (mu:Mut (H x)) (he:e=x\/H e=some (.own x)) (k:∀ b u,b≠e->h.get? b=some u->h'.get? b=some u) (heo:∃ u,h'.get? e=some u):Un fs ex H (upd H x o) h h':=by
 have hx:∀ b,H b=none->b≠x:=fun b n z=>by subst z;rw[n] at mu;exact mu
 have hb:∀ b,H b=none->b≠e:=fun b n z=>by
  subst z
  rcases he with r|r
  ·exact hx b n r
  ·rw[n] at r;cases r
 have hm:∀ b u,H b=some u->¬ Mut (some u)->b≠x:=fun b u q nm z=>by subst z;rw[q] at mu;exact nm mu
 refine⟨fun b u q n _ _=>k b u (hb b n) q,fun b u q n _ _=>⟨u.slots,k b u (hb b n) q⟩,fun b u q n _=>by rw[A0 (hx b n)];exact n,fun b u q _=>?_,
  fun b xs q=>by rw[A0 (hm b _ q fun z=>z)];exact q,fun b u xs q=>by rw[A0 (hm b _ q fun z=>z)];exact q,fun b ps q=>⟨#[],by rw[A0 (hm b _ q fun z=>z),q];simp⟩⟩
 by_cases hbe:b=e
 ·subst hbe;exact heo
 ·exact⟨u,k b u hbe q⟩
end
noncomputable def trk (h:Heap) (H:Hp):List Addr:=(List.range h.objs.size).filter fun a=>(H a).isSome
def Abk (h:Heap) (H:Hp):Heap:=W.hideAll h (trk h H)
theorem X0 (h:Heap) (H:Hp):(Abk h H).objs.size=h.objs.size:=W.hideAll_size _ _
theorem Abl {h:Heap}{H:Hp}{b:Addr}{o:Obj} (e:h.get? b=some o) (n:H b=none):(Abk h H).get? b=some o :=
 W.hideAll_get _ e fun hm=>by
  have q:(H b).isSome=true:=(List.mem_filter.mp hm).2
  rw[n] at q;simp at q
theorem Agm {h:Heap}{H:Hp}{b:Addr}{o:Obj} (e:(Abk h H).get? b=some o):h.get? b=some o/\H b=none:=by
 have e':h.get? b=some o:=W.of_hideAll (trk h H) e
 refine⟨e',?_⟩
 cases q:H b with
 |none=>rfl
 |some x =>
  have hm:b∈trk h H:=List.mem_filter.mpr ⟨List.mem_range.mpr (Aqp e'),by simp[q]⟩
  have z:(Abk h H).get? b=none:=W.hideAll_none (trk h H) hm
  rw[z] at e;cases e
structure Mod (K:W.Frag) (mg:Str->Option Value) (base:Heap):Prop where
 kin:K.In base
 glob:base.Ns mainGlobals mg
 blt:∃ mb,base.Ns builtinsNs mb/\∀ x:Str,x≠"__name__"->mb x=bootBuiltins x
 nolimit:base.NoLimit
structure Cx where
 prog:Program
 w:World
 K:W.Frag
 mg:Str->Option Value
 base:Heap
 A:Around
 N:List Str
 s₀:Shared
 H₀:Hp
 env:Env
 outer:List Env
 stack:List Env
 ex:List Addr
 fn:Str->Bool
 calm:Bool
 pn:List (Addr×Obj)
 xe:Value->Shared->Prop
noncomputable def frs (l:List Env):List Addr:=l.filterMap (·.frame)
abbrev Cx.fs (X:Cx):List Addr:=frs X.outer
def Vis (sc:Scope) (x:Str):Prop:=sc.names.lookup x=some .local\/sc.names.lookup x=some .cell\/sc.names.lookup x=some .free
def Loc (sc:Scope) (x:Str):Prop:=sc.names.lookup x=some .local\/sc.names.lookup x=some .cell
def Apy (env:Env) (h:Heap) (m:Str->Option Value) (x:Str) (u:Value):Prop :=
 (env.kindOf x=some .local/\m x=some u)\/((env.kindOf x=some .cell\/env.kindOf x=some .free)/\∃ c,env.cells.lookup x=some c/\h.IsCell c (some u))
structure Cx.Ok (X:Cx):Prop where
 mod:Mod X.K X.mg X.base
 kind:X.env.scope.kind=.function
 glob:X.env.globals=mainGlobals
 blt:X.env.builtins=builtinsNs
 above:X.s₀.heap.objs.size<=X.env.locals
 inj:∀ x y c,X.env.cells.lookup x=some c->X.env.cells.lookup y=some c->x=y
 has:∀ x,(X.env.kindOf x=some .cell\/X.env.kindOf x=some .free)->∃ c,X.env.cells.lookup x=some c
 cab:∀ x c,X.fn x=true->X.env.cells.lookup x=some c->X.s₀.heap.objs.size<=c
 hd:X.calm=true->X.A.handled=none
 frames:X.A.frames=some X.stack
 stk:X.stack=X.outer\/(X.stack=X.env::X.outer/\X.env.frame=some X.env.locals)
 exf:∀ b∈X.ex,b≠X.env.locals/\∀ x c,X.env.cells.lookup x=some c->c≠b
 bs:∀ b o,X.base.get? b=some o->X.s₀.heap.get? b=some o/\X.H₀ b=none
 bsz:X.base.objs.size<=X.s₀.heap.objs.size
 noex:∀ b o,X.base.get? b=some o->b∉X.ex
 exfs:∀ b∈X.ex,b∉X.fs
 funs:X.s₀.heap.FunFrames X.base X.outer
 frf:∀ b∈X.fs,X.H₀ b=none
structure Inv (X:Cx) (pins:List (Addr×Obj)) (σ:List (Option V)) (H:Hp) (s:Shared):Prop where
 ok:X.Ok
 os:s.os=X.s₀.os
 bare:AllBare s.gens
 base:Un X.fs X.ex X.H₀ H X.s₀.heap s.heap
 loc:∃ m,s.heap.Ns X.env.locals m/\∀ (i:Nat) (x:Str) (v:V),X.N[i]?=some x->σ[i]?=some (some v)->Vis X.env.scope x->∃ u,RelV v u/\Apy X.env s.heap m x u
 cell:∀ x c,X.env.cells.lookup x=some c->∃ v,s.heap.IsCell c v
 free:H X.env.locals=none
 freeC:∀ x c,X.env.cells.lookup x=some c->H c=none
 pin:∀ p∈X.pn++pins,s.heap.get? p.1=some p.2/\H p.1=none/\p.1≠X.env.locals/\p.1∉X.fs/\∀ v,p.2.data≠.cell v
 hok:HOk X.prog X.w X.K H s.heap
 len:σ.length=X.N.length
section
variable {X:Cx}{pins:List (Addr×Obj)}{σ:List (Option V)}{H H':Hp}{s:Shared}{h':Heap}
theorem Cx.Ok.nofr (ok:X.Ok) {b:Addr}{o:Obj} (e:X.base.get? b=some o):b∉X.fs:=fun hb=>by
 have:=(ok.funs.mem hb).1
 rw[e] at this;cases this
theorem Inv.bs (I:Inv X pins σ H s):∀ b o,X.base.get? b=some o->s.heap.get? b=some o/\H b=none:=fun b o e =>
 ⟨I.base.keep b o (I.ok.bs b o e).1 (I.ok.bs b o e).2 (I.ok.nofr e) (I.ok.noex b o e),I.base.free b o (I.ok.bs b o e).1 (I.ok.bs b o e).2 (I.ok.noex b o e)⟩
theorem Inv.bk (I:Inv X pins σ H s):∀ b o,X.base.get? b=some o->s.heap.get? b=some o:=fun b o e=>(I.bs b o e).1
theorem Inv.mod (I:Inv X pins σ H s):Mod X.K X.mg X.base:=I.ok.mod
theorem Inv.kIn (I:Inv X pins σ H s):X.K.In s.heap:=I.ok.mod.kin.keeps I.bk
theorem Inv.lt (I:Inv X pins σ H s):X.env.locals < s.heap.objs.size:=let ⟨_,hn,_⟩:=I.loc;hn.lt
theorem Inv.sz (I:Inv X pins σ H s):X.s₀.heap.objs.size<=s.heap.objs.size:=Arf I.ok.above (Ate I.lt)
theorem Inv.nofs (I:Inv X pins σ H s) {a:Addr} (h:s.heap.objs.size<=a):a∉X.fs:=fun hb=>by
 obtain⟨_,o,ho,_⟩:=I.ok.funs.mem hb
 exact absurd (Aqz (Aqp ho) (Arf I.sz h)) (Arj _)
theorem Inv.cne (I:Inv X pins σ H s):∀ x c,X.env.cells.lookup x=some c->c≠X.env.locals:=fun x c e z=>by
 obtain⟨v,o,ho,hd⟩:=I.cell x c e
 obtain⟨m,⟨o',es,ep,ho',hd',_⟩,_⟩:=I.loc
 rw[z,ho'] at ho;cases ho;rw[hd'] at hd;cases hd
theorem Inv.funs (I:Inv X pins σ H s):s.heap.FunFrames X.base X.outer:=by
 have all:∀ (l:List Env),(∀ b∈frs l,b∈X.fs)->X.s₀.heap.FunFrames X.base l->s.heap.FunFrames X.base l:=by
  intro l
  induction l with
  |nil=>intro _ _;trivial
  |cons env r ih =>
   intro hs hl
   obtain⟨hk,⟨L,o,hf,hn,ho,hd⟩,hr⟩:=hl
   have hL:L∈X.fs:=hs L (by unfold frs;rw[List.filterMap_cons,hf];exact Aqy)
   obtain⟨sl,e⟩:=I.base.slot L o ho (I.ok.frf L hL) hL fun z=>I.ok.exfs L z hL
   exact⟨hk,⟨L,_,hf,hn,e,hd⟩,ih (fun b hb=>hs b (by unfold frs;rw[List.filterMap_cons,hf];exact Aqr _ hb)) hr⟩
 exact all X.outer (fun _ hb=>hb) I.ok.funs
theorem Inv.stack (I:Inv X pins σ H s):s.heap.FunFrames X.base X.stack:=by
 rcases I.ok.stk with e|⟨e,hf⟩
 ·rw[e];exact I.funs
 ·rw[e]
  obtain⟨m,hn,_⟩:=I.loc
  refine .cons (by rw[I.ok.kind];decide) hf hn ?_ I.funs
  exact Heap.get?_none_of_le (Arf I.ok.bsz I.ok.above)
theorem Inv.stkSub (I:Inv X pins σ H s):∀ b∈frs X.stack,b∈X.env.locals::X.fs:=fun b hb=>by
 rcases I.ok.stk with e|⟨e,hf⟩
 ·rw[e] at hb;exact Aqr _ hb
 ·rw[e] at hb
  unfold frs at hb
  rw[List.filterMap_cons,hf] at hb
  exact hb
theorem Inv.stkFree (I:Inv X pins σ H s):∀ b∈frs X.stack,H b=none:=fun b hb=>by
 rcases List.mem_cons.mp (I.stkSub b hb) with e|hb
 ·rw[e];exact I.free
 ·obtain⟨_,o,ho,_⟩:=I.ok.funs.mem hb
  exact I.base.free b o ho (I.ok.frf b hb) fun z=>I.ok.exfs b z hb
theorem Inv.step {g':Array GenState}{t':Nat}{d':Drawn}{ch:List Addr} (I:Inv X pins σ H s)
  (hch:∀ b∈ch,(b∈X.ex\/X.s₀.heap.objs.size<=b)/\b≠X.env.locals/\(∀ x c,X.env.cells.lookup x=some c->c≠b)/\∀ p∈X.pn++pins,p.1≠b)
  (keep:∀ b o,b≠X.env.locals->b∉X.fs->b∉ch->s.heap.get? b=some o->H b=none->h'.get? b=some o)
  (slot:∀ b o,b≠X.env.locals->b∈X.fs->b∉ch->s.heap.get? b=some o->H b=none->∃ sl,h'.get? b=some { o with slots:=sl }) (free:∀ b o,b∉ch->s.heap.get? b=some o->H b=none->H' b=none)
  (there:∀ b o,b∉ch->s.heap.get? b=some o->∃ o',h'.get? b=some o')
  (tups:∀ b xs,H b=some (.tup xs)->H' b=some (.tup xs)) (frzs:∀ b o u,H b=some (.frz o u)->H' b=some (.frz o u)) (tbls:∀ b ps,H b=some (.tbl ps)->∃ more,H' b=some (.tbl (ps++more)))
  (ns:∀ m,s.heap.Ns X.env.locals m->h'.Ns X.env.locals m) (hok:HOk X.prog X.w X.K H' h') (hg:AllBare g') :
  Inv X pins σ H' { s with heap:=h',gens:=g',drawn:=d',toks:=t' }:=by
 have neL:∀ b o,X.s₀.heap.get? b=some o->b≠X.env.locals:=fun b o e=>Aq2 (Aqz (Aqp e) I.ok.above)
 have neC:∀ b o,X.s₀.heap.get? b=some o->b∉X.ex->b∉ch:=fun b o e hx hb=>by
  rcases (hch b hb).1 with z|z
  ·exact hx z
  ·exact absurd (Aqz (Aqp e) z) (Arj _)
 have cellK:∀ x c,X.env.cells.lookup x=some c->∀ v,s.heap.IsCell c v->h'.IsCell c v:=fun x c e v ⟨o,ho,hd⟩=>by
  have nch:c∉ch:=fun z=>(hch c z).2.2.1 x c e rfl
  by_cases hc:c∈X.fs
  ·obtain⟨sl,q⟩:=slot c o (I.cne x c e) hc nch ho (I.freeC x c e)
   exact⟨_,q,hd⟩
  ·exact⟨o,keep c o (I.cne x c e) hc nch ho (I.freeC x c e),hd⟩
 refine⟨I.ok,I.os,hg,⟨fun b o e n hb hx=>?_,fun b o e n hb hx=>?_,fun b o e n hx=>?_,fun b o e hx=>?_,fun b xs e=>tups b xs (I.base.tups b xs e),fun b o xs e=>frzs b o xs (I.base.frzs b o xs e),fun b ps e=>?_⟩,?_,fun x c e=>?_,?_,fun x c e=>?_,fun p hp=>?_,hok,I.len⟩
 ·exact keep b o (neL b o e) hb (neC b o e hx) (I.base.keep b o e n hb hx) (I.base.free b o e n hx)
 ·obtain⟨sl,e1⟩:=I.base.slot b o e n hb hx
  obtain⟨sl',e2⟩:=slot b _ (neL b o e) hb (neC b o e hx) e1 (I.base.free b o e n hx)
  exact⟨sl',e2⟩
 ·obtain⟨o',e1⟩:=I.base.there b o e hx
  exact free b o' (neC b o e hx) e1 (I.base.free b o e n hx)
 ·obtain⟨o',e1⟩:=I.base.there b o e hx
  exact there b o' (neC b o e hx) e1
 ·obtain⟨m1,e1⟩:=I.base.tbls b ps e
  obtain⟨m2,e2⟩:=tbls b _ e1
  exact⟨m1++m2,by rw[e2,Array.append_assoc]⟩
 ·obtain⟨m,hn,hl⟩:=I.loc
  refine⟨m,ns m hn,fun i x v e1 e2 e3=>?_⟩
  obtain⟨u,r,l⟩:=hl i x v e1 e2 e3
  refine⟨u,r,?_⟩
  rcases l with l|⟨k,c,e,z⟩
  ·exact .inl l
  ·exact .inr ⟨k,c,e,cellK x c e _ z⟩
 ·obtain⟨v,z⟩:=I.cell x c e
  exact⟨v,cellK x c e v z⟩
 ·obtain⟨m,⟨o,_,_,ho,_⟩,_⟩:=I.loc
  exact free _ o (fun z=>(hch _ z).2.1 rfl) ho I.free
 ·obtain⟨v,o,ho,hd⟩:=I.cell x c e
  exact free c o (fun z=>(hch c z).2.2.1 x c e rfl) ho (I.freeC x c e)
 ·obtain⟨e,n,ne,nf,d⟩:=I.pin p hp
  have nch:p.1∉ch:=fun z=>(hch p.1 z).2.2.2 p hp rfl
  exact⟨keep p.1 p.2 ne nf nch e n,free p.1 p.2 nch e n,ne,nf,d⟩
theorem Inv.un {t':Nat} (I:Inv X pins σ H s) (u:Un X.fs [] H H' s.heap h') (hok:HOk X.prog X.w X.K H' h'):Inv X pins σ H' { s with heap:=h',toks:=t' }:=by
 obtain⟨m,⟨o,es,ep,ho,r⟩,_⟩:=id I.loc
 obtain⟨sl,hL⟩:=u.any ho I.free (by simp)
 exact I.step (g':=s.gens) (d':=s.drawn) (ch:=[]) (fun _ z=>nomatch z) (fun b o _ hb _ e n=>u.keep b o e n hb (by simp)) (fun b o _ hb _ e n=>u.slot b o e n hb (by simp)) (fun b o _ e n=>u.free b o e n (by simp)) (fun b o _ e=>u.there b o e (by simp)) u.tups u.frzs u.tbls (fun m' hm=>by
  obtain⟨o',es',ep',ho',r'⟩:=hm
  rw[ho] at ho';cases ho'
  exact⟨_,es',ep',hL,r'⟩) hok I.bare
theorem Inv.call {g':Array GenState}{t':Nat}{d':Drawn}{ch:List Addr} (I:Inv X pins σ H s) (u:Un (frs X.stack) ch H H' s.heap h') (hok:HOk X.prog X.w X.K H' h') (hg:AllBare g')
  (hch:∀ b∈ch,(b∈X.ex\/X.s₀.heap.objs.size<=b)/\b≠X.env.locals/\(∀ x c,X.env.cells.lookup x=some c->c≠b)/\∀ p∈X.pn++pins,p.1≠b) :
  Inv X pins σ H' { s with heap:=h',gens:=g',drawn:=d',toks:=t' }:=by
 obtain⟨m,⟨o,es,ep,ho,r⟩,_⟩:=id I.loc
 obtain⟨sl,hL⟩:=u.any ho I.free fun z=>(hch _ z).2.1 rfl
 exact I.step (ch:=ch) hch (fun b o hL hb hc e n=>u.keep b o e n (fun z=>(List.mem_cons.mp (I.stkSub b z)).elim hL hb) hc) (fun b o _ _ hc e n=>u.any e n hc) (fun b o hc e n=>u.free b o e n hc) (fun b o hc e=>u.there b o e hc) u.tups u.frzs u.tbls (fun m' hm=>by
  obtain⟨o',es',ep',ho',r'⟩:=hm
  rw[ho] at ho';cases ho'
  exact⟨_,es',ep',hL,r'⟩) hok hg
theorem Inv.turned {t':Nat}{it:Addr} (I:Inv X pins σ H s) (k:∀ b o,b≠it->s.heap.get? b=some o->h'.get? b=some o) (hn:H it=none) (hL:it≠X.env.locals)
  (h1:it∈X.ex\/X.s₀.heap.objs.size<=it) (h2:∀ x c,X.env.cells.lookup x=some c->c≠it) (h3:∀ p∈X.pn++pins,p.1≠it):Inv X pins σ H { s with heap:=h',toks:=t' }:=by
 have nit:∀ b u,H b=some u->b≠it:=fun b u e z=>by rw[z,hn] at e;cases e
 refine I.step (g':=s.gens) (d':=s.drawn) (ch:=[it]) (fun b hb=>?_) (fun b o _ _ hc e _=>k b o (fun z=>hc (by simp[z])) e) (fun b o _ _ hc e _=>⟨o.slots,k b o (fun z=>hc (by simp[z])) e⟩) (fun _ _ _ _ n=>n)
  (fun b o hc e=>⟨o,k b o (fun z=>hc (by simp[z])) e⟩) (fun _ _ e=>e) (fun _ _ _ e=>e) (fun b ps e=>⟨#[],by rw[e];simp⟩) (fun m hm=>?_) (fun b u e=>?_) I.bare
 ·have e:b=it:=by simpa using hb
  subst e
  exact⟨h1,hL,h2,h3⟩
 ·obtain⟨o,es,ep,ho,r⟩:=hm
  exact⟨o,es,ep,k _ o (Asr hL) ho,r⟩
 ·refine (I.hok b u e).stay (fun c v hc q=>k c v ?_ q) (fun _ q=>q) (fun _ _ q=>q) fun _ _ _ q=>q
  rcases hc with z|z
  ·rw[z];exact nit b u e
  ·exact nit c _ z
theorem Inv.tok (I:Inv X pins σ H s) (t:Nat):Inv X pins σ H { s with toks:=t }:=I.un (h':=s.heap) (t':=t) Un.refl I.hok
theorem Inv.kept {t':Nat} (I:Inv X pins σ H s) (k:∀ b u,s.heap.get? b=some u->h'.get? b=some u):Inv X pins σ H { s with heap:=h',toks:=t' }:=I.un (Un.kept k) (I.hok.kept k)
theorem Inv.laid {a:Addr}{o:HO}{t':Nat} (I:Inv X pins σ H s) (k:∀ b u,s.heap.get? b=some u->h'.get? b=some u) (hp:s.heap.objs.size<=a) (new:ObjOk X.prog X.w X.K (upd H a o) h' a o) :
  Inv X pins σ (upd H a o) { s with heap:=h',toks:=t' }:=I.un (Un.laid k hp (I.hok.fresh hp)) (I.hok.laid k hp new)
theorem Inv.write {x e:Addr}{o:HO}{t':Nat} (I:Inv X pins σ H s) (mu:Mut (H x)) (he:e=x\/H e=some (.own x)) (k:∀ b u,b≠e->s.heap.get? b=some u->h'.get? b=some u) (heo:∃ u,h'.get? e=some u)
  (new:ObjOk X.prog X.w X.K (upd H x o) h' x o):Inv X pins σ (upd H x o) { s with heap:=h',toks:=t' }:=I.un (Un.write mu he k heo) (I.hok.write mu he k heo new)
theorem Inv.pins_of {pins':List (Addr×Obj)} (I:Inv X pins σ H s) (h:∀ p∈pins',s.heap.get? p.1=some p.2/\H p.1=none/\p.1≠X.env.locals/\p.1∉X.fs/\∀ v,p.2.data≠.cell v):Inv X pins' σ H s :=
 ⟨I.ok,I.os,I.bare,I.base,I.loc,I.cell,I.free,I.freeC,fun p hp=>(List.mem_append.mp hp).elim (fun z=>I.pin p (Aq8 _ z)) (h p),I.hok,I.len⟩
theorem Tr {N:List Str} (hN:N.Nodup) {i j:Nat}{x:Str} (a:N[i]?=some x) (b:N[j]?=some x):i=j:=by
 obtain⟨h1,e1⟩:=List.getElem?_eq_some_iff.mp a
 obtain⟨h2,e2⟩:=List.getElem?_eq_some_iff.mp b
 exact (List.getElem_inj hN).mp (e1.trans e2.symm)
theorem Oq {M:Model}{A:Around}{E:Value->Shared->Prop}{i:Nat}{x:Str}{v:V}{u:Value}{Q:Unit->Shared->Prop} (I:Inv X pins σ H s) (hN:X.N.Nodup) (hi:X.N[i]?=some x) (hx:Loc X.env.scope x) (r:RelV v u)
  (h:∀ s',Inv X pins (σ.set i (some v)) H s'->(∃ a,Heap.SameBut a s.heap s'.heap/\(a=X.env.locals\/X.env.cells.lookup x=some a))->Q () s') (hf:X.fn x=true\/X.env.scope.names.lookup x=some .local:=by first|exact .inl rfl|exact .inr rfl|assumption):wpAny M A (storeName X.env x u) Q E s:=by
 obtain⟨m,hn,hl⟩:=id I.loc
 have hcls:(X.env.scope.kind == .class||(X.env.scope.kind == .module&&X.env.locals != X.env.globals))=false:=by rw[I.ok.kind];rfl
 have hiσ:i < σ.length:=by rw[I.len];exact (List.getElem?_eq_some_iff.mp hi).1
 have cne:=I.cne
 have tracked:∀ {a:Addr}{h':Heap},(∃ o,s.heap.get? a=some o/\H a=none)->Heap.SameBut a s.heap h'->HOk X.prog X.w X.K H h':=fun {a h'} ha hs b ob e=>by
  obtain⟨_,_,hfree⟩:=ha
  refine (I.hok b ob e).stay (fun c w' hc q=>(hs.2 c ?_).trans q) (fun _ q=>q) (fun _ _ q=>q) fun _ _ _ q=>q
  rintro rfl
  rcases hc with rfl|hc
  ·rw[hfree] at e;cases e
  ·rw[hfree] at hc;cases hc
 rcases hx with hk|hk
 ·refine wpAny_storeName_local hk hn (fun h' hn' hs=>?_) hcls
  obtain⟨oL,_,_,hoL,_⟩:=id hn
  refine h _ ⟨I.ok,I.os,I.bare,⟨fun b o e n hb hx=>?_,fun b o e n hb hx=>?_,I.base.free,fun b o e hx=>?_,I.base.tups,I.base.frzs,I.base.tbls⟩,⟨_,hn',fun j y v' e1 e2 e3=>?_⟩,fun y c e=>?_,I.free,I.freeC,fun p hp=>?_,tracked ⟨oL,hoL,I.free⟩ hs,by simpa using I.len⟩ ⟨_,hs,.inl rfl⟩
  ·exact (hs.2 b (Aq2 (Aqz (Aqp e) I.ok.above))).trans (I.base.keep b o e n hb hx)
  ·obtain⟨sl,e1⟩:=I.base.slot b o e n hb hx
   exact⟨sl,(hs.2 b (Aq2 (Aqz (Aqp e) I.ok.above))).trans e1⟩
  ·obtain⟨o',e1⟩:=I.base.there b o e hx
   exact⟨o',(hs.2 b (Aq2 (Aqz (Aqp e) I.ok.above))).trans e1⟩
  ·by_cases hj:j=i
   ·subst hj
    rw[hi] at e1;cases e1
    rw[Ar1 hiσ] at e2
    cases e2
    exact⟨u,r,.inl ⟨hk,by simp⟩⟩
   ·rw[Asl (Asr hj)] at e2
    obtain⟨u',r',q⟩:=hl j y v' e1 e2 e3
    refine⟨u',r',?_⟩
    rcases q with ⟨k,e⟩|⟨k,c,e,z⟩
    ·refine .inl ⟨k,?_⟩
     have:y≠x:=fun e=>hj (Tr hN e1 (e ▸ hi))
     simp[this,e]
    ·exact .inr ⟨k,c,e,z.sameBut hs (cne y c e)⟩
  ·obtain⟨w',z⟩:=I.cell y c e
   exact⟨w',z.sameBut hs (cne y c e)⟩
  ·obtain⟨e,n,ne,nf,d⟩:=I.pin p hp
   exact⟨(hs.2 p.1 ne).trans e,n,ne,nf,d⟩
 ·have hfn:X.fn x=true:=by
   rcases hf with z|z
   ·exact z
   ·rw[z] at hk;cases hk
  obtain⟨c,hc⟩:=I.ok.has x (.inl hk)
  obtain⟨w',z⟩:=I.cell x c hc
  refine wpAny_storeName_cell I.ok.kind hk hc z (fun h' hc' hs=>?_)
  obtain⟨oc,hoc,hocd⟩:=id z
  refine h { s with heap:=h' } ⟨I.ok,I.os,I.bare,⟨fun b o e n hb hx=>?_,fun b o e n hb hx=>?_,I.base.free,fun b o e hx=>?_,I.base.tups,I.base.frzs,I.base.tbls⟩,⟨m,hn.sameBut hs (Asr (cne x c hc)),fun j y v' e1 e2 e3=>?_⟩,fun y c' e=>?_,I.free,I.freeC,fun p hp=>?_,tracked ⟨oc,hoc,I.freeC x c hc⟩ hs,by simpa using I.len⟩ ⟨c,hs,.inr hc⟩
  ·exact (hs.2 b (Aq2 (Aqz (Aqp e) (I.ok.cab x c hfn hc)))).trans (I.base.keep b o e n hb hx)
  ·obtain⟨sl,e1⟩:=I.base.slot b o e n hb hx
   exact⟨sl,(hs.2 b (Aq2 (Aqz (Aqp e) (I.ok.cab x c hfn hc)))).trans e1⟩
  ·obtain⟨o',e1⟩:=I.base.there b o e hx
   exact⟨o',(hs.2 b (Aq2 (Aqz (Aqp e) (I.ok.cab x c hfn hc)))).trans e1⟩
  ·by_cases hj:j=i
   ·subst hj
    rw[hi] at e1;cases e1
    rw[Ar1 hiσ] at e2
    cases e2
    exact⟨u,r,.inr ⟨.inl hk,c,hc,hc'⟩⟩
   ·rw[Asl (Asr hj)] at e2
    obtain⟨u',r',q⟩:=hl j y v' e1 e2 e3
    refine⟨u',r',?_⟩
    rcases q with q|⟨k,c',e,z'⟩
    ·exact .inl q
    ·refine .inr ⟨k,c',e,z'.sameBut hs ?_⟩
     rintro rfl
     exact hj (Tr hN e1 (I.ok.inj _ _ _ e hc ▸ hi))
  ·by_cases hcc:c'=c
   ·subst hcc;exact⟨_,hc'⟩
   ·obtain⟨w2,z2⟩:=I.cell y c' e
    exact⟨w2,z2.sameBut hs hcc⟩
  ·obtain⟨e,n,ne,nf,d⟩:=I.pin p hp
   refine⟨(hs.2 p.1 ?_).trans e,n,ne,nf,d⟩
   intro q
   rw[q,hoc] at e
   have q':oc=p.2:=Arn e
   exact d w' (by rw[<- q'];exact hocd)
theorem Uh {M:Model}{A:Around}{E:Value->Shared->Prop}{i:Nat}{x:Str}{v:V}{u:Value}{Q:Unit->Shared->Prop} (I:Inv X pins σ H s) (hN:X.N.Nodup) (hi:X.N[i]?=some x) (hx:Loc X.env.scope x) (r:RelV v u)
  (h:∀ s',Inv X pins (σ.set i (some v)) H s'->Q () s') (hf:X.fn x=true\/X.env.scope.names.lookup x=some .local:=by first|exact .inl rfl|exact .inr rfl|assumption):wpAny M A (storeName X.env x u) Q E s :=
 Oq I hN hi hx r (fun s' I' _=>h s' I') hf
theorem Inv.call' {s':Shared}{ch:List Addr} (I:Inv X pins σ H s) (ho:s'.os=s.os) (u:Un (frs X.stack) ch H H' s.heap s'.heap) (hok:HOk X.prog X.w X.K H' s'.heap) (hg:AllBare s'.gens)
  (hch:∀ b∈ch,(b∈X.ex\/X.s₀.heap.objs.size<=b)/\b≠X.env.locals/\(∀ x c,X.env.cells.lookup x=some c->c≠b)/\∀ p∈X.pn++pins,p.1≠b):Inv X pins σ H' s':=by
 obtain⟨h',g',d',t',o'⟩:=s'
 have e:o'=s.os:=ho
 subst e
 exact I.call (g':=g') (t':=t') (d':=d') u hok hg hch
end
abbrev XK:=Value->Option Addr->Hp->Prop
abbrev St:=List (Option V)
abbrev VK:=V->Hp->Prop
abbrev TE:=St->Hp->VK->Prop
abbrev TT:=St->Hp->(Bool->Hp->Prop)->Prop
abbrev TA:=St->Hp->(List V->Hp->Prop)->Prop
structure Ends where
 nx:St->Hp->Prop
 rt:VK
 bk:St->Hp->Prop:=fun _ _=>False
 ct:St->Hp->Prop:=fun _ _=>False
abbrev TS:=Ends->St->Hp->Prop
def EP (X:Cx) (pins:List (Addr×Obj)) (σ:St) (Q:VK) (u:Value) (s':Shared):Prop:=∃ v H',Inv X pins σ H' s'/\RelV v u/\Q v H'
def TP (X:Cx) (pins:List (Addr×Obj)) (σ:St) (Q:Bool->Hp->Prop) (b:Bool) (s':Shared):Prop:=∃ H',Inv X pins σ H' s'/\Q b H'
def AP (X:Cx) (pins:List (Addr×Obj)) (σ:St) (Q:List V->Hp->Prop) (us:List Value) (s':Shared):Prop:=∃ vs H',Inv X pins σ H' s'/\Vals vs us/\Q vs H'
def SP (X:Cx) (pins:List (Addr×Obj)) (D:Ends) (f:Flow) (s':Shared):Prop :=
 match f with
 |.next=>∃ σ' H',Inv X pins σ' H' s'/\D.nx σ' H'
 |.brk=>∃ σ' H',Inv X pins σ' H' s'/\D.bk σ' H'
 |.cont=>∃ σ' H',Inv X pins σ' H' s'/\D.ct σ' H'
 |.ret u=>∃ v σ' H',Inv X pins σ' H' s'/\RelV v u/\D.rt v H'
def PE (X:Cx) (e:Expr) (t:TE):Prop :=
 ∀ (pins:List (Addr×Obj)) (s:Shared) (σ:St) (H:Hp) (Q:VK),Inv X pins σ H s->t σ H Q->wpAny (model X.prog X.w) X.A (eval e X.env) (EP X pins σ Q) X.xe s
def PT (X:Cx) (e:Expr) (t:TT):Prop :=
 ∀ (pins:List (Addr×Obj)) (s:Shared) (σ:St) (H:Hp) (Q:Bool->Hp->Prop),Inv X pins σ H s->t σ H Q->wpAny (model X.prog X.w) X.A (isTrue e X.env (eval e X.env)) (TP X pins σ Q) X.xe s
def PW (X:Cx) (e:Expr) (t:TT):Prop :=
 ∀ (whole:Sem Value) (pins:List (Addr×Obj)) (s:Shared) (σ:St) (H:Hp) (Q:Bool->Hp->Prop),Inv X pins σ H s->t σ H Q->wpAny (model X.prog X.w) X.A (isTrue e X.env whole) (TP X pins σ Q) X.xe s
theorem PW.pt {X:Cx}{e:Expr}{t:TT} (h:PW X e t):PT X e t:=h _
def PA (X:Cx) (es:List Expr) (t:TA):Prop :=
 ∀ (pos:Pos) (pins:List (Addr×Obj)) (s:Shared) (σ:St) (H:Hp) (Q:List V->Hp->Prop),Inv X pins σ H s->t σ H Q->wpAny (model X.prog X.w) X.A (spliced (backTo pos (starEach es X.env))) (AP X pins σ Q) X.xe s
def PS (X:Cx) (st:Stmt) (t:TS):Prop :=
 ∀ (pins:List (Addr×Obj)) (s:Shared) (σ:St) (H:Hp) (D:Ends),Inv X pins σ H s->t D σ H->wpAny (model X.prog X.w) X.A (exec st X.env) (SP X pins D) X.xe s
def PSs (X:Cx) (st:List Stmt) (t:TS):Prop :=
 ∀ (pins:List (Addr×Obj)) (s:Shared) (σ:St) (H:Hp) (D:Ends),Inv X pins σ H s->t D σ H->wpAny (model X.prog X.w) X.A (execs st X.env) (SP X pins D) X.xe s
theorem thn {α:Type}{t:Sem α}{Q Q':α->Shared->Prop}{M:Model}{A:Around}{E:Value->Shared->Prop}{s:Shared} (h:wpAny M A t Q E s) (hQ:∀ a s,Q a s->Q' a s):wpAny M A t Q' E s:=Asq h hQ fun _ _ x=>x
section
variable {X:Cx}
noncomputable def Aqk (i:Nat):TE:=fun σ H Q=>∃ v,σ[i]?=some (some v)/\Q v H
noncomputable def tC (v:V):TE:=fun _ H Q=>Q v H
theorem Ak7 {i:Nat}{x:Str}{pos:Pos} (hN:X.N[i]?=some x) (hv:Vis X.env.scope x) (hd:(x == ("__debug__":Str))=false:=by decide) (hcd:(x == ("__classdict__":Str))=false:=by decide):PE X (.Name x pos) (Aqk i):=by
 intro pins s σ H Q I h
 obtain⟨v,e,h⟩:=h
 obtain⟨m,hn,hl⟩:=I.loc
 obtain⟨u,r,l⟩:=hl i x v hN e hv
 have fin:EP X pins σ Q u s:=⟨v,H,I,r,h⟩
 rcases l with ⟨hk,hm⟩|⟨hk,c,hc,hcell⟩
 ·exact wpAny_Name (wpAny_loadName_local I.ok.kind hk hn hm fin) hd
 ·rcases hk with hk|hk
  ·exact wpAny_Name (wpAny_loadName_cell I.ok.kind hk hc hcell fin) hd
  ·exact wpAny_Name (wpAny_loadName_free I.ok.kind hk hc hcell fin hcd) hd
theorem Ad7 {i j pos}:PE X (.Constant (.int i) j pos) (tC (.int i)):=fun _ _ _ H _ I h=>wpAny_Constant_int ⟨.int i,H,I.tok _,⟨_,rfl⟩,h⟩
theorem Aox {b j pos}:PE X (.Constant (.bool b) j pos) (tC (.bl b)):=fun _ _ _ H _ I h=>Constant_bool ⟨.bl b,H,I,rfl,h⟩
theorem Yt {j pos}:PE X (.Constant .none j pos) (tC .non):=fun _ _ _ H _ I h=>Constant_none ⟨.non,H,I,rfl,h⟩
theorem Ak5 {x j pos}:PE X (.Constant (.str x) j pos) (tC (.str x)):=fun _ _ _ H _ I h=>Calls.Constant_str ⟨.str x,H,I.tok _,⟨_,rfl⟩,h⟩
def Gl (X:Cx) (x:Str):Prop:=X.env.kindOf x=some .globalImplicit
theorem Agb {E:Value->Shared->Prop}{pins:List (Addr×Obj)}{s:Shared}{σ:St}{H:Hp}{x:Str}{u:Value}{pos:Pos}{Q:Value->Shared->Prop} (I:Inv X pins σ H s) (hg:Gl X x) (hm:X.mg x=some u) (h:Q u s)
  (hd:(x == ("__debug__":Str))=false:=by decide):wpAny (model X.prog X.w) X.A (eval (.Name x pos) X.env) Q E s :=
 Calls.Name_function_global I.ok.kind hg (Calls.loadGlobal_global (by rw[I.ok.glob];exact I.mod.glob.keeps I.bk) hm h) hd
theorem Ip {E:Value->Shared->Prop}{pins:List (Addr×Obj)}{s:Shared}{σ:St}{H:Hp}{x:Str}{u:Value}{pos:Pos}{Q:Value->Shared->Prop} (I:Inv X pins σ H s) (hg:Gl X x) (hm:X.mg x=none) (hv:bootBuiltins x=some u) (h:Q u s)
  (hn:x≠"__name__":=by decide) (hd:(x == ("__debug__":Str))=false:=by decide):wpAny (model X.prog X.w) X.A (eval (.Name x pos) X.env) Q E s:=by
 obtain⟨mb,h1,h2⟩:=I.mod.blt
 exact Calls.Name_function_global I.ok.kind hg (Calls.loadGlobal_builtin (by rw[I.ok.glob];exact I.mod.glob.keeps I.bk) hm (by rw[I.ok.blt];exact h1.keeps I.bk) ((h2 x hn).trans hv) h) hd
theorem Agz {x:Str}{v:V}{u:Value}{pos:Pos} (hg:Gl X x) (hm:X.mg x=none) (hv:bootBuiltins x=some u) (r:RelV v u) (hn:x≠"__name__":=by decide) (hd:(x == ("__debug__":Str))=false:=by decide):PE X (.Name x pos) (tC v) :=
 fun _ _ _ H _ I h=>Ip I hg hm hv ⟨v,H,I,r,h⟩ hn hd
variable {a b:Expr}{ta tb:TE}{pos:Pos}
variable {tA tB':TT}{rest:List Expr}
noncomputable def Apv (t u:TT):TT:=fun σ H Q=>t σ H fun c H1=>if c=true then u σ H1 Q else Q false H1
noncomputable def tOr (t u:TT):TT:=fun σ H Q=>t σ H fun c H1=>if c=true then Q true H1 else u σ H1 Q
noncomputable def Aqg (t:TT):TT:=fun σ H Q=>t σ H fun c H1=>Q (!c) H1
theorem Ahn (ha:PT X a tA):PW X (.BoolOp .And [a] pos) tA:=by
 intro wh pins s σ H Q I h
 refine isTrue_and (thn (ha pins s σ H Q I h) fun c s1 e=>?_)
 cases c with
 |true=>exact isTrue_and_nil e
 |false=>exact e
theorem Alj (ha:PT X a tA):PW X (.BoolOp .Or [a] pos) tA:=by
 intro wh pins s σ H Q I h
 refine isTrue_or (thn (ha pins s σ H Q I h) fun c s1 e=>?_)
 cases c with
 |false=>exact isTrue_or_nil e
 |true=>exact e
theorem Alh (ha:PT X a tA) (hb:PW X (.BoolOp .And (b::rest) pos) tB'):PW X (.BoolOp .And (a::b::rest) pos) (Apv tA tB'):=by
 intro wh pins s σ H Q I h
 refine isTrue_and (thn (ha pins s σ H _ I h) fun c s1 ⟨H1,I1,q1⟩=>?_)
 cases c with
 |true=>exact hb wh pins s1 σ H1 Q I1 q1
 |false=>exact⟨H1,I1,q1⟩
theorem Ao3 (ha:PT X a tA) (hb:PW X (.BoolOp .Or (b::rest) pos) tB'):PW X (.BoolOp .Or (a::b::rest) pos) (tOr tA tB'):=by
 intro wh pins s σ H Q I h
 refine isTrue_or (thn (ha pins s σ H _ I h) fun c s1 ⟨H1,I1,q1⟩=>?_)
 cases c with
 |true=>exact⟨H1,I1,q1⟩
 |false=>exact hb wh pins s1 σ H1 Q I1 q1
theorem Alf (ha:PT X a tA):PT X (.UnaryOp .Not a pos) (Aqg tA):=by
 intro pins s σ H Q I h
 exact isTrue_not (ha pins s σ H (fun c H1=>Q (!c) H1) I h)
noncomputable def Ape (ta tb:TE):TE:=fun σ H Q=>ta σ H fun x H1=>∃ c,x=.bl c/\if c=true then tb σ H1 Q else Q (.bl false) H1
noncomputable def Aqh (ta tb:TE):TE:=fun σ H Q=>ta σ H fun x H1=>∃ c,x=.bl c/\if c=true then Q (.bl true) H1 else tb σ H1 Q
theorem Ak2 {op}{t:TE} (h:PE X a t):PE X (.BoolOp op [a] pos) t:=fun pins s σ H Q I hw=>BoolOp_one (h pins s σ H Q I hw)
theorem Akz (ha:PE X a ta) (hb:PE X (.BoolOp .And (b::rest) pos) tb):PE X (.BoolOp .And (a::b::rest) pos) (Ape ta tb):=by
 intro pins s σ H Q I h
 refine BoolOp_and (thn (ha pins s σ H _ I h) fun v s1 ⟨x,H1,I1,r1,q1⟩=>?_)
 obtain⟨c,rfl,q1⟩:=q1
 cases r1
 refine As7 ?_
 cases c with
 |true=>exact hb pins s1 σ H1 Q I1 q1
 |false=>exact⟨.bl false,H1,I1,rfl,q1⟩
theorem Ao0 (ha:PE X a ta) (hb:PE X (.BoolOp .Or (b::rest) pos) tb):PE X (.BoolOp .Or (a::b::rest) pos) (Aqh ta tb):=by
 intro pins s σ H Q I h
 refine BoolOp_or (thn (ha pins s σ H _ I h) fun v s1 ⟨x,H1,I1,r1,q1⟩=>?_)
 obtain⟨c,rfl,q1⟩:=q1
 cases r1
 refine As7 ?_
 cases c with
 |false=>exact hb pins s1 σ H1 Q I1 q1
 |true=>exact⟨.bl true,H1,I1,rfl,q1⟩
noncomputable def tIf (t:TT) (ta tb:TE):TE:=fun σ H Q=>t σ H fun c H1=>if c=true then ta σ H1 Q else tb σ H1 Q
theorem Ab4 {c:Expr} (hc:PT X c tA) (ha:PE X a ta) (hb:PE X b tb):PE X (.IfExp c a b pos) (tIf tA ta tb):=by
 intro pins s σ H Q I h
 refine wpAny_IfExp (thn (hc pins s σ H _ I h) fun d s1 ⟨H1,I1,q1⟩=>?_)
 cases d with
 |true=>exact ha pins s1 σ H1 Q I1 q1
 |false=>exact hb pins s1 σ H1 Q I1 q1
end
def SqL (K:W.Frag) (H:Hp) (a:Addr) (xs:List V):Prop :=
 Rd H a (.lst xs) \/
  ∃ (o:Obj) (its:Array Value) (n:Nat),K.lookup a=some o/\o.cls=.type "list"/\o.dict=none/\o.data=.seq its n/\its.size<=sizeLine/\Vals xs its.toList
noncomputable def Ap2:Value->Option V
 |.none=>some .non
 |.bool b=>some (.bl b)
 |.int i _=>some (.int i)
 |.str x _=>some (.str x)
 |.bytes b _=>some (.byt b)
 |.float b _=>some (.flt b)
 |.ref a=>some (.ref a)
 |.type n=>some (.ty n)
 |_=>none
theorem RelV.abs {x:V}{u:Value} (r:RelV x u):Ap2 u=some x:=by
 cases x with
 |non=>cases r;rfl
 |bl _=>cases r;rfl
 |int _=>obtain⟨t,rfl⟩:=r;rfl
 |str _=>obtain⟨t,rfl⟩:=r;rfl
 |byt _=>obtain⟨t,rfl⟩:=r;rfl
 |flt _=>obtain⟨t,rfl⟩:=r;rfl
 |ref _=>cases r;rfl
 |ty _=>cases r;rfl
theorem RelV.inj {x y:V}{u:Value} (r:RelV x u) (q:RelV y u):x=y:=Arn (r.abs.symm.trans q.abs)
theorem Vals.inj:∀ {xs ys:List V}{us:List Value},Vals xs us->Vals ys us->xs=ys
 |_,_,_,.nil,.nil=>rfl
 |_,_,_,.cons r t,.cons r' t'=>by rw[r.inj r',Vals.inj t t']
section
variable {X:Cx}{pins:List (Addr×Obj)}{σ:St}{H:Hp}{s:Shared}{a:Addr}{xs ys:List V}
theorem SqL.of {K:W.Frag} (h:H a=some (.lst xs)):SqL K H a xs:=.inl (.inl h)
inductive LstR (h:Heap) (a:Addr) (xs:List V):Prop where
 |mk (its:List Value) (r:Vals xs its) (p:PlainL h a its.toArray) (z:xs.length<=sizeLine)
inductive TupR (h:Heap) (a:Addr) (xs:List V):Prop where
 |mk (its:List Value) (r:Vals xs its) (p:IsTup h a its.toArray) (z:xs.length<=sizeLine)
theorem Inv.list (I:Inv X pins σ H s) (h:SqL X.K H a xs):LstR s.heap a xs:=by
 rcases h with h|⟨o,its,n,hk,hc,hd,hs,hz,r⟩
 ·obtain⟨z,its,n,r,e⟩:=h.ok I.hok
  exact⟨its,r,⟨_,n,e,rfl,rfl,rfl⟩,z⟩
 ·refine⟨its.toList,r,⟨o,n,I.kIn a o hk,hc,hd,by simpa using hs⟩,?_⟩
  have e:=r.length
  simp only[Ard] at e
  lia
theorem Inv.tuple (I:Inv X pins σ H s) (h:SqT X.K H a xs):TupR s.heap a xs:=by
 rcases h with h|⟨o,its,n,hk,hc,hs,hz,r,_⟩
 ·obtain⟨z,its,r,p⟩:=h.ok I.hok
  exact⟨its,r,p.is,z⟩
 ·refine⟨its.toList,r,⟨o,I.kIn a o hk,hc,n,by simpa using hs⟩,?_⟩
  have e:=r.length
  simp only[Ard] at e
  lia
inductive TupRD (h:Heap) (a:Addr) (xs:List V):Prop where
 |mk (its:List Value) (r:Vals xs its) (p:TupD h a its.toArray) (z:xs.length<=sizeLine)
theorem Inv.tupleD (I:Inv X pins σ H s) (h:SqT X.K H a xs):TupRD s.heap a xs:=by
 rcases h with h|⟨o,its,n,hk,hc,hs,hz,r,hd⟩
 ·obtain⟨z,its,r,p⟩:=h.ok I.hok
  exact⟨its,r,p,z⟩
 ·refine⟨its.toList,r,⟨o,I.kIn a o hk,hc,n,by simpa using hs,hd⟩,?_⟩
  have e:=r.length
  simp only[Ard] at e
  lia
theorem Inv.list_inj (I:Inv X pins σ H s) (h:SqL X.K H a xs) (h':SqL X.K H a ys):xs=ys:=by
 obtain⟨its,r,⟨o,n,e,_,_,d⟩,_⟩:=I.list h
 obtain⟨its',r',⟨o',n',e',_,_,d'⟩,_⟩:=I.list h'
 rw[e] at e';cases e'
 rw[d] at d'
 injection d' with d1 _
 have:its=its':=by simpa using Asc Array.toList d1
 subst this
 exact r.inj r'
theorem Inv.tuple_inj (I:Inv X pins σ H s) (h:SqT X.K H a xs) (h':SqT X.K H a ys):xs=ys:=by
 obtain⟨its,r,⟨o,e,_,n,d⟩,_⟩:=I.tuple h
 obtain⟨its',r',⟨o',e',_,n',d'⟩,_⟩:=I.tuple h'
 rw[e] at e';cases e'
 rw[d] at d'
 injection d' with d1 _
 have:its=its':=by simpa using Asc Array.toList d1
 subst this
 exact r.inj r'
end
abbrev Cx.wish (X:Cx) (E:Value->Shared->Prop):Cx:={ X with xe:=E }
abbrev Cx.nox (X:Cx):Cx:=X.wish fun _ _=>False
theorem Cx.Ok.wish {X:Cx} (ok:X.Ok) (E:Value->Shared->Prop):(X.wish E).Ok :=
 ⟨ok.mod,ok.kind,ok.glob,ok.blt,ok.above,ok.inj,ok.has,ok.cab,ok.hd,ok.frames,ok.stk,ok.exf,ok.bs,ok.bsz,ok.noex,ok.exfs,ok.funs,ok.frf⟩
theorem Cx.Ok.unwish {X:Cx}{E:Value->Shared->Prop} (ok:(X.wish E).Ok):X.Ok :=
 ⟨ok.mod,ok.kind,ok.glob,ok.blt,ok.above,ok.inj,ok.has,ok.cab,ok.hd,ok.frames,ok.stk,ok.exf,ok.bs,ok.bsz,ok.noex,ok.exfs,ok.funs,ok.frf⟩
section
variable {X:Cx}{pins:List (Addr×Obj)}{σ:St}{H:Hp}{s:Shared}{E:Value->Shared->Prop}
theorem Inv.wish (I:Inv X pins σ H s) (E:Value->Shared->Prop):Inv (X.wish E) pins σ H s:=⟨I.ok.wish E,I.os,I.bare,I.base,I.loc,I.cell,I.free,I.freeC,I.pin,I.hok,I.len⟩
theorem Inv.unwish (I:Inv (X.wish E) pins σ H s):Inv X pins σ H s:=⟨I.ok.unwish,I.os,I.bare,I.base,I.loc,I.cell,I.free,I.freeC,I.pin,I.hok,I.len⟩
theorem SP.unwish {D:Ends}{f:Flow}{s':Shared} (h:SP (X.wish E) pins D f s'):SP X pins D f s':=by
 cases f with
 |next=>obtain⟨σ',H',I,q⟩:=h;exact⟨σ',H',I.unwish,q⟩
 |brk=>obtain⟨σ',H',I,q⟩:=h;exact⟨σ',H',I.unwish,q⟩
 |cont=>obtain⟨σ',H',I,q⟩:=h;exact⟨σ',H',I.unwish,q⟩
 |ret u=>obtain⟨v,σ',H',I,r,q⟩:=h;exact⟨v,σ',H',I.unwish,r,q⟩
theorem PSs.nox {st:List Stmt}{t:TS} (h:PSs X.nox st t):PSs X st t:=fun pins s σ H D I hw =>
 Asq (h pins s σ H D (I.wish _) hw) (fun _ _ q=>q.unwish) fun _ _ z=>False.elim z
end
section
variable {X:Cx}{st:Stmt}{rest:List Stmt}{t u:TS}{e:Expr}{te:TE}{pos:Pos}
noncomputable def Apg:TS:=fun D σ H=>D.nx σ H
noncomputable def Apx (t u:TS):TS:=fun D σ H=>t { D with nx:=u D } σ H
theorem Ahi:PSs X [] Apg:=fun _ _ σ H _ I h=>wpAny_execs_nil ⟨σ,H,I,h⟩
theorem Aci (h1:PS X st t) (h2:PSs X rest u):PSs X (st::rest) (Apx t u):=by
 intro pins s σ H D I h
 refine wpAny_execs_cons (thn (h1 pins s σ H { D with nx:=u D } I h) fun f s1 q=>?_)
 cases f with
 |next =>
  obtain⟨σ',H',I',q⟩:=q
  exact h2 pins s1 σ' H' D I' q
 |ret v=>exact q
 |brk=>exact q
 |cont=>exact q
theorem Ahj (h1:PS X st t):PSs X [st] t:=by
 intro pins s σ H D I h
 refine wpAny_execs_cons (thn (h1 pins s σ H D I h) fun f s1 q=>?_)
 cases f with
 |next=>exact wpAny_execs_nil q
 |ret v=>exact q
 |brk=>exact q
 |cont=>exact q
theorem Inv.quiet {pins:List (Addr×Obj)}{σ:St}{H:Hp}{s:Shared} (I:Inv X pins σ H s):interactive X.env=false:=by simp[interactive,I.ok.kind]
noncomputable def Apf (te:TE):TS:=fun D σ H=>te σ H fun _ H1=>D.nx σ H1
theorem Aha (he:PE X e te) (hs:swapsWith e none pos.line X.env=pure false:=by rfl):PS X (.Expr e pos) (Apf te):=by
 intro pins s σ H D I h
 exact wpAny_Expr_any (thn (he pins s σ H _ I h) fun v s1 ⟨x,H1,I1,r1,q1⟩=>⟨σ,H1,I1,q1⟩) I.quiet hs
noncomputable def Aqi (te:TE):TS:=fun D σ H=>te σ H D.rt
theorem Ad9 (he:PE X e te):PS X (.Return (some e) pos) (Aqi te):=by
 intro pins s σ H D I h
 exact wpAny_Return_some (thn (he pins s σ H _ I h) fun v s1 ⟨x,H1,I1,r1,q1⟩=>⟨x,σ,H1,I1,r1,q1⟩)
noncomputable def Aqe (c:TT) (t u:TS):TS:=fun D σ H=>c σ H fun b H1=>if b=true then t D σ H1 else u D σ H1
theorem Ao2 {c:Expr}{a b:List Stmt}{tc:TT} (hc:PT X c tc) (ha:PSs X a t) (hb:PSs X b u):PS X (.If c a b pos) (Aqe tc t u):=by
 intro pins s σ H D I h
 refine wpAny_If (thn (hc pins s σ H _ I h) fun d s1 ⟨H1,I1,q1⟩=>?_)
 cases d with
 |true=>exact ha pins s1 σ H1 D I1 q1
 |false=>exact hb pins s1 σ H1 D I1 q1
end
abbrev TG:=V->St->Hp->(St->Hp->Prop)->Prop
abbrev TGs:=List V->St->Hp->(St->Hp->Prop)->Prop
def PG (X:Cx) (target:Expr) (t:TG):Prop :=
 ∀ (pins:List (Addr×Obj)) (s:Shared) (σ:St) (H:Hp) (v:V) (u:Value) (Q:St->Hp->Prop),Inv X pins σ H s->RelV v u->t v σ H Q ->
  wpAny (model X.prog X.w) X.A (assign target X.env u) (fun _ s'=>∃ σ' H',Inv X pins σ' H' s'/\Q σ' H') X.xe s
def PGs (X:Cx) (ts:List Expr) (t:TGs):Prop :=
 ∀ (pins:List (Addr×Obj)) (s:Shared) (σ:St) (H:Hp) (vs:List V) (us:List Value) (Q:St->Hp->Prop),Inv X pins σ H s->Vals vs us->t vs σ H Q ->
  wpAny (model X.prog X.w) X.A (assignInOrder ((assignEach ts X.env).map (·.2)) us) (fun _ s'=>∃ σ' H',Inv X pins σ' H' s'/\Q σ' H') X.xe s
abbrev Ame:=V->V->V->Hp->(Hp->Prop)->Prop
def Apl (X:Cx) (t:Ame):Prop :=
 ∀ (pins:List (Addr×Obj)) (s:Shared) (σ:St) (H:Hp) (o i v:V) (ov iv u:Value) (Q:Hp->Prop),Inv X pins σ H s->RelV o ov->RelV i iv->RelV v u->t o i v H Q ->
  wpAny (model X.prog X.w) X.A (setItem ov iv u) (fun _ s'=>∃ H',Inv X pins σ H' s'/\Q H') X.xe s
section
variable {X:Cx}{pos:Pos}
noncomputable def Uw (i:Nat):TG:=fun v σ H Q=>Q (σ.set i (some v)) H
theorem Ag3 {i:Nat}{x:Str} (hN:X.N.Nodup) (hi:X.N[i]?=some x) (hx:Loc X.env.scope x) (hf:X.fn x=true\/X.env.scope.names.lookup x=some .local:=by first|exact .inl rfl|exact .inr rfl|assumption):PG X (.Name x pos) (Uw i):=by
 intro pins s σ H v u Q I r h
 exact wpAny_assign_Name (Uh I hN hi hx r (fun s' I'=>⟨_,H,I',h⟩) hf)
noncomputable def Ap4:TGs:=fun vs σ H Q=>vs=[]/\Q σ H
noncomputable def Anz (t:TG) (u:TGs):TGs:=fun vs σ H Q=>∃ v r,vs=v::r/\t v σ H fun σ' H'=>u r σ' H' Q
theorem Ag5:PGs X [] Ap4:=by
 intro pins s σ H vs us Q I r h
 obtain⟨e,h⟩:=h
 subst e
 cases r
 exact assignInOrder_nil ⟨σ,H,I,h⟩
theorem Ab6 {e:Expr}{es:List Expr}{t:TG}{u:TGs} (h1:PG X e t) (h2:PGs X es u)
  (hs:(assignEach (e::es) X.env).map (·.2)=assign e X.env::(assignEach es X.env).map (·.2):=by rfl):PGs X (e::es) (Anz t u):=by
 intro pins s σ H vs us Q I r h
 obtain⟨v,vr,e1,h⟩:=h
 subst e1
 cases r with
 |cons r rr =>
  rw[hs]
  refine assignInOrder_cons (thn (h1 pins s σ H _ _ _ I r h) fun _ s1 ⟨σ1,H1,I1,q1⟩=>?_)
  exact h2 pins s1 σ1 H1 _ _ Q I1 rr q1
noncomputable def Ap6 (K:W.Frag) (n:Nat) (t:TGs):TG:=fun v σ H Q=>∃ a xs,v=.ref a/\SqT K H a xs/\xs.length=n/\t xs σ H Q
theorem Alb {es:List Expr}{k:Nat}{t:TGs}{n:Nat} (hc:X.calm=true) (h:PGs X es t)
  (hn:(assignEach es X.env).length=n:=by rfl) (hst:(assignEach es X.env).findIdx? (·.1)=none:=by rfl):PG X (.Tuple es k pos) (Ap6 X.K n t):=by
 intro pins s σ H v u Q I r hw
 obtain⟨a,xs,e1,hq,hl,hw⟩:=hw
 subst e1
 cases r
 obtain⟨its,rv,ht,hz⟩:=I.tuple hq
 refine assign_Tuple_tuple (I.ok.hd hc) ht (by simp[hn,<- hl,rv.length]) hst fun h' hx=>?_
 have I1:Inv X pins σ H { s with heap:=h' }:=I.kept (t':=s.toks) fun b o e=>hx b o (Aq2 (Aqp e)) e
 exact h pins _ σ H xs _ Q I1 (by simpa using rv) hw
noncomputable def Ap5 (to ti:TE) (t:Ame):TG:=fun v σ H Q=>to σ H fun o H1=>ti σ H1 fun i H2=>t o i v H2 fun H3=>Q σ H3
theorem Ala {o i:Expr}{to ti:TE}{t:Ame} (ho:PE X o to) (hi:PE X i ti) (hs:Apl X t)
  (ha:∀ v,assign (.Subscript o i pos) X.env v=(do
   let ov <- holding [v] (eval o X.env)
   let iv <- holding [v,ov] (eval i X.env)
   standAt pos
   holding [v,ov,iv] (setItem ov iv v)
   release [v,ov,iv] []):=by intro _;rfl):PG X (.Subscript o i pos) (Ap5 to ti t):=by
 intro pins s σ H v u Q I r h
 rw[ha]
 refine Aql (Arw (thn (ho pins s σ H _ I h) fun ov s1 ⟨x,H1,I1,r1,q1⟩=>?_))
 refine Aql (Arw (thn (hi pins s1 σ H1 _ I1 q1) fun iv s2 ⟨y,H2,I2,r2,q2⟩=>?_))
 refine Aql (wpAny_standAt (Aql (Arw (thn (hs pins s2 σ H2 x y v ov iv u _ I2 r1 r2 r q2) fun _ s3 ⟨H3,I3,q3⟩=>?_))))
 exact wpAny_release ⟨σ,H3,I3,q3⟩
noncomputable def Aip (te:TE) (g:TG):TS:=fun D σ H=>te σ H fun x H1=>g x σ H1 D.nx
theorem Ad8 {tg e:Expr}{te:TE}{g:TG} (he:PE X e te) (hg:PG X tg g) (hs:swapsWithSole [tg] e pos.line X.env=pure false:=by rfl) (hw:swappedStores [tg] e X.env=pure none:=by rfl)
  (h1:(assignEach [tg] X.env).map (·.2)=[assign tg X.env]:=by rfl):PS X (.Assign [tg] e pos) (Aip te g):=by
 intro pins s σ H D I h
 refine wpAny_Assign_stores (thn (he pins s σ H _ I h) fun v s1 ⟨x,H1,I1,r1,q1⟩=>?_) hs hw
 rw[h1]
 exact thn (hg pins s1 σ H1 x v _ I1 r1 q1) fun _ s2 q=>q
theorem T3 {i:Nat}{x:Str}{e:Expr}{te:TE}{pos':Pos} (hN:X.N.Nodup) (hi:X.N[i]?=some x) (hx:Loc X.env.scope x) (he:PE X e te) (hs:swapsWith e (some (.Name x pos')) pos.line X.env=pure false:=by rfl) (hf:X.fn x=true\/X.env.scope.names.lookup x=some .local:=by first|exact .inl rfl|exact .inr rfl|assumption) :
  PS X (.Assign [.Name x pos'] e pos) (Aip te (Uw i)):=by
 intro pins s σ H D I h
 refine wpAny_Assign_Name (thn (he pins s σ H _ I h) fun v s1 ⟨y,H1,I1,r1,q1⟩=>?_) hs
 exact Uh I1 hN hi hx r1 (fun s2 I2=>⟨_,H1,I2,q1⟩) hf
end
section
variable {X:Cx}{pos:Pos}
noncomputable def Amb (c:TT) (tb:TS):TS:=fun D σ H=>∃ W:Nat->St->Hp->Prop,(∃ m,W m σ H)/\∀ m σ H,W m σ H ->
 c σ H fun b H1=>if b=true then ∃ N:St->Hp->Prop,(∀ σ' H',N σ' H'->∃ m',m' < m/\W m' σ' H')/\tb { D with nx:=N,ct:=N,bk:=D.nx } σ H1 else D.nx σ H1
theorem Acd {c:Expr}{body:List Stmt}{tc:TT}{tb:TS} (hp:PassesOwn (model X.prog X.w) X.A X.env X.xe) (hc:PT X c tc) (hb:PSs X body tb):PS X (.While c body [] pos) (Amb tc tb):=by
 intro pins s σ H D I h
 obtain⟨W,⟨m0,w0⟩,turn⟩:=h
 refine wpAny_While (codeAny_whileLoop (fun n s'=>∃ σ' H',Inv X pins σ' H' s'/\W n σ' H') ?_ m0 ⟨σ,H,I,w0⟩)
 rintro n s1 ⟨σ1,H1,I1,w1⟩
 refine Asm hp (thn (hc pins s1 σ1 H1 _ I1 (turn n σ1 H1 w1)) fun b s2 ⟨H2,I2,q2⟩=>?_)
 cases b with
 |true =>
  obtain⟨N,hN,q2⟩:=q2
  rw[Aqx rfl]
  refine Asm hp (thn (hb pins s2 σ1 H2 _ I2 q2) fun f s3 q3=>?_)
  cases f with
  |next =>
   obtain⟨σ3,H3,I3,n3⟩:=q3
   obtain⟨m',hm,w3⟩:=hN σ3 H3 n3
   exact⟨m',hm,σ3,H3,I3,w3⟩
  |cont =>
   obtain⟨σ3,H3,I3,n3⟩:=q3
   obtain⟨m',hm,w3⟩:=hN σ3 H3 n3
   exact⟨m',hm,σ3,H3,I3,w3⟩
  |brk=>exact q3
  |ret v=>exact q3
 |false =>
  rw[Aq0 Arb]
  exact wpAny_execs_nil ⟨σ1,H2,I2,q2⟩
end
structure It where
 go:Nat->Hp->Prop
 yld:Nat->Hp->V->Hp->Prop
 stop:Nat->Hp->Prop
def Ac8 (X:Cx) (pins:List (Addr×Obj)) (H:Hp) (b:Addr):Prop :=
 H b=none/\b≠X.env.locals/\b∉X.fs/\(b∈X.ex\/X.s₀.heap.objs.size<=b)/\(∀ x c,X.env.cells.lookup x=some c->c≠b)/\∀ p∈X.pn++pins,p.1≠b
theorem Inv.fpOk {X:Cx}{pins:List (Addr×Obj)}{σ:St}{H H':Hp}{s:Shared}{b:Addr} (I:Inv X pins σ H s) (hb:s.heap.objs.size<=b) (hn:H' b=none):Ac8 X pins H' b:=by
 refine⟨hn,Atd (Aqz I.lt hb),I.nofs hb,.inr (Arf I.sz hb),fun x c e z=>?_,fun p hp z=>?_⟩
 ·obtain⟨v,q⟩:=I.cell x c e
  exact absurd (Aqz q.lt (by rw[z];exact hb)) (Arj _)
 ·exact absurd (Aqz (Aqp (I.pin p hp).1) (by rw[z];exact hb)) (Arj _)
structure Turn (P:Program) (w:World) (K:W.Frag) (tg:Expr) (J:It) (fp:List Addr) (it:Addr) (tn:Nat->Heap->Prop):Prop where
 mem:it∈fp
 obj:∀ i h,tn i h->∀ b∈fp,∃ o,h.get? b=some o/\∀ v,o.data≠.cell v
 keep:∀ i h h',tn i h->(∀ b∈fp,∀ o,h.get? b=some o->h'.get? b=some o)->tn i h'
 item:∀ (X:Cx),X.prog=P->X.w=w->X.K=K->X.calm=true->∀ (i:Nat) (pins:List (Addr×Obj)) (s:Shared) (σ:St) (H:Hp) (E:Value->Shared->Prop),Inv X pins σ H s->(∀ b∈fp,Ac8 X pins H b)->tn i s.heap->J.go i H ->
  wpAny (model P w) X.A (pyNext (.ref it)) (fun r s1=>∃ u,r=some u /\
   wpAny (model P w) X.A (letOwnedTupleGo tg (.ref it) u) (fun _ s2=>∃ x H',Inv X pins σ H' s2/\RelV x u/\J.yld i H x H'/\tn (i+1) s2.heap/\∀ b∈fp,H' b=none) E s1) E s
 done:∀ (X:Cx),X.prog=P->X.w=w->X.K=K->X.calm=true->∀ (i:Nat) (pins:List (Addr×Obj)) (s:Shared) (σ:St) (H:Hp) (E:Value->Shared->Prop),Inv X pins σ H s->(∀ b∈fp,Ac8 X pins H b)->tn i s.heap->J.stop i H ->
  wpAny (model P w) X.A (pyNext (.ref it)) (fun r s1=>r=none/\Inv X pins σ H s1) E s
 self:∀ (A:Around) (i:Nat) (s:Shared) (Q:Value->Shared->Prop) (E:Value->Shared->Prop),tn i s.heap->Q (.ref it) s->wpAny (model P w) A (pyIter (.ref it)) Q E s
abbrev TI:=St->Hp->(It->Hp->Prop)->Prop
def PIE (X:Cx) (pins:List (Addr×Obj)) (σ:St) (tg:Expr) (R:It->Hp->Prop) (itv:Value) (s2:Shared):Prop :=
 ∃ (it:Addr) (fp:List Addr) (tn:Nat->Heap->Prop) (J:It) (H':Hp),itv=.ref it/\Inv X pins σ H' s2/\Turn X.prog X.w X.K tg J fp it tn/\tn 0 s2.heap/\(∀ b∈fp,Ac8 X pins H' b)/\R J H'
def PI (X:Cx) (tg iter:Expr) (wi:TI):Prop :=
 ∀ (pins:List (Addr×Obj)) (s:Shared) (σ:St) (H:Hp) (R:It->Hp->Prop),Inv X pins σ H s->wi σ H R ->
  wpAny (model X.prog X.w) X.A (eval iter X.env) (fun v s1=>wpAny (model X.prog X.w) X.A (pyIter v) (PIE X pins σ tg R) X.xe s1) X.xe s
theorem Abi {M:Model}{A:Around}{E:Value->Shared->Prop}{s:Shared}{tg:Expr}{it:Addr}{u:Value}{o:Obj}{n:String}{vs:Array Value}{Q:Unit->Shared->Prop} (ho:s.heap.get? it=some o) (hc:o.cls=.type n) (hd:o.data=.fields vs)
  (hn:["enumerate","zip","dict_itemiterator","dict_reverseitemiterator","odict_iterator","itertools.zip_longest","itertools.pairwise"].contains n=false) (hQ:Q () s):wpAny M A (letOwnedTupleGo tg (.ref it) u) Q E s:=by
 unfold letOwnedTupleGo
 cases tg<;>first
  |exact Aqm hQ
  |(cases u<;>first
    |exact Aqm hQ
    |(refine Aql (wpAny_load ho ?_)
      rw[hc,hd]
      show wpAny M A (if (["enumerate","zip","dict_itemiterator","dict_reverseitemiterator","odict_iterator","itertools.zip_longest","itertools.pairwise"].contains n&&vs[0]? == some (rawInt _))=true then _ else _) Q E s
      rw[Aq0 (by intro h;rw[hn,Atj] at h;cases h)]
      exact Aqm hQ))
noncomputable def Itl (K:W.Frag) (a:Addr):It :=
 ⟨fun i H=>∃ xs x,SqL K H a xs/\xs[i]?=some x,fun i H x H'=>H'=H/\∀ xs,SqL K H a xs->xs[i]?=some x,fun i H=>∃ xs,SqL K H a xs/\xs.length<=i⟩
noncomputable def Itt (K:W.Frag) (a:Addr):It :=
 ⟨fun i H=>∃ xs x,SqT K H a xs/\xs[i]?=some x,fun i H x H'=>H'=H/\∀ xs,SqT K H a xs->xs[i]?=some x,fun i H=>∃ xs,SqT K H a xs/\xs.length<=i⟩
noncomputable def Itr (lo:Int) (n:Nat):It:=⟨fun i _=>i < n,fun i H x H'=>H'=H/\x=.int (lo+i),fun i _=>n<=i⟩
theorem Zo {P:Program}{w:World}{K:W.Frag}{tg:Expr} (a it:Addr):Turn P w K tg (Itl K a) [it] it (fun i h=>h.IsListIter it a i) where
 mem:=by simp
 obj:=fun i h st b hb=>by
  have e:b=it:=by simpa using hb
  subst e
  obtain⟨o,e,c,d⟩:=st
  exact⟨o,e,fun v z=>by rw[d] at z;cases z⟩
 keep:=fun i h h' st k=>st.at fun o e=>k it (by simp) o e
 item:=by
  intro X hP hw hK hc i pins s σ H E I hf st hg
  subst hP hw hK
  obtain⟨xs,x,hq,hx⟩:=hg
  obtain⟨its,rv,p,hz⟩:=I.list hq
  obtain⟨u,hu,ru⟩:=rv.get hx
  obtain⟨f0,f1,f2,f3,f4,f5⟩:=hf it (by simp)
  refine wpAny_pyNext_list_item st p.isList (x:=u) (by simpa using hu) fun h' st' sb=>?_
  have I1:Inv X pins σ H { s with heap:=h' }:=I.turned (t':=s.toks) (fun b o hb e=>(sb.2 b hb).trans e) f0 f1 f3 f4 f5
  obtain⟨o,e,c,d⟩:=id st'
  exact⟨u,rfl,Abi (s:={ s with heap:=h' }) e c d (by decide) ⟨x,H,I1,ru,⟨rfl,fun ys hy=>by rw[I.list_inj hy hq];exact hx⟩,st',fun b hb=>(hf b hb).1⟩⟩
 done:=by
  intro X hP hw hK hc i pins s σ H E I hf st hg
  subst hP hw hK
  obtain⟨xs,hq,hx⟩:=hg
  obtain⟨its,rv,p,hz⟩:=I.list hq
  obtain⟨f0,f1,f2,f3,f4,f5⟩:=hf it (by simp)
  have hl:=rv.length
  exact wpAny_pyNext_list_end (I.ok.hd hc) st p.isList (by simp;lia) fun h' eb=>⟨rfl,I.turned (t':=s.toks) (fun b o hb e=>eb b o hb e) f0 f1 f3 f4 f5⟩
 self:=fun _ _ _ _ _ st h=>wpAny_pyIter_listiter st h
theorem Vo {P:Program}{w:World}{K:W.Frag}{tg:Expr} (a it:Addr):Turn P w K tg (Itt K a) [it] it (fun i h=>h.IsTupleIter it a i) where
 mem:=by simp
 obj:=fun i h st b hb=>by
  have e:b=it:=by simpa using hb
  subst e
  obtain⟨o,e,c,d⟩:=st
  exact⟨o,e,fun v z=>by rw[d] at z;cases z⟩
 keep:=fun i h h' st k=>st.at fun o e=>k it (by simp) o e
 item:=by
  intro X hP hw hK hc i pins s σ H E I hf st hg
  subst hP hw hK
  obtain⟨xs,x,hq,hx⟩:=hg
  obtain⟨its,rv,p,hz⟩:=I.tuple hq
  obtain⟨u,hu,ru⟩:=rv.get hx
  obtain⟨f0,f1,f2,f3,f4,f5⟩:=hf it (by simp)
  refine wpAny_pyNext_tuple_item st (show s.heap.IsTuple a its.toArray from p) (x:=u) (by simpa using hu) fun h' st' sb=>?_
  have I1:Inv X pins σ H { s with heap:=h' }:=I.turned (t':=s.toks) (fun b o hb e=>(sb.2 b hb).trans e) f0 f1 f3 f4 f5
  obtain⟨o,e,c,d⟩:=id st'
  exact⟨u,rfl,Abi (s:={ s with heap:=h' }) e c d (by decide) ⟨x,H,I1,ru,⟨rfl,fun ys hy=>by rw[I.tuple_inj hy hq];exact hx⟩,st',fun b hb=>(hf b hb).1⟩⟩
 done:=by
  intro X hP hw hK hc i pins s σ H E I hf st hg
  subst hP hw hK
  obtain⟨xs,hq,hx⟩:=hg
  obtain⟨its,rv,p,hz⟩:=I.tuple hq
  obtain⟨f0,f1,f2,f3,f4,f5⟩:=hf it (by simp)
  have hl:=rv.length
  exact wpAny_pyNext_tuple_end (I.ok.hd hc) st (show s.heap.IsTuple a its.toArray from p) (by simp;lia) fun h' eb=>⟨rfl,I.turned (t':=s.toks) (fun b o hb e=>eb b o hb e) f0 f1 f3 f4 f5⟩
 self:=fun _ _ _ _ _ st h=>wpAny_pyIter_tupleiter st h
theorem Vn {P:Program}{w:World}{K:W.Frag}{tg:Expr} (it:Addr) (lo:Int) (n:Nat):Turn P w K tg (Itr lo n) [it] it (fun i h=>IsRangeIter h it (lo+(i:Nat) * 1) ((n:Int) - (i:Nat)) 1) where
 mem:=by simp
 obj:=fun i h st b hb=>by
  have e:b=it:=by simpa using hb
  subst e
  exact⟨_,st,fun v z=>by
   have z':Data.fields _=Data.cell v:=z
   cases z'⟩
 keep:=fun i h h' st k=>k it (by simp) _ st
 item:=by
  intro X hP hw hK hc i pins s σ H E I hf st hg
  subst hP hw hK
  obtain⟨f0,f1,f2,f3,f4,f5⟩:=hf it (by simp)
  have W:=Walks.range (prog:=X.prog) (w:=X.w) (I.ok.hd hc) it lo 1 n
  refine W.item i s _ _ hg st fun v h' tk hv st' kk=>?_
  obtain⟨t,rfl⟩:=hv
  have I1:Inv X pins σ H { s with heap:=h',toks:=tk }:=I.turned (fun b o hb e=>kk b o (by simpa using hb) e) f0 f1 f3 f4 f5
  refine⟨_,rfl,Abi (s:={ s with heap:=h',toks:=tk }) (n:="range_iterator") st' rfl rfl (by decide) ⟨.int (lo+i),H,I1,⟨t,?_⟩,⟨rfl,rfl⟩,st',fun b hb=>(hf b hb).1⟩⟩
  rw[Int.mul_one]
 done:=by
  intro X hP hw hK hc i pins s σ H E I hf st hg
  subst hP hw hK
  obtain⟨f0,f1,f2,f3,f4,f5⟩:=hf it (by simp)
  exact wpAny_pyNext_range_end (I.ok.hd hc) st (by have:n<=i:=hg;lia) fun h' eb=>⟨rfl,I.turned (t':=s.toks) (fun b o hb e=>eb b o hb e) f0 f1 f3 f4 f5⟩
 self:=fun _ _ _ _ _ st h=>wpAny_pyIter_rangeiter st h
section
variable {X:Cx}{tg:Expr}
theorem Acs {pins:List (Addr×Obj)}{σ:St}{H:Hp}{s:Shared}{R:It->Hp->Prop}{E:Value->Shared->Prop}{lo hi:Int}{t u v:Tok}{tk:Nat} (I:Inv X pins σ H s) (h1:-(2 ^ 62)<=lo) (h2:lo < 2 ^ 62) (h3:-(2 ^ 62)<=hi) (h4:hi < 2 ^ 62)
  (q:R (Itr lo (hi - lo).toNat) H):wpAny (model X.prog X.w) X.A (pyIter (.ref s.heap.objs.size)) (PIE X pins σ tg R) E { s with heap:=s.heap.push { cls:=.type "range",data:=.fields #[.int lo t,.int hi u,.int 1 v] },toks:=tk }:=by
 refine wpAny_pyIter_range (IsRange.new ..) (small_one h1 h2 h3 h4) ?_
 have I1:Inv X pins σ H { s with heap:=s.heap.push { cls:=.type "range",data:=.fields #[.int lo t,.int hi u,.int 1 v] },toks:=tk }:=I.kept fun b o e=>Aqn _ e
 refine⟨(s.heap.push { cls:=.type "range",data:=.fields #[.int lo t,.int hi u,.int 1 v] }).objs.size,[(s.heap.push { cls:=.type "range",data:=.fields #[.int lo t,.int hi u,.int 1 v] }).objs.size],_,_,H,rfl,
  I1.kept (t':=tk) fun b o e=>Aqn _ e,Vn _ lo (hi - lo).toNat,?_,fun b hb=>?_,q⟩
 ·have e1:lo+((0:Nat):Int) * 1=lo:=by simp
  have e2:(((hi - lo).toNat:Nat):Int) - ((0:Nat):Int)=Builtin.Range.rangeSize lo hi 1:=by rw[rangeSize_one];split<;>lia
  show IsRangeIter _ _ (lo+((0:Nat):Int) * 1) ((((hi - lo).toNat:Nat):Int) - ((0:Nat):Int)) 1
  rw[e1,e2]
  exact Aqt _ rfl
 ·have e:b=(s.heap.push { cls:=.type "range",data:=.fields #[.int lo t,.int hi u,.int 1 v] }).objs.size:=by simpa using hb
  subst e
  exact I1.fpOk (Aqo _) (I1.hok.fresh (Aqo _))
def Aoa (ta:TA):TI:=fun σ H R=>ta σ H fun vs H1=>∃ j:Int,vs=[.int j]/\-(2 ^ 62)<=j/\j < 2 ^ 62/\R (Itr 0 j.toNat) H1
theorem Yv {a:Expr}{ta:TA}{p pos:Pos} (hg:Gl X "range") (hm:X.mg "range"=none) (ha:PA X [a] ta) (hs:starEach [a] X.env=[(false,eval a X.env)]:=by rfl):PI X tg (.Call (.Name "range" p) [a] [] pos) (Aoa ta):=by
 intro pins s σ H R I h
 refine Call_ (Ip I hg hm boot_range (PyProof.Rows.callWith_type1 (thn (ha pos pins s σ H _ I h) fun us s1 ⟨vs,H1,I1,r1,q1⟩=>?_) hs rfl))
 obtain⟨j,e,q1,q2,q⟩:=q1
 subst e
 cases r1 with
 |cons r rr =>
  cases rr
  obtain⟨t,rfl⟩:=r
  exact call_range_1 (Acs I1 (by lia) (by lia) q1 q2 (by simpa using q))
noncomputable def Aqd (wi:TI) (g:TG) (tb:TS):TS:=fun D σ H=>wi σ H fun J H1=>∃ W:Nat->Nat->St->Hp->Prop,(∃ m,W 0 m σ H1)/\∀ i m σ H,W i m σ H ->
 (J.stop i H/\D.nx σ H)\/(J.go i H/\∃ N:St->Hp->Prop,(∀ σ' H',N σ' H'->∃ m',m' < m/\W (i+1) m' σ' H')/\∀ x H',J.yld i H x H'->g x σ H' fun σ2 H2=>tb { D with nx:=N,ct:=N,bk:=D.nx } σ2 H2)
noncomputable def Oa (fp:List Addr) (h:Heap):List (Addr×Obj):=fp.filterMap fun b=>(h.get? b).map fun o=>(b,o)
theorem Ge {fp:List Addr}{h:Heap}{b:Addr}{o:Obj} (hb:b∈fp) (e:h.get? b=some o):(b,o)∈Oa fp h:=List.mem_filterMap.mpr ⟨b,hb,by rw[e];rfl⟩
theorem Yj {fp:List Addr}{h:Heap}{p:Addr×Obj} (hp:p∈Oa fp h):p.1∈fp/\h.get? p.1=some p.2:=by
 obtain⟨b,hb,e⟩:=List.mem_filterMap.mp hp
 cases q:h.get? b with
 |none=>rw[q] at e;cases e
 |some o =>
  rw[q] at e
  have e':(b,o)=p:=Arn e
  subst e'
  exact⟨hb,q⟩
theorem Inv.pinned {pins:List (Addr×Obj)}{σ:St}{H:Hp}{s:Shared}{fp:List Addr} (I:Inv X pins σ H s) (hf:∀ b∈fp,Ac8 X pins H b) (ho:∀ b∈fp,∃ o,s.heap.get? b=some o/\∀ v,o.data≠.cell v):Inv X (pins++Oa fp s.heap) σ H s :=
 I.pins_of fun p hp=>(List.mem_append.mp hp).elim (fun z=>I.pin p (Aq5 _ z)) fun z=>by
  obtain⟨hb,e⟩:=Yj z
  obtain⟨f0,f1,f2,_⟩:=hf p.1 hb
  obtain⟨o,e',d⟩:=ho p.1 hb
  rw[e] at e';cases e'
  exact⟨e,f0,f1,f2,d⟩
theorem Inv.unpinned {pins pl:List (Addr×Obj)}{σ:St}{H:Hp}{s:Shared} (I:Inv X (pins++pl) σ H s):Inv X pins σ H s:=I.pins_of fun p hp=>I.pin p (Aq5 _ (Aq8 _ hp))
theorem Ald {iter:Expr}{body:List Stmt}{wi:TI}{g:TG}{tb:TS}{pos:Pos} (hp:PassesOwn (model X.prog X.w) X.A X.env X.xe) (hc:X.calm=true) (hi:PI X tg iter wi) (hg:PG X tg g) (hb:PSs X body tb)
  (hs:∀ x,foldedSetIterable iter X.env x=pure x:=by intro _;rfl):PS X (.For tg iter body [] pos) (Aqd wi g tb):=by
 intro pins s σ H D I h
 refine wpAny_For (thn (hi pins s σ H _ I h) fun v s1 h1=>thn h1 fun itv s2 h2=>?_) hs
 obtain⟨it,fp,tn,J,H2,e,I2,T,st2,f2,W,⟨m0,w0⟩,turn⟩:=h2
 subst e
 -- what stays true of the iterator's objects through the loop
 have stat:∀ {H':Hp},(∀ b∈fp,H' b=none)->∀ b∈fp,Ac8 X pins H' b:=fun hn b hb=>⟨hn b hb,(f2 b hb).2⟩
 refine codeAny_forLoop_any (fun n s'=>∃ i σ' H',Inv X pins σ' H' s'/\tn i s'.heap/\(∀ b∈fp,H' b=none)/\W i n σ' H') ?_ m0 ⟨0,σ,H2,I2,st2,fun b hb=>(f2 b hb).1,w0⟩
 rintro n s3 ⟨i,σ3,H3,I3,st3,fr3,w3⟩
 rcases turn i n σ3 H3 w3 with ⟨stop,qn⟩|⟨go,N,hN,step⟩
 ·refine Asm hp (thn (T.done X rfl rfl rfl hc i pins s3 σ3 H3 X.xe I3 (stat fr3) st3 stop) fun r s4 ⟨hr,I4⟩=>?_)
  subst hr
  exact wpAny_execs_nil ⟨σ3,H3,I4,qn⟩
 ·refine Asm hp (thn (T.item X rfl rfl rfl hc i pins s3 σ3 H3 X.xe I3 (stat fr3) st3 go) fun r s4 ⟨u,hr,h4⟩=>?_)
  subst hr
  refine Asm hp (thn h4 fun _ s5 ⟨x,H5,I5,r5,y5,st5,fr5⟩=>?_)
  have I5':=I5.pinned (stat fr5) (T.obj _ _ st5)
  refine Asm hp (thn (hg _ s5 σ3 H5 x u _ I5' r5 (step x H5 y5)) fun _ s6 ⟨σ6,H6,I6,q6⟩=>?_)
  refine Asm hp (thn (hb _ s6 σ6 H6 _ I6 q6) fun f s7 q7=>?_)
  have again:∀ {σ7:St}{H7:Hp},Inv X (pins++Oa fp s5.heap) σ7 H7 s7->N σ7 H7->∃ m,m < n/\∃ i σ' H',Inv X pins σ' H' s7/\tn i s7.heap/\(∀ b∈fp,H' b=none)/\W i m σ' H':=fun {σ7 H7} I7 n7=>by
   obtain⟨m',hm,w7⟩:=hN σ7 H7 n7
   refine⟨m',hm,i+1,σ7,H7,I7.unpinned,T.keep _ _ _ st5 fun b hb o e=>(I7.pin (b,o) (Aq5 _ (Aq5 _ (Ge hb e)))).1,fun b hb=>?_,w7⟩
   obtain⟨o,e,d⟩:=T.obj _ _ st5 b hb
   exact (I7.pin (b,o) (Aq5 _ (Aq5 _ (Ge hb e)))).2.1
  cases f with
  |next=>obtain⟨σ7,H7,I7,n7⟩:=q7;exact again I7 n7
  |cont=>obtain⟨σ7,H7,I7,n7⟩:=q7;exact again I7 n7
  |brk=>obtain⟨σ7,H7,I7,q7⟩:=q7;exact⟨σ7,H7,I7.unpinned,q7⟩
  |ret v=>obtain⟨x7,σ7,H7,I7,r7,q7⟩:=q7;exact⟨x7,σ7,H7,I7.unpinned,r7,q7⟩
end
abbrev R2:=V->V->Hp->VK->Prop
def OpR (X:Cx) (f:Value->Value->Sem Value) (r:R2):Prop :=
 ∀ (pins:List (Addr×Obj)) (s:Shared) (σ:St) (H:Hp) (x y:V) (v u:Value) (Q:VK),Inv X pins σ H s->RelV x v->RelV y u->r x y H Q ->
  wpAny (model X.prog X.w) X.A (f v u) (EP X pins σ Q) X.xe s
def Vv (X:Cx) (f:Value) (r:List V->Hp->VK->Prop):Prop :=
 ∀ (pins:List (Addr×Obj)) (s:Shared) (σ:St) (H:Hp) (xs:List V) (us:List Value) (Q:VK),Inv X pins σ H s->Vals xs us->r xs H Q ->
  wpAny (model X.prog X.w) X.A (call f us) (EP X pins σ Q) X.xe s
def Apz (X:Cx) (r:V->Hp->(Bool->Hp->Prop)->Prop):Prop :=
 ∀ (pins:List (Addr×Obj)) (s:Shared) (σ:St) (H:Hp) (x:V) (v:Value) (Q:Bool->Hp->Prop),Inv X pins σ H s->RelV x v->r x H Q ->
  wpAny (model X.prog X.w) X.A (truthy v) (TP X pins σ Q) X.xe s
noncomputable def tOp (r:R2) (ta tb:TE):TE:=fun σ H Q=>ta σ H fun x H1=>tb σ H1 fun y H2=>r x y H2 Q
noncomputable def rI (C:Int->Int->Prop) (g:Int->Int->V):R2:=fun x y H Q=>∃ i j,x=.int i/\y=.int j/\C i j/\Q (g i j) H
noncomputable def rI0 (g:Int->Int->V):R2:=fun x y H Q=>∃ i j,x=.int i/\y=.int j/\Q (g i j) H
section
variable {X:Cx}{a b c:Expr}{ta tb tc:TE}{pos:Pos}
theorem Anb (ha:PE X a ta) (hb:PE X b tb) {pins:List (Addr×Obj)}{s:Shared}{σ:St}{H:Hp}{R:V->V->Hp->Prop} (I:Inv X pins σ H s)
  (h:ta σ H fun x H1=>tb σ H1 fun y H2=>R x y H2) {Q:Value->Shared->Prop}{f:Value->Value->Sem Value}
  (hf:∀ v u s2 x y H2,Inv X pins σ H2 s2->RelV x v->RelV y u->R x y H2->wpAny (model X.prog X.w) X.A (f v u) Q X.xe s2) :
  wpAny (model X.prog X.w) X.A (eval a X.env) (fun v s₁=>wpAny (model X.prog X.w) X.A (eval b X.env) (fun u s₂=>wpAny (model X.prog X.w) X.A (f v u) Q X.xe s₂) X.xe s₁) X.xe s:=by
 refine thn (ha pins s σ H _ I h) fun v s1 ⟨x,H1,I1,r1,q1⟩=>?_
 refine thn (hb pins s1 σ H1 _ I1 q1) fun u s2 ⟨y,H2,I2,r2,q2⟩=>?_
 exact hf v u s2 x y H2 I2 r1 r2 q2
theorem Ak3 {op:Operator}{r:R2} (ho:OpR X (binaryOp op) r) (ha:PE X a ta) (hb:PE X b tb):PE X (.BinOp a op b pos) (tOp r ta tb):=by
 intro pins s σ H Q I h
 exact wpAny_BinOp (Anb ha hb I h fun v u s2 x y H2 I2 rx ry q=>ho pins s2 σ H2 x y v u Q I2 rx ry q)
theorem opI {f:Value->Value->Sem Value}{C:Int->Int->Prop}{g:Int->Int->Int}
  (rule:∀ (i j:Int) (t u:Tok) (s:Shared) (Q:Value->Shared->Prop) (E:Value->Shared->Prop),C i j->Q (.int (g i j) s.toks) { s with toks:=s.toks+1 }->wpAny (model X.prog X.w) X.A (f (.int i t) (.int j u)) Q E s) :
  OpR X f (rI C fun i j=>.int (g i j)):=by
 intro pins s σ H x y v u Q I rx ry h
 obtain⟨i,j,rfl,rfl,hc,q⟩:=h
 obtain⟨t,rfl⟩:=rx
 obtain⟨t',rfl⟩:=ry
 exact rule i j t t' s _ _ hc ⟨.int (g i j),H,I.tok _,⟨_,rfl⟩,q⟩
theorem Apn {f:Value->Value->Sem Value}{g:Int->Int->Int}
  (rule:∀ (i j:Int) (t u:Tok) (s:Shared) (Q:Value->Shared->Prop) (E:Value->Shared->Prop),Q (.int (g i j) s.toks) { s with toks:=s.toks+1 }->wpAny (model X.prog X.w) X.A (f (.int i t) (.int j u)) Q E s) :
  OpR X f (rI0 fun i j=>.int (g i j)):=by
 intro pins s σ H x y v u Q I rx ry h
 obtain⟨i,j,rfl,rfl,q⟩:=h
 obtain⟨t,rfl⟩:=rx
 obtain⟨t',rfl⟩:=ry
 exact rule i j t t' s _ _ ⟨.int (g i j),H,I.tok _,⟨_,rfl⟩,q⟩
theorem Apm {f:Value->Value->Sem Value}{g:Int->Int->Bool}
  (rule:∀ (i j:Int) (t u:Tok) (s:Shared) (Q:Value->Shared->Prop) (E:Value->Shared->Prop),Q (.bool (g i j)) s->wpAny (model X.prog X.w) X.A (f (.int i t) (.int j u)) Q E s) :
  OpR X f (rI0 fun i j=>.bl (g i j)):=by
 intro pins s σ H x y v u Q I rx ry h
 obtain⟨i,j,rfl,rfl,q⟩:=h
 obtain⟨t,rfl⟩:=rx
 obtain⟨t',rfl⟩:=ry
 exact rule i j t t' s _ _ ⟨.bl (g i j),H,I,rfl,q⟩
def Apk (i j:Int):Prop:=0 < j/\j < 1073741824
def CMul (i j:Int):Prop:=(-(2 ^ 64) < i/\i < 2 ^ 64)\/(-(2 ^ 64) < j/\j < 2 ^ 64)
theorem CMul.ok {i j:Int} (h:CMul i j):IntMulOk i j:=by
 rcases h with ⟨h1,h2⟩|⟨h1,h2⟩
 ·exact .of_left (intBits_le_64 h1 h2)
 ·exact .of_right (intBits_le_64 h1 h2)
theorem op_add:OpR X (binaryOp .Add) (rI0 fun i j=>.int (i+j)):=Apn fun _ _ _ _ _ _ _ q=>add_int q
theorem Akh:OpR X (binaryOp .Sub) (rI0 fun i j=>.int (i - j)):=Apn fun _ _ _ _ _ _ _ q=>sub_int q
theorem Akf:OpR X (binaryOp .Mult) (rI CMul fun i j=>.int (i * j)):=opI fun _ _ _ _ _ _ _ hc q=>mul_int q hc.ok
theorem Agp:OpR X (binaryOp .FloorDiv) (rI Apk fun i j=>.int (i / j)):=opI fun i j _ _ _ _ _ hc q=>by
 have h1:(0:Int) < j:=hc.1
 have h2:j < 1073741824:=hc.2
 exact floordiv_int (by lia) (by rw[Int.fdiv_eq_ediv_of_nonneg i (by lia)];exact q) (.inl (PyProof.noPylong_small (by lia)))
theorem Ake:OpR X (binaryOp .Mod) (rI (fun _ j=>0 < j) fun i j=>.int (i % j)):=opI fun i j _ _ _ _ _ hc q=>by
 have h1:(0:Int) < j:=hc
 exact mod_int' (by lia) (by rw[Int.fmod_eq_emod_of_nonneg i (by lia)];exact q)
end
section
variable {X:Cx}{a b c:Expr}{ta tb tc:TE}{pos:Pos}
theorem Ado {pins:List (Addr×Obj)}{σ:St}{H:Hp}{s:Shared}{Q:VK}{k k':Bool} (I:Inv X pins σ H s) (q:Q (.bl k) H) (e:k=k'):EP X pins σ Q (.bool k') s:=by
 subst e
 exact⟨.bl k,H,I,rfl,q⟩
theorem op_lt:OpR X (compareOp .Lt) (rI0 fun i j=>.bl (decide (i < j))):=Apm fun _ _ _ _ _ _ _ q=>lt_int q
theorem Aoq:OpR X (compareOp .Gt) (rI0 fun i j=>.bl (decide (j < i))):=Apm fun _ _ _ _ _ _ _ q=>gt_int q
theorem Yr:OpR X (compareOp .Lt) (fun x y H Q=>∃ i j,x=.str i/\y=.str j/\Q (.bl (decide (i.cps.toList < j.cps.toList))) H):=by
 intro pins s σ H x y v u Q I rx ry h
 obtain⟨i,j,rfl,rfl,q⟩:=h
 obtain⟨t,rfl⟩:=rx
 obtain⟨t',rfl⟩:=ry
 exact lt_str (Ado I q rfl)
theorem Ad5:OpR X (compareOp .Is) (fun x y H Q=>y=.non/\Q (.bl (decide (x=.non))) H):=by
 intro pins s σ H x y v u Q I rx ry h
 obtain⟨rfl,q⟩:=h
 cases ry
 refine is_none_gen (Ado I q ?_)
 cases x<;>first
  |(cases rx;rfl)
  |(obtain⟨t,rfl⟩:=rx;rfl)
theorem OpR.or {f:Value->Value->Sem Value}{r r':R2} (h:OpR X f r) (h':OpR X f r'):OpR X f (fun x y H Q=>r x y H Q\/r' x y H Q):=by
 intro pins s σ H x y v u Q I rx ry q
 rcases q with q|q
 ·exact h pins s σ H x y v u Q I rx ry q
 ·exact h' pins s σ H x y v u Q I rx ry q
theorem Adw (b:Expr) {op:CmpOp} (h:op≠.In:=by decide) (h2:op≠.NotIn:=by decide):behindInMarks op b=false:=by
 have e1:(op == CmpOp.In)=false:=by cases op<;>first|rfl|exact absurd rfl h
 have e2:(op == CmpOp.NotIn)=false:=by cases op<;>first|rfl|exact absurd rfl h2
 cases b<;>simp[behindInMarks,e1,e2]
theorem Ag0 {op:CmpOp}{r:R2} (ho:OpR X (compareOp op) r) (ha:PE X a ta) (hb:PE X b tb) (hm:behindInMarks op b=false):PE X (.Compare a [op] [b] pos) (tOp r ta tb):=by
 intro pins s σ H Q I h
 exact wpAny_Compare1 (Anb ha hb I h fun v u s2 x y H2 I2 rx ry q=>ho pins s2 σ H2 x y v u Q I2 rx ry q) hm
noncomputable def Api (t:TE):TT:=fun σ H Q=>t σ H fun x H'=>∃ k,x=.bl k/\Q k H'
theorem Ahk {op:CmpOp}{r:R2} (ho:OpR X (compareOp op) r) (ha:PE X a ta) (hb:PE X b tb) (hm:behindInMarks op b=false):PT X (.Compare a [op] [b] pos) (Api (tOp r ta tb)):=by
 intro pins s σ H Q I h
 refine wpAny_isTrue_Compare1 (thn (ha pins s σ H _ I h) fun v s1 ⟨x,H1,I1,r1,q1⟩=>thn (hb pins s1 σ H1 _ I1 q1) fun u s2 ⟨y,H2,I2,r2,q2⟩ =>
  thn (ho pins s2 σ H2 x y v u _ I2 r1 r2 q2) fun c s3 ⟨z,H3,I3,r3,k,e,q3⟩=>?_) hm
 subst e
 cases r3
 exact As7 ⟨H3,I3,q3⟩
def Amf (K:W.Frag) (x:V) (H:Hp) (k:Bool):Prop :=
 match x with
 |.non=>k=false
 |.bl b=>k=b
 |.int i=>k=(i != 0)
 |.str y=>y.length<=sizeLine/\k=((y.length:Int) != 0)
 |.byt y=>y.size<=sizeLine/\k=((y.size:Int) != 0)
 |.ref p=>(∃ xs,SqL K H p xs/\k=!xs.isEmpty)\/(∃ xs,SqT K H p xs/\k=!xs.isEmpty)\/∃ kvs,H p=some (.dK kvs)/\k=!kvs.isEmpty
 |_=>False
theorem Uy {κ:Type}{kvs:List (κ×V)}{vs:List (κ×Value)} (r:KV kvs vs):(!vs.isEmpty)=!kvs.isEmpty:=by
 cases r<;>rfl
theorem Jy {xs:List V}{its:List Value} (r:Vals xs its):(!its.toArray.isEmpty)=!xs.isEmpty:=by
 cases r<;>simp
theorem N6:(sizeLine:Nat) < 2 ^ 63:=by rw[Ar8];decide
theorem Ae1:Apz X (fun x H Q=>∃ k,Amf X.K x H k/\Q k H):=by
 intro pins s σ H x v Q I rx h
 obtain⟨k,e,q⟩:=h
 have hl:=N6
 have hs:sizeLine=16777216:=Ar8
 cases x with
 |non =>
  cases rx
  have e':k=false:=e
  subst e'
  exact truthy_none ⟨H,I,q⟩
 |bl b =>
  cases rx
  have e':k=b:=e
  subst e'
  exact As7 ⟨H,I,q⟩
 |int i =>
  obtain⟨t,rfl⟩:=rx
  have e':k=(i != 0):=e
  subst e'
  exact PySem.P.truthy_int ⟨H,I,q⟩
 |str y =>
  obtain⟨t,rfl⟩:=rx
  obtain⟨hy,e'⟩:y.length<=sizeLine/\k=((y.length:Int) != 0):=e
  subst e'
  exact PySem.P.truthy_str (by lia) ⟨H,I.tok _,q⟩
 |byt y =>
  obtain⟨t,rfl⟩:=rx
  obtain⟨hy,e'⟩:y.size<=sizeLine/\k=((y.size:Int) != 0):=e
  subst e'
  exact W.truthy_bytes (by lia) ⟨H,I.tok _,q⟩
 |ref p =>
  cases rx
  have e':(∃ xs,SqL X.K H p xs/\k=!xs.isEmpty)\/(∃ xs,SqT X.K H p xs/\k=!xs.isEmpty)\/∃ kvs,H p=some (.dK kvs)/\k=!kvs.isEmpty:=e
  rcases e' with ⟨xs,hx,e'⟩|⟨xs,hx,e'⟩|⟨kvs,hx,e'⟩
  ·subst e'
   obtain⟨its,r,pl,hz⟩:=I.list hx
   have hlen:=r.length
   exact wpAny_truthy_list pl.isList (by simp only[Aqq];lia) ⟨H,I.tok _,by rw[Jy r];exact q⟩
  ·subst e'
   obtain⟨its,r,pl,hz⟩:=I.tuple hx
   have hlen:=r.length
   exact truthy_tuple pl (by simp only[Aqq];lia) ⟨H,I.tok _,by rw[Jy r];exact q⟩
  ·subst e'
   obtain⟨hz,hS,vs,r,m⟩:kvs.length<=sizeLine/\(p == sysModules)=false/\∃ vs,KV kvs vs/\s.heap.DictOf (Dt X.prog X.w) p vs:=I.hok p _ hx
   have hlen:kvs.length=vs.length:=Paired.length r
   exact wpAny_truthy_dict hS m (by lia) ⟨H,I.tok _,by rw[Uy r];exact q⟩
 |_=>exact (show False from e).elim
theorem Acj (ha:PE X a ta) (he:∀ whole,isTrue a X.env whole=(do let v <- whole;standAt a.pos;holding [v] (truthy v))) :
  PT X a (fun σ H Q=>ta σ H fun x H'=>∃ k,Amf X.K x H' k/\Q k H'):=by
 intro pins s σ H Q I h
 exact isTrue_plain (thn (ha pins s σ H _ I h) fun v s1 ⟨x,H1,I1,r1,q1⟩=>Ae1 pins s1 σ H1 x v Q I1 r1 q1) (he _)
theorem op_add_str:OpR X (binaryOp .Add) (fun x y H Q=>∃ i j,x=.str i/\y=.str j/\i.length+j.length<=sizeLine/\Q (.str (i++j)) H):=by
 intro pins s σ H x y v u Q I rx ry h
 obtain⟨i,j,rfl,rfl,hz,q⟩:=h
 obtain⟨t,rfl⟩:=rx
 obtain⟨t',rfl⟩:=ry
 exact add_str (fun t' tk=>⟨.str (i++j),H,I.tok _,⟨_,rfl⟩,q⟩) hz
inductive V1 (x:V) (us:List Value):Prop where
 |mk (u:Value) (e:us=[u]) (r:RelV x u)
theorem M1 {x:V}{us:List Value} (r:Vals [x] us):V1 x us:=by
 cases r with
 |cons r1 r2=>cases r2;exact⟨_,rfl,r1⟩
theorem Aid {x y:V}{us:List Value} (r:Vals [x,y] us):∃ u w',us=[u,w']/\RelV x u/\RelV y w':=by
 cases r with
 |cons r1 r2 =>
  cases r2 with
  |cons r3 r4=>cases r4;exact⟨_,_,rfl,r1,r3⟩
theorem Xd (hc:X.calm=true):Vv X (.builtin "max") (fun xs H Q=>∃ i j,xs=[.int i,.int j]/\Q (.int (if j > i then j else i)) H):=by
 intro pins s σ H xs us Q I r h
 obtain⟨i,j,rfl,q⟩:=h
 obtain⟨u,w',rfl,⟨t,rfl⟩,⟨t',rfl⟩⟩:=Aid r
 refine max_two_ints (I.ok.hd hc) fun h' tk k=>⟨_,H,I.kept k,?_,q⟩
 by_cases hj:j > i
 ·rw[Aqx hj,Aqx hj];exact⟨_,rfl⟩
 ·rw[Aq0 hj,Aq0 hj];exact⟨_,rfl⟩
theorem Xe (hc:X.calm=true):Vv X (.builtin "min") (fun xs H Q=>∃ i j,xs=[.int i,.int j]/\Q (.int (if j < i then j else i)) H):=by
 intro pins s σ H xs us Q I r h
 obtain⟨i,j,rfl,q⟩:=h
 obtain⟨u,w',rfl,⟨t,rfl⟩,⟨t',rfl⟩⟩:=Aid r
 refine min_two_ints (I.ok.hd hc) fun h' tk k=>⟨_,H,I.kept k,?_,q⟩
 by_cases hj:j < i
 ·rw[Aqx hj,Aqx hj];exact⟨_,rfl⟩
 ·rw[Aq0 hj,Aq0 hj];exact⟨_,rfl⟩
theorem Nk:Vv X (.type "int") (fun xs H Q=>(∃ i,xs=[.int i]/\Q (.int i) H)\/∃ k,xs=[.bl k]/\Q (.int (if k then 1 else 0)) H):=by
 intro pins s σ H xs us Q I r h
 rcases h with ⟨i,rfl,q⟩|⟨k,rfl,q⟩
 ·obtain⟨u,rfl,t,rfl⟩:=M1 r
  exact call_int_int ⟨.int i,H,I,⟨_,rfl⟩,q⟩
 ·obtain⟨u,rfl,r1⟩:=M1 r
  cases r1
  exact call_int_bool ⟨.int (if k then 1 else 0),H,I.tok _,⟨_,rfl⟩,q⟩
def Ano (K:W.Frag) (x:V) (H:Hp) (n:Nat):Prop :=
 match x with
 |.str y=>y.length<=sizeLine/\n=y.length
 |.byt y=>y.size<=sizeLine/\n=y.size
 |.ref p=>(∃ xs,SqL K H p xs/\n=xs.length)\/∃ xs,SqT K H p xs/\n=xs.length
 |_=>False
theorem Aa3:Vv X (.builtin "len") (fun xs H Q=>∃ x n,xs=[x]/\Ano X.K x H n/\Q (.int n) H):=by
 intro pins s σ H xs us Q I r h
 obtain⟨x,n,rfl,e,q⟩:=h
 obtain⟨u,rfl,rx⟩:=M1 r
 have hl:=N6
 have hs:sizeLine=16777216:=Ar8
 cases x with
 |str y =>
  obtain⟨t,rfl⟩:=rx
  obtain⟨hy,e'⟩:y.length<=sizeLine/\n=y.length:=e
  subst e'
  exact len_str (by lia) ⟨.int _,H,I.tok _,⟨_,rfl⟩,q⟩
 |byt y =>
  obtain⟨t,rfl⟩:=rx
  obtain⟨hy,e'⟩:y.size<=sizeLine/\n=y.size:=e
  subst e'
  exact W.len_bytes (by lia) ⟨.int _,H,I.tok _,⟨_,rfl⟩,q⟩
 |ref p =>
  cases rx
  have e':(∃ xs,SqL X.K H p xs/\n=xs.length)\/∃ xs,SqT X.K H p xs/\n=xs.length:=e
  rcases e' with ⟨xs,hx,e'⟩|⟨xs,hx,e'⟩
  ·subst e'
   obtain⟨its,r',pl,hz⟩:=I.list hx
   have hlen:=r'.length
   exact Calls.call_len_list pl.isList (by simp only[Aqq];lia) ⟨.int xs.length,H,I.tok _,⟨_,by simp only[Aqq];rw[hlen]⟩,q⟩
  ·subst e'
   obtain⟨its,r',pl,hz⟩:=I.tuple hx
   have hlen:=r'.length
   exact len_tuple pl (by simp only[Aqq];lia) ⟨.int xs.length,H,I.tok _,⟨_,by simp only[Aqq];rw[hlen]⟩,q⟩
 |_=>exact (show False from e).elim
end
structure ObjM (h:Heap) (x dx C:Addr) (mA:Str->Option Value):Prop where
 obj:h.get? x=some (W.instObj C dx)
 ns:h.Ns1 dx mA
 ne:dx≠x
set_option tactic.hygienic true in
theorem X8 {h:Heap}{dx:Addr}{mA:Str->Option Value} (n:h.Ns1 dx mA):∃ od,h.get? dx=some od/\∀ name,W.lookIn name od=some (mA name):=by
 obtain⟨o,es,ep,ho,hd,hk,_,hm⟩:=n
 refine⟨o,ho,fun name=>?_⟩
 have e:=hm name
 unfold nsFind findBy at e
 rw[<- Array.find?_toList] at e
 unfold W.lookIn
 rw[hd]
 dsimp only
 split
 ·rename_i y q
  rw[q] at e
  exact Asc some e
 ·rename_i q
  rw[q] at e
  have a:es.toList.any (·.refKey)=false:=by
   rw[List.any_eq_false]
   intro y hy
   obtain⟨z,t,hkey⟩:=hk y (Array.mem_toList_iff.mp hy)
   simp[DictEntry.refKey,hkey]
  have a':¬ es.toList.any (·.refKey)=true:=by rw[a];exact Arb
  rw[Aq0 a']
  exact Asc some e
theorem ObjM.look {h:Heap}{x dx C:Addr}{mA:Str->Option Value} (I:ObjM h x dx C mA):∃ od,W.InstAt h x (W.instObj C dx) C (some od)/\∀ name,W.lookIn name od=some (mA name) :=
 let ⟨od,ho,hl⟩:=X8 I.ns
 ⟨od,⟨I.obj,rfl,rfl,ho⟩,hl⟩
section
variable {prog:Program}{w:World}{A:Around}{E:Value->Shared->Prop}{s:Shared}{K:W.Frag}{x dx C f:Addr}{mA:Str->Option Value}{name:Str}{v:Value}
end
section
variable {P:Program}{w:World}{K:W.Frag}{H H':Hp}{h h':Heap}{a C dx:Addr}{fs fs':List (Str×V)}
theorem Af8 (hok:HOk P w K H h) (e:H a=some (.ins C dx fs)):∃ mA,ObjM h a dx C mA/\(∀ f,Air (fs.lookup f) (mA f))/\PySem.Within mA (fs.map (·.1))/\fs.length<=1000/\H dx=some (.own a):=by
 obtain⟨d,z,ne,ob,mA,n,r,q⟩:=(show ObjOk P w K H h a (.ins C dx fs) from hok a _ e)
 exact⟨mA,⟨ob,n,ne⟩,r,q,z,d⟩
end
structure Cls (K:W.Frag) (C:Addr):Prop where
 pg:W.plainGet K C Str.empty=true
 hd:W.hasDictIn K C=true
 po:W.plainOver K C=true
 sa:W.findIn K (.ref C) "__setattr__"=some (some (.builtin "object.__setattr__"))
theorem Cls.get {K:W.Frag}{C:Addr} (c:Cls K C) (f:Str):W.plainGet K C f=true:=c.pg
section
variable {X:Cx}{pins:List (Addr×Obj)}{σ:St}{H:Hp}{s:Shared}{a C dx:Addr}{fs:List (Str×V)}{f:Str}{v:V}{A:Around}{E:Value->Shared->Prop}
end
section
variable {X:Cx}{o e value:Expr}{f:Str}{pos pos' tpos:Pos}{ta tv:TE}
end
section
variable {X:Cx}{pins:List (Addr×Obj)}{σ:St}{H:Hp}{s:Shared}{A:Around}{E:Value->Shared->Prop}{Q:Value->Shared->Prop}{c:Value}{b:Bool}
inductive TyOf (K:W.Frag) (H:Hp):V->Value->Prop where
 |non:TyOf K H .non (.type "NoneType")
 |bl (x:Bool):TyOf K H (.bl x) (.type "bool")
 |int (i:Int):TyOf K H (.int i) (.type "int")
 |str (x:Str):TyOf K H (.str x) (.type "str")
 |flt (x:UInt64):TyOf K H (.flt x) (.type "float")
 |lst {a:Addr}{xs:List V} (e:H a=some (.lst xs)):TyOf K H (.ref a) (.type "list")
 |frz {a:Addr}{o:Obj}{xs:List V} (e:H a=some (.frz o (.lst xs))):TyOf K H (.ref a) (.type "list")
 |tup {a:Addr}{xs:List V} (e:H a=some (.tup xs)):TyOf K H (.ref a) (.type "tuple")
 |dK {a:Addr}{kvs:List (Key×V)} (e:H a=some (.dK kvs)):TyOf K H (.ref a) (.type "dict")
 |dT {a:Addr}{kvs:List (PyData×V)} (e:H a=some (.dT kvs)):TyOf K H (.ref a) (.type "dict")
 |ins {a C dx:Addr}{fs:List (Str×V)} (e:H a=some (.ins C dx fs)) (cl:Cls K C) (ha:W.findIn K (.ref C) "__class__"=some (some (.builtin "object.__class__")))
   (hn:W.specialIn K (.builtin "object.__class__") "__get__"=some (some (.builtin "getset_descriptor.__get__"))) (htk:W.takesIn K (.builtin "object.__class__")=some true)
   (hm:W.mroIn K C (.type "object")=some true):TyOf K H (.ref a) (.ref C)
theorem Cn {x:V}{u t:Value} (I:Inv X pins σ H s) (rx:RelV x u) (ty:TyOf X.K H x t) (e:W.kitOne X.K t c=some b) (h:∀ tk,Q (.bool b) { s with toks:=tk }) :
  wpAny (model X.prog X.w) A (call (.builtin "isinstance") [u,c]) Q E s:=by
 cases ty with
 |non=>cases (show u=Value.none from rx);exact W.kia_one W.kitx_none I.kIn Atk e (fun z=>nomatch z) h
 |bl y=>cases (show u=Value.bool y from rx);exact W.kia_one W.kitx_bool I.kIn Atk e (fun z=>nomatch z) h
 |int i=>obtain⟨t,q⟩:=(show ∃ t,u=Value.int i t from rx);cases q;exact W.kia_one W.kitx_int I.kIn Atk e (fun z=>nomatch z) h
 |str y=>obtain⟨t,q⟩:=(show ∃ t,u=Value.str y t from rx);cases q;exact W.kia_one W.kitx_str I.kIn Atk e (fun z=>nomatch z) h
 |flt y=>obtain⟨t,q⟩:=(show ∃ t,u=Value.float y t from rx);cases q;exact W.kia_one W.kitx_float I.kIn Atk e (fun z=>nomatch z) h
 |@lst a xs ea =>
  cases (show u=Value.ref a from rx)
  obtain⟨_,_,n,_,h1⟩:=(show ObjOk X.prog X.w X.K H s.heap a (.lst xs) from I.hok a _ ea)
  exact W.kia_one W.kitx_list I.kIn ⟨_,h1,rfl⟩ e (fun z=>nomatch z) h
 |@frz a ob xs ea =>
  cases (show u=Value.ref a from rx)
  obtain⟨_,_,_,n,_,h1⟩:=(show ObjOk X.prog X.w X.K H s.heap a (.frz ob (.lst xs)) from I.hok a _ ea)
  exact W.kia_one W.kitx_list I.kIn ⟨_,h1,rfl⟩ e (fun z=>nomatch z) h
 |@tup a xs ea =>
  cases (show u=Value.ref a from rx)
  obtain⟨_,_,_,p⟩:=(show ObjOk X.prog X.w X.K H s.heap a (.tup xs) from I.hok a _ ea)
  obtain⟨o,h1,h2,_⟩:=p
  exact W.kia_one W.kitx_tuple I.kIn ⟨o,h1,h2⟩ e (fun z=>nomatch z) h
 |@dK a kvs ea =>
  cases (show u=Value.ref a from rx)
  obtain⟨_,_,vs,_,p⟩:=(show ObjOk X.prog X.w X.K H s.heap a (.dK kvs) from I.hok a _ ea)
  obtain⟨o,es,ep,h1,h2,_⟩:=p
  exact W.kia_one W.kitx_dict I.kIn ⟨o,h1,h2.1⟩ e (fun z=>nomatch z) h
 |@dT a kvs ea =>
  cases (show u=Value.ref a from rx)
  obtain⟨_,_,xs,_,o,es,ep,h1,h2,_⟩:=(show ObjOk X.prog X.w X.K H s.heap a (.dT kvs) from I.hok a _ ea)
  exact W.kia_one W.kitx_dict I.kIn ⟨o,h1,h2.1⟩ e (fun z=>nomatch z) h
 |@ins a C dx fs ea cl ha hn htk hm =>
  cases (show u=Value.ref a from rx)
  obtain⟨mA,O,_⟩:=Af8 I.hok ea
  obtain⟨od,J,_⟩:=O.look
  exact W.kia_one (W.kitx_own (cl.get _) cl.hd ha hn htk hm) I.kIn J e (fun z=>nomatch z) h
end
structure Room (k:Nat) (A:Around):Prop where
 hd:A.handled=none
 dp:A.depth+3 * k+5 < recursionLimit
 un:A.units+16 * k+200 < cLine
theorem Room.mono {j k:Nat}{A:Around} (r:Room k A) (h:j<=k):Room j A:=⟨r.hd,by have:=r.dp;lia,by have:=r.un;lia⟩
theorem Room.deeper {k:Nat}{A:Around} (r:Room (k+1) A) (env:Env):Room k (A.deeper env) :=
 ⟨r.hd,by have:=r.dp;show A.depth+1+3 * k+5 < _;lia,by have:=r.un;show A.units+3+16 * k+200 < _;lia⟩
theorem Room.depth {k:Nat}{A:Around} (r:Room k A):A.depth < recursionLimit:=by have:=r.dp;lia
theorem Room.units {k:Nat}{A:Around} (r:Room k A):A.units+64 < cLine:=by have:=r.un;lia
noncomputable def Apw:TA:=fun _ H Q=>Q [] H
noncomputable def Aia (ta:TE) (tr:TA):TA:=fun σ H Q=>ta σ H fun x H1=>tr σ H1 fun xs H2=>Q (x::xs) H2
section
variable {X:Cx}{e:Expr}{es:List Expr}{te:TE}{t:TA}{pos:Pos}
theorem Ys:PA X [] Apw:=fun _ _ _ _ H Q I h=>Calls.spliced_nil ⟨[],H,I,.nil,h⟩
theorem Mn (ha:PE X e te) (hr:PA X es t) (hs:starEach (e::es) X.env=(false,eval e X.env)::starEach es X.env:=by rfl):PA X (e::es) (Aia te t):=by
 intro pos pins s σ H Q I h
 rw[hs]
 show wpAny _ _ (spliced ((false,eval e X.env)::backTo pos (starEach es X.env))) _ _ s
 refine Calls.spliced_cons (thn (ha pins s σ H _ I h) fun u s1 ⟨x,H1,I1,r1,q1⟩=>?_)
 exact thn (hr pos pins s1 σ H1 _ I1 q1) fun us s2 ⟨xs,H2,I2,r2,q2⟩=>⟨x::xs,H2,I2,.cons r1 r2,q2⟩
def Aqj (t:TA):TE:=fun σ H Q=>t σ H fun xs H1=>xs.length<=sizeLine/\∀ p,H1 p=none->Q (.ref p) (upd H1 p (.tup xs))
def Aqf (t:TA):TE:=fun σ H Q=>t σ H fun xs H1=>xs.length<=sizeLine/\∀ p,H1 p=none->Q (.ref p) (upd H1 p (.lst xs))
theorem Ak6 {x1} (h:PA X es t):PE X (.Tuple es x1 pos) (Aqj t):=by
 intro pins s σ H Q I hq
 refine wpAny_Tuple_spliced (thn (h pos pins s σ H _ I hq) fun us s1 ⟨xs,H1,I1,r,z,q⟩=>⟨by rw[<- r.length];exact z,?_⟩)
 have hf:H1 s1.heap.objs.size=none:=I1.hok.fresh (Aqo _)
 refine⟨.ref s1.heap.objs.size,upd H1 s1.heap.objs.size (.tup xs),I1.laid (t':=s1.toks) (fun b u e=>Aqn _ e) (Aqo _) ?_,rfl,q _ hf⟩
 exact⟨z,us,r,TupD.new _ _⟩
theorem Ak1 (h:PA X es t):PE X (.List es pos) (Aqf t):=by
 intro pins s σ H Q I hq
 refine wpAny_List_spliced (thn (h pos pins s σ H _ I hq) fun us s1 ⟨xs,H1,I1,r,z,q⟩=>⟨by rw[<- r.length];exact z,?_⟩)
 have hf:H1 s1.heap.objs.size=none:=I1.hok.fresh (Aqo _)
 refine⟨.ref s1.heap.objs.size,upd H1 s1.heap.objs.size (.lst xs),I1.laid (t':=s1.toks) (fun b u e=>Aqn _ e) (Aqo _) ?_,rfl,q _ hf⟩
 exact⟨z,us,0,r,Aqt _ rfl⟩
end
abbrev Sp:=List V->Hp->VK->XK->Prop
abbrev CXT:=List Env->Hp->Shared->XK->Value->Shared->Prop
structure Env0 (P:Program) (w:World) (K:W.Frag) (mg:Str->Option Value) (base:Heap) (A:Around) (outer:List Env) (s:Shared) (H:Hp):Prop where
 frames:A.frames=some outer
 mod:Mod K mg base
 bs:∀ b o,base.get? b=some o->s.heap.get? b=some o/\H b=none
 bsz:base.objs.size<=s.heap.objs.size
 funs:s.heap.FunFrames base outer
 frf:∀ b∈frs outer,H b=none
 hok:HOk P w K H s.heap
 bare:AllBare s.gens
def CE (outer:List Env) (P:Program) (w:World) (K:W.Frag) (H:Hp) (s:Shared) (Q:VK) (u:Value) (s':Shared):Prop :=
 ∃ v H',s'.os=s.os/\AllBare s'.gens/\Un (frs outer) [] H H' s.heap s'.heap/\HOk P w K H' s'.heap/\RelV v u/\Q v H'
def CR (CX:CXT) (outer:List Env) (P:Program) (w:World) (K:W.Frag) (H:Hp) (s:Shared) (Q:VK) (E:XK) (r:Result) (s':Shared):Prop :=
 match r with
 |.ok (.ret u)=>CE outer P w K H s Q u s'
 |.ok _=>False
 |.error e=>CX outer H s E e s'
structure FnOk (P:Program) (w:World) (K:W.Frag) (mg:Str->Option Value) (base:Heap) (CX:CXT) (k:Nat) (f:Addr) (fd:FuncData) (ps:List Str) (sp:Sp):Prop where
 len:∀ vs H Q E,sp vs H Q E->vs.length=ps.length
 run:∀ (A:Around) (outer:List Env) (s:Shared) (H:Hp) (args:Args) (us:List Value) (vs:List V) (Q:VK) (E:XK),Room k A->Env0 P w K mg base A outer s H->BindsTo s fd args (ps.zip us)->Vals vs us->sp vs H Q E ->
  codeAny (model P w) A (.call (.ref f) args) (CR CX outer P w K H s Q E) s
section
variable {X:Cx}{pins:List (Addr×Obj)}{σ:St}{H:Hp}{s s':Shared}
theorem Inv.env0 (I:Inv X pins σ H s):Env0 X.prog X.w X.K X.mg X.base X.A X.stack s H :=
 ⟨I.ok.frames,I.ok.mod,I.bs,Arf I.ok.bsz I.sz,I.stack,I.stkFree,I.hok,I.bare⟩
theorem Inv.after {Q:VK}{u:Value} (I:Inv X pins σ H s) (h:CE X.stack X.prog X.w X.K H s Q u s'):EP X pins σ Q u s':=by
 obtain⟨v,H',os,bare,un,hok,r,q⟩:=h
 obtain⟨hh,g,d,t,os'⟩:=s'
 obtain rfl:os'=s.os:=os
 exact⟨v,H',I.call (h':=hh) (g':=g) (d':=d) (t':=t) (ch:=[]) un hok bare (fun b z=>absurd z (by simp)),r,q⟩
end
noncomputable def Ama (sp:Sp) (dvs:List V) (E:XK) (t:TA):TE:=fun σ H Q=>t σ H fun vs H1=>sp (vs++dvs) H1 Q E
def Binds (K:W.Frag) (fd:FuncData) (ps:List Str) (ds:List Value):Prop :=
 ∀ (s:Shared) (us:List Value),K.In s.heap->(us++ds).length=ps.length->BindsTo s fd ⟨us,[]⟩ (ps.zip (us++ds))
theorem Binds.all {K:W.Frag}{fd:FuncData}{ps:List Str} (h:∀ us:List Value,us.length=ps.length->bindArgs fd ⟨us,[]⟩=pure (ps.zip us)):Binds K fd ps []:=fun s us _ hl=>by
 rw[Arc] at hl ⊢
 exact .of_eq (h us hl)
def M5 (CX:CXT) (X:Cx) (E:XK):Prop:=∀ (pins:List (Addr×Obj)) (σ:St) (H:Hp) (s:Shared) (e:Value) (s':Shared),Inv X pins σ H s->CX X.stack H s E e s'->X.xe e s'
section
variable {X:Cx}{CX:CXT}{k:Nat}{f C:Addr}{fd:FuncData}{ps:List Str}{sp:Sp}{dvs:List V}{ds:List Value}{E:XK}{x m:Str}{p pos apos:Pos}{e o:Expr}{es:List Expr}{ta:TE}{t:TA}
theorem Als {pins:List (Addr×Obj)}{σ:St}{H:Hp}{s:Shared}{Q:VK}{us:List Value}{vs:List V} (F:FnOk X.prog X.w X.K X.mg X.base CX k f fd ps sp) (hr:Room k X.A) (hb:Binds X.K fd ps ds) (hd:Vals dvs ds) (hx:M5 CX X E)
  (I:Inv X pins σ H s) (r:Vals vs us) (h:sp (vs++dvs) H Q E):wpAny (model X.prog X.w) X.A (call (.ref f) us) (EP X pins σ Q) X.xe s:=by
 have r2:Vals (vs++dvs) (us++ds):=r.append hd
 have hl:(us++ds).length=ps.length:=by rw[<- r2.length];exact F.len _ _ _ _ h
 refine wpAny_call (codeAny_mono (F.run X.A X.stack s H ⟨us,[]⟩ (us++ds) (vs++dvs) Q E hr I.env0 (hb s us I.kIn hl) r2 h) fun r s' hq=>?_)
 cases r with
 |error e=>exact hx pins σ H s e s' I hq
 |ok fl =>
  cases fl with
  |ret u=>exact I.after hq
  |next=>exact False.elim hq
  |brk=>exact False.elim hq
  |cont=>exact False.elim hq
theorem Pg (F:FnOk X.prog X.w X.K X.mg X.base CX k f fd ps sp) (hr:Room k X.A) (hg:Gl X x) (hm:X.mg x=some (.ref f)) (hk:W.keepIn X.K (.ref f)=true) (hb:Binds X.K fd ps ds) (hd:Vals dvs ds) (hx:M5 CX X E)
  (ha:PA X (e::es) t) (hdb:(x == ("__debug__":Str))=false:=by decide) (he:starEach (e::es) X.env=(false,eval e X.env)::starEach es X.env:=by rfl) (hpl:(backTo pos (starEach es X.env)).any (·.1)=false:=by rfl) :
  PE X (.Call (.Name x p) (e::es) [] pos) (Ama sp dvs E t):=by
 intro pins s σ H Q I h
 refine Asj (Agb I hg hm ?_ hdb)
 refine W.callWith_K (h₀:=X.base) I.ok.mod.kin hk (thn (ha pos pins s σ H _ I h) fun us s1 ⟨vs,H1,I1,r,q⟩=>⟨I1.kIn,?_⟩) he hpl
 exact Als F hr hb hd hx I1 r q
end
section
variable {X:Cx}{CX:CXT}{k:Nat}{f C:Addr}{fd:FuncData}{ps ks:List Str}{sp:Sp}{E:XK}{x m:Str}{p pos apos kpos:Pos}{e o:Expr}{es:List Expr}{kws:List Keyword}{te ta:TE}{t tk:TA}{nm:Option Str}
variable {g:List Value->List Value->List Value}{gV:List V->List V->List V}
end
structure FnScope (N P:List Str) (sc:Scope):Prop where
 kind:sc.kind=.function
 co:sc.isCoroutine=false
 gen:sc.isGenerator=false
 nd:N.Nodup
 pre:N.take P.length=P
 par:∀ x∈P,sc.names.lookup x=some .local\/sc.names.lookup x=some .cell
 nofree:∀ y∈sc.names,y.2≠.free
theorem Nj {kindOf:Str->Option NameKind}{x:Str}:∀ {binds:List (Str×Value)}{m:Str->Option Value},(∀ v,(x,v)∉binds)->bindL kindOf binds m x=m x
 |[],_,_=>rfl
 |(n,v)::r,m,h=>by
  unfold bindL
  rw[Nj fun w hw=>h w (Aqr _ hw)]
  split
  ·have:x≠n:=by rintro rfl;exact h v Aqy
   simp[this]
  ·rfl
theorem Nh {kindOf:Str->Option NameKind}{x:Str}:∀ {binds:List (Str×Value)}{m:Str->Option Value},(∀ v,(x,v)∉binds)->bindC kindOf binds m x=m x
 |[],_,_=>rfl
 |(n,v)::r,m,h=>by
  unfold bindC
  rw[Nh fun w hw=>h w (Aqr _ hw)]
  split
  ·rfl
  ·have:x≠n:=by rintro rfl;exact h v Aqy
   simp[this]
theorem Ni {kindOf:Str->Option NameKind}{x:Str}{v:Value}:∀ {P:List Str}{vs:List Value}{i:Nat}{m:Str->Option Value},P.Nodup->P[i]?=some x->vs[i]?=some v->kindOf x=some .local ->
  bindL kindOf (P.zip vs) m x=some v
 |[],_,_,_,_,h,_,_=>by simp at h
 |_::_,[],_,_,_,_,h,_=>by simp at h
 |p::P,w::vs,0,m,nd,h1,h2,hk=>by
  simp at h1 h2;subst h1;subst h2
  show bindL kindOf ((p,w)::P.zip vs) m p=_
  unfold bindL
  rw[Nj fun v hv=>(List.nodup_cons.mp nd).1 (List.of_mem_zip hv).1,Aqx hk]
  simp
 |p::P,w::vs,i+1,m,nd,h1,h2,hk=>by
  show bindL kindOf ((p,w)::P.zip vs) m x=_
  unfold bindL
  exact Ni (i:=i) (List.nodup_cons.mp nd).2 (by simpa using h1) (by simpa using h2) hk
theorem Ng {kindOf:Str->Option NameKind}{x:Str}{v:Value}:∀ {P:List Str}{vs:List Value}{i:Nat}{m:Str->Option Value},P.Nodup->P[i]?=some x->vs[i]?=some v->kindOf x≠some .local ->
  bindC kindOf (P.zip vs) m x=some v
 |[],_,_,_,_,h,_,_=>by simp at h
 |_::_,[],_,_,_,_,h,_=>by simp at h
 |p::P,w::vs,0,m,nd,h1,h2,hk=>by
  simp at h1 h2;subst h1;subst h2
  show bindC kindOf ((p,w)::P.zip vs) m p=_
  unfold bindC
  rw[Nh fun v hv=>(List.nodup_cons.mp nd).1 (List.of_mem_zip hv).1,Aq0 hk]
  simp
 |p::P,w::vs,i+1,m,nd,h1,h2,hk=>by
  show bindC kindOf ((p,w)::P.zip vs) m x=_
  unfold bindC
  exact Ng (i:=i) (List.nodup_cons.mp nd).2 (by simpa using h1) (by simpa using h2) hk
noncomputable def Jc (N:List Str) (vs:List V):St:=vs.map some++List.replicate (N.length - vs.length) none
noncomputable def Aa8 (CX:CXT) (P:Program) (w:World) (K:W.Frag) (mg:Str->Option Value) (base:Heap) (N:List Str) (qual:Str) (scope:Scope) (f:Addr) (cd:Value) (A:Around) (outer:List Env) (s:Shared) (H:Hp) (E:XK):Cx where
 prog:=P
 w:=w
 K:=K
 mg:=mg
 base:=base
 A:=A.deeper (envOfC qual scope s.heap.objs.size f cd)
 N:=N
 s₀:=s
 H₀:=H
 env:=envOfC qual scope s.heap.objs.size f cd
 outer:=outer
 stack:=envOfC qual scope s.heap.objs.size f cd::outer
 ex:=[]
 calm:=true
 fn:=fun _=>true
 pn:=[]
 xe:=fun e s'=>wpAny (model P w) (A.deeper (envOfC qual scope s.heap.objs.size f cd)) (leaving (envOfC qual scope s.heap.objs.size f cd) e) (fun _ s''=>CX outer H s E e s'') (fun e' s''=>CX outer H s E e' s'') s'
theorem R0 {sc:Scope}{n:Nat}{x:Str} (h:sc.names.lookup x=some .cell):∃ c,(cellsFrom n sc.names []).lookup x=some c:=by
 have q:=W.cellsFrom_some sc.names n [] (.inl h)
 exact Option.isSome_iff_exists.mp q
theorem X3 {CX:CXT}{P:Program}{w:World}{K:W.Frag}{mg:Str->Option Value}{base:Heap}{N ps:List Str}{qual:Str}{scope:Scope}{f:Addr}{cd:Value}{A:Around}{outer:List Env}{s s1:Shared}{H:Hp}{E:XK}{us:List Value}{vs:List V}
  (S:FnScope N ps scope) (hd:A.handled=none) (e0:Env0 P w K mg base A outer s H) (hl:vs.length=ps.length) (r:Vals vs us)
  (x:InCallC s s.heap.objs.size (bindL (envOfC qual scope s.heap.objs.size f cd).kindOf (ps.zip us) fun _=>none) (cellsFrom (s.heap.objs.size+1) scope.names []) (bindC (envOfC qual scope s.heap.objs.size f cd).kindOf (ps.zip us) fun _=>none) s1) :
  Inv (Aa8 CX P w K mg base N qual scope f cd A outer s H E) [] (Jc N vs) H s1:=by
 have hpl:ps.length<=N.length:=by have:=Asc List.length S.pre;rw[Asb] at this;lia
 obtain⟨h1,tk,rfl,hk⟩:=x.done
 have noA:∀ b:Addr,b∉(Aa8 CX P w K mg base N qual scope f cd A outer s H E).ex:=fun b z=>absurd (show b∈([]:List Addr) from z) (by simp)
 refine⟨⟨e0.mod,S.kind,rfl,rfl,Aqo _,fun y z c h1 h2=>?_,fun y hy=>?_,fun y c _ h=>?_,fun _=>hd,Around.frames_deeper e0.frames,.inr ⟨rfl,rfl⟩,fun b z=>absurd z (noA b),e0.bs,e0.bsz,fun b _ _=>noA b,fun b z=>absurd z (noA b),e0.funs,e0.frf⟩,
  rfl,e0.bare,Un.kept hk,⟨_,x.toInCall.ns,fun i y v h1 h2 h3=>?_⟩,fun y c h=>⟨_,x.cell y c h⟩,e0.hok.fresh (Aqo _),fun y c h=>?_,fun p hp=>absurd (show p∈([]:List (Addr×Obj)) from hp) (by simp),e0.hok.kept hk,?_⟩
 ·exact name_of_addr x.apart (Ari h1) (Ari h2)
 ·have hy:scope.names.lookup y=some .cell\/scope.names.lookup y=some .free:=hy
  rcases hy with hy|hy
  ·exact R0 hy
  ·exact absurd rfl (S.nofree _ (Ari hy))
 ·exact Ate (x.above y c (Ari h))
 ·have hi:i < vs.length:=by
   unfold Jc at h2
   by_cases hi:i < vs.length
   ·exact hi
   ·rw[Are (by simpa using hi)] at h2
    rw[Asv] at h2
    split at h2<;>cases h2
  have ha:vs[i]?=some v:=by
   unfold Jc at h2
   rw[Aq3 (by simpa using hi),Aq9] at h2
   cases e:vs[i]? with
   |none=>rw[e] at h2;cases h2
   |some a=>rw[e] at h2;cases h2;rfl
  obtain⟨u,hu,rv⟩:=r.get ha
  have hp:ps[i]?=some y:=by
   rw[<- S.pre,List.getElem?_take_of_lt (by lia)];exact h1
  have ndP:ps.Nodup:=by rw[<- S.pre];exact S.nd.sublist (List.take_sublist _ _)
  refine⟨u,rv,?_⟩
  rcases S.par y (Aq4 hp) with k|k
  ·exact .inl ⟨k,Ni ndP hp hu k⟩
  ·obtain⟨c,e⟩:=R0 (n:=s.heap.objs.size+1) k
   refine .inr ⟨.inl k,c,e,?_⟩
   have q:=x.cell y c e
   rw[Ng ndP hp hu (by show scope.names.lookup y≠_;rw[k];decide)] at q
   exact q
 ·exact e0.hok.fresh (Ate (x.above y c (Ari h)))
 ·unfold Jc
  show _=N.length
  rw[Aqv,Aqw,List.length_replicate]
  lia
theorem Anw {CX:CXT}{P:Program}{w:World}{K:W.Frag}{mg:Str->Option Value}{base:Heap}{k:Nat}{f:Addr}{name qual:Str}{params:Arguments}{body:List Stmt}{scope:Scope}{dV kV doc pm cdv ct oc:Value}{an od:Option Addr}
  {osl:Array (Option Value)}{N ps:List Str}{sp:Sp} (lk:K.lookup f=some ⟨oc,od,.func (W.fnOf name qual params body scope dV kV doc pm an cdv ct),osl⟩) (hcd:W.codeIn K cdv qual=true) (S:FnScope N ps scope)
  (len:∀ vs H Q E,sp vs H Q E->vs.length=ps.length)
  (hbody:∀ (A:Around) (outer:List Env) (s:Shared) (H:Hp) (vs:List V) (Q:VK) (E:XK),Room k (A.deeper (envOfC qual scope s.heap.objs.size f cdv))->sp vs H Q E ->
   ∃ t,PSs (Aa8 CX P w K mg base N qual scope f cdv A outer s H E) body t/\t { nx:=fun _ H'=>Q .non H',rt:=Q } (Jc N vs) H) :
  FnOk P w K mg base CX (k+1) f (W.fnOf name qual params body scope dV kV doc pm an cdv ct) ps sp:=by
 refine⟨len,fun A outer s H args us vs Q E hr e0 hb r hsp=>?_⟩
 have hl:=len _ _ _ _ hsp
 have KX:K.In s.heap:=e0.mod.kin.keeps fun b o e=>(e0.bs b o e).1
 have lim:s.heap.NoLimit:=e0.mod.nolimit.keeps fun b o e=>(e0.bs b o e).1
 have hkind:∀ y∈ps.zip us,scope.names.lookup y.1=some .local\/(scope.names.lookup y.1=some .cell/\((cellsFrom (s.heap.objs.size+1) scope.names []).lookup y.1).isSome=true):=fun⟨n,v⟩ hy=>by
  rcases S.par n (List.of_mem_zip hy).1 with q|q
  ·exact .inl q
  ·exact .inr ⟨q,W.cellsFrom_some _ _ _ (.inl q)⟩
 refine codeAny_call_function hr.depth (KX _ _ lk) rfl S.co S.gen rfl (W.codeRec_of KX hcd) (hb _ _ _ _ ?_)
 refine wpAny_newFunctionEnv_cells S.kind hkind fun env he s1 x=>?_
 subst he
 refine⟨lim.keeps x.toInCall.keep,codeAny_func ?_⟩
 obtain⟨t,ht,hq⟩:=hbody A outer s H vs Q E (hr.deeper _) hsp
 have I:Inv (Aa8 CX P w K mg base N qual scope f cdv A outer s H E) [] (Jc N vs) H s1:=X3 S hr.hd e0 hl r x
 refine Asq (ht [] s1 (Jc N vs) H _ I hq) (fun fl s' hs=>?_) fun e s' hs=>hs
 have fin:∀ {σ':St}{H':Hp}{v:V}{u:Value},Inv (Aa8 CX P w K mg base N qual scope f cdv A outer s H E) [] σ' H' s'->RelV v u->Q v H'->CE outer P w K H s Q u s' :=
  fun {σ' H' v u} J rv q=>⟨v,H',J.os,J.bare,J.base,J.hok,rv,q⟩
 cases fl with
 |ret u =>
  obtain⟨v,σ',H',J,rv,q⟩:=hs
  exact fin J rv q
 |next =>
  obtain⟨σ',H',J,q⟩:=hs
  exact fin (v:=V.non) (u:=Value.none) J rfl q
 |brk =>
  obtain⟨_,_,_,q⟩:=hs
  exact False.elim q
 |cont =>
  obtain⟨_,_,_,q⟩:=hs
  exact False.elim q
section
variable {X:Cx}{x:Str}{p pos:Pos}{e:Expr}{es:List Expr}{t:TA}{id T:String}{r:List V->Hp->VK->Prop}
end
end L2
namespace HT
open PySem PyProof.Rows
section
open PySem.SeqAt
open PySem.AutoSeq1 (wpAny_loadPart')
open PySem.MeetsSeq PySem.MeetsSeq2 PySem.MeetsSeq3
end
section
variable {prog:Program}{w:World}{A:Around}{E:Value->Shared->Prop}{s:Shared}
theorem cat_tup {t b:Addr}{vs ws:List Value}{Q:Value->Shared->Prop} (ht:IsTup s.heap t vs.toArray) (hb:IsTup s.heap b ws.toArray) (hv:vs≠[])
  (h1:ws=[]->Q (.ref t) s) (h2:ws≠[]->Q (.ref s.heap.objs.size) { s with heap:=s.heap.push { cls:=.type "tuple",data:=.seq (vs++ws).toArray } })
  (hsz:vs.length+ws.length<=sizeLine):wpAny (model prog w) A (binaryOp .Add (.ref t) (.ref b)) Q E s:=by
 obtain⟨⟨cls,dd,data,sl⟩,ho,hc,n,hd⟩:=id ht
 obtain⟨⟨cls2,dd2,data2,sl2⟩,ho2,hc2,n2,hd2⟩:=id hb
 simp only at hc hd hc2 hd2
 subst hc hd hc2 hd2
 have e:vs.toArray++ws.toArray=(vs++ws).toArray:=by simp
 by_cases hw:ws=[]
 ·exact concat_meets ⟨_,ho,rfl⟩ ⟨_,ho2,rfl⟩ noFill_tuple_add seq_tuple_add PySem.F.slot_tuple_add PySem.F.entry_tuple_add (PySem.F.args_tuple_add_2 _ _)
   (tuple_addW1 t b vs.toArray ws.toArray n n2 dd dd2 sl sl2 (by simpa using hv) (by simp[hw])) ⟨ho,ho2,h1 hw⟩
 ·refine concat_meets ⟨_,ho,rfl⟩ ⟨_,ho2,rfl⟩ noFill_tuple_add seq_tuple_add PySem.F.slot_tuple_add PySem.F.entry_tuple_add (PySem.F.args_tuple_add_2 _ _)
   (tuple_addW2 t b vs.toArray ws.toArray n n2 dd dd2 sl sl2 (by simpa using hv) (by simpa using hw) (by rw[Aqq,Aqq];exact hsz)) ⟨ho,ho2,?_⟩
  rw[e]
  exact h2 hw
noncomputable def sIx (n d:Nat):Option Int->Nat
 |none=>d
 |some v=>if v < 0 then (v+(n:Int)).toNat else min v.toNat n
theorem Alu (n d:Nat) (hd:d<=n) (o:Option Int):sIx n d o<=n:=by
 cases o with
 |none=>exact hd
 |some v =>
  show (if v < 0 then (v+(n:Int)).toNat else min v.toNat n)<=n
  by_cases hv:v < 0
  ·rw[Aqx hv];lia
  ·rw[Aq0 hv];exact Nat.min_le_right _ _
theorem Xg (v:Int) (n d:Nat):(if v < 0 then max (v+(n:Int)) 0 else min v (n:Int))=((sIx n d (some v):Nat):Int):=by
 show (if v < 0 then max (v+(n:Int)) 0 else min v (n:Int))=(((if v < 0 then (v+(n:Int)).toNat else min v.toNat n):Nat):Int)
 by_cases hv:v < 0
 ·simp only[Aqx hv];lia
 ·simp only[Aq0 hv];lia
theorem Um (lo hi:Option Int) (n:Nat):Builtin.Slice.sliceAdjust lo hi 1 (n:Int)=(((sIx n 0 lo:Nat):Int),((sIx n n hi:Nat):Int)):=by
 have h1:¬ ((1:Int) < 0):=by lia
 unfold Builtin.Slice.sliceAdjust
 simp only[h1,if_false]
 refine Prod.ext ?_ ?_
 ·cases lo with
  |none=>rfl
  |some v=>exact Xg v n 0
 ·cases hi with
  |none=>rfl
  |some v=>exact Xg v n n
theorem Vd (i j:Nat):Builtin.Slice.slicePlaces (i:Int) (j:Int) 1=j - i:=by
 unfold Builtin.Slice.slicePlaces
 have h1:(1:Int) > 0:=by lia
 simp only[h1,if_true,Int.ediv_one]
 split<;>lia
theorem La {v:Value}{o:Option Int}{Q:Option Int->Shared->Prop} (p:IsPart v o) (h:Q o s):wpAny (model prog w) A (Builtin.Slice.slicePartIndex v) Q E s:=by
 cases p with
 |none=>exact slicePart_none h
 |int i t=>exact slicePart_int h
theorem sliceApplied_gen {sl:Addr}{vl vu:Value}{lo hi:Option Int}{n:Nat}{Q:Int×Int×Nat->Shared->Prop} (hs:s.heap.IsSliceOf sl vl vu .none) (pl:IsPart vl lo) (pu:IsPart vu hi)
  (h:Q (((sIx n 0 lo:Nat):Int),1,sIx n n hi - sIx n 0 lo) s):wpAny (model prog w) A (Builtin.Slice.sliceApplied (.ref sl) (pure (n:Int))) Q E s:=by
 obtain⟨os,hos,hcs,hds⟩:=id hs
 unfold Builtin.Slice.sliceApplied Builtin.Slice.sliceFields
 refine Aql (Aql (wpAny_field hos hds (x:=vl) rfl (Aql (wpAny_field hos hds (x:=vu) rfl (Aql (wpAny_field hos hds (x:=.none) rfl (Aqm ?_)))))))
 refine Aql (slicePart_none ?_)
 show wpAny _ _ (if ((1:Int) == 0)=true then _ else _) _ _ s
 rw[Aq0 (by decide)]
 refine Aql (La pl (Aql (La pu (Aql (Aqm ?_)))))
 show wpAny _ _ (match Builtin.Slice.sliceAdjust lo hi 1 (n:Int) with|(lo,hi)=>pure (lo,(1:Int),Builtin.Slice.slicePlaces lo hi 1)) _ _ s
 rw[Um lo hi n]
 show wpAny _ _ (pure (((sIx n 0 lo:Nat):Int),(1:Int),Builtin.Slice.slicePlaces ((sIx n 0 lo:Nat):Int) ((sIx n n hi:Nat):Int) 1)) _ _ s
 rw[Vd]
 exact Aqm h
theorem Ab8 (xs:Array Value) (i k:Nat):((List.range k).filterMap fun (m:Nat)=>xs[((i:Int)+(m:Int) * 1).toNat]?).toArray=((xs.toList.drop i).take k).toArray:=by
 have e:(fun (m:Nat)=>xs[((i:Int)+(m:Int) * 1).toNat]?)=fun m=>xs[i+m]?:=by
  funext m
  have:((i:Int)+(m:Int) * 1).toNat=i+m:=by lia
  rw[this]
 rw[e]
 have:=pick_run xs i k
 rw[List.filterMap_map] at this
 have e2:((fun x=>xs[x]?) ∘ fun x=>i+x)=fun m=>xs[i+m]?:=rfl
 rw[e2] at this
 rw[this]
theorem getItem_tuple_cut {t sl:Addr}{items:Array Value}{vl vu:Value}{lo hi:Option Int}{Q:Value->Shared->Prop} (ht:IsTup s.heap t items) (hs:s.heap.IsSliceOf sl vl vu .none) (pl:IsPart vl lo) (pu:IsPart vu hi)
  (hw:¬ (sIx items.size 0 lo=0/\sIx items.size items.size hi=items.size))
  (h:Q (.ref s.heap.objs.size) { s with heap:=s.heap.push { cls:=.type "tuple",data:=.seq ((items.toList.drop (sIx items.size 0 lo)).take (sIx items.size items.size hi - sIx items.size 0 lo)).toArray } })
  (hsz:items.size<=sizeLine):wpAny (model prog w) A (getItem (.ref t) (.ref sl)) Q E s:=by
 have htake:sizeOk (.seq ((items.toList.drop (sIx items.size 0 lo)).take (sIx items.size items.size hi - sIx items.size 0 lo)).toArray):=by
  show ((items.toList.drop (sIx items.size 0 lo)).take (sIx items.size items.size hi - sIx items.size 0 lo)).toArray.size<=sizeLine
  rw[Aqq,Asb,As5,Ard]
  lia
 have hj:sIx items.size items.size hi<=items.size:=Alu _ _ (Aqo _) hi
 obtain⟨os,hos,hcs,hds⟩:=id hs
 have hTs:s.TypeIs (.ref sl) "slice":=⟨os,hos,hcs⟩
 unfold getItem
 try with_reducible refine Arw ?_
 first|refine Aql (Aqm ?_)|skip
 refine Aql (wpAny_sequenceKey ht.typeIs (by decide) ?_)
 refine Aql (Ase (name:=Str.ofString "__getitem__") ht.typeIs PyProof.Rows.slot_tuple_getitem
  (Ars PyProof.Rows.slot_tuple_getitem ht.typeIs entry_tuple_getitem ?_ (args_tuple_getitem _ _)))
 show wpAny _ _ (Builtin.Tuple.tupleItemsOf (.ref t) >>= _) _ _ s
 refine Aql (tupleItemsOf_ ht ?_)
 refine Aql (Asx hTs ?_)
 rw[Aqx (by decide)]
 refine Aql (sliceApplied_gen hs pl pu ?_)
 have hno:¬ ((((sIx items.size 0 lo:Nat):Int) == 0&&(1:Int) == 1&&(sIx items.size items.size hi - sIx items.size 0 lo) == items.size)=true):=by
  intro q
  rw[Aq1,Aq1] at q
  have q1:((sIx items.size 0 lo:Nat):Int)=0:=eq_of_beq q.1.1
  have q2:sIx items.size items.size hi - sIx items.size 0 lo=items.size:=eq_of_beq q.2
  exact hw ⟨by lia,by lia⟩
 show wpAny _ _ (if (((sIx items.size 0 lo:Nat):Int) == 0&&(1:Int) == 1&&(sIx items.size items.size hi - sIx items.size 0 lo) == items.size)=true then _ else _) _ _ s
 rw[Aq0 hno,Ab8]
 first
  |exact Aql (m:=Builtin.Tuple.tupleExact _) (Arv (Aqm ⟨_,rfl,Aqm h⟩) htake)
  |exact Aql (m:=Builtin.Tuple.tupleExact _) (Arv (Aql (Aqm (Aqm ⟨_,rfl,Aqm h⟩))) htake)
  |exact Aql (Aql (m:=Builtin.Tuple.tupleExact _) (Arv (Aqm (Aqm ⟨_,rfl,Aqm h⟩)) htake))
  |exact Aql (Aql (m:=Builtin.Tuple.tupleExact _) (Arv (Aqm ⟨_,rfl,Aqm h⟩) htake))
end
end HT
namespace L2
open PySem PySem.Spec PyProof.Rows
abbrev TO:=St->Hp->(Option Int->Hp->Prop)->Prop
def PO (X:Cx) (e:Option Expr) (t:TO):Prop :=
 ∀ (pins:List (Addr×Obj)) (s:Shared) (σ:St) (H:Hp) (Q:Option Int->Hp->Prop),Inv X pins σ H s->t σ H Q ->
  wpAny (model X.prog X.w) X.A (evalPart e X.env) (fun u s'=>∃ o H',Inv X pins σ H' s'/\IsPart u o/\Q o H') X.xe s
noncomputable def Aib:TO:=fun _ H Q=>Q none H
noncomputable def Aph (t:TE):TO:=fun σ H Q=>t σ H fun x H1=>∃ i,x=.int i/\Q (some i) H1
section
variable {X:Cx}{e:Expr}{te:TE}{lo hi:Option Expr}{tl th:TO}{pos p2:Pos}
theorem Ag8:PO X none Aib:=by
 intro pins s σ H Q I h
 rw[evalPart_none]
 exact Aqm ⟨none,H,I,.none,h⟩
theorem Ag9 (h:PE X e te):PO X (some e) (Aph te):=by
 intro pins s σ H Q I hw
 rw[evalPart_some]
 refine thn (h pins s σ H _ I hw) fun u s1 ⟨x,H1,I1,r1,q1⟩=>?_
 obtain⟨i,rfl,q⟩:=q1
 obtain⟨t,rfl⟩:=r1
 exact⟨some i,H1,I1,.int i t,q⟩
def SlR (X:Cx) (r:V->Option Int->Option Int->Hp->VK->Prop):Prop :=
 ∀ (pins:List (Addr×Obj)) (s:Shared) (σ:St) (H:Hp) (x:V) (v vl vu:Value) (lo hi:Option Int) (sl:Addr) (Q:VK),Inv X pins σ H s->RelV x v->s.heap.IsSliceOf sl vl vu .none->IsPart vl lo->IsPart vu hi->r x lo hi H Q ->
  ∃ T id,typeLookup (.type T) "__getitem__"=pure (some (.builtin id))/\s.TypeIs v T/\wpAny (model X.prog X.w) X.A (getItem v (.ref sl)) (EP X pins σ Q) X.xe s
theorem SlR.or {r r':V->Option Int->Option Int->Hp->VK->Prop} (h:SlR X r) (h':SlR X r'):SlR X (fun x lo hi H Q=>r x lo hi H Q\/r' x lo hi H Q):=by
 intro pins s σ H x v vl vu lo hi sl Q I rx hs pl pu q
 rcases q with q|q
 ·exact h pins s σ H x v vl vu lo hi sl Q I rx hs pl pu q
 ·exact h' pins s σ H x v vl vu lo hi sl Q I rx hs pl pu q
noncomputable def tSl (r:V->Option Int->Option Int->Hp->VK->Prop) (te:TE) (tl th:TO):TE:=fun σ H Q=>te σ H fun x H1=>tl σ H1 fun l H2=>th σ H2 fun u H3=>r x l u H3 Q
theorem T2 {r:V->Option Int->Option Int->Hp->VK->Prop} (hr:SlR X r) (he:PE X e te) (hl:PO X lo tl) (hu:PO X hi th):PE X (.Subscript e (.Slice lo hi none p2) pos) (tSl r te tl th):=by
 intro pins s σ H Q I h
 refine Subscript_ (thn (he pins s σ H _ I h) fun v s1 ⟨x,H1,I1,r1,q1⟩=>?_)
 refine wpAny_Slice (thn (hl pins s1 σ H1 _ I1 q1) fun vl s2 ⟨l,H2,I2,pl,q2⟩=>thn (hu pins s2 σ H2 _ I2 q2) fun vu s3 ⟨u,H3,I3,pu,q3⟩=>?_)
 rw[evalPart_none]
 refine Aqm ?_
 have I4:Inv X pins σ H3 { s3 with heap:=s3.heap.push { cls:=.type "slice",data:=.fields #[vl,vu,.none] } }:=I3.kept (t':=s3.toks) fun b ob q=>Aqn _ q
 obtain⟨T,id,hT,ht,hg⟩:=hr pins { s3 with heap:=s3.heap.push { cls:=.type "slice",data:=.fields #[vl,vu,.none] } } σ H3 x v vl vu l u s3.heap.objs.size Q I4 r1 (Heap.IsSliceOf.new ..) pl pu q3
 show wpAny (model X.prog X.w) X.A (subscriptTail e (.Slice lo hi none p2) v (.ref s3.heap.objs.size)) (EP X pins σ Q) X.xe { s3 with heap:=s3.heap.push { cls:=.type "slice",data:=.fields #[vl,vu,.none] } }
 exact tail_any (ops:=[.ref s3.heap.objs.size,v]) ht hT hg (by with_unfolding_all rfl)
def Adf (xs:List V) (lo hi:Option Int):List V:=(xs.drop (HT.sIx xs.length 0 lo)).take (HT.sIx xs.length xs.length hi - HT.sIx xs.length 0 lo)
theorem H9 (xs:List V) (lo hi:Option Int):(Adf xs lo hi).length<=xs.length:=by
 unfold Adf
 rw[Asb,As5]
 lia
def Aqb (K:W.Frag):V->Option Int->Option Int->Hp->VK->Prop:=fun x lo hi H Q=>∃ a xs,x=.ref a/\SqT K H a xs /\
 ¬ (HT.sIx xs.length 0 lo=0/\HT.sIx xs.length xs.length hi=xs.length)/\∀ p,H p=none->Q (.ref p) (upd H p (.tup (Adf xs lo hi)))
theorem sl_tup:SlR X (Aqb X.K):=by
 intro pins s σ H x v vl vu lo hi sl Q I rx hs pl pu h
 obtain⟨a,xs,rfl,hx,hw,q⟩:=h
 cases rx
 obtain⟨its,r,ht,hz⟩:=I.tuple hx
 have hlen:its.toArray.size=xs.length:=by rw[Aqq];exact r.length.symm
 refine⟨"tuple",_,PyProof.Rows.slot_tuple_getitem.lookup,ht.typeIs,?_⟩
 refine HT.getItem_tuple_cut ht hs pl pu (by rw[hlen];exact hw) ?_ (by rw[hlen];exact hz)
 rw[hlen]
 refine⟨.ref s.heap.objs.size,_,I.laid (t':=s.toks) (o:=.tup (Adf xs lo hi)) (fun b ob q=>Aqn _ q) (Aqo _) ?_,rfl,q _ (I.hok.fresh (Aqo _))⟩
 exact⟨Arf (H9 xs lo hi) hz,_,(r.drop (HT.sIx xs.length 0 lo)).take (HT.sIx xs.length xs.length hi - HT.sIx xs.length 0 lo),TupD.new _ _⟩
def Ao6 (K:W.Frag):R2:=fun x y H Q=>∃ a b xs ys,x=.ref a/\y=.ref b/\SqT K H a xs/\SqT K H b ys/\xs≠[]/\xs.length+ys.length<=sizeLine /\
 (ys=[]->Q (.ref a) H)/\(ys≠[]->∀ p,H p=none->Q (.ref p) (upd H p (.tup (xs++ys))))
theorem Vals.nil_iff {xs:List V}{us:List Value} (r:Vals xs us):us=[] ↔ xs=[]:=by
 cases r with
 |nil=>simp
 |cons _ _=>simp
theorem op_catT:OpR X (binaryOp .Add) (Ao6 X.K):=by
 intro pins s σ H x y v u Q I rx ry h
 obtain⟨a,b,xs,ys,rfl,rfl,ha,hb,hx,hz,q1,q2⟩:=h
 cases rx
 cases ry
 obtain⟨its,r1,p1,_⟩:=I.tuple ha
 obtain⟨its2,r2,p2,_⟩:=I.tuple hb
 refine HT.cat_tup p1 p2 (fun z=>hx (r1.nil_iff.mp z)) (fun z=>⟨.ref a,H,I,rfl,q1 (r2.nil_iff.mp z)⟩) (fun z=>?_) (by rw[<- r1.length,<- r2.length];exact hz)
 refine⟨.ref s.heap.objs.size,_,I.laid (t':=s.toks) (o:=.tup (xs++ys)) (fun b ob q=>Aqn _ q) (Aqo _) ?_,rfl,q2 (fun w=>z (r2.nil_iff.mpr w)) _ (I.hok.fresh (Aqo _))⟩
 exact⟨by rw[Aqv];exact hz,_,r1.append r2,TupD.new _ _⟩
end
noncomputable def ixN (n:Nat) (i:Int):Option Nat:=if 0<=i then (if i < n then some i.toNat else none) else if -(n:Int)<=i then some (i+n).toNat else none
def atI {α:Type} (xs:List α) (i:Int):Option α:=(ixN xs.length i).bind fun j=>xs[j]?
theorem Aga {n:Nat}{i:Int}{j:Nat} (h:ixN n i=some j):seqIndex? i n=some j/\j < n/\-(n:Int)<=i/\i < n:=by
 unfold ixN at h
 by_cases h0:0<=i
 ·rw[Aqx h0] at h
  by_cases h1:i < n
  ·rw[Aqx h1] at h
   have e:i.toNat=j:=Arn h
   exact⟨by rw[seqIndex_of h0 h1,e],by lia,by lia,h1⟩
  ·rw[Aq0 h1] at h;cases h
 ·rw[Aq0 h0] at h
  by_cases h1:-(n:Int)<=i
  ·rw[Aqx h1] at h
   have e:(i+n).toNat=j:=Arn h
   exact⟨by rw[seqIndex_neg (by lia) h1,e],by lia,h1,by lia⟩
  ·rw[Aq0 h1] at h;cases h
theorem L1 {α:Type}{xs:List α}{i:Int}{v:α} (h:atI xs i=some v):∃ j,seqIndex? i xs.length=some j/\xs[j]?=some v/\j < xs.length/\-(xs.length:Int)<=i/\i < xs.length:=by
 unfold atI at h
 cases e:ixN xs.length i with
 |none=>rw[e] at h;cases h
 |some j =>
  rw[e] at h
  obtain⟨h1,h2,h3,h4⟩:=Aga e
  exact⟨j,h1,h,h2,h3,h4⟩
def Lg (b:Expr):Prop:=∀ o i,subscripted b false o i=operate [o,i] (getItem o i)
def IxR (X:Cx) (r:R2):Prop :=
 ∀ (value slice:Expr) (pins:List (Addr×Obj)) (s:Shared) (σ:St) (H:Hp) (x y:V) (v u:Value) (Q:VK),Inv X pins σ H s->RelV x v->RelV y u->r x y H Q ->
  subscripted slice false v u=operate [v,u] (getItem v u)->wpAny (model X.prog X.w) X.A (subscriptTail value slice v u) (EP X pins σ Q) X.xe s
def MtR (X:Cx) (id:String) (r:V->List V->Hp->VK->Prop):Prop :=
 ∀ (pins:List (Addr×Obj)) (s:Shared) (σ:St) (H:Hp) (x:V) (xs:List V) (v:Value) (us:List Value) (Q:VK),Inv X pins σ H s->RelV x v->Vals xs us->r x xs H Q ->
  wpAny (model X.prog X.w) X.A (call (.builtin id) (v::us)) (EP X pins σ Q) X.xe s
section
variable {X:Cx}{a b:Expr}{ta tb:TE}{pos:Pos}
theorem IxR.or {r r':R2} (h:IxR X r) (h':IxR X r'):IxR X (fun x y H Q=>r x y H Q\/r' x y H Q):=by
 intro value slice pins s σ H x y v u Q I rx ry q hs
 rcases q with q|q
 ·exact h value slice pins s σ H x y v u Q I rx ry q hs
 ·exact h' value slice pins s σ H x y v u Q I rx ry q hs
theorem Aoz {r:R2} (hr:IxR X r) (ha:PE X a ta) (hb:PE X b tb) (hs:Lg b):PE X (.Subscript a b pos) (tOp r ta tb):=by
 intro pins s σ H Q I h
 exact Subscript_ (Anb ha hb I h fun v u s2 x y H2 I2 rx ry q=>hr a b pins s2 σ H2 x y v u Q I2 rx ry q (hs _ _))
def Apq (K:W.Frag):R2:=fun x y H Q=>∃ p xs i v,x=.ref p/\y=.int i/\SqL K H p xs/\atI xs i=some v/\Q v H
def Aps (K:W.Frag):R2:=fun x y H Q=>∃ p xs i v,x=.ref p/\y=.int i/\SqT K H p xs/\atI xs i=some v/\Q v H
def Apr:R2:=fun x y H Q=>∃ z i c,x=.str z/\y=.int i/\z.length<=sizeLine/\atI z.cps.toList i=some c/\Q (.str ⟨#[c]⟩) H
theorem ix_list:IxR X (Apq X.K):=by
 intro value slice pins s σ H x y v u Q I rx ry h hs
 obtain⟨p,xs,i,z,rfl,rfl,hq,he,q⟩:=h
 cases rx
 obtain⟨t,rfl⟩:=ry
 obtain⟨its,r,pl,hz⟩:=I.list hq
 obtain⟨j,h1,h2,h3,h4,h5⟩:=L1 he
 obtain⟨w,ew,rw'⟩:=r.get h2
 have hl:=r.length
 have hn:=N6
 have fin:EP X pins σ Q w s:=⟨z,H,I,rw',q⟩
 by_cases h0:0<=i
 ·have hj:i.toNat=j:=by
   rw[seqIndex_of h0 h5] at h1
   exact Arn h1
  exact item_listR pl.isList h0 (by lia) (by rw[hj];simpa using ew) fin hs
 ·have hj:(i+(its.toArray.size:Int)).toNat=j:=by
   rw[seqIndex_neg (by lia) h4] at h1
   rw[Aqq,<- hl]
   exact Arn h1
  exact subscriptTail_builtinR (x:=w) pl.isList.typeIs slot_list_getitem.lookup
   (wpAny_getItem_list_neg (Q:=fun r s'=>r=w/\EP X pins σ Q r s') pl.isList (by lia) (by rw[Aqq]<;>lia) (by lia) (by rw[hj];simpa using ew) ⟨rfl,fin⟩) hs
theorem ix_tup:IxR X (Aps X.K):=by
 intro value slice pins s σ H x y v u Q I rx ry h hs
 obtain⟨p,xs,i,z,rfl,rfl,hq,he,q⟩:=h
 cases rx
 obtain⟨t,rfl⟩:=ry
 obtain⟨its,r,pl,hz⟩:=I.tuple hq
 obtain⟨j,h1,h2,h3,h4,h5⟩:=L1 he
 obtain⟨w,ew,rw'⟩:=r.get h2
 have hl:=r.length
 have hn:=N6
 have fin:EP X pins σ Q w s:=⟨z,H,I,rw',q⟩
 exact subscriptTail_builtinR (x:=w) pl.typeIs slot_tuple_getitem.lookup
  (getItem_tuple (j:=j) (Q:=fun r s'=>r=w/\EP X pins σ Q r s') pl (by lia) (by lia) (by rw[Aqq,<- hl];exact h1) (by simpa using ew) ⟨rfl,fin⟩) hs
theorem Ajm:IxR X Apr:=by
 intro value slice pins s σ H x y v u Q I rx ry h hs
 obtain⟨z,i,c,rfl,rfl,hz,he,q⟩:=h
 obtain⟨t,rfl⟩:=rx
 obtain⟨t',rfl⟩:=ry
 obtain⟨j,h1,h2,h3,h4,h5⟩:=L1 he
 have hl:z.cps.toList.length=z.length:=by simp[Str.length]
 rw[hl] at h1 h4 h5
 have hn:=N6
 exact tail_any (typeIs_str s z t) slot_str_getitem.lookup (getItem_str (c:=c) (by
  have e1:decide (i < -(2 ^ 63:Int))=false:=Arh (by lia)
  have e2:decide (i ≥ 2 ^ 63)=false:=Arh (by lia)
  rw[e1,e2,As8]) (by rw[h1];simpa using h2) ⟨.str ⟨#[c]⟩,H,I.tok _,⟨_,rfl⟩,q⟩) hs
def rIx (K:W.Frag):R2:=fun x y H Q=>Apq K x y H Q\/Aps K x y H Q\/Apr x y H Q
theorem Ajl:IxR X (rIx X.K):=ix_list.or (ix_tup.or Ajm)
theorem Ol (lo hi:Option Int) (n:Nat):(sliceBounds lo hi none n).1=((HT.sIx n 0 lo:Nat):Int)/\(sliceBounds lo hi none n).2.1=((HT.sIx n n hi:Nat):Int)/\(sliceBounds lo hi none n).2.2=1:=by
 refine⟨?_,?_,rfl⟩
 ·cases lo with
  |none=>simp[sliceBounds,HT.sIx]
  |some i =>
   simp only[sliceBounds,HT.sIx,Option.getD_none,show (1:Int) > 0 by decide,if_true]
   by_cases h:i < 0
   ·simp only[h,if_true]<;>lia
   ·simp only[h,if_false]<;>lia
 ·cases hi with
  |none=>simp[sliceBounds,HT.sIx]
  |some i =>
   simp only[sliceBounds,HT.sIx,Option.getD_none,show (1:Int) > 0 by decide,if_true]
   by_cases h:i < 0
   ·simp only[h,if_true]<;>lia
   ·simp only[h,if_false]<;>lia
theorem M0 (its:List Value) (lo hi:Option Int):slicePick its.toArray lo hi none=((its.drop (HT.sIx its.length 0 lo)).take (HT.sIx its.length its.length hi - HT.sIx its.length 0 lo)).toArray:=by
 obtain⟨h1,h2,h3⟩:=Ol lo hi its.toArray.size
 unfold slicePick
 rw[h1,h2,h3]
 simp only[sliceRange_one,pick_run,Aqq]<;>rfl
def Apt (K:W.Frag):V->Option Int->Option Int->Hp->VK->Prop:=fun x lo hi H Q=>∃ a xs,x=.ref a/\SqL K H a xs/\∀ p,H p=none->Q (.ref p) (upd H p (.lst (Adf xs lo hi)))
theorem Ah3:SlR X (Apt X.K):=by
 intro pins s σ H x v vl vu lo hi sl Q I rx hs pl pu h
 obtain⟨a,xs,rfl,hx,q⟩:=h
 cases rx
 obtain⟨its,r,ht,hz⟩:=I.list hx
 have hlen:=r.length
 refine⟨"list",_,slot_list_getitem.lookup,ht.isList.typeIs,?_⟩
 refine wpAny_getItem_list_slice ht.isList hs pl pu .none (by simp) ?_ (by rw[Aqq]<;>lia)
 rw[M0,<- hlen]
 refine⟨.ref s.heap.objs.size,_,I.laid (t':=s.toks) (o:=.lst (Adf xs lo hi)) (fun b ob q=>Aqn _ q) (Aqo _) ?_,rfl,q _ (I.hok.fresh (Aqo _))⟩
 exact⟨Arf (H9 xs lo hi) hz,_,0,(r.drop (HT.sIx xs.length 0 lo)).take (HT.sIx xs.length xs.length hi - HT.sIx xs.length 0 lo),Aqt _ rfl⟩
theorem L4:Vv X (.type "tuple") (fun xs H Q=>∃ p ys,xs=[.ref p]/\((SqL X.K H p ys/\∀ l,H l=none->Q (.ref l) (upd H l (.tup ys)))\/(SqT X.K H p ys/\Q (.ref p) H))):=by
 intro pins s σ H xs us Q I r h
 obtain⟨p,ys,rfl,h⟩:=h
 obtain⟨u,rfl,rx⟩:=M1 r
 cases rx
 rcases h with ⟨hq,q⟩|⟨hq,q⟩
 ·obtain⟨its,r',pl,hz⟩:=I.list hq
  have hlen:=r'.length
  refine call_tuple_list pl.isList (fun h' kp=>?_) (by simp only[Aqq]<;>lia)
  have I1:Inv X pins σ H { s with heap:=h' }:=I.kept (t':=s.toks) kp
  have I2:Inv X pins σ (upd H h'.objs.size (.tup ys)) { s with heap:=h'.push { cls:=.type "tuple",data:=.seq its.toArray } } :=
   I1.laid (t':=s.toks) (fun b o e=>Aqn _ e) (Aqo _) (show ObjOk X.prog X.w X.K _ _ _ (.tup ys) from ⟨hz,its,r',TupD.new _ _⟩)
  exact⟨.ref h'.objs.size,_,I2,rfl,q _ (I1.hok.fresh (Aqo _))⟩
 ·obtain⟨its,r',pl,hz⟩:=I.tuple hq
  exact call_tuple_same pl ⟨.ref p,H,I,rfl,q⟩
def tyV (K:W.Frag) (T:String) (x:V) (H:Hp):Prop:=match x with
 |.str _=>T="str"
 |.int _=>T="int"
 |.ref p=>(T="list"/\∃ xs,SqL K H p xs)\/(T="tuple"/\∃ o,K.lookup p=some o/\o.cls=.type "tuple"/\o.dict=none) \/
   (T="dict"/\((∃ kvs,H p=some (.dK kvs))\/∃ kvs,H p=some (.dT kvs)))\/(T="set"/\∃ S n,H p=some (.set S n))
 |_=>False
theorem Ae2 {pins:List (Addr×Obj)}{σ:St}{H:Hp}{s:Shared}{T:String}{x:V}{v:Value} (I:Inv X pins σ H s) (r:RelV x v) (ty:tyV X.K T x H) :
  s.TypeIs v T/\∀ a,v=.ref a->∃ ob,s.heap.get? a=some ob/\ob.dict=none:=by
 cases x with
 |str z =>
  obtain⟨t,rfl⟩:=r
  cases (show T="str" from ty)
  exact⟨typeIs_str s z t,fun _ e=>nomatch e⟩
 |int i =>
  obtain⟨t,rfl⟩:=r
  cases (show T="int" from ty)
  exact⟨typeIs_int s i t,fun _ e=>nomatch e⟩
 |ref p =>
  cases r
  rcases ty with ⟨rfl,xs,hq⟩|⟨rfl,o,hk,hc,hd⟩|⟨rfl,hk⟩|⟨rfl,S,n,hk⟩
  ·obtain⟨its,_,pl,_⟩:=I.list hq
   refine⟨pl.isList.typeIs,fun a e=>?_⟩
   cases e
   obtain⟨o,n,e,c,hd,_⟩:=pl
   exact⟨o,e,hd⟩
  ·refine⟨⟨o,I.kIn p o hk,hc⟩,fun a e=>?_⟩
   cases e
   exact⟨o,I.kIn _ o hk,hd⟩
  ·have z:∃ o,s.heap.get? p=some o/\o.ExactDict:=by
    rcases hk with ⟨kvs,hk⟩|⟨kvs,hk⟩
    ·obtain⟨_,_,_,_,o,_,_,e,ex,_⟩:=I.hok p _ hk
     exact⟨o,e,ex⟩
    ·obtain⟨_,_,_,_,o,_,_,e,ex,_⟩:=I.hok p _ hk
     exact⟨o,e,ex⟩
   obtain⟨o,e,ex⟩:=z
   refine⟨⟨o,e,ex.1⟩,fun a e2=>?_⟩
   cases e2
   exact⟨o,e,ex.2.1⟩
  ·obtain⟨o,_,_,_,e,ex,_⟩:=I.hok p _ hk
   refine⟨⟨o,e,ex.1⟩,fun a e2=>?_⟩
   cases e2
   exact⟨o,e,ex.2.1⟩
 |_=>exact False.elim ty
noncomputable def Aqc (K:W.Frag) (T:String) (r:V->List V->Hp->VK->Prop) (to:TE):TE:=fun σ H Q=>to σ H fun x H1=>tyV K T x H1/\r x [] H1 Q
noncomputable def tBM (K:W.Frag) (T:String) (r:V->List V->Hp->VK->Prop) (to:TE) (t:TA):TE:=fun σ H Q=>to σ H fun x H1=>tyV K T x H1/\t σ H1 fun xs H2=>r x xs H2 Q
variable {o e:Expr}{es:List Expr}{to:TE}{t:TA}{name:Str}{apos cpos:Pos}{T id:String}{r:V->List V->Hp->VK->Prop}
theorem Ak0 (pa:PlainAttrs T) (slot:Slot T name id) (hty:typeOf (.builtin id)=pure (.type "method_descriptor")) (hm:MtR X id r) (ho:PE X o to)
  (hbase:attributeBase o name X.env (eval o X.env)=eval o X.env:=by rfl) (hline:(apos.endLine == cpos.line)=true:=by rfl):PE X (.Call (.Attribute o name apos) [] [] cpos) (Aqc X.K T r to):=by
 intro pins s σ H Q I h
 refine wpAny_Call_method0_late hbase hline (thn (ho pins s σ H _ I h) fun v s1 ⟨x,H1,I1,r1,ty,q1⟩=>?_)
 obtain⟨h1,h2⟩:=Ae2 I1 r1 ty
 exact⟨T,id,pa,slot,hty,h1,h2,Calls.callWith_builtin rfl (PySem.evalArgs_none (hm pins s1 σ H1 x [] v [] Q I1 r1 .nil q1))⟩
theorem Aoy (pa:PlainAttrs T) (slot:Slot T name id) (hty:typeOf (.builtin id)=pure (.type "method_descriptor")) (hm:MtR X id r) (ho:PE X o to) (ha:PA X (e::es) t)
  (hbase:attributeBase o name X.env (eval o X.env)=eval o X.env:=by rfl)
  (hfew:((backTo cpos (starEach (e::es) X.env)).all (fun x=>!x.1)&&(backToKw cpos (keywordEach [] X.env)).all (fun x=>x.1.isSome)
   &&decide ((e::es).length+([]:List Keyword).length+(if ([]:List Keyword).isEmpty then 0 else 1) < 30))=true:=by rfl)
  (hline:(apos.endLine == cpos.line)=true:=by rfl) (hs:starEach (e::es) X.env=(false,eval e X.env)::starEach es X.env:=by rfl) (hplain:(backTo cpos (starEach es X.env)).any (·.1)=false:=by rfl) :
  PE X (.Call (.Attribute o name apos) (e::es) [] cpos) (tBM X.K T r to t):=by
 intro pins s σ H Q I h
 refine wpAny_Call_method_late hbase hfew hline rfl (thn (ho pins s σ H _ I h) fun v s1 ⟨x,H1,I1,r1,ty,q1⟩=>?_)
 obtain⟨h1,h2⟩:=Ae2 I1 r1 ty
 refine⟨T,id,pa,slot,hty,h1,h2,?_⟩
 have hA:=ha cpos pins s1 σ H1 _ I1 q1
 rw[hs] at hA ⊢
 refine Calls.callWith_builtin (by show (false||(backTo cpos (starEach es X.env)).any (·.1))=false;rw[hplain]<;>rfl) (Calls.evalArgs_plain ?_)
 exact thn hA fun us s2 ⟨vs,H2,I2,r2,q2⟩=>hm pins s2 σ H2 x vs v us Q I2 r1 r2 q2
end
def MtM (X:Cx) (id:String) (r:V->List V->Hp->VK->Prop):Prop :=
 ∀ (pins:List (Addr×Obj)) (s:Shared) (σ:St) (H:Hp) (x:V) (xs:List V) (v:Value) (us:List Value) (Q:VK),Inv X pins σ H s->RelV x v->Vals xs us->r x xs H Q ->
  wpAny (model X.prog X.w) X.A (call (.builtin id) (v::us)) (EP X pins σ Q) X.xe s
theorem Vals.one:∀ {x:V}{us:List Value},Vals [x] us->∃ u,us=[u]/\RelV x u
 |_,_,.cons r .nil=>⟨_,rfl,r⟩
theorem Vals.zero:∀ {us:List Value},Vals [] us->us=[]
 |_,.nil=>rfl
theorem Vals.dropLast {xs:List V}{us:List Value} (h:Vals xs us):Vals xs.dropLast us.dropLast:=by
 induction h with
 |nil=>exact .nil
 |cons r t ih =>
  cases t with
  |nil=>exact .nil
  |cons q t'=>exact .cons r ih
theorem Ur {α:Type} (l:List α):l.eraseIdx (l.length - 1)=l.dropLast:=by
 induction l with
 |nil=>rfl
 |cons a r ih =>
  cases r with
  |nil=>rfl
  |cons b r =>
   have e:(a::b::r).length - 1=((b::r).length - 1)+1:=by
    have h1:(a::b::r).length=r.length+2:=rfl
    have h2:(b::r).length=r.length+1:=rfl
    lia
   rw[e,List.eraseIdx_cons_succ,ih]
   all_goals rfl
section
variable {X:Cx}{pins:List (Addr×Obj)}{σ:St}{H:Hp}{s:Shared}{l b:Addr}{xs ys zs:List V}
theorem Inv.lset {its its':List Value}{n:Nat}{f:Array Value->Array Value}{t':Nat} (I:Inv X pins σ H s) (hH:H l=some (.lst xs))
  (e:s.heap.get? l=some { cls:=.type "list",data:=.seq its.toArray n }) (hf:f its.toArray=its'.toArray) (hv:Vals ys its') (hz:ys.length<=sizeLine) :
  Inv X pins σ (upd H l (.lst ys)) { s with heap:=s.heap.update l (Obj.mapSeq f),toks:=t' }:=by
 have q:=PySem.IsL.update e f
 rw[hf] at q
 refine I.write (x:=l) (e:=l) (by rw[hH];exact trivial) (.inl rfl) (fun b' u hb hu=>(Aru s.heap (Obj.mapSeq f) (Asr hb)).trans hu) ⟨_,q⟩ ?_
 exact⟨hz,its',_,hv,q⟩
theorem Inv.lnew {its:List Value}{t':Nat} (I:Inv X pins σ H s) (hv:Vals ys its) (hz:ys.length<=sizeLine) :
  Inv X pins σ (upd H s.heap.objs.size (.lst ys)) { s with heap:=s.heap.push { cls:=.type "list",data:=.seq its.toArray },toks:=t' } :=
 I.laid (fun _ _ q=>Aqn _ q) (Aqo _) ⟨hz,its,0,hv,Aqt _ rfl⟩
theorem Inv.fresh (I:Inv X pins σ H s):H s.heap.objs.size=none:=I.hok.fresh (Aqo _)
inductive LstM (h:Heap) (l:Addr) (xs:List V):Prop where
 |mk (z:xs.length<=sizeLine) (its:List Value) (n:Nat) (r:Vals xs its) (q:xs.length=its.length) (e:h.get? l=some { cls:=.type "list",data:=.seq its.toArray n })
theorem Inv.lstM (I:Inv X pins σ H s) (hH:H l=some (.lst xs)):LstM s.heap l xs:=by
 obtain⟨z,its,n,r,e⟩:=I.hok l _ hH
 exact⟨z,its,n,r,r.length,e⟩
theorem Abx {n:Nat} (h:n<=sizeLine):Builtin.List.listTooLong n=false:=by
 unfold Builtin.List.listTooLong
 exact Arh (by lia)
end
section
variable {X:Cx}
def Y8:V->List V->Hp->VK->Prop:=fun x vs H Q=>∃ l xs y,x=.ref l/\vs=[y]/\H l=some (.lst xs)/\xs.length < sizeLine/\Q .non (upd H l (.lst (xs++[y])))
theorem Ye:MtM X "list.append" Y8:=by
 intro pins s σ H x vs v us Q I rx rv h
 obtain⟨l,xs,y,rfl,rfl,hH,hz,q⟩:=h
 cases rx
 obtain⟨u,rfl,ru⟩:=rv.one
 obtain⟨z,its,n,r,hl,e⟩:=I.lstM hH
 refine call_meets F.slot_list_append ⟨_,e,rfl⟩ F.entry_list_append (F.args_list_append_2 _ _) (PySem.list_append l its.toArray n u (by rw[Aqq];lia)) ⟨e,?_⟩
 refine⟨.non,_,I.lset (its':=its++[u]) hH e (by simp) (r.append (.cons ru .nil)) ?_,rfl,q⟩
 rw[Aqv,Arm]
 lia
def Aqa:V->List V->Hp->VK->Prop:=fun x vs H Q=>∃ l xs y,x=.ref l/\vs=[]/\H l=some (.lst xs)/\xs[xs.length - 1]?=some y/\Q y (upd H l (.lst xs.dropLast))
theorem Ajt:MtM X "list.pop" Aqa:=by
 intro pins s σ H x vs v us Q I rx rv h
 obtain⟨l,xs,y,rfl,rfl,hH,hy,q⟩:=h
 cases rx
 have hus:=rv.zero
 subst hus
 obtain⟨z,its,n,r,hl,e⟩:=I.lstM hH
 obtain⟨u,hu,ru⟩:=r.get hy
 have hy':its.toArray[its.toArray.size - 1]?=some u:=by
  show its.toArray[its.length - 1]?=some u
  rw[<- Array.getElem?_toList,<- hl]
  exact hu
 refine call_meets F.slot_list_pop ⟨_,e,rfl⟩ F.entry_list_pop (F.args_list_pop_1 _) (MeetsSeq.list_pop_last l its.toArray n u hy' (by rw[Aqq];lia)) ⟨e,?_⟩
 refine⟨y,_,I.lset (its':=its.dropLast) hH e ?_ r.dropLast ?_,ru,q⟩
 ·show its.toArray.eraseIdxIfInBounds (its.toArray.size - 1)=its.dropLast.toArray
  rw[Aqq,List.eraseIdxIfInBounds_toArray,Ur]
 ·rw[List.length_dropLast]
  lia
end
section
variable {prog:Program}{w:World}{A:Around}{E:Value->Shared->Prop}{s:Shared}
set_option maxRecDepth 100000 in
end
section
variable {X:Cx}
end
end L2
namespace Att
open PySem PySem.W PySem.Calls PyProof.Rows
theorem Ik {P:Params}{h:Heap}:∀ (ns:List Int) (vs:List Value),WellAll P h vs (ns.map WData.int)->IntsAre vs ns:=by
 intro ns
 induction ns with
 |nil =>
  intro vs w
  rw[Ar9] at w
  cases w
  exact .nil
 |cons n ns ih =>
  intro vs w
  rw[Aqs] at w
  cases w with
  |cons a b =>
   cases a
   exact .cons _ _ (ih _ b)
theorem Zf {l:OpenLaw}{n:Nat} (hn:l.most=some n) {P:Params}{h:Heap}{args:List WData}{vals:List Value}
  (hpre:l.row.toRowW.claim.pre args=true) (hwl:WellAll P h vals args) :
  ∃ a vs ns,vals=[Value.ref a]/\args=[WData.list (ns.map WData.int)]/\h.get? a=some { cls:=.type "list",data:=.seq vs.toArray }/\IntsAre vs ns/\ns.length<=n:=by
 have hsh:WShape.hasAll [] args [.list .int]=true:=(pre_splitW hpre).1
 have hc:l.pre.holds [] { args:=args }=true:=(pre_splitW hpre).2
 obtain⟨d,r,rfl,h1,h2⟩:=hasAllW_cons hsh
 obtain rfl:=hasAllW_nil h2
 obtain⟨xs,rfl,h3⟩:=hasW_list h1
 obtain⟨ns,rfl⟩:=items_int h3
 have hlen:ns.length<=n:=by
  unfold OpenLaw.pre at hc
  have h4:(WTm.not (.lt (.lit (.int (n:Int))) (.len (.arg 0)))).holds [] { args:=[.list (ns.map .int)] }=true:=by
   have h4:=(holds_andW hc).1
   rw[hn] at h4
   exact h4
  have h5:=condW_of h4 (w_not (w_lt w_lit (w_len_list (w_arg rfl))))
  rw[Aqw] at h5
  refine Nat.le_of_not_lt fun q=>?_
  have q':(n:Int) < ((ns.length:Nat):Int):=by lia
  first
   |(rw[Art q'] at h5;exact absurd h5 (by decide))
   |(simp at h5;lia)
 cases hwl with
 |cons w1 w2 =>
  cases w2
  cases w1 with
  |list ho hall=>exact⟨_,_,ns,rfl,rfl,ho,Ik ns _ hall,hlen⟩
theorem Yw (l:OpenLaw) (args:List WData):l.row.toRowW.claim.post args (.bool true) args=true :=
 postW_of (r:=l.row.toRowW) (X:=(true == true))
  (show WShape.has [] (.bool true) .bool=true by first|rfl|decide|simp[WShape.has,WShape.arms,WShape.armsAll])
  (show (WTm.eq .res (.lit (.bool true))).value [] { args:=args,res:=some (.bool true),after:=args }=some (.bool (true == true)) from w_eq_bool (w_res rfl) w_lit) rfl
theorem attach_call {l:OpenLaw}{n:Nat}{q:Program}{loose:List Str}{XP:(Str->Option Value)->Heap->Prop}{YP:World->Heap->Prop}{d:DefRec}
  (hn:l.most=some n) (hdf:d.params.defaults=[])
  (call:∀ (w:World) (s₀ s₁:Shared) (mg mb:Str->Option Value) (fa:Addr) (o:Obj) (pm cd doc:Value) (a:Addr) (vs:List Value) (ns:List Int),
   Ground q loose [] XP w s₀ mg mb s₁.heap->YP w s₁.heap ->
   s₁.heap.get? fa=some o->o.data=.func (docDef d.name d.params d.body d.scope pm cd doc)->s₁.heap.CodeRec cd d.name->mg d.name=some (.ref fa) ->
   s₁.heap.get? a=some { cls:=.type "list",data:=.seq vs.toArray }->IntsAre vs ns->ns.length<=n->s₁.gens=#[] ->
   codeAny (model l.prog w) callerA (.call (.ref fa) ⟨[.ref a],[]⟩) (fun r s'=>r=.ok (.ret (.bool true))/\OldK s₁.heap s'.heap/\s'.os=s₁.os/\AllBare s'.gens) s₁) :
  WalkO q loose XP YP l.row.toRowW d [] (fun f vs=>PySem.call f vs):=by
 intro w s₀ s₁ mg mb G Y fa o pm cd doc dV kV ho hd hcd hD hmg hg args vals as hpre hlay hrd hwl hlo
 obtain rfl:dV=.none:=Dflts.none hD hdf
 obtain rfl:kV=.none:=Dflts.noKw hD
 obtain⟨a,vs,ns,rfl,rfl,hobj,hints,hlen⟩:=Zf hn hpre hwl
 refine enter_call (codeAny_mono (call w s₀ s₁ mg mb fa o pm cd doc a vs ns G Y ho (fd_plain hd) hcd hmg hobj hints hlen hg) fun r s' hq=>?_)
 obtain⟨rfl,h2,h3,h4⟩:=hq
 exact⟨.inl ⟨.bool true,.bool true,[],rfl,fun _=>rfl,.bool true,Yw l _,fun _=>⟨List.Pairwise.nil,fun _ hm=>(nomatch hm)⟩⟩,h2,h3,h4⟩
section
variable {prog:Program}{w:World}{A:Around}{E:Value->Shared->Prop}{s:Shared}{K:Frag}
end
end Att
namespace L2
open PySem PySem.Spec PyProof.Rows
theorem Ou:∀ {vs:List Value}{ns:List Int},IntsAre vs ns->Vals (ns.map V.int) vs
 |_,_,.nil=>.nil
 |_,_,.cons n t h=>.cons ⟨t,rfl⟩ (Ou h)
def Anq (H:Hp):Prop:=∀ b,H b=none\/∃ o xs,H b=some (.frz o (.lst xs))
theorem Abo {P:Program}{w:World}{K:W.Frag}{mg mb:Str->Option Value}{CX:CXT}{k:Nat}{fa a:Addr}{fd:FuncData}{x:Str}{sp:Sp}{s₁:Shared}{vs:List Value}{ns:List Int}
  (KX:K.In s₁.heap) (hns:s₁.heap.Ns mainGlobals mg) (hb:s₁.heap.Ns builtinsNs mb) (hbb:∀ x:Str,x≠"__name__"->mb x=bootBuiltins x) (hlim:s₁.heap.NoLimit) (hg:s₁.gens=#[])
  (ha:s₁.heap.get? a=some { cls:=.type "list",data:=.seq vs.toArray }) (hi:IntsAre vs ns) (hl:ns.length<=sizeLine) (hr:Room k callerA)
  (F:∀ base:Heap,K.In base->base.Ns mainGlobals mg->FnOk P w K mg base CX k fa fd [x] sp) (hbind:∀ (s:Shared) (u:Value),BindsTo s fd ⟨[u],[]⟩ [(x,u)])
  (hsp:∀ H:Hp,Anq H->SqL K H a (ns.map V.int)->sp [.ref a] H (fun v _=>v=.bl true) fun _ _ _=>False)
  (hCX:∀ H e s',CX [] H s₁ (fun _ _ _=>False) e s'->False) :
  codeAny (model P w) callerA (.call (.ref fa) ⟨[.ref a],[]⟩) (fun r s'=>r=.ok (.ret (.bool true))/\OldK s₁.heap s'.heap/\s'.os=s₁.os/\AllBare s'.gens) s₁:=by
 have rv:=Ou hi
 have lenV:=hi.length
 -- from an abstract heap in which nothing but the script may be tracked
 have core:∀ H:Hp,Anq H->SqL K H a (ns.map V.int)->HOk P w K H s₁.heap->(∀ b,H b≠none->b=a)->(H a≠none->K.lookup a=none) ->
   codeAny (model P w) callerA (.call (.ref fa) ⟨[.ref a],[]⟩) (fun r s'=>r=.ok (.ret (.bool true))/\OldK s₁.heap s'.heap/\s'.os=s₁.os/\AllBare s'.gens) s₁:=by
  intro H hO hS hok hA hK
  have base_of:∀ {b:Addr}{o:Obj},s₁.heap.get? b=some o->H b=none->(Abk s₁.heap H).get? b=some o:=fun e n=>Abl e n
  have noA:∀ {b:Addr}{o:Obj}{es:Array DictEntry}{ep:Nat},s₁.heap.get? b=some o->o.data=.dict es ep->H b=none:=fun {b o es ep} e d=>by
   cases q:H b with
   |none=>rfl
   |some u =>
    have e':b=a:=hA b (by rw[q];simp)
    subst e'
    rw[ha] at e;cases e
    have d':Data.seq vs.toArray _=Data.dict es ep:=d
    cases d'
  have nsK:∀ {b:Addr}{m:Str->Option Value},s₁.heap.Ns b m->(Abk s₁.heap H).Ns b m:=fun {b m} ⟨o,es,ep,e,d,r⟩=>⟨o,es,ep,base_of e (noA e d),d,r⟩
  have hKb:K.In (Abk s₁.heap H):=fun b o e=>base_of (KX b o e) (by
   cases q:H b with
   |none=>rfl
   |some u =>
    have e':b=a:=hA b (by rw[q];simp)
    subst e'
    rw[hK (by rw[q];simp)] at e;cases e)
  have hM:Mod K mg (Abk s₁.heap H):=⟨hKb,nsK hns,⟨mb,nsK hb,hbb⟩,let ⟨mc,h1,h2⟩:=hlim;⟨mc,nsK h1,h2⟩⟩
  have e0:Env0 P w K mg (Abk s₁.heap H) callerA [] s₁ H:=⟨rfl,hM,fun b o e=>Agm e,Nat.le_of_eq (X0 _ _),trivial,fun b hb=>absurd (show b∈([]:List Addr) from hb) (by simp),hok,.of_eq hg⟩
  refine codeAny_mono ((F _ hKb (nsK hns)).run callerA [] s₁ H ⟨[.ref a],[]⟩ [.ref a] [.ref a] _ _ hr e0 (hbind s₁ (.ref a)) (.cons rfl .nil) (hsp H hO hS)) fun r s' h=>?_
  cases r with
  |error e=>exact (hCX H e s' h).elim
  |ok fl =>
   cases fl with
   |next=>exact False.elim h
   |brk=>exact False.elim h
   |cont=>exact False.elim h
   |ret u =>
    obtain⟨v,H',os,bare,un,hok',r',q⟩:=h
    have q':v=.bl true:=q
    subst q'
    obtain rfl:u=Value.bool true:=r'
    refine⟨rfl,OldK.of_keep fun b o e=>?_,os,bare⟩
    cases q:H b with
    |none=>exact un.keep b o e q (by intro z;exact absurd (show b∈([]:List Addr) from z) (by simp)) (by simp)
    |some u =>
     rcases hO b with z|⟨ob,xs,z⟩
     ·rw[q] at z;cases z
     ·have z2:=un.frzs b ob _ z
      obtain⟨e1,_⟩:=hok b _ z
      obtain⟨e2,_⟩:=hok' b _ z2
      rw[e] at e1;cases e1
      exact e2
 cases hk:K.lookup a with
 |some o =>
  -- the script is one of the module's own objects
  have e:=KX a o hk
  rw[ha] at e
  cases e
  refine core (fun _=>none) (fun _=>.inl rfl) (.inr ⟨_,vs.toArray,_,hk,rfl,rfl,rfl,by rw[Aqq,lenV];exact hl,by simpa using rv⟩) (fun b u z=>by have z':(none:Option HO)=some u:=z;cases z') (fun b z=>absurd rfl z) fun z=>absurd rfl z
 |none =>
  refine core (fun b=>if b=a then some (.frz { cls:=.type "list",data:=.seq vs.toArray } (.lst (ns.map V.int))) else none) (fun b=>?_) (.inl (.inr ⟨{ cls:=.type "list",data:=.seq vs.toArray },Aqx rfl⟩)) (fun b u z=>?_) (fun b z=>?_) fun _=>hk
  ·by_cases hb:b=a
   ·exact .inr ⟨_,_,Aqx hb⟩
   ·exact .inl (Aq0 hb)
  ·by_cases hb:b=a
   ·have z':=(Aqx hb).symm.trans z
    cases z'
    subst hb
    exact⟨ha,by rw[Aqw];exact hl,vs,_,rv,ha⟩
   ·have z':=(Aq0 hb).symm.trans z
    cases z'
  ·by_cases hb:b=a
   ·exact hb
   ·exact absurd (Aq0 hb) z
theorem walk_of {l:W.OpenLaw}{n k:Nat}{q:Program}{loose:List Str}{XP:(Str->Option Value)->Heap->Prop}{YP:World->Heap->Prop}{d:DefRec}{K:Params->W.Frag}{CX:World->CXT}{sp:World->Sp}{x:Str}
  (hn:l.most=some n) (hn2:n<=sizeLine) (hdf:d.params.defaults=[]) (hr:Room k callerA)
  (hY:∀ (w:World) (h:Heap),YP w h->(K w.params).In h)
  (F:∀ (w:World) (mg:Str->Option Value) (fa:Addr) (h:Heap),(K w.params).In h->h.Ns mainGlobals mg->mg d.name=some (.ref fa) ->
   ∃ fd:FuncData,(∀ (s:Shared) (u:Value),BindsTo s fd ⟨[u],[]⟩ [(x,u)]) /\
    ∀ base:Heap,(K w.params).In base->base.Ns mainGlobals mg->FnOk l.prog w (K w.params) mg base (CX w) k fa fd [x] (sp w))
  (hsp:∀ (w:World) (H:Hp) (a:Addr) (ns:List Int),ns.length<=n->Anq H->SqL (K w.params) H a (ns.map V.int)->sp w [.ref a] H (fun v _=>v=.bl true) fun _ _ _=>False)
  (hCX:∀ (w:World) (H:Hp) (s:Shared) (e:Value) (s':Shared),CX w [] H s (fun _ _ _=>False) e s'->False) :
  W.WalkO q loose XP YP l.row.toRowW d [] (fun f vs=>PySem.call f vs):=by
 refine Att.attach_call hn hdf fun w s₀ s₁ mg mb fa o pm cd doc a vs ns G Y ho hd hcd hmg hobj hints hlen hg=>?_
 have KX:=hY w _ Y
 obtain⟨fd,hb,hF⟩:=F w mg fa _ KX G.T.g hmg
 exact Abo KX G.T.g G.T.b G.T.builtins G.T.nolimit hg hobj hints (Arf hlen hn2) hr hF hb (fun H hO hS=>hsp w H a ns hlen hO hS) fun H e s'=>hCX w H s₁ e s'
noncomputable def El (s:Stmt):Arguments:=match s with
 |.FunctionDef _ a _ _ _ _ _ _ _ _=>a
 |_=>{ posonlyargs:=[],args:=[],vararg:=none,kwonlyargs:=[],kw_defaults:=[],kwarg:=none,defaults:=[] }
noncomputable def Cy (s:Stmt):List Stmt:=match s with
 |.FunctionDef _ _ b _ _ _ _ _ _ _=>b
 |_=>[]
noncomputable def A5 (s:Stmt):Scope:=match s with
 |.FunctionDef _ _ _ _ _ _ sc _ _ _=>sc
 |_=>{ kind:=.function,names:=[],isGenerator:=false,isCoroutine:=false }
abbrev CX0:CXT:=fun _ _ _ _ _ _=>False
abbrev E0:XK:=fun _ _ _=>False
theorem Agv {X:Cx}:M5 CX0 X E0:=fun _ _ _ _ _ _ _ h=>h.elim
structure Fun (K:W.Frag) (x qual:Str) (st:Stmt) (f:Addr) (fd:FuncData):Prop where
 ex:∃ (oc:Value) (od:Option Addr) (kV doc pm:Value) (an:Option Addr) (cdv ct:Value) (osl:Array (Option Value)),
  fd=W.fnOf x qual (El st) (Cy st) (A5 st) .none kV doc pm an cdv ct/\K.lookup f=some ⟨oc,od,.func fd,osl⟩/\W.codeIn K cdv qual=true
 kp:W.keepIn K (.ref f)=true
section
variable {P:Program}{w:World}{K:W.Frag}{mg:Str->Option Value}{base:Heap}
theorem Fun.ok {x qual:Str}{st:Stmt}{f:Addr}{fd:FuncData}{N ps:List Str}{k:Nat}{sp:Sp} (F:Fun K x qual st f fd) (S:FnScope N ps (A5 st)) (len:∀ vs H Q E,sp vs H Q E->vs.length=ps.length)
  (hbody:∀ (cdv:Value) (A:Around) (outer:List Env) (s:Shared) (H:Hp) (vs:List V) (Q:VK) (E:XK),Room k (A.deeper (envOfC qual (A5 st) s.heap.objs.size f cdv))->sp vs H Q E ->
   ∃ t,PSs (Aa8 CX0 P w K mg base N qual (A5 st) f cdv A outer s H E).nox (Cy st) t/\t { nx:=fun _ H'=>Q .non H',rt:=Q } (Jc N vs) H):FnOk P w K mg base CX0 (k+1) f fd ps sp:=by
 obtain⟨oc,od,kV,doc,pm,an,cdv,ct,osl,rfl,lk,hcd⟩:=F.ex
 refine Anw lk hcd S len fun A outer s H vs Q E hr hsp=>?_
 obtain⟨t,h,q⟩:=hbody cdv A outer s H vs Q E hr hsp
 exact⟨t,h.nox,q⟩
theorem Fun.binds {x qual:Str}{st:Stmt}{f:Addr}{fd:FuncData}{ps:List Str} (F:Fun K x qual st f fd)
  (h:∀ (kV doc pm:Value) (an:Option Addr) (cdv ct:Value) (us:List Value),us.length=ps.length->bindArgs (W.fnOf x qual (El st) (Cy st) (A5 st) .none kV doc pm an cdv ct) ⟨us,[]⟩=pure (ps.zip us)):Binds K fd ps []:=by
 obtain⟨oc,od,kV,doc,pm,an,cdv,ct,osl,rfl,lk,hcd⟩:=F.ex
 exact .all (h kV doc pm an cdv ct)
theorem Adp {x qual:Str}{st:Stmt}{f:Addr}{oc:Value}{od an:Option Addr}{osl:Array (Option Value)}{kV doc pm cdv ct:Value} (l:K.lookup f=some ⟨oc,od,.func (W.fnOf x qual (El st) (Cy st) (A5 st) .none kV doc pm an cdv ct),osl⟩)
  (c:W.codeIn K cdv qual=true) (k:W.keepIn K (.ref f)=true):Fun K x qual st f (W.fnOf x qual (El st) (Cy st) (A5 st) .none kV doc pm an cdv ct):=⟨⟨oc,od,kV,doc,pm,an,cdv,ct,osl,rfl,l,c⟩,k⟩
end
section
variable {X:Cx}
end
theorem Aod {A B:Prop} (h:B):if false=true then A else B:=by
 rw[Aq0 Arb]
 exact h
theorem Aoe {A B:Prop} (h:A):if true=true then A else B:=by
 rw[Aqx rfl]
 exact h
def Same (H H':Hp):Prop:=∀ b o,H b=some o->H' b=some o
theorem Same.refl (H:Hp):Same H H:=fun _ _ h=>h
theorem Same.trans {H H1 H2:Hp} (a:Same H H1) (b:Same H1 H2):Same H H2:=fun c o h=>b c o (a c o h)
theorem Same.free {H H':Hp} (e:Same H H') {l:Addr} (h:H' l=Option.none):H l=Option.none:=by
 cases q:H l with
 |none=>rfl
 |some o =>
  rw[e l o q] at h
  cases h
end L2
end S_LayL
section S_ML1
namespace L2
namespace ML
open PySem PySem.Spec PyProof.Rows
theorem Aj {z:α}{P:Prop} (e:none=some z):P:=nomatch e
theorem C8 {P:Prop} (e:false=true):P:=nomatch e
structure Lam where
 qual:Str
 args:Arguments
 body:Expr
 scope:Scope
inductive D where
 |non|bl (b:Bool)|int (i:Int)|str (x:Str)|tup (ds:List D)|lst (ds:List D)|ref (n:Nat)|kl (ds:List D)|dic (ks vs:List D)|fn (i:Nat) (l:Lam)|dks (ks:List Str) (vs:List D)
inductive MObj where
 |lst (ds:List D)
 |dct (ks vs:List D)
 |dcs (ks:List Str) (vs:List D)
abbrev MH:=List MObj
abbrev A2:=List (Option D)
mutual
def pyD:D->PyData
 |.non=>.none|.bl b=>.bool b|.int i=>.int i|.str x=>.str x
 |.tup ds=>.tuple (Iz ds)|.lst ds=>.list (Iz ds)|.kl ds=>.list (Iz ds)|.ref _=>.none|.dic _ _=>.none|.fn _ _=>.none|.dks _ _=>.none
def Iz:List D->List PyData
 |[]=>[]
 |d::ds=>pyD d::Iz ds
end
def KL (K:W.Frag) (H:Hp) (a:Addr) (xs:List V):Prop:=(∃ o,H a=some (.frz o (.lst xs))) \/
 ∃ (o:Obj) (its:Array Value) (n:Nat),K.lookup a=some o/\o.cls=.type "list"/\o.dict=none/\o.data=.seq its n/\its.size<=sizeLine/\Vals xs its.toList
theorem KL.sq {K:W.Frag}{H:Hp}{a:Addr}{xs:List V} (h:KL K H a xs):SqL K H a xs:=h.elim (fun z=>.inl (.inr z)) .inr
noncomputable def Lk:HO->Prop
 |.lst _=>True
 |.dT _=>True
 |.dK _=>True
 |_=>False
noncomputable def Kpt:HO->Prop
 |.tup _=>True
 |.frz _ _=>True
 |_=>False
def Anm (o:Obj) (l:Lam) (c:Addr):Prop:=∃ doc pm ctv:Value,o=W.kdv_obj "<lambda>" l.qual l.args (.expr l.body) l.scope [] .none doc pm c ctv
def FnAt (H:Hp) (a:Addr) (l:Lam):Prop:=∃ o u c oc u',H a=some (.frz o u)/\Anm o l c/\H c=some (.frz oc u')/\Ac7 oc l.qual
def FnK (K:W.Frag) (H:Hp) (a:Addr) (i:Nat) (l:Lam):Prop:=(i < 1000/\FnAt H a l)\/(1000<=i/\W.nsIn K mainGlobals l.qual=some (some (.ref a)))
mutual
inductive Rep (K:W.Frag) (H:Hp) (μ:List Addr) (B:Addr->Prop):D->V->Prop where
 |non:Rep K H μ B .non .non
 |bl (b:Bool):Rep K H μ B (.bl b) (.bl b)
 |int (i:Int):Rep K H μ B (.int i) (.int i)
 |str (x:Str):PyData.strOk x=true->Rep K H μ B (.str x) (.str x)
 |tup {ds:List D}{a:Addr}{xs:List V}:SqT K H a xs->Reps K H μ B ds xs->Rep K H μ B (.tup ds) (.ref a)
 |lst {ds:List D}{a:Addr}{xs:List V}:Rd H a (.lst xs)->¬ B a->Reps K H μ B ds xs->Rep K H μ B (.lst ds) (.ref a)
 |ref {n:Nat}{a:Addr}:μ[n]?=some a->Rep K H μ B (.ref n) (.ref a)
 |kl {ds:List D}{a:Addr}{xs:List V}:KL K H a xs->Reps K H μ B ds xs->Rep K H μ B (.kl ds) (.ref a)
 |dic {ks vs:List D}{a:Addr}{kvs:List (PyData×V)}:Rd H a (.dT kvs)->¬ B a->Iz ks=kvs.map (·.1)->Reps K H μ B vs (kvs.map (·.2))->Rep K H μ B (.dic ks vs) (.ref a)
 |fn {i:Nat}{l:Lam}{a:Addr}:FnK K H a i l->Rep K H μ B (.fn i l) (.ref a)
 |dks {ks:List Str}{vs:List D}{a:Addr}{kvs:List (Key×V)}:Rd H a (.dK kvs)->¬ B a->ks.map Sum.inr=kvs.map (·.1)->Reps K H μ B vs (kvs.map (·.2))->Rep K H μ B (.dks ks vs) (.ref a)
inductive Reps (K:W.Frag) (H:Hp) (μ:List Addr) (B:Addr->Prop):List D->List V->Prop where
 |nil:Reps K H μ B [] []
 |cons {d:D}{v:V}{ds:List D}{vs:List V}:Rep K H μ B d v->Reps K H μ B ds vs->Reps K H μ B (d::ds) (v::vs)
end
section
variable {K:W.Frag}{H H':Hp}{μ μ':List Addr}{B B':Addr->Prop}
theorem SqT.up (hk:∀ a o,Kpt o->H a=some o->H' a=some o) (h:SqT K H a xs):SqT K H' a xs:=by
 rcases h with (h|⟨o,h⟩)|h
 ·exact .inl (.inl (hk _ _ trivial h))
 ·exact .inl (.inr ⟨o,hk _ _ trivial h⟩)
 ·exact .inr h
theorem FnAt.up (hk:∀ a o,Kpt o->H a=some o->H' a=some o) {l:Lam} (h:FnAt H a l):FnAt H' a l :=
 let ⟨o,u,c,oc,u',h1,h2,h3,h4⟩:=h;⟨o,u,c,oc,u',hk _ _ trivial h1,h2,hk _ _ trivial h3,h4⟩
theorem FnK.up (hk:∀ a o,Kpt o->H a=some o->H' a=some o) {l:Lam} (h:FnK K H a i l):FnK K H' a i l:=h.imp (fun⟨h1,h2⟩=>⟨h1,h2.up hk⟩) id
theorem KL.up (hk:∀ a o,Kpt o->H a=some o->H' a=some o) (h:KL K H a xs):KL K H' a xs:=by
 rcases h with ⟨o,h⟩|h
 ·exact .inl ⟨o,hk _ _ trivial h⟩
 ·exact .inr h
mutual
theorem Rep.up (hk:∀ a o,Kpt o->H a=some o->H' a=some o) (hl:∀ a u,Lk u->Rd H a u->¬ B a->Rd H' a u/\¬ B' a) (hm:∀ (n:Nat) (a:Addr),μ[n]?=some a->μ'[n]?=some a)
  {d:D}{v:V} (r:Rep K H μ B d v):Rep K H' μ' B' d v:=by
 cases r with
 |non=>exact .non
 |bl b=>exact .bl b
 |int b=>exact .int b
 |str b h=>exact .str b h
 |tup h r=>exact .tup (SqT.up hk h) (Reps.up hk hl hm r)
 |lst h b r=>have z:=hl _ (.lst _) trivial h b;exact .lst z.1 z.2 (Reps.up hk hl hm r)
 |ref h=>exact .ref (hm _ _ h)
 |kl h r=>exact .kl (KL.up hk h) (Reps.up hk hl hm r)
 |dic h b e r=>have z:=hl _ (.dT _) trivial h b;exact .dic z.1 z.2 e (Reps.up hk hl hm r)
 |fn h=>exact .fn (h.up hk)
 |dks h b e r=>have z:=hl _ (.dK _) trivial h b;exact .dks z.1 z.2 e (Reps.up hk hl hm r)
theorem Reps.up (hk:∀ a o,Kpt o->H a=some o->H' a=some o) (hl:∀ a u,Lk u->Rd H a u->¬ B a->Rd H' a u/\¬ B' a) (hm:∀ (n:Nat) (a:Addr),μ[n]?=some a->μ'[n]?=some a)
  {ds:List D}{vs:List V} (r:Reps K H μ B ds vs):Reps K H' μ' B' ds vs:=by
 cases r with
 |nil=>exact .nil
 |cons h r=>exact .cons (Rep.up hk hl hm h) (Reps.up hk hl hm r)
end
theorem Same.rd (e:Same H H') (h:Rd H a u):Rd H' a u:=by
 rcases h with h|⟨o,h⟩
 ·exact .inl (e _ _ h)
 ·exact .inr ⟨o,e _ _ h⟩
theorem Rep.same (e:Same H H') {d:D}{v:V} (h:Rep K H μ B d v):Rep K H' μ B d v:=h.up (fun _ _ _ h=>e _ _ h) (fun _ _ _ h b=>⟨Same.rd e h,b⟩) fun _ _ h=>h
theorem Reps.same (e:Same H H') {d:List D}{v:List V} (h:Reps K H μ B d v):Reps K H' μ B d v:=h.up (fun _ _ _ h=>e _ _ h) (fun _ _ _ h b=>⟨Same.rd e h,b⟩) fun _ _ h=>h
theorem Reps.length:∀ {ds:List D}{vs:List V},Reps K H μ B ds vs->ds.length=vs.length
 |_,_,.nil=>rfl
 |_,_,.cons _ r=>by simp[Reps.length r]
theorem Reps.get:∀ {ds:List D}{vs:List V}{i:Nat}{d:D},Reps K H μ B ds vs->ds[i]?=some d->∃ v,vs[i]?=some v/\Rep K H μ B d v
 |_,_,_,_,.nil,e=>by simp at e
 |_,_,0,_,.cons h _,e=>by simp at e;subst e;exact⟨_,rfl,h⟩
 |_,_,i+1,d,.cons _ r,e=>by
  obtain⟨v,h1,h2⟩:=Reps.get (i:=i) (d:=d) r (by simpa using e)
  exact⟨v,by simpa using h1,h2⟩
theorem Reps.append:∀ {ds es:List D}{vs ws:List V},Reps K H μ B ds vs->Reps K H μ B es ws->Reps K H μ B (ds++es) (vs++ws)
 |_,_,_,_,.nil,s=>s
 |_,_,_,_,.cons h r,s=>.cons h (Reps.append r s)
theorem Reps.take:∀ {ds:List D}{vs:List V} (n:Nat),Reps K H μ B ds vs->Reps K H μ B (ds.take n) (vs.take n)
 |_,_,0,_=>.nil
 |_,_,_+1,.nil=>.nil
 |_,_,n+1,.cons h r=>.cons h (Reps.take n r)
theorem Reps.drop:∀ {ds:List D}{vs:List V} (n:Nat),Reps K H μ B ds vs->Reps K H μ B (ds.drop n) (vs.drop n)
 |_,_,0,h=>h
 |_,_,_+1,.nil=>.nil
 |_,_,n+1,.cons h r=>Reps.drop n r
end
noncomputable def OR (K:W.Frag) (H:Hp) (μ:List Addr) (a:Addr):MObj->Prop
 |.lst ds=>∃ xs,H a=some (.lst xs)/\Reps K H μ (·∈μ) ds xs
 |.dct ks vs=>∃ kvs,H a=some (.dT kvs)/\Iz ks=kvs.map (·.1)/\Reps K H μ (·∈μ) vs (kvs.map (·.2))
 |.dcs ks vs=>∃ kvs,H a=some (.dK kvs)/\ks.map Sum.inr=kvs.map (·.1)/\Reps K H μ (·∈μ) vs (kvs.map (·.2))
structure Sim (K:W.Frag) (H:Hp) (μ:List Addr) (m:MH):Prop where
 nd:μ.Nodup
 len:μ.length=m.length
 obj:∀ (n:Nat) (a:Addr) (o:MObj),μ[n]?=some a->m[n]?=some o->OR K H μ a o
structure Step (H:Hp) (μ:List Addr) (H':Hp) (μ':List Addr):Prop where
 pre:∃ l,μ'=μ++l/\∀ b∈l,H b=none
 keep:∀ b o,H b=some o->b∉μ->H' b=some o
structure EnvRep (K:W.Frag) (H:Hp) (μ:List Addr) (σ:St) (env:A2):Prop where
 len:σ.length=env.length
 get:∀ (i:Nat) (d:D),env[i]?=some (some d)->∃ v,σ[i]?=some (some v)/\Rep K H μ (·∈μ) d v
section
variable {K:W.Frag}{H H' H'':Hp}{μ μ' μ'':List Addr}{m m':MH}
theorem Sim.at (S:Sim K H μ m) (h:a∈μ):∃ (n:Nat) (o:MObj),μ[n]?=some a/\m[n]?=some o/\OR K H μ a o:=by
 obtain⟨n,hn⟩:=As6 h
 have hl:n < m.length:=by rw[<- S.len];exact (List.getElem?_eq_some_iff.mp hn).1
 exact⟨n,m[n],hn,by simp[hl],S.obj n a _ hn (by simp[hl])⟩
theorem Sim.trk (S:Sim K H μ m) (h:a∈μ):∃ o,H a=some o/\Lk o:=by
 obtain⟨n,o,_,_,q⟩:=S.at h
 cases o with
 |lst ds=>obtain⟨xs,e,_⟩:=q;exact⟨_,e,trivial⟩
 |dct ks vs=>obtain⟨kvs,e,_⟩:=q;exact⟨_,e,trivial⟩
 |dcs ks vs=>obtain⟨kvs,e,_⟩:=q;exact⟨_,e,trivial⟩
theorem Sim.nkpt (S:Sim K H μ m) (k:Kpt o) (h:H a=some o):a∉μ:=fun q=>by
 obtain⟨xs,e,l⟩:=S.trk q
 rw[e] at h
 cases h
 cases o<;>first|exact l|exact k
theorem Sim.nnone (S:Sim K H μ m) (h:H a=none):a∉μ:=fun q=>by
 obtain⟨xs,e,l⟩:=S.trk q
 rw[e] at h;cases h
theorem Step.refl:Step H μ H μ:=⟨⟨[],by simp,by simp⟩,fun _ _ h _=>h⟩
theorem Step.trans (a:Step H μ H' μ') (b:Step H' μ' H'' μ'') (hm:∀ c,H' c=none->H c=none):Step H μ H'' μ'':=by
 obtain⟨l,rfl,h1⟩:=a.pre
 obtain⟨l',rfl,h2⟩:=b.pre
 refine⟨⟨l++l',by simp,fun c hc=>?_⟩,fun c o e n=>?_⟩
 ·rcases List.mem_append.mp hc with z|z
  ·exact h1 c z
  ·exact hm c (h2 c z)
 ·refine b.keep c o (a.keep c o e n) fun z=>?_
  rcases List.mem_append.mp z with z|z
  ·exact n z
  ·rw[h1 c z] at e;cases e
theorem Step.none (S:Sim K H μ m) (S':Sim K H' μ' m') (a:Step H μ H' μ'):∀ c,H' c=none->H c=none:=fun c h=>by
 cases e:H c with
 |none=>rfl
 |some o =>
  by_cases q:c∈μ
  ·obtain⟨l,rfl,_⟩:=a.pre
   exact absurd (Aq8 _ q) (S'.nnone h)
  ·rw[a.keep c o e q] at h;cases h
theorem Step.of_same (e:Same H H'):Step H μ H' μ:=⟨⟨[],by simp,by simp⟩,fun b o h _=>e b o h⟩
theorem Step.rd (s:Step H μ H' μ') (h:Rd H a u) (n:a∉μ):Rd H' a u:=by
 rcases h with h|⟨o,h⟩
 ·exact .inl (s.keep _ _ h n)
 ·exact .inr ⟨o,s.keep _ _ h n⟩
theorem Step.nin (s:Step H μ H' μ') (h:Rd H a u) (n:a∉μ):a∉μ':=by
 obtain⟨l,rfl,hn⟩:=s.pre
 intro z
 rcases List.mem_append.mp z with z|z
 ·exact n z
 ·have:=hn a z
  rcases h with h|⟨o,h⟩<;>rw[this] at h<;>cases h
theorem Step.ix (s:Step H μ H' μ') {n:Nat}{a:Addr} (h:μ[n]?=some a):μ'[n]?=some a:=by
 obtain⟨l,rfl,_⟩:=s.pre
 rw[Aq3 (List.getElem?_eq_some_iff.mp h).1]
 exact h
theorem Rep.step (S:Sim K H μ m) (s:Step H μ H' μ') {d:D}{v:V} (h:Rep K H μ (·∈μ) d v):Rep K H' μ' (·∈μ') d v :=
 h.up (fun a o k q=>s.keep a o q (S.nkpt k q)) (fun _ _ _ q b=>⟨s.rd q b,s.nin q b⟩) fun _ _=>s.ix
theorem Reps.step (S:Sim K H μ m) (s:Step H μ H' μ') {d:List D}{v:List V} (h:Reps K H μ (·∈μ) d v):Reps K H' μ' (·∈μ') d v :=
 h.up (fun a o k q=>s.keep a o q (S.nkpt k q)) (fun _ _ _ q b=>⟨s.rd q b,s.nin q b⟩) fun _ _=>s.ix
theorem EnvRep.step (S:Sim K H μ m) (s:Step H μ H' μ') (h:EnvRep K H μ σ env):EnvRep K H' μ' σ env :=
 ⟨h.len,fun i d e=>let ⟨v,h1,h2⟩:=h.get i d e;⟨v,h1,h2.step S s⟩⟩
theorem Sim.same (S:Sim K H μ m) (e:Same H H'):Sim K H' μ m:=⟨S.nd,S.len,fun n a o h1 h2=>by
 have q:=S.obj n a o h1 h2
 cases o with
 |lst ds=>obtain⟨xs,q1,q2⟩:=q;exact⟨xs,e _ _ q1,q2.same e⟩
 |dcs ks vs=>obtain⟨xs,q1,q2,q3⟩:=q;exact⟨xs,e _ _ q1,q2,q3.same e⟩
 |dct ks vs=>obtain⟨xs,q1,q2,q3⟩:=q;exact⟨xs,e _ _ q1,q2,q3.same e⟩⟩
theorem EnvRep.same (e:Same H H') {σ:St}{env:A2} (h:EnvRep K H μ σ env):EnvRep K H' μ σ env :=
 ⟨h.len,fun i d q=>let ⟨v,h1,h2⟩:=h.get i d q;⟨v,h1,h2.same e⟩⟩
theorem EnvRep.set (h:EnvRep K H μ σ env) (i:Nat) {d:D} (r:Rep K H μ (·∈μ) d v):EnvRep K H μ (σ.set i (some v)) (env.set i (some d)):=by
 refine⟨by simpa using h.len,fun j d' e=>?_⟩
 by_cases q:j=i
 ·subst q
  have hj:j < env.length:=by
   have:=(List.getElem?_eq_some_iff.mp e).1
   simpa using this
  rw[Ar1 hj] at e
  cases e
  exact⟨v,by rw[Ar1 (by rw[h.len];exact hj)],r⟩
 ·rw[Asl (Asr q)] at e ⊢
  exact h.get j d' e
end
abbrev FE:=A2->MH->Option D
abbrev FL:=A2->MH->Option (List D)
abbrev FB:=A2->MH->Option Bool
inductive tE (K:W.Frag) (f:FE) (σ:St) (H:Hp) (Q:VK):Prop
 |mk (env:A2) (μ:List Addr) (m:MH) (d:D) (S:Sim K H μ m) (E:EnvRep K H μ σ env) (h:f env m=some d) (q:∀ v H',Same H H'->Rep K H' μ (·∈μ) d v->Q v H')
def nw (μ:List Addr) (a:Addr):Addr->Prop:=fun b=>b∈μ\/b=a
inductive tF (K:W.Frag) (f:FL) (σ:St) (H:Hp) (Q:VK):Prop
 |mk (env:A2) (μ:List Addr) (m:MH) (ds:List D) (S:Sim K H μ m) (E:EnvRep K H μ σ env) (h:f env m=some ds) (q:∀ a xs H',Same H H'->H a=none->H' a=some (.lst xs)->Reps K H' μ (nw μ a) ds xs->Q (.ref a) H')
inductive tB' (K:W.Frag) (f:FB) (σ:St) (H:Hp) (Q:Bool->Hp->Prop):Prop
 |mk (env:A2) (μ:List Addr) (m:MH) (b:Bool) (S:Sim K H μ m) (E:EnvRep K H μ σ env) (h:f env m=some b) (q:∀ H',Same H H'->Q b H')
inductive tL (K:W.Frag) (f:FL) (σ:St) (H:Hp) (Q:List V->Hp->Prop):Prop
 |mk (env:A2) (μ:List Addr) (m:MH) (ds:List D) (S:Sim K H μ m) (E:EnvRep K H μ σ env) (h:f env m=some ds) (q:∀ vs H',Same H H'->Reps K H' μ (·∈μ) ds vs->Q vs H')
abbrev PD (X:Cx) (e:Expr) (f:FE):Prop:=PE X e (tE X.K f)
abbrev PF (X:Cx) (e:Expr) (f:FL):Prop:=PE X e (tF X.K f)
abbrev PB (X:Cx) (e:Expr) (f:FB):Prop:=PT X e (tB' X.K f)
abbrev PL (X:Cx) (es:List Expr) (f:FL):Prop:=PA X es (tL X.K f)
theorem Reps.fresh {K:W.Frag}{H:Hp}{μ:List Addr}{p:Addr}{o:HO}{ds:List D}{vs:List V} (r:Reps K H μ (·∈μ) ds vs) (hp:H p=none):Reps K (upd H p o) μ (nw μ p) ds vs:=by
 have s:Same H (upd H p o):=fun b u e=>by rw[A0 (Ax e hp)];exact e
 refine r.up (fun _ _ _ h=>s _ _ h) (fun a u _ h b=>⟨Same.rd s h,fun z=>?_⟩) fun _ _ h=>h
 rcases z with z|z
 ·exact b z
 ·subst z
  rcases h with h|⟨o,h⟩
  ·exact nomatch (hp.symm.trans h)
  ·exact nomatch (hp.symm.trans h)
theorem Reps.unw {K:W.Frag}{H:Hp}{μ:List Addr}{p:Addr}{ds:List D}{vs:List V} (r:Reps K H μ (nw μ p) ds vs):Reps K H μ (·∈μ) ds vs :=
 r.up (fun _ _ _ h=>h) (fun _ _ _ h b=>⟨h,fun z=>b (.inl z)⟩) fun _ _ h=>h
theorem PE.imp {t t':TE} (h:PE X e t) (i:∀ σ H Q,t' σ H Q->t σ H Q):PE X e t':=fun pins s σ H Q I q=>h pins s σ H Q I (i σ H Q q)
theorem PT.imp {t t':TT} (h:PT X e t) (i:∀ σ H Q,t' σ H Q->t σ H Q):PT X e t':=fun pins s σ H Q I q=>h pins s σ H Q I (i σ H Q q)
theorem PA.imp {t t':TA} (h:PA X e t) (i:∀ σ H Q,t' σ H Q->t σ H Q):PA X e t':=fun pos pins s σ H Q I q=>h pos pins s σ H Q I (i σ H Q q)
inductive BS {α β:Type} (o:Option α) (f:α->Option β) (b:β):Prop where
 |mk (a:α) (h1:o=some a) (h2:f a=some b)
theorem bind_some {α β:Type}{o:Option α}{f:α->Option β}{b:β} (h:o.bind f=some b):BS o f b:=by
 cases o with
 |none=>cases h
 |some a=>exact⟨a,rfl,h⟩
section
variable {X:Cx}{a b c e:Expr}{es:List Expr}{pos:Pos}
theorem tE.bin {K:W.Frag}{f g:FE}{o:D->D->MH->Option D}{σ:St}{H:Hp}{Q:VK} (h:tE K (fun env m=>(f env m).bind fun x=>(g env m).bind fun y=>o x y m) σ H Q)
  (r:R2) (hr:∀ μ m x y z v u H' (Q:VK),Sim K H' μ m->Rep K H' μ (·∈μ) x v->Rep K H' μ (·∈μ) y u->o x y m=some z->(∀ w H2,Same H' H2->Rep K H2 μ (·∈μ) z w->Q w H2)->r v u H' Q) :
  tOp r (tE K f) (tE K g) σ H Q:=by
 obtain⟨env,μ,m,d,S,E,h,q⟩:=h
 obtain⟨x,hx,h⟩:=bind_some h
 obtain⟨y,hy,h⟩:=bind_some h
 refine⟨env,μ,m,x,S,E,hx,fun v H1 s1 r1=>⟨env,μ,m,y,S.same s1,E.same s1,hy,fun u H2 s2 r2=>?_⟩⟩
 exact hr μ m x y d v u H2 Q (S.same (s1.trans s2)) (r1.same s2) r2 h fun w H3 s3 r3=>q w H3 ((s1.trans s2).trans s3) r3
noncomputable def Ai (i:Nat):FE:=fun env _=>(env[i]?).bind id
theorem Ad6 (i:Nat) {pos:Pos} (hN:X.N[i]?=some x) (hv:Vis X.env.scope x) (hd:(x == ("__debug__":Str))=false) (hcd:(x == ("__classdict__":Str))=false):PD X (.Name x pos) (Ai i) :=
 PE.imp (Ak7 hN hv hd hcd) fun σ H Q ⟨env,μ,m,d,S,E,h,q⟩=>by
  unfold Ai at h
  obtain⟨o,h1,h2⟩:=bind_some h
  have h2:o=some d:=h2
  subst h2
  obtain⟨v,e,r⟩:=E.get i d h1
  exact⟨v,e,q v H (Same.refl H) r⟩
noncomputable def fC (d:D):FE:=fun _ _=>some d
theorem Akr {i j pos}:PD X (.Constant (.int i) j pos) (fC (.int i)):=PE.imp Ad7 fun σ H Q ⟨env,μ,m,d,S,E,h,q⟩=>by cases h;exact q _ H (Same.refl H) (.int i)
theorem Aos {i j pos}:PD X (.Constant (.bool i) j pos) (fC (.bl i)):=PE.imp Aox fun σ H Q ⟨env,μ,m,d,S,E,h,q⟩=>by cases h;exact q _ H (Same.refl H) (.bl i)
theorem Aku {j pos}:PD X (.Constant .none j pos) (fC .non):=PE.imp Yt fun σ H Q ⟨env,μ,m,d,S,E,h,q⟩=>by cases h;exact q _ H (Same.refl H) .non
theorem Akx {i j pos} (ok:PyData.strOk i=true):PD X (.Constant (.str i) j pos) (fC (.str i)):=PE.imp Ak5 fun σ H Q ⟨env,μ,m,d,S,E,h,q⟩=>by cases h;exact q _ H (Same.refl H) (.str i ok)
noncomputable def oI (g:Int->Int->Option D):D->D->MH->Option D
 |.int i,.int j,_=>g i j
 |_,_,_=>none
noncomputable def Ej:D->D->MH->Option D
 |.int i,.int j,_=>some (.int (i+j))
 |.str i,.str j,_=>if i.length+j.length<=1000000 then some (.str (i++j)) else none
 |.tup i,.tup j,_=>if i.length+j.length<=1000000 then some (.tup (i++j)) else none
 |_,_,_=>none
def Anh:D->D->MH->Option D:=oI fun i j=>some (.int (i - j))
def Mj:D->D->MH->Option D:=oI fun i j=>if (-(2 ^ 64) < i/\i < 2 ^ 64)\/(-(2 ^ 64) < j/\j < 2 ^ 64) then some (.int (i * j)) else none
def Yh:D->D->MH->Option D:=oI fun i j=>if 0 < j/\j < 1073741824 then some (.int (i / j)) else none
def Tt:D->D->MH->Option D:=oI fun i j=>if 0 < j then some (.int (i % j)) else none
noncomputable def f2 (o:D->D->MH->Option D) (f g:FE):FE:=fun env m=>(f env m).bind fun x=>(g env m).bind fun y=>o x y m
noncomputable def f1 (o:D->MH->Option D) (f:FE):FE:=fun env m=>(f env m).bind fun x=>o x m
def OpD (X:Cx) (o:D->D->MH->Option D) (r:R2):Prop :=
 ∀ (μ:List Addr) (m:MH) (x y z:D) (v u:V) (H:Hp) (Q:VK),Sim X.K H μ m->Rep X.K H μ (·∈μ) x v->Rep X.K H μ (·∈μ) y u->o x y m=some z->(∀ w H2,Same H H2->Rep X.K H2 μ (·∈μ) z w->Q w H2)->r v u H Q
set_option tactic.hygienic true in
theorem OpD.int {C:Int->Int->Prop}{g:Int->Int->V}{k:Int->Int->Option D} (h:∀ i j z,k i j=some z->C i j/\∀ H μ B,Rep X.K H μ B z (g i j)):OpD X (oI k) (rI C g):=by
 intro μ m x y z v u H Q S rx ry e q
 cases rx<;>first|exact Aj e|skip
 cases ry<;>first|exact Aj e|skip
 rename_i i j
 obtain⟨hc,hr⟩:=h i j z e
 exact⟨i,j,rfl,rfl,hc,q _ H (Same.refl H) (hr H μ _)⟩
set_option tactic.hygienic true in
theorem OpD.int0 (h:∀ i j z,k i j=some z->∀ H μ B,Rep X.K H μ B z (g i j)):OpD X (oI k) (rI0 g):=by
 intro μ m x y z v u H Q S rx ry e q
 cases rx<;>first|exact Aj e|skip
 cases ry<;>first|exact Aj e|skip
 rename_i i j
 exact⟨i,j,rfl,rfl,q _ H (Same.refl H) (h i j z e H μ _)⟩
theorem Agt:OpD X Anh (rI0 fun i j=>.int (i - j)):=OpD.int0 fun i j z e H μ B=>by cases e;exact .int _
theorem Ags:OpD X Mj (rI CMul fun i j=>.int (i * j)):=OpD.int fun i j z e=>by
 split at e
 ·cases e;exact⟨by assumption,fun _ _ _=>.int _⟩
 ·cases e
theorem Agq:OpD X Yh (rI Apk fun i j=>.int (i / j)):=OpD.int fun i j z e=>by
 split at e
 ·cases e;exact⟨by assumption,fun _ _ _=>.int _⟩
 ·cases e
theorem Agr:OpD X Tt (rI (fun _ j=>0 < j) fun i j=>.int (i % j)):=OpD.int fun i j z e=>by
 split at e
 ·cases e;exact⟨by assumption,fun _ _ _=>.int _⟩
 ·cases e
end
mutual
def By:D->Bool
 |.ref _=>false
 |.tup ds=>A7 ds
 |.lst ds=>A7 ds
 |.kl ds=>A7 ds
 |.dic _ _=>false
 |.dks _ _=>false
 |.fn _ _=>false
 |_=>true
def A7:List D->Bool
 |[]=>true
 |d::ds=>By d&&A7 ds
def dep:D->Nat
 |.tup ds=>E2 ds+1
 |.lst ds=>E2 ds+1
 |.kl ds=>E2 ds+1
 |_=>0
def E2:List D->Nat
 |[]=>0
 |d::ds=>max (dep d) (E2 ds)
end
noncomputable def Ci (m:MH):D->Option D
 |.ref n=>match m[n]? with
  |some (.lst ds)=>if A7 ds=true then some (.lst ds) else none
  |_=>none
 |d=>if By d=true then some d else none
def Da (m:MH):List D->Option (List D)
 |[]=>some []
 |d::ds=>(Ci m d).bind fun d'=>(Da m ds).bind fun ds'=>some (d'::ds')
noncomputable def sq (m:MH):D->Option (List D)
 |.tup ds=>some ds
 |.lst ds=>some ds
 |.kl ds=>some ds
 |.ref n=>match m[n]? with
  |some (.lst ds)=>some ds
  |_=>none
 |_=>none
section
variable {K:W.Frag}{H H':Hp}{μ μ':List Addr}{B B':Addr->Prop}{m:MH}
mutual
theorem Rep.noref (hk:∀ a u,Rd H a (.lst u)->¬ B a->¬ B' a) {d:D}{v:V} (r:Rep K H μ B d v) (e:By d=true):Rep K H μ' B' d v:=by
 cases r with
 |non=>exact .non
 |bl b=>exact .bl b
 |int b=>exact .int b
 |str b h=>exact .str b h
 |tup h r=>exact .tup h (Reps.noref hk r e)
 |lst h b r=>exact .lst h (hk _ _ h b) (Reps.noref hk r e)
 |kl h r=>exact .kl h (Reps.noref hk r e)
 |_=>exact C8 e
theorem Reps.noref (hk:∀ a u,Rd H a (.lst u)->¬ B a->¬ B' a) {ds:List D}{vs:List V} (r:Reps K H μ B ds vs) (e:A7 ds=true):Reps K H μ' B' ds vs:=by
 cases r with
 |nil=>exact .nil
 |cons h r =>
  have e':=(Bool.and_eq_true_iff.mp e)
  exact .cons (Rep.noref hk h e'.1) (Reps.noref hk r e'.2)
end
theorem Bf (S:Sim K H μ m) {d d':D} (r:Rep K H μ (·∈μ) d v) (h:Ci m d=some d'):Rep K H [] (fun _=>False) d' v/\By d'=true:=by
 cases r with
 |@ref n a e =>
  unfold Ci at h
  cases q:m[n]? with
  |none=>simp[q] at h
  |some o =>
   simp only[q] at h
   cases o with
   |dcs _ _=>cases h
   |dct _ _=>cases h
   |lst ds =>
    simp only at h
    split at h
    ·rename_i hn
     cases h
     obtain⟨xs,e1,e2⟩:=S.obj n a _ e q
     exact⟨.lst (.inl e1) (fun z=>z) (e2.noref (fun _ _ _ _ z=>z) hn),hn⟩
    ·cases h
 |non=>unfold Ci at h;simp[By] at h;subst h;exact⟨.non,rfl⟩
 |bl b=>unfold Ci at h;simp[By] at h;subst h;exact⟨.bl b,rfl⟩
 |int b=>unfold Ci at h;simp[By] at h;subst h;exact⟨.int b,rfl⟩
 |str b ok=>unfold Ci at h;simp[By] at h;subst h;exact⟨.str b ok,rfl⟩
 |@tup ds a xs h1 h2 =>
  unfold Ci at h
  simp only at h
  split at h
  ·rename_i hn
   cases h
   exact⟨(Rep.tup h1 h2).noref (fun _ _ _ _ z=>z) hn,hn⟩
  ·cases h
 |@lst ds a xs h1 h3 h2 =>
  unfold Ci at h
  simp only at h
  split at h
  ·rename_i hn
   cases h
   exact⟨(Rep.lst h1 h3 h2).noref (fun _ _ _ _ z=>z) hn,hn⟩
  ·cases h
 |@kl ds a xs h1 h2 =>
  unfold Ci at h
  simp only at h
  split at h
  ·rename_i hn
   cases h
   exact⟨(Rep.kl h1 h2).noref (fun _ _ _ _ z=>z) hn,hn⟩
  ·exact Aj h
 |dic h1 h2 h3 h4=>unfold Ci at h;simp[By] at h
 |dks _ _ _ _=>unfold Ci at h;simp[By] at h
 |fn _=>unfold Ci at h;simp[By] at h
theorem Es (S:Sim K H μ m):∀ {ds ds':List D}{vs:List V},Reps K H μ (·∈μ) ds vs->Da m ds=some ds'->Reps K H [] (fun _=>False) ds' vs
 |_,_,_,.nil,h=>by cases h;exact .nil
 |_,_,_,.cons r rs,h=>by
  unfold Da at h
  obtain⟨d',h1,h⟩:=bind_some h
  obtain⟨ds',h2,h⟩:=bind_some h
  cases h
  exact .cons (Bf S r h1).1 (Es S rs h2)
theorem Ud (S:Sim K H μ m) {d:D} (r:Rep K H μ (·∈μ) d v) (h:sq m d=some ds):∃ a xs,v=.ref a/\(SqL K H a xs\/SqT K H a xs)/\Reps K H μ (·∈μ) ds xs:=by
 cases r with
 |@ref n a e =>
  unfold sq at h
  cases q:m[n]? with
  |none=>simp[q] at h
  |some o =>
   simp only[q] at h
   cases o with
   |dcs _ _=>cases h
   |dct _ _=>cases h
   |lst ds =>
    cases h
    obtain⟨xs,e1,e2⟩:=S.obj n a _ e q
    exact⟨a,xs,rfl,.inl (SqL.of e1),e2⟩
 |@tup ds a xs h1 h2=>cases h;exact⟨a,xs,rfl,.inr h1,h2⟩
 |@lst ds a xs h1 h3 h2=>cases h;exact⟨a,xs,rfl,.inl (.inl h1),h2⟩
 |@kl ds a xs h1 h2=>cases h;exact⟨a,xs,rfl,.inl h1.sq,h2⟩
 |non=>exact Aj h
 |bl b=>exact Aj h
 |int b=>exact Aj h
 |str b ok=>exact Aj h
 |dic h1 h2 h3 h4=>exact Aj h
 |dks _ _ _ _=>exact Aj h
 |fn _=>exact Aj h
end
mutual
theorem Dl {H:Hp}{s:Shared} (I:Inv X pins σ H s) {d:D}{v:V}{u:Value} (q:Rep X.K H μ B d v) (e:By d=true) (r:RelV v u):∃ as,Reads s.heap u (pyD d) as:=by
 cases q with
 |non=>cases r;exact⟨_,.none⟩
 |bl b=>cases r;exact⟨_,.bool b⟩
 |int i=>obtain⟨t,rfl⟩:=r;exact⟨_,.int i t⟩
 |str x _=>obtain⟨t,rfl⟩:=r;exact⟨_,.str x t⟩
 |tup h rs =>
  cases r
  obtain⟨its,rv,⟨o,ho,hc,n,hd⟩,hz⟩:=I.tuple h
  obtain⟨as,ra⟩:=Dk I rs e rv
  exact⟨_,.tuple ho hc hd ra⟩
 |lst h b rs =>
  cases r
  obtain⟨its,rv,⟨o,n,ho,hc,_,hd⟩,hz⟩:=I.list (.inl h)
  obtain⟨as,ra⟩:=Dk I rs e rv
  exact⟨_,.list ho hc hd ra⟩
 |kl h rs =>
  cases r
  obtain⟨its,rv,⟨o,n,ho,hc,_,hd⟩,hz⟩:=I.list h.sq
  obtain⟨as,ra⟩:=Dk I rs e rv
  exact⟨_,.list ho hc hd ra⟩
 |_=>cases e
theorem Dk {H:Hp}{s:Shared} (I:Inv X pins σ H s) {ds:List D}{vs:List V}{us:List Value} (q:Reps X.K H μ B ds vs) (e:A7 ds=true) (r:Vals vs us):∃ as,ReadsAll s.heap us (Iz ds) as:=by
 cases q with
 |nil=>cases r;exact⟨_,.nil⟩
 |cons h rs =>
  cases r with
  |cons r rv =>
  have e':=(Bool.and_eq_true_iff.mp e)
  obtain⟨as,h1⟩:=Dl I h e'.1 r
  obtain⟨bs,h2⟩:=Dk I rs e'.2 rv
  exact⟨_,.cons h1 h2⟩
end
mutual
theorem Ep {K:W.Frag}{H:Hp}{μ:List Addr}{B:Addr->Prop}{d:D}{v:V} (r:Rep K H μ B d v):(pyD d).canLay0=true:=by
 cases r with
 |str _ h=>exact h
 |tup _ rs=>exact Hd rs
 |lst _ _ rs=>exact Hd rs
 |kl _ rs=>exact Hd rs
 |_=>rfl
theorem Hd {K:W.Frag}{H:Hp}{μ:List Addr}{B:Addr->Prop}{ds:List D}{vs:List V} (r:Reps K H μ B ds vs):PyData.canLayAll0 (Iz ds)=true:=by
 cases r with
 |nil=>rfl
 |cons r rs=>rw[Iz,PyData.canLayAll0,Ep r,Hd rs];rfl
end
mutual
theorem Ie:∀ d:D,(pyD d).depth=dep d
 |.non=>rfl
 |.bl _=>rfl
 |.int _=>rfl
 |.str _=>rfl
 |.tup ds=>by rw[pyD,PyData.depth,dep,Hb ds]
 |.lst ds=>by rw[pyD,PyData.depth,dep,Hb ds]
 |.kl ds=>by rw[pyD,PyData.depth,dep,Hb ds]
 |.ref _=>rfl
 |.dic _ _=>rfl
 |.dks _ _=>rfl
 |.fn _ _=>rfl
theorem Hb:∀ ds:List D,PyData.depthAll (Iz ds)=E2 ds
 |[]=>rfl
 |d::ds=>by rw[Iz,PyData.depthAll,Ie d,Hb ds,E2]
end
noncomputable def deq (x y:D):Bool:=PyData.eqv (pyD x) (pyD y)
def eqO (m:MH) (x y:D):Option Bool:=(Ci m x).bind fun x'=>(Ci m y).bind fun y'=>if dep x'<=60 then some (deq x' y') else none
def oEq:D->D->MH->Option D:=fun x y m=>(eqO m x y).bind fun b=>some (.bl b)
def oNe:D->D->MH->Option D:=fun x y m=>(eqO m x y).bind fun b=>some (.bl (!b))
section
variable {X:Cx}{a b c e:Expr}{es:List Expr}{pos:Pos}
def OpM (X:Cx) (f:Value->Value->Sem Value) (o:D->D->MH->Option D):Prop :=
 ∀ (pins:List (Addr×Obj)) (s:Shared) (σ:St) (H:Hp) (μ:List Addr) (m:MH) (x y z:D) (v u:V) (v' u':Value) (Q:VK),Inv X pins σ H s->Sim X.K H μ m->Rep X.K H μ (·∈μ) x v->Rep X.K H μ (·∈μ) y u->RelV v v'->RelV u u'->o x y m=some z ->
  (∀ w H2,Same H H2->Rep X.K H2 μ (·∈μ) z w->Q w H2)->wpAny (model X.prog X.w) X.A (f v' u') (EP X pins σ Q) X.xe s
theorem OpM.of (h:OpR X f r) (d:OpD X o r):OpM X f o :=
 fun pins s σ H μ m x y z v u v' u' Q I S rx ry r1 r2 e q=>h pins s σ H v u v' u' Q I r1 r2 (d μ m x y z v u H Q S rx ry e q)
theorem Bd {H:Hp} (h:H p=none):Same H (upd H p o):=fun b u e=>by
 rw[A0 (Ax e h)];exact e
theorem tE.two {K:W.Frag}{f g:FE}{o:D->D->MH->Option D}{σ:St}{H:Hp}{Q:VK} (h:tE K (f2 o f g) σ H Q) :
  ∃ env μ m x y z,Sim K H μ m/\EnvRep K H μ σ env/\f env m=some x/\g env m=some y/\o x y m=some z/\∀ v H',Same H H'->Rep K H' μ (·∈μ) z v->Q v H':=by
 obtain⟨env,μ,m,d,S,E,h,q⟩:=h
 obtain⟨x,hx,h⟩:=bind_some h
 obtain⟨y,hy,h⟩:=bind_some h
 exact⟨env,μ,m,x,y,d,S,E,hx,hy,h,q⟩
theorem Anu (ho:OpM X k o) (ha:PD X a f) (hb:PD X b g) {s:Shared}{H:Hp} (I:Inv X pins σ H s) (h:tE X.K (f2 o f g) σ H Q) :
  wpAny (model X.prog X.w) X.A (eval a X.env) (fun v s₁=>wpAny (model X.prog X.w) X.A (eval b X.env) (fun u s₂=>wpAny (model X.prog X.w) X.A (k v u) (EP X pins σ Q) X.xe s₂) X.xe s₁) X.xe s:=by
 obtain⟨env,μ,m,x,y,z,S,E,hx,hy,hz,q⟩:=h.two
 refine thn (ha pins s σ H (fun v H1=>Same H H1/\Rep X.K H1 μ (·∈μ) x v) I ⟨env,μ,m,x,S,E,hx,fun v H1 s1 r1=>⟨s1,r1⟩⟩) fun v' s1 ⟨v,H1,I1,r1,s1',rx⟩=>?_
 refine thn (hb pins s1 σ H1 (fun u H2=>Same H1 H2/\Rep X.K H2 μ (·∈μ) y u) I1 ⟨env,μ,m,y,S.same s1',E.same s1',hy,fun v H1 s1 r1=>⟨s1,r1⟩⟩) fun u' s2 ⟨u,H2,I2,r2,s2',ry⟩=>?_
 exact ho pins s2 σ H2 μ m x y z v u v' u' Q I2 (S.same (s1'.trans s2')) (rx.same s2') ry r1 r2 hz fun w H3 s3 r3=>q w H3 ((s1'.trans s2').trans s3) r3
theorem Akp (ho:OpM X (binaryOp op) o) (ha:PD X a f) (hb:PD X b g):PD X (.BinOp a op b pos) (f2 o f g) :=
 fun pins s σ H Q I h=>wpAny_BinOp (Anu ho ha hb I h)
theorem Akq (ho:OpM X (compareOp op) o) (ha:PD X a f) (hb:PD X b g) (hm:behindInMarks op b=false):PD X (.Compare a [op] [b] pos) (f2 o f g) :=
 fun pins s σ H Q I h=>wpAny_Compare1 (Anu ho ha hb I h) hm
noncomputable def asB:D->Option Bool
 |.bl b=>some b
 |_=>none
def A4 (f:FE):FB:=fun env m=>(f env m).bind asB
theorem L0 {d:D}{b:Bool} (h:asB d=some b):d=.bl b:=by
 cases d<;>first|(cases h;rfl)|cases h
theorem tB'.val {K:W.Frag}{f:FE}{σ:St}{H:Hp}{Q:Bool->Hp->Prop} (h:tB' K (A4 f) σ H Q):tE K f σ H fun x H'=>∃ k,x=.bl k/\Q k H':=by
 obtain⟨env,μ,m,b,S,E,h,q⟩:=h
 obtain⟨d,h1,h2⟩:=bind_some h
 cases L0 h2
 exact⟨env,μ,m,_,S,E,h1,fun v H' s r=>by cases r;exact⟨_,rfl,q H' s⟩⟩
theorem Akk (ho:OpM X (compareOp op) o) (ha:PD X a f) (hb:PD X b g) (hm:behindInMarks op b=false):PB X (.Compare a [op] [b] pos) (A4 (f2 o f g)):=by
 intro pins s σ H Q I h
 refine wpAny_isTrue_Compare1 (thn (Anu ho ha hb I h.val) fun v s1 h1=>thn h1 fun u s2 h2=>thn h2 fun c s3 ⟨x,H1,I1,r1,k,e,q⟩=>?_) hm
 subst e
 cases r1
 exact As7 ⟨H1,I1,q⟩
theorem big {n:Nat} (h:n<=1000000):n<=sizeLine:=Arf h (by rw[Ar8];decide)
def Ac2 (m:MH):D->Option Bool
 |.non=>some false
 |.bl b=>some b
 |.int i=>some (i != 0)
 |.str y=>if y.length<=1000000 then some ((y.length:Int) != 0) else none
 |d=>(sq m d).bind fun ds=>some (!ds.isEmpty)
def O2 (f:FE):FB:=fun env m=>(f env m).bind (Ac2 m)
theorem Reps.isEmpty {K:W.Frag}{H:Hp}{μ:List Addr}{B:Addr->Prop}{ds:List D}{vs:List V} (r:Reps K H μ B ds vs):ds.isEmpty=vs.isEmpty:=by cases r<;>rfl
theorem Zn {K:W.Frag}{H:Hp}{μ:List Addr}{m:MH} (S:Sim K H μ m) {d:D}{v:V}{k:Bool} (r:Rep K H μ (·∈μ) d v) (h:Ac2 m d=some k):Amf K v H k:=by
 have seq:∀ {a:Addr},v=.ref a->(∃ ds,sq m d=some ds/\k=!ds.isEmpty)->Amf K v H k:=fun {a} e ⟨ds,h1,h2⟩=>by
  obtain⟨a',xs,e',hq,rs⟩:=Ud S r h1
  subst e'
  subst h2
  rw[rs.isEmpty]
  rcases hq with hq|hq
  ·exact .inl ⟨xs,hq,rfl⟩
  ·exact .inr (.inl ⟨xs,hq,rfl⟩)
 have sq':∀ {x:D},((sq m x).bind fun ds=>some (!ds.isEmpty))=some k->∃ ds,sq m x=some ds/\k=!ds.isEmpty:=fun {x} h=>by
  obtain⟨ds,h1,h2⟩:=bind_some h
  exact⟨ds,h1,(Arn h2).symm⟩
 cases r with
 |non=>cases h;rfl
 |bl b=>cases h;rfl
 |int b=>cases h;rfl
 |str b ok =>
  unfold Ac2 at h
  simp only at h
  split at h
  ·cases h;exact⟨big (by assumption),rfl⟩
  ·exact Aj h
 |@tup ds a xs h1 h2=>exact seq rfl (sq' h)
 |@lst ds a xs h1 h3 h2=>exact seq rfl (sq' h)
 |@kl ds a xs h1 h2=>exact seq rfl (sq' h)
 |@ref n a e=>exact seq rfl (sq' h)
 |dic h1 h2 h3 h4=>exact Aj h
 |dks _ _ _ _=>exact Aj h
 |fn _=>exact Aj h
theorem Akn (ha:PD X a f) (he:∀ whole,isTrue a X.env whole=(do let v <- whole;standAt a.pos;holding [v] (truthy v))):PB X a (O2 f) :=
 PT.imp (Acj ha he) fun σ H Q ⟨env,μ,m,b,S,E,h,q⟩=>by
  obtain⟨d,h1,h2⟩:=bind_some h
  exact⟨env,μ,m,d,S,E,h1,fun v H' s r=>⟨b,Zn (S.same s) r h2,q H' s⟩⟩
noncomputable def Vs (f g:FB):FB:=fun env m=>(f env m).bind fun c=>if c=true then g env m else some false
noncomputable def fOr (f g:FB):FB:=fun env m=>(f env m).bind fun c=>if c=true then some true else g env m
noncomputable def Abe (f:FB):FB:=fun env m=>(f env m).bind fun c=>some (!c)
abbrev PWB (X:Cx) (e:Expr) (f:FB):Prop:=PW X e (tB' X.K f)
theorem PW.imp {t t':TT} (h:PW X e t) (i:∀ σ H Q,t' σ H Q->t σ H Q):PW X e t':=fun w pins s σ H Q I q=>h w pins s σ H Q I (i σ H Q q)
theorem tB'.and {K:W.Frag}{f g:FB}{σ:St}{H:Hp}{Q:Bool->Hp->Prop} (h:tB' K (Vs f g) σ H Q):Apv (tB' K f) (tB' K g) σ H Q:=by
 obtain⟨env,μ,m,b,S,E,h,q⟩:=h
 obtain⟨c,h1,h2⟩:=bind_some h
 refine⟨env,μ,m,c,S,E,h1,fun H1 s1=>?_⟩
 cases c with
 |true =>
  rw[Aqx rfl] at h2 ⊢
  exact⟨env,μ,m,b,S.same s1,E.same s1,h2,fun H2 s2=>q H2 (s1.trans s2)⟩
 |false =>
  rw[Aq0 Arb] at h2 ⊢
  cases h2
  exact q H1 s1
theorem tB'.or {K:W.Frag}{f g:FB}{σ:St}{H:Hp}{Q:Bool->Hp->Prop} (h:tB' K (fOr f g) σ H Q):tOr (tB' K f) (tB' K g) σ H Q:=by
 obtain⟨env,μ,m,b,S,E,h,q⟩:=h
 obtain⟨c,h1,h2⟩:=bind_some h
 refine⟨env,μ,m,c,S,E,h1,fun H1 s1=>?_⟩
 cases c with
 |false =>
  rw[Aq0 Arb] at h2 ⊢
  exact⟨env,μ,m,b,S.same s1,E.same s1,h2,fun H2 s2=>q H2 (s1.trans s2)⟩
 |true =>
  rw[Aqx rfl] at h2 ⊢
  cases h2
  exact q H1 s1
variable {rest:List Expr}
theorem Acm (ha:PB X a f):PWB X (.BoolOp .And [a] pos) f:=Ahn ha
theorem Ahp (ha:PB X a f):PWB X (.BoolOp .Or [a] pos) f:=Alj ha
theorem Aho (ha:PB X a f) (hb:PWB X (.BoolOp .And (b::rest) pos) g):PWB X (.BoolOp .And (a::b::rest) pos) (Vs f g):=PW.imp (Alh ha hb) fun _ _ _ h=>h.and
theorem Alk (ha:PB X a f) (hb:PWB X (.BoolOp .Or (b::rest) pos) g):PWB X (.BoolOp .Or (a::b::rest) pos) (fOr f g):=PW.imp (Ao3 ha hb) fun _ _ _ h=>h.or
theorem Agw (h:PWB X (.BoolOp op es pos) f):PB X (.BoolOp op es pos) f:=h.pt
theorem Akm (ha:PB X a f):PB X (.UnaryOp .Not a pos) (Abe f):=PT.imp (Alf ha) fun σ H Q ⟨env,μ,m,b,S,E,h,q⟩=>by
 obtain⟨c,h1,h2⟩:=bind_some h
 cases h2
 exact⟨env,μ,m,c,S,E,h1,fun H1 s1=>q H1 s1⟩
def Ut (f g:FE):FE:=fun env m=>(A4 f env m).bind fun c=>if c=true then g env m else some (.bl false)
def Ajj (f g:FE):FE:=fun env m=>(A4 f env m).bind fun c=>if c=true then some (.bl true) else g env m
theorem Akw {op} (h:PD X a f):PD X (.BoolOp op [a] pos) f:=Ak2 h
theorem Ako {f g:FE} (ha:PD X a f) (hb:PD X (.BoolOp .And (b::rest) pos) g):PD X (.BoolOp .And (a::b::rest) pos) (Ut f g):=PE.imp (Akz ha hb) fun σ H Q ⟨env,μ,m,z,S,E,h,q⟩=>by
 obtain⟨c,h1,h2⟩:=bind_some h
 obtain⟨d,h0,h1⟩:=bind_some h1
 cases L0 h1
 refine⟨env,μ,m,_,S,E,h0,fun v H1 s1 r1=>⟨c,by cases r1;rfl,?_⟩⟩
 cases c with
 |true =>
  rw[Aqx rfl] at h2 ⊢
  exact⟨env,μ,m,z,S.same s1,E.same s1,h2,fun v H2 s2 r2=>q v H2 (s1.trans s2) r2⟩
 |false =>
  rw[Aq0 Arb] at h2 ⊢
  cases h2
  exact q _ H1 s1 (.bl false)
theorem Aov {f g:FE} (ha:PD X a f) (hb:PD X (.BoolOp .Or (b::rest) pos) g):PD X (.BoolOp .Or (a::b::rest) pos) (Ajj f g):=PE.imp (Ao0 ha hb) fun σ H Q ⟨env,μ,m,z,S,E,h,q⟩=>by
 obtain⟨c,h1,h2⟩:=bind_some h
 obtain⟨d,h0,h1⟩:=bind_some h1
 cases L0 h1
 refine⟨env,μ,m,_,S,E,h0,fun v H1 s1 r1=>⟨c,by cases r1;rfl,?_⟩⟩
 cases c with
 |false =>
  rw[Aq0 Arb] at h2 ⊢
  exact⟨env,μ,m,z,S.same s1,E.same s1,h2,fun v H2 s2 r2=>q v H2 (s1.trans s2) r2⟩
 |true =>
  rw[Aqx rfl] at h2 ⊢
  cases h2
  exact q _ H1 s1 (.bl true)
def Xp (f:FE):FE:=fun env m=>(O2 f env m).bind fun c=>some (.bl (!c))
theorem Akv (ha:PD X a f):PD X (.UnaryOp .Not a pos) (Xp f):=by
 intro pins s σ H Q I h
 obtain⟨env,μ,m,z,S,E,h,q⟩:=h
 obtain⟨c,h1,h2⟩:=bind_some h
 obtain⟨d,h0,h1⟩:=bind_some h1
 cases h2
 refine UnaryOp_ (thn (ha pins s σ H (fun v H1=>Same H H1/\Rep X.K H1 μ (·∈μ) d v) I ⟨env,μ,m,d,S,E,h0,fun v H1 s1 r1=>⟨s1,r1⟩⟩) fun v' s1 ⟨v,H1,I1,r1,s1',rx⟩=>?_)
 exact not_of (thn (Ae1 pins s1 σ H1 v v' (fun b H2=>b=c/\H2=H1) I1 r1 ⟨c,Zn (S.same s1') rx h1,rfl,rfl⟩) fun b s2 ⟨H2,I2,e,e2⟩=>⟨.bl (!c),H2,I2,by rw[e];rfl,q _ H2 (by rw[e2];exact s1') (.bl _)⟩)
noncomputable def fIf (t:FB) (f g:FE):FE:=fun env m=>(t env m).bind fun c=>if c=true then f env m else g env m
theorem Aot {t:FB} (hc:PB X c t) (ha:PD X a f) (hb:PD X b g):PD X (.IfExp c a b pos) (fIf t f g):=PE.imp (Ab4 hc ha hb) fun σ H Q ⟨env,μ,m,z,S,E,h,q⟩=>by
 obtain⟨c,h1,h2⟩:=bind_some h
 refine⟨env,μ,m,c,S,E,h1,fun H1 s1=>?_⟩
 cases c with
 |true =>
  rw[Aqx rfl] at h2 ⊢
  exact⟨env,μ,m,z,S.same s1,E.same s1,h2,fun v H2 s2 r2=>q v H2 (s1.trans s2) r2⟩
 |false =>
  rw[Aq0 Arb] at h2 ⊢
  exact⟨env,μ,m,z,S.same s1,E.same s1,h2,fun v H2 s2 r2=>q v H2 (s1.trans s2) r2⟩
theorem C1 (hr:Room k X.A):OpM X (compareOp .Eq) oEq:=by
 intro pins s σ H μ m x y z v u v' u' Q I S rx ry r1 r2 e q
 obtain⟨b,h1,h2⟩:=bind_some e
 obtain⟨x',e1,h1⟩:=bind_some h1
 obtain⟨y',e2,h1⟩:=bind_some h1
 split at h1
 ·rename_i hd
  cases h1
  cases h2
  obtain⟨a1,n1⟩:=Bf S rx e1
  obtain⟨a2,n2⟩:=Bf S ry e2
  obtain⟨as,ra⟩:=Dl I a1 n1 r1
  obtain⟨bs,rb⟩:=Dl I a2 n2 r2
  have hu:=hr.units
  refine SeqAt.compareEq_reads ra rb (Ep a1) (Ep a2) ?_ ⟨.bl (deq x' y'),H,I,rfl,q _ H (Same.refl H) (.bl _)⟩
  rw[Ie]
  lia
 ·cases h1
theorem U9 (hr:Room k X.A):OpM X (compareOp .NotEq) oNe:=by
 intro pins s σ H μ m x y z v u v' u' Q I S rx ry r1 r2 e q
 obtain⟨b,h1,h2⟩:=bind_some e
 obtain⟨x',e1,h1⟩:=bind_some h1
 obtain⟨y',e2,h1⟩:=bind_some h1
 split at h1
 ·rename_i hd
  cases h1
  cases h2
  obtain⟨a1,n1⟩:=Bf S rx e1
  obtain⟨a2,n2⟩:=Bf S ry e2
  obtain⟨as,ra⟩:=Dl I a1 n1 r1
  obtain⟨bs,rb⟩:=Dl I a2 n2 r2
  have hu:=hr.units
  refine SeqAt.compareNe_reads ra rb (Ep a1) (Ep a2) ?_ ⟨.bl (!deq x' y'),H,I,rfl,q _ H (Same.refl H) (.bl _)⟩
  rw[Ie]
  lia
 ·cases h1
noncomputable def oLt:D->D->MH->Option D
 |.int i,.int j,_=>some (.bl (decide (i < j)))
 |.str i,.str j,_=>some (.bl (decide (i.cps.toList < j.cps.toList)))
 |_,_,_=>none
def oGt:D->D->MH->Option D:=oI fun i j=>some (.bl (decide (j < i)))
theorem Agn:OpM X (compareOp .Lt) oLt:=OpM.of (op_lt.or Yr) fun μ m x y z v u H Q S rx ry e q=>by
 cases rx<;>first|exact Aj e|skip
 all_goals cases ry<;>first|exact Aj e|skip
 ·cases e;exact .inl ⟨_,_,rfl,rfl,q _ H (Same.refl H) (.bl _)⟩
 ·cases e;exact .inr ⟨_,_,rfl,rfl,q _ H (Same.refl H) (.bl _)⟩
theorem Ab0:OpM X (compareOp .Gt) oGt:=OpM.of Aoq (OpD.int0 fun i j z e H μ B=>by cases e;exact .bl _)
theorem Akd:OpM X (binaryOp .Sub) Anh:=OpM.of Akh Agt
theorem Cu:OpM X (binaryOp .Mult) Mj:=OpM.of Akf Ags
theorem Gv:OpM X (binaryOp .FloorDiv) Yh:=OpM.of Agp Agq
theorem Dv:OpM X (binaryOp .Mod) Tt:=OpM.of Ake Agr
noncomputable def Adx:D->MH->Option D:=fun x _=>match x with|.non=>some (.bl true)|_=>some (.bl false)
theorem X4 {K:W.Frag}{H:Hp}{μ:List Addr}{B:Addr->Prop}{d z:D}{v:V}{m:MH} (r:Rep K H μ B d v) (h:Adx d m=some z):z=.bl (decide (v=.non)):=by
 cases r<;>(cases h;simp)
theorem Aks {f:FE} {j pos'} (ha:PD X a f):PD X (.Compare a [.Is] [.Constant .none j pos'] pos) (f1 Adx f):=PE.imp (Ag0 Ad5 ha Yt (Adw _)) fun σ H Q ⟨env,μ,m,z,S,E,h,q⟩=>by
 obtain⟨d,h1,h2⟩:=bind_some h
 exact⟨env,μ,m,d,S,E,h1,fun v H1 s1 r1=>⟨rfl,q _ H1 s1 (by rw[X4 r1 h2];exact .bl _)⟩⟩
theorem Akl {f:FE} {j pos'} (ha:PD X a f):PB X (.Compare a [.Is] [.Constant .none j pos'] pos) (A4 (f1 Adx f)):=PT.imp (Ahk Ad5 ha Yt (Adw _)) fun σ H Q h=>by
 obtain⟨env,μ,m,z,S,E,h,q⟩:=h.val
 obtain⟨d,h1,h2⟩:=bind_some h
 exact⟨env,μ,m,d,S,E,h1,fun v H1 s1 r1=>⟨rfl,q _ H1 s1 (by rw[X4 r1 h2];exact .bl _)⟩⟩
end
theorem Je:PyData.strOk x=true ↔ ∀ c∈x.cps.toList,c < 0x110000:=by
 unfold PyData.strOk
 rw[Array.all_eq_true']
 simp
theorem Os (hx:PyData.strOk x=true) (hy:PyData.strOk y=true):PyData.strOk (x++y)=true:=by
 rw[Je] at *
 intro c hc
 have:(x++y).cps.toList=x.cps.toList++y.cps.toList:=by
  show (x.cps++y.cps).toList=_
  simp
 rw[this] at hc
 rcases List.mem_append.mp hc with h|h
 ·exact hx c h
 ·exact hy c h
theorem Jf (hx:PyData.strOk x=true) (h:∀ c∈y.cps.toList,c∈x.cps.toList):PyData.strOk y=true:=by
 rw[Je] at *
 exact fun c hc=>hx c (h c hc)
theorem Zl (hx:PyData.strOk x=true) (h:atI x.cps.toList i=some c):PyData.strOk ⟨#[c]⟩=true:=by
 refine Jf hx fun c' hc=>?_
 have e:c'=c:=by simpa using hc
 subst e
 obtain⟨j,_,h2,_⟩:=L1 h
 exact Aq4 h2
theorem Pq {x:Str}{lo hi:Option Int} (hx:PyData.strOk x=true):PyData.strOk (Txt.slice x lo hi)=true:=by
 unfold Txt.slice
 split
 ·exact hx
 ·refine Jf hx fun c hc=>?_
  simp only[List.toList_toArray] at hc
  obtain⟨i,_,h⟩:=List.mem_filterMap.mp hc
  have:=Array.mem_of_getElem? h
  simpa using this
section
variable {X:Cx}{a b c e:Expr}{es:List Expr}{pos p:Pos}{x:Str}{id T:String}
noncomputable def Ak:FL:=fun _ _=>some []
noncomputable def Aa (f:FE) (g:FL):FL:=fun env m=>(f env m).bind fun x=>(g env m).bind fun xs=>some (x::xs)
theorem Alc:PL X [] Ak:=PA.imp Ys fun σ H Q ⟨env,μ,m,ds,S,E,h,q⟩=>by cases h;exact q [] H (Same.refl H) .nil
theorem Ag7 (ha:PD X e f) (hr:PL X es g) (hs:starEach (e::es) X.env=(false,eval e X.env)::starEach es X.env):PL X (e::es) (Aa f g) :=
 PA.imp (Mn ha hr hs) fun σ H Q ⟨env,μ,m,ds,S,E,h,q⟩=>by
  obtain⟨d,h1,h⟩:=bind_some h
  obtain⟨ds',h2,h⟩:=bind_some h
  cases h
  exact⟨env,μ,m,d,S,E,h1,fun v H1 s1 r1=>⟨env,μ,m,ds',S.same s1,E.same s1,h2,fun vs H2 s2 r2=>q _ H2 (s1.trans s2) (.cons (r1.same s2) r2)⟩⟩
noncomputable def Cq (g:FL):FE:=fun env m=>(g env m).bind fun ds=>some (.lst ds)
theorem Ab2 (h:PF X e g):PD X e (Cq g):=PE.imp h fun σ H Q ⟨env,μ,m,d,S,E,h,q⟩=>by
 obtain⟨ds,h1,h⟩:=bind_some h
 cases h
 exact⟨env,μ,m,ds,S,E,h1,fun a xs H' s1 hn ha r=>q _ H' s1 (.lst (.inl ha) (S.nnone hn) r.unw)⟩
noncomputable def B0 (g:FL):FE:=fun env m=>(g env m).bind fun ds=>if ds.length<=1000000 then some (.tup ds) else none
noncomputable def Bz (g:FL):FL:=fun env m=>(g env m).bind fun ds=>if ds.length<=1000000 then some ds else none
theorem Aky {x1} (h:PL X es g):PD X (.Tuple es x1 pos) (B0 g):=PE.imp (Ak6 h) fun σ H Q ⟨env,μ,m,d,S,E,h,q⟩=>by
 obtain⟨ds,h1,h⟩:=bind_some h
 split at h
 ·rename_i hl
  cases h
  refine⟨env,μ,m,ds,S,E,h1,fun vs H1 s1 r1=>⟨by rw[<- r1.length];exact big hl,fun p hp=>q _ _ (s1.trans (Bd hp)) (.tup (.inl (.inl Be)) (r1.same (Bd hp)))⟩⟩
 ·cases h
theorem Ak9 (h:PL X es g):PF X (.List es pos) (Bz g):=PE.imp (Ak1 h) fun σ H Q ⟨env,μ,m,d,S,E,h,q⟩=>by
 obtain⟨ds,h1,h⟩:=bind_some h
 split at h
 ·rename_i hl
  cases h
  refine⟨env,μ,m,_,S,E,h1,fun vs H1 s1 r1=>⟨by rw[<- r1.length];exact big hl,fun p hp=>q _ vs _ (s1.trans (Bd hp)) (s1.free hp) Be (r1.fresh hp)⟩⟩
 ·cases h
def oIx:D->D->MH->Option D:=fun x y m=>match y with
 |.int i=>(match x with
  |.str z=>if z.length<=1000000 then (atI z.cps.toList i).bind fun c=>some (.str ⟨#[c]⟩) else none
  |x=>(sq m x).bind fun ds=>atI ds i)
 |_=>none
theorem Reps.atI {K:W.Frag}{H:Hp}{μ:List Addr}{B:Addr->Prop}{ds:List D}{vs:List V}{i:Int}{d:D} (r:Reps K H μ B ds vs) (h:L2.atI ds i=some d):∃ v,L2.atI vs i=some v/\Rep K H μ B d v:=by
 unfold L2.atI at *
 rw[r.length] at h
 obtain⟨j,h1,h2⟩:=bind_some h
 obtain⟨v,h3,h4⟩:=r.get h2
 exact⟨v,by rw[h1];exact h3,h4⟩
set_option tactic.hygienic true in
theorem Aki:OpD X oIx (rIx X.K):=by
 intro μ m x y z v u H Q S rx ry e q
 cases ry<;>first|exact Aj e|skip
 rename_i i
 have seq:((sq m x).bind fun ds=>atI ds i)=some z->rIx X.K v (.int i) H Q:=fun e=>by
  obtain⟨ds,h1,h2⟩:=bind_some e
  obtain⟨a,xs,rfl,hq,rs⟩:=Ud S rx h1
  obtain⟨w,h3,h4⟩:=rs.atI h2
  rcases hq with hq|hq
  ·exact .inl ⟨a,xs,i,w,rfl,rfl,hq,h3,q w H (Same.refl H) h4⟩
  ·exact .inr (.inl ⟨a,xs,i,w,rfl,rfl,hq,h3,q w H (Same.refl H) h4⟩)
 cases rx with
 |str zz ok =>
  unfold oIx at e
  simp only at e
  split at e
  ·obtain⟨c,h1,h2⟩:=bind_some e
   cases h2
   exact .inr (.inr ⟨zz,i,c,rfl,rfl,big (by assumption),h1,q _ H (Same.refl H) (.str _ (Zl ok h1))⟩)
  ·cases e
 |non=>exact seq e
 |bl _=>exact seq e
 |int _=>exact seq e
 |tup h1 h2=>exact seq e
 |lst h1 h2 h3=>exact seq e
 |kl h1 h2=>exact seq e
 |dic h1 h2 h3 h4=>exact seq e
 |dks _ _ _ _=>exact seq e
 |fn _=>exact seq e
 |ref h=>exact seq e
theorem Aou (ha:PD X a f) (hb:PD X b g) (hs:Lg b):PD X (.Subscript a b pos) (f2 oIx f g):=PE.imp (Aoz Ajl ha hb hs) fun σ H Q h=>tE.bin h _ Aki
abbrev FO:=A2->MH->Option (Option Int)
inductive tO' (K:W.Frag) (f:FO) (σ:St) (H:Hp) (Q:Option Int->Hp->Prop):Prop
 |mk (env:A2) (μ:List Addr) (m:MH) (o:Option Int) (S:Sim K H μ m) (E:EnvRep K H μ σ env) (h:f env m=some o) (q:∀ H',Same H H'->Q o H')
abbrev PO' (X:Cx) (e:Option Expr) (f:FO):Prop:=PO X e (tO' X.K f)
theorem PO.imp {X:Cx}{e:Option Expr}{t t':TO} (h:PO X e t) (i:∀ σ H Q,t' σ H Q->t σ H Q):PO X e t':=fun pins s σ H Q I q=>h pins s σ H Q I (i σ H Q q)
noncomputable def fNo:FO:=fun _ _=>some none
noncomputable def asI:D->Option Int
 |.int i=>some i
 |_=>none
def C2 (f:FE):FO:=fun env m=>(f env m).bind fun d=>(asI d).bind fun i=>some (some i)
theorem Aca:PO' X none fNo:=PO.imp Ag8 fun σ H Q ⟨env,μ,m,o,S,E,h,q⟩=>by cases h;exact q H (Same.refl H)
theorem Acb (h:PD X e f):PO' X (some e) (C2 f):=PO.imp (Ag9 h) fun σ H Q ⟨env,μ,m,o,S,E,h,q⟩=>by
 obtain⟨d,h1,h⟩:=bind_some h
 obtain⟨i,h2,h⟩:=bind_some h
 cases h
 refine⟨env,μ,m,d,S,E,h1,fun v H' s r=>?_⟩
 cases r<;>first|(cases h2;exact⟨_,rfl,q H' s⟩)|cases h2
def Ef {α:Type} (xs:List α) (lo hi:Option Int):List α:=(xs.drop (HT.sIx xs.length 0 lo)).take (HT.sIx xs.length xs.length hi - HT.sIx xs.length 0 lo)
theorem Reps.cut {K:W.Frag}{H:Hp}{μ:List Addr}{B:Addr->Prop}{ds:List D}{vs:List V} (r:Reps K H μ B ds vs) (lo hi:Option Int):Reps K H μ B (Ef ds lo hi) (Adf vs lo hi):=by
 unfold Ef Adf
 rw[r.length]
 exact (r.drop _).take _
theorem sl_str:SlR X (fun x lo hi H Q=>∃ z,x=.str z/\z.length<=sizeLine/\Q (.str (Txt.slice z lo hi)) H):=by
 intro pins s σ H x v vl vu lo hi sl Q I rx hs pl pu h
 obtain⟨z,rfl,hz,q⟩:=h
 obtain⟨t,rfl⟩:=rx
 refine⟨"str",_,F.slot_str_getitem.lookup,typeIs_str _ _ _,?_⟩
 cases pl with
 |none =>
  cases pu with
  |none=>exact As0 (l:=none) (u:=none) (st:=none) hs rfl (post_val_or_str ⟨Arf (Txt.slice_le z _ _) hz,fun t' k=>⟨.str (Txt.slice z _ _),H,I.tok _,⟨_,rfl⟩,q⟩⟩)
  |int j t'=>exact As0 (l:=none) (u:=some (j,t')) (st:=none) hs rfl (post_val_or_str ⟨Arf (Txt.slice_le z _ _) hz,fun t' k=>⟨.str (Txt.slice z _ _),H,I.tok _,⟨_,rfl⟩,q⟩⟩)
 |int i t1 =>
  cases pu with
  |none=>exact As0 (l:=some (i,t1)) (u:=none) (st:=none) hs rfl (post_val_or_str ⟨Arf (Txt.slice_le z _ _) hz,fun t' k=>⟨.str (Txt.slice z _ _),H,I.tok _,⟨_,rfl⟩,q⟩⟩)
  |int j t'=>exact As0 (l:=some (i,t1)) (u:=some (j,t')) (st:=none) hs rfl (post_val_or_str ⟨Arf (Txt.slice_le z _ _) hz,fun t' k=>⟨.str (Txt.slice z _ _),H,I.tok _,⟨_,rfl⟩,q⟩⟩)
def oSl:D->Option Int->Option Int->Option D
 |.str z,lo,hi=>if z.length<=1000000 then some (.str (Txt.slice z lo hi)) else none
 |.tup ds,lo,hi=>some (.tup (Ef ds lo hi))
 |_,_,_=>none
def fSl (f:FE) (l h:FO):FE:=fun env m=>(f env m).bind fun x=>(l env m).bind fun lo=>(h env m).bind fun hi=>oSl x lo hi
def Zv (f:FE) (l h:FO):FL:=fun env m=>(f env m).bind fun x=>(l env m).bind fun lo=>(h env m).bind fun hi=>match x with
 |.tup _=>none
 |x=>(sq m x).bind fun ds=>some (Ef ds lo hi)
end
theorem Eo {prog:Program}{w:World}{A:Around}{E:Value->Shared->Prop}{s:Shared}{t sl:Addr}{items:Array Value}{vl vu:Value}{lo hi:Option Int}{Q:Value->Shared->Prop} (ht:IsTup s.heap t items) (hs:s.heap.IsSliceOf sl vl vu .none) (pl:IsPart vl lo) (pu:IsPart vu hi)
  (hw:HT.sIx items.size 0 lo=0/\HT.sIx items.size items.size hi=items.size) (h:Q (.ref t) s):wpAny (model prog w) A (getItem (.ref t) (.ref sl)) Q E s:=by
 obtain⟨os,hos,hcs,hds⟩:=id hs
 have hTs:s.TypeIs (.ref sl) "slice":=⟨os,hos,hcs⟩
 unfold getItem
 try with_reducible refine Arw ?_
 first|refine Aql (Aqm ?_)|skip
 refine Aql (wpAny_sequenceKey ht.typeIs (by decide) ?_)
 refine Aql (Ase (name:=Str.ofString "__getitem__") ht.typeIs PyProof.Rows.slot_tuple_getitem
  (Ars PyProof.Rows.slot_tuple_getitem ht.typeIs entry_tuple_getitem ?_ (args_tuple_getitem _ _)))
 show wpAny _ _ (Builtin.Tuple.tupleItemsOf (.ref t) >>= _) _ _ s
 refine Aql (tupleItemsOf_ ht ?_)
 refine Aql (Asx hTs ?_)
 rw[Aqx (by decide)]
 refine Aql (HT.sliceApplied_gen hs pl pu ?_)
 have hyes:(((HT.sIx items.size 0 lo:Nat):Int) == 0&&(1:Int) == 1&&(HT.sIx items.size items.size hi - HT.sIx items.size 0 lo) == items.size)=true:=by
  rw[hw.1,hw.2]
  simp
 show wpAny _ _ (if (((HT.sIx items.size 0 lo:Nat):Int) == 0&&(1:Int) == 1&&(HT.sIx items.size items.size hi - HT.sIx items.size 0 lo) == items.size)=true then _ else _) _ _ s
 rw[Aqx hyes]
 unfold Builtin.Tuple.tupleIsExact
 refine Aql (Aql (Asx ht.typeIs (Aqm ?_)))
 rw[Aqx (by decide)]
 exact Aql (wpAny_rule (Aqm ⟨_,rfl,Aqm h⟩))
theorem Zq {α:Type}{xs:List α}{lo hi:Option Int} (h:HT.sIx xs.length 0 lo=0/\HT.sIx xs.length xs.length hi=xs.length):Ef xs lo hi=xs:=by
 unfold Ef
 rw[h.1,h.2]
 simp
section
variable {X:Cx}{a b c e:Expr}{es:List Expr}{pos p:Pos}{x:Str}{id T:String}
theorem Ah4:SlR X (fun x lo hi H Q=>∃ a xs,x=.ref a/\SqT X.K H a xs/\(HT.sIx xs.length 0 lo=0/\HT.sIx xs.length xs.length hi=xs.length)/\Q (.ref a) H):=by
 intro pins s σ H x v vl vu lo hi sl Q I rx hs pl pu h
 obtain⟨a,xs,rfl,hx,hw,q⟩:=h
 cases rx
 obtain⟨its,r,ht,hz⟩:=I.tuple hx
 have hlen:its.toArray.size=xs.length:=by rw[Aqq];exact r.length.symm
 refine⟨"tuple",_,PyProof.Rows.slot_tuple_getitem.lookup,ht.typeIs,?_⟩
 exact Eo ht hs pl pu (by rw[hlen];exact hw) ⟨.ref a,H,I,rfl,q⟩
theorem Aow {f:FE}{l h:FO}{lo hi:Option Expr}{p2:Pos} (ha:PD X a f) (hl:PO' X lo l) (hh:PO' X hi h):PD X (.Subscript a (.Slice lo hi none p2) pos) (fSl f l h) :=
 PE.imp (T2 (sl_str.or (sl_tup.or Ah4)) ha hl hh) fun σ H Q ⟨env,μ,m,d,S,E,h,q⟩=>by
  obtain⟨x,h1,h⟩:=bind_some h
  obtain⟨lo,h2,h⟩:=bind_some h
  obtain⟨hi,h3,h⟩:=bind_some h
  refine⟨env,μ,m,x,S,E,h1,fun v H1 s1 r1=>⟨env,μ,m,lo,S.same s1,E.same s1,h2,fun H2 s2=>⟨env,μ,m,hi,S.same (s1.trans s2),E.same (s1.trans s2),h3,fun H3 s3=>?_⟩⟩⟩
  have s':=(s1.trans s2).trans s3
  have r3:=(r1.same s2).same s3
  cases r3 with
  |str z ok =>
   unfold oSl at h
   simp only at h
   split at h
   ·cases h
    exact .inl ⟨z,rfl,big (by assumption),q _ H3 s' (.str _ (Pq ok))⟩
   ·cases h
  |@tup ds a xs hq rs =>
   cases h
   by_cases hw:HT.sIx xs.length 0 lo=0/\HT.sIx xs.length xs.length hi=xs.length
   ·exact .inr (.inr ⟨a,xs,rfl,hq,hw,q _ H3 s' (by rw[Zq (by rw[rs.length];exact hw)];exact .tup hq rs)⟩)
   ·exact .inr (.inl ⟨a,xs,rfl,hq,hw,fun p hp=>q _ _ (s'.trans (Bd hp)) (.tup (.inl (.inl Be)) ((rs.cut lo hi).same (Bd hp)))⟩)
  |non=>cases h
  |bl _=>exact Aj h
  |int _=>exact Aj h
  |lst _ _ _=>exact Aj h
  |kl _ _=>exact Aj h
  |ref _=>exact Aj h
  |dic _ _ _ _=>exact Aj h
  |dks _ _ _ _=>exact Aj h
  |fn _=>exact Aj h
theorem Ao1 {f:FE}{l h:FO}{lo hi:Option Expr}{p2:Pos} (ha:PD X a f) (hl:PO' X lo l) (hh:PO' X hi h):PF X (.Subscript a (.Slice lo hi none p2) pos) (Zv f l h) :=
 PE.imp (T2 Ah3 ha hl hh) fun σ H Q ⟨env,μ,m,d,S,E,h,q⟩=>by
  obtain⟨x,h1,h⟩:=bind_some h
  obtain⟨lo,h2,h⟩:=bind_some h
  obtain⟨hi,h3,h⟩:=bind_some h
  refine⟨env,μ,m,x,S,E,h1,fun v H1 s1 r1=>⟨env,μ,m,lo,S.same s1,E.same s1,h2,fun H2 s2=>⟨env,μ,m,hi,S.same (s1.trans s2),E.same (s1.trans s2),h3,fun H3 s3=>?_⟩⟩⟩
  have s':=(s1.trans s2).trans s3
  have r3:=(r1.same s2).same s3
  have fin:∀ {a:Addr}{xs:List V}{ds:List D},v=.ref a->SqL X.K H3 a xs->Reps X.K H3 μ (·∈μ) ds xs->d=Ef ds lo hi->Apt X.K v lo hi H3 Q:=fun {a xs ds} e hq rs e2=>by
   subst e
   subst e2
   exact⟨a,xs,rfl,hq,fun p hp=>q p _ _ (s'.trans (Bd hp)) (s'.free hp) Be ((rs.cut lo hi).fresh hp)⟩
  cases r3 with
  |@lst ds a xs hq _ rs=>cases h;exact fin rfl (.inl hq) rs rfl
  |@kl ds a xs hq rs=>cases h;exact fin rfl hq.sq rs rfl
  |@ref n a e =>
   simp only at h
   obtain⟨ds,h4,h⟩:=bind_some h
   cases h
   unfold sq at h4
   cases q':m[n]? with
   |none=>simp[q'] at h4
   |some o =>
    simp only[q'] at h4
    cases o with
    |dcs _ _=>cases h4
    |dct _=>cases h4
    |lst ds' =>
     cases h4
     obtain⟨xs,e1,e2⟩:=(S.same s').obj n a _ e q'
     exact fin rfl (SqL.of e1) e2 rfl
  |_=>cases h
theorem Ox {s:Shared}{A:Around}{prog:Program}{w:World}{E:Value->Shared->Prop}{t b:Addr}{ws:List Value}{Q:Value->Shared->Prop} (ht:IsTup s.heap t #[]) (hb:IsTup s.heap b ws.toArray) (h:Q (.ref b) s) :
  wpAny (model prog w) A (binaryOp .Add (.ref t) (.ref b)) Q E s:=by
 obtain⟨⟨cls,dd,data,sl⟩,ho,hc,n,hd⟩:=id ht
 obtain⟨⟨cls2,dd2,data2,sl2⟩,ho2,hc2,n2,hd2⟩:=id hb
 simp only at hc hd hc2 hd2
 subst hc hd hc2 hd2
 exact concat_meets ⟨_,ho,rfl⟩ ⟨_,ho2,rfl⟩ noFill_tuple_add seq_tuple_add PySem.F.slot_tuple_add PySem.F.entry_tuple_add (PySem.F.args_tuple_add_2 _ _)
   (tuple_addW0 t b #[] ws.toArray n n2 dd dd2 sl sl2 (by simp)) ⟨ho,ho2,h⟩
theorem Ab1:OpR X (binaryOp .Add) (fun x y H Q=>∃ a b ys,x=.ref a/\y=.ref b/\SqT X.K H a []/\SqT X.K H b ys/\Q (.ref b) H):=by
 intro pins s σ H x y v u Q I rx ry h
 obtain⟨a,b,ys,rfl,rfl,ha,hb,q⟩:=h
 cases rx
 cases ry
 obtain⟨its,r1,p1,_⟩:=I.tuple ha
 cases r1
 obtain⟨its2,r2,p2,_⟩:=I.tuple hb
 exact Ox p1 p2 ⟨.ref b,H,I,rfl,q⟩
set_option tactic.hygienic true in
theorem Bl:OpM X (binaryOp .Add) Ej:=OpM.of (op_add.or (op_add_str.or (op_catT.or Ab1))) fun μ m x y z v u H Q S rx ry e q=>by
 cases rx<;>first|exact Aj e|skip
 all_goals cases ry<;>first|exact Aj e|skip
 ·cases e;exact .inl ⟨_,_,rfl,rfl,q _ H (Same.refl H) (.int _)⟩
 ·rename_i i ok j ok'
  unfold Ej at e
  simp only at e
  split at e
  ·cases e;exact .inr (.inl ⟨_,_,rfl,rfl,big (by assumption),q _ H (Same.refl H) (.str _ (Os ok ok'))⟩)
  ·cases e
 ·rename_i ds a xs hq rs es b ys hq' rs'
  unfold Ej at e
  simp only at e
  split at e
  ·rename_i hl
   cases e
   by_cases hx:xs=[]
   ·subst hx
    cases rs
    exact .inr (.inr (.inr ⟨a,b,ys,rfl,rfl,hq,hq',q _ H (Same.refl H) (by rw[Ata];exact .tup hq' rs')⟩))
   ·refine .inr (.inr (.inl ⟨a,b,xs,ys,rfl,rfl,hq,hq',hx,by rw[<- rs.length,<- rs'.length];exact big hl,fun hy=>?_,fun hy p hp=>?_⟩))
    ·subst hy
     cases rs'
     exact q _ H (Same.refl H) (by rw[Arc];exact .tup hq rs)
    ·exact q _ _ (Bd hp) (.tup (.inl (.inl Be)) ((rs.append rs').same (Bd hp)))
  ·cases e
def sqL (m:MH):D->Option (List D)
 |.tup _=>none
 |d=>sq m d
def Adl (f g:FE):FL:=fun env m=>(f env m).bind fun x=>(g env m).bind fun y=>(sqL m x).bind fun xs=>(sqL m y).bind fun ys=>if xs.length+ys.length<=1000000 then some (xs++ys) else none
theorem Pp {K:W.Frag}{H:Hp}{μ:List Addr}{m:MH} (S:Sim K H μ m) {d:D}{v:V}{ds:List D} (r:Rep K H μ (·∈μ) d v) (h:sqL m d=some ds):∃ a xs,v=.ref a/\SqL K H a xs/\Reps K H μ (·∈μ) ds xs:=by
 cases r with
 |@ref n a e =>
  unfold sqL sq at h
  cases q:m[n]? with
  |none=>simp[q] at h
  |some o =>
   simp only[q] at h
   cases o with
   |dcs _ _=>cases h
   |dct _=>cases h
   |lst ds =>
    cases h
    obtain⟨xs,e1,e2⟩:=S.obj n a _ e q
    exact⟨a,xs,rfl,SqL.of e1,e2⟩
 |@lst ds a xs h1 h3 h2=>cases h;exact⟨a,xs,rfl,.inl h1,h2⟩
 |@kl ds a xs h1 h2=>cases h;exact⟨a,xs,rfl,h1.sq,h2⟩
 |_=>exact Aj h
theorem Ago:OpR X (binaryOp .Add) (fun x y H Q=>∃ l b xs zs,x=.ref l/\y=.ref b/\SqL X.K H l xs/\SqL X.K H b zs/\xs.length+zs.length<=sizeLine/\∀ p,H p=none->Q (.ref p) (upd H p (.lst (xs++zs)))):=by
 intro pins s σ H x y v u Q I rx ry h
 obtain⟨l,b,xs,zs,rfl,rfl,hl,hb,hz,q⟩:=h
 cases rx
 cases ry
 obtain⟨its,r,⟨⟨cls,dd,data,sl⟩,n,ho,hc,hdd,hd⟩,z⟩:=I.list hl
 obtain⟨its2,r2,⟨⟨cls2,dd2,data2,sl2⟩,n2,ho2,hc2,hdd2,hd2⟩,z2⟩:=I.list hb
 simp only at hc hd hc2 hd2 hdd hdd2
 subst hc hd hc2 hd2 hdd hdd2
 have hl:=r.length
 have hl2:=r2.length
 refine concat_meets ⟨_,ho,rfl⟩ ⟨_,ho2,rfl⟩ noFill_list_add seq_list_add PySem.F.slot_list_add PySem.F.entry_list_add (PySem.F.args_list_add_2 _ _)
   (list_addW l b its.toArray its2.toArray n n2 none none sl sl2 (by rw[Aqq,Aqq];lia)) ⟨ho,ho2,?_⟩
 have ea:its.toArray++its2.toArray=(its++its2).toArray:=by simp
 rw[ea]
 exact⟨.ref _,_,I.lnew (t':=s.toks) (r.append r2) (by rw[Aqv];lia),rfl,q _ I.fresh⟩
theorem Ak8 {f g:FE} (ha:PD X a f) (hb:PD X b g):PF X (.BinOp a .Add b pos) (Adl f g):=PE.imp (Ak3 Ago ha hb) fun σ H Q ⟨env,μ,m,d,S,E,h,q⟩=>by
 obtain⟨x,h1,h⟩:=bind_some h
 obtain⟨y,h2,h⟩:=bind_some h
 obtain⟨xs,h3,h⟩:=bind_some h
 obtain⟨ys,h4,h⟩:=bind_some h
 split at h
 ·rename_i hl
  cases h
  refine⟨env,μ,m,x,S,E,h1,fun v H1 s1 r1=>⟨env,μ,m,y,S.same s1,E.same s1,h2,fun u H2 s2 r2=>?_⟩⟩
  obtain⟨l,vs,rfl,e1,rs⟩:=Pp (S.same (s1.trans s2)) (r1.same s2) h3
  obtain⟨b,ws,rfl,e2,rs'⟩:=Pp (S.same (s1.trans s2)) r2 h4
  exact⟨l,b,vs,ws,rfl,rfl,e1,e2,by rw[<- rs.length,<- rs'.length];exact big hl,fun p hp=>q p _ _ ((s1.trans s2).trans (Bd hp)) ((s1.trans s2).free hp) Be ((rs.append rs').fresh hp)⟩
 ·cases h
def Jl (X:Cx) (f:Value) (o:List D->MH->Option D):Prop :=
 ∀ (pins:List (Addr×Obj)) (s:Shared) (σ:St) (H:Hp) (μ:List Addr) (m:MH) (xs:List D) (z:D) (vs:List V) (us:List Value) (Q:VK),Inv X pins σ H s->Sim X.K H μ m->Reps X.K H μ (·∈μ) xs vs->Vals vs us->o xs m=some z ->
  (∀ w H2,Same H H2->Rep X.K H2 μ (·∈μ) z w->Q w H2)->wpAny (model X.prog X.w) X.A (call f us) (EP X pins σ Q) X.xe s
noncomputable def Ay (o:List D->MH->Option D) (g:FL):FE:=fun env m=>(g env m).bind fun xs=>o xs m
noncomputable def Dm (o:List D->MH->Option (List D)) (g:FL):FL:=fun env m=>(g env m).bind fun xs=>o xs m
theorem Ai8 (ho:Jl X k o) (ha:PL X es g) {s:Shared}{H:Hp} (I:Inv X pins σ H s) (h:tE X.K (Ay o g) σ H Q) :
  wpAny (model X.prog X.w) X.A (spliced (backTo pos (starEach es X.env))) (fun us s1=>wpAny (model X.prog X.w) X.A (call k us) (EP X pins σ Q) X.xe s1) X.xe s:=by
 obtain⟨env,μ,m,d,S,E,h,q⟩:=h
 obtain⟨xs,h1,h2⟩:=bind_some h
 refine thn (ha pos pins s σ H (fun vs H1=>Same H H1/\Reps X.K H1 μ (·∈μ) xs vs) I ⟨env,μ,m,xs,S,E,h1,fun v H1 s1 r1=>⟨s1,r1⟩⟩) fun us s1 ⟨vs,H1,I1,r1,s1',rx⟩=>?_
 exact ho pins s1 σ H1 μ m xs d vs us Q I1 (S.same s1') rx r1 h2 fun w H2 s2 r2=>q w H2 (s1'.trans s2) r2
theorem Hs (hc:Jl X (.builtin id) o) (hg:Gl X x) (hm:X.mg x=none) (hv:bootBuiltins x=some (.builtin id)) (ha:PL X (e::es) g) (hn:x≠"__name__") (hdb:(x == ("__debug__":Str))=false) (he:starEach (e::es) X.env=(false,eval e X.env)::starEach es X.env) (hpl:(backTo pos (starEach es X.env)).any (·.1)=false):PD X (.Call (.Name x p) (e::es) [] pos) (Ay o g):=by
 intro pins s σ H Q I h
 refine Asj (Ip I hg hm hv ?_ hn hdb)
 exact PyProof.Rows.callWith_builtin1 (Ai8 hc ha I h) he hpl
theorem Iv (hc:Jl X (.type T) o) (hg:Gl X x) (hm:X.mg x=none) (hv:bootBuiltins x=some (.type T)) (ha:PL X (e::es) g) (hn:x≠"__name__") (hdb:(x == ("__debug__":Str))=false) (he:starEach (e::es) X.env=(false,eval e X.env)::starEach es X.env) (hpl:(backTo pos (starEach es X.env)).any (·.1)=false):PD X (.Call (.Name x p) (e::es) [] pos) (Ay o g):=by
 intro pins s σ H Q I h
 refine Asj (Ip I hg hm hv ?_ hn hdb)
 exact PyProof.Rows.callWith_type1 (Ai8 hc ha I h) he hpl
inductive R1 (K:W.Frag) (H:Hp) (μ:List Addr) (B:Addr->Prop) (d:D) (vs:List V):Prop where
 |mk (v:V) (e:vs=[v]) (r:Rep K H μ B d v)
theorem Reps.one {K:W.Frag}{H:Hp}{μ:List Addr}{B:Addr->Prop}{d:D}{vs:List V} (r:Reps K H μ B [d] vs):R1 K H μ B d vs:=by
 cases r with
 |cons h r=>cases r;exact⟨_,rfl,h⟩
theorem Reps.two {K:W.Frag}{H:Hp}{μ:List Addr}{B:Addr->Prop}{d d':D}{vs:List V} (r:Reps K H μ B [d,d'] vs):∃ v v',vs=[v,v']/\Rep K H μ B d v/\Rep K H μ B d' v':=by
 cases r with
 |cons h r =>
  cases r with
  |cons h' r=>cases r;exact⟨_,_,rfl,h,h'⟩
def Aof (m:MH):D->Option Nat
 |.str z=>if z.length<=1000000 then some z.length else none
 |d=>(sq m d).bind fun ds=>some ds.length
def Jk:List D->MH->Option D:=fun xs m=>match xs with
 |[d]=>(Aof m d).bind fun n=>some (.int n)
 |_=>none
theorem Agc {K:W.Frag}{H:Hp}{μ:List Addr}{m:MH} (S:Sim K H μ m) {d:D}{v:V}{n:Nat} (r:Rep K H μ (·∈μ) d v) (h:Aof m d=some n):Ano K v H n:=by
 have seq:((sq m d).bind fun ds=>some ds.length)=some n->Ano K v H n:=fun h=>by
  obtain⟨ds,h1,h2⟩:=bind_some h
  cases h2
  obtain⟨a,xs,rfl,hq,rs⟩:=Ud S r h1
  rcases hq with hq|hq
  ·exact .inl ⟨xs,hq,rs.length⟩
  ·exact .inr ⟨xs,hq,rs.length⟩
 cases r with
 |str z ok =>
  unfold Aof at h
  simp only at h
  split at h
  ·cases h;exact⟨big (by assumption),rfl⟩
  ·exact Aj h
 |non=>exact seq h
 |bl _=>exact seq h
 |int _=>exact seq h
 |tup h1 h2=>exact seq h
 |lst h1 h2 h3=>exact seq h
 |kl h1 h2=>exact seq h
 |dic h1 h2 h3 h4=>exact seq h
 |dks _ _ _ _=>exact seq h
 |fn _=>exact seq h
 |ref h'=>exact seq h
theorem Ajd:Jl X (.builtin "len") Jk:=by
 intro pins s σ H μ m xs z vs us Q I S rx rv e q
 match xs,e with
 |[d],e =>
  obtain⟨n,h1,h2⟩:=bind_some e
  cases h2
  obtain⟨v,rfl,r⟩:=rx.one
  exact Aa3 pins s σ H [v] us Q I rv ⟨v,n,rfl,Agc S r h1,q _ H (Same.refl H) (.int _)⟩
noncomputable def Agl:List D->MH->Option D:=fun xs _=>match xs with
 |[.int i]=>some (.int i)
 |[.bl b]=>some (.int (if b then 1 else 0))
 |[.str z]=>if z.length<=640 then (PySem.intText? z).bind fun i=>some (.int i) else none
 |_=>none
theorem Ad4 {α:Type}{o:List D->Option α}{xs:List D}{z:α} (hn:o []=none) (hc:∀ a b l,o (a::b::l)=none) (e:o xs=some z):∃ d,xs=[d]:=by
 cases xs with
 |nil=>rw[hn] at e;exact Aj e
 |cons a l =>
  cases l with
  |nil=>exact⟨a,rfl⟩
  |cons b l=>rw[hc] at e;exact Aj e
theorem Ajc:Jl X (.type "int") Agl:=by
 intro pins s σ H μ m xs z vs us Q I S rx rv e q
 obtain⟨d,rfl⟩:=Ad4 (o:=(Agl · m)) rfl (fun a _ _=>by cases a<;>rfl) e
 obtain⟨v,rfl,r⟩:=rx.one
 cases r with
 |int i =>
  cases e
  exact Nk pins s σ H _ us Q I rv (.inl ⟨i,rfl,q _ H (Same.refl H) (.int _)⟩)
 |bl b =>
  cases e
  exact Nk pins s σ H _ us Q I rv (.inr ⟨b,rfl,q _ H (Same.refl H) (.int _)⟩)
 |str x _ =>
  unfold Agl at e
  simp only at e
  split at e
  ·obtain⟨i,h1,h2⟩:=bind_some e
   cases h2
   obtain⟨u,rfl,t,rfl⟩:=M1 rv
   exact W.KIN.call_text h1 (by assumption) ⟨.int i,H,I.tok _,⟨_,rfl⟩,q _ H (Same.refl H) (.int _)⟩
  ·cases e
 |_=>exact Aj e
theorem Jp (z:String):PyData.strOk (Str.ofString z)=true:=by
 rw[Je]
 intro c hc
 rw[Str.ofString_eq_toList] at hc
 have:c∈z.toList.map Char.toNat:=by simpa using hc
 obtain⟨k,_,rfl⟩:=List.mem_map.mp this
 have:=k.valid
 rcases this with h|h
 ·show k.val.toNat < _
  lia
 ·show k.val.toNat < _
  lia
def C5:List D->MH->Option D:=fun xs m=>match xs with
 |[d]=>(sq m d).bind fun ds=>some (.tup ds)
 |_=>none
theorem Aa6:Jl X (.type "tuple") C5:=by
 intro pins s σ H μ m xs z vs us Q I S rx rv e q
 match xs,e with
 |[d],e =>
  obtain⟨ds,h1,h2⟩:=bind_some e
  cases h2
  obtain⟨v,rfl,r⟩:=rx.one
  obtain⟨a,ys,rfl,hq,rs⟩:=Ud S r h1
  refine L4 pins s σ H _ us Q I rv ⟨a,ys,rfl,?_⟩
  rcases hq with hq|hq
  ·exact .inl ⟨hq,fun l hl=>q _ _ (Bd hl) (.tup (.inl (.inl Be)) (rs.same (Bd hl)))⟩
  ·exact .inr ⟨hq,q _ H (Same.refl H) (.tup hq rs)⟩
noncomputable def tyD (m:MH):D->Option String
 |.non=>some "NoneType"|.bl _=>some "bool"|.int _=>some "int"|.str _=>some "str"|.tup _=>some "tuple"|.lst _=>some "list"|.kl _=>some "list"
 |.ref n=>match m[n]? with
  |some (.lst _)=>some "list"
  |some (.dct _ _)=>none
  |some (.dcs _ _)=>none
  |none=>none
 |.dic _ _=>none
 |.dks _ _=>none
 |.fn _ _=>none
noncomputable def X5 (T U:String):Option Bool:=if U="int"\/U="bool"\/U="str"\/U="tuple"\/U="list" then some (T == U||(T == "bool"&&U == "int")) else none
theorem Jn (K:W.Frag) {T U:String}{b:Bool} (hT:T="NoneType"\/T="bool"\/T="int"\/T="str"\/T="tuple"\/T="list") (h:X5 T U=some b):W.kitOne K (.type T) (.type U)=some b:=by
 unfold X5 at h
 split at h
 ·rename_i hU
  cases h
  rcases hT with rfl|rfl|rfl|rfl|rfl|rfl<;>rcases hU with rfl|rfl|rfl|rfl|rfl<;>kernel_rfl
 ·cases h
def Adm (U:String) (f:FE):FE:=fun env m=>(f env m).bind fun d=>(tyD m d).bind fun T=>(X5 T U).bind fun b=>some (.bl b)
end
section
variable {X:Cx}{a b c e o':Expr}{es:List Expr}{pos p p' apos cpos:Pos}{x:Str}{id T:String}
theorem Af9 {pins:List (Addr×Obj)}{σ:St}{H:Hp}{s:Shared}{A:Around}{E:Value->Shared->Prop}{Q:Value->Shared->Prop}{a:Addr}{xs:List V}{c:Value}{b:Bool} (I:Inv X pins σ H s) (h:SqT X.K H a xs) (e:W.kitOne X.K (.type "tuple") c=some b) (q:∀ tk,Q (.bool b) { s with toks:=tk }) :
  wpAny (model X.prog X.w) A (call (.builtin "isinstance") [.ref a,c]) Q E s:=by
 obtain⟨its,_,⟨o,h1,h2,_⟩,_⟩:=I.tuple h
 exact W.kia_one W.kitx_tuple I.kIn ⟨o,h1,h2⟩ e (fun z=>nomatch z) q
theorem Aoc {pins:List (Addr×Obj)}{σ:St}{H:Hp}{s:Shared}{A:Around}{E:Value->Shared->Prop}{Q:Value->Shared->Prop}{μ:List Addr}{m:MH}{d:D}{v:V}{u:Value}{T U:String}{b:Bool} (I:Inv X pins σ H s) (S:Sim X.K H μ m) (r:Rep X.K H μ (·∈μ) d v) (ru:RelV v u)
  (h:tyD m d=some T) (hb:X5 T U=some b) (q:∀ tk,Q (.bool b) { s with toks:=tk }):wpAny (model X.prog X.w) A (call (.builtin "isinstance") [u,.type U]) Q E s:=by
 cases r with
 |non=>cases h;exact Cn I ru .non (Jn X.K (by simp) hb) q
 |bl b=>cases h;exact Cn I ru (.bl b) (Jn X.K (by simp) hb) q
 |int b=>cases h;exact Cn I ru (.int b) (Jn X.K (by simp) hb) q
 |str b _=>cases h;exact Cn I ru (.str b) (Jn X.K (by simp) hb) q
 |tup h1 h2=>cases h;cases ru;exact Af9 I h1 (Jn X.K (by simp) hb) q
 |lst h1 h2 h3 =>
  cases h
  rcases h1 with h1|⟨o,h1⟩
  ·exact Cn I ru (.lst h1) (Jn X.K (by simp) hb) q
  ·exact Cn I ru (.frz h1) (Jn X.K (by simp) hb) q
 |kl h1 h2 =>
  cases h
  cases ru
  rcases h1 with ⟨o,h1⟩|⟨o,its,n,hk,hc,_⟩
  ·exact Cn (x:=.ref _) (u:=.ref _) I rfl (.frz h1) (Jn X.K (by simp) hb) q
  ·exact W.kia_one W.kitx_list I.kIn ⟨o,I.kIn _ _ hk,hc⟩ (Jn X.K (by simp) hb) (fun z=>nomatch z) q
 |dic h1 h2 h3 h4=>exact Aj h
 |dks _ _ _ _=>exact Aj h
 |fn _=>exact Aj h
 |@ref n a e =>
  unfold tyD at h
  cases q':m[n]? with
  |none=>simp[q'] at h
  |some ob =>
   simp only[q'] at h
   cases ob with
   |dcs _ _=>cases h
   |dct _ _=>cases h
   |lst ds =>
    cases h
    obtain⟨xs,e1,e2⟩:=S.obj n a _ e q'
    exact Cn I ru (.lst e1) (Jn X.K (by simp) hb) q
theorem Akt (ha:PD X e f) (hg:Gl X "isinstance") (hm:X.mg "isinstance"=none) (hg':Gl X y) (hm':X.mg y=none) (hv':bootBuiltins y=some (.type U)) (hn:y≠"__name__") (hdb:(y == ("__debug__":Str))=false) (hv:bootBuiltins "isinstance"=some (.builtin "isinstance")) (he:starEach [e,.Name y p'] X.env=(false,eval e X.env)::starEach [.Name y p'] X.env) (he':starEach [.Name y p'] X.env=(false,eval (.Name y p') X.env)::starEach [] X.env) (hpl:(backTo pos (starEach [.Name y p'] X.env)).any (·.1)=false) :
  PD X (.Call (.Name "isinstance" p) [e,.Name y p'] [] pos) (Adm U f):=by
 intro pins s σ H Q I h
 obtain⟨env,μ,m,z,S,E,h,q⟩:=h
 obtain⟨d,h1,h⟩:=bind_some h
 obtain⟨T,h2,h⟩:=bind_some h
 obtain⟨b,h3,h⟩:=bind_some h
 cases h
 have hA:PA X [e,.Name y p'] (Aia (tE X.K f) (Aia (tC (.ty U)) Apw)):=Mn ha (Mn (Agz hg' hm' hv' rfl hn hdb) Ys he') he
 refine Asj (Ip I hg hm hv ?_ (by decide) (by decide))
 refine PyProof.Rows.callWith_builtin1 (thn (hA pos pins s σ H (fun vs H1=>∃ v,vs=[v,.ty U]/\Same H H1/\Rep X.K H1 μ (·∈μ) d v) I ⟨env,μ,m,d,S,E,h1,fun v H1 s1 r1=>⟨v,rfl,s1,r1⟩⟩) fun us s1 ⟨vs,H1,I1,rv,v,e1,s1',rx⟩=>?_) he hpl
 subst e1
 obtain⟨u,w,rfl,r1,r2⟩:=Aid rv
 cases r2
 have S1:=S.same s1'
 have fin:∀ tk,EP X pins σ Q (.bool b) { s1 with toks:=tk }:=fun tk=>⟨.bl b,H1,I1.tok _,rfl,q _ H1 s1' (.bl b)⟩
 exact Aoc I1 S1 rx r1 h2 h3 fin
def inO (m:MH) (x y:D):Option Bool:=match y with
 |.str z=>(match x with
  |.str w=>some (!(Builtin.Str.occurrences z w 0 z.length 1).isEmpty)
  |_=>none)
 |y=>(Ci m x).bind fun x'=>(Ci m y).bind fun y'=>(sq [] y').bind fun ds=>if dep x'<=50 then some (ds.any fun d=>deq d x') else none
def oIn:D->D->MH->Option D:=fun x y m=>(inO m x y).bind fun b=>some (.bl b)
def Gs:D->D->MH->Option D:=fun x y m=>(inO m x y).bind fun b=>some (.bl (!b))
mutual
theorem Adj {pins:List (Addr×Obj)}{σ:St}{H:Hp}{s:Shared}{A:Around}{d d':D}{v v':V}{u u':Value}{μ:List Addr}{B:Addr->Prop} (I:Inv X pins σ H s) (r:Rep X.K H μ B d v) (r':Rep X.K H μ B d' v') (n:By d=true) (n':By d'=true) (ru:RelV v u) (ru':RelV v' u') (hu:A.units+dep d' < cLine) :
  SeqAt.EqAt A s u u' (deq d d'):=by
 obtain⟨as,ra⟩:=Dl I r n ru
 obtain⟨bs,rb⟩:=Dl I r' n' ru'
 refine SeqAt.eqAt_reads _ _ _ _ _ _ _ _ ra rb (Ep r) (Ep r') ?_
 rw[Ie,Ie]
 lia
end
theorem D8:∀ {ds:List D}{d:D},A7 ds=true->d∈ds->By d=true
 |_::_,_,h,.head _=>(Bool.and_eq_true_iff.mp h).1
 |_::_,_,h,.tail _ q=>D8 (Bool.and_eq_true_iff.mp h).2 q
theorem Rep.tl {pins:List (Addr×Obj)}{σ:St}{H:Hp}{s:Shared}{a:Addr}{xs ys:List V} (I:Inv X pins σ H s) (h:SqT X.K H a xs) (h':SqL X.K H a ys):False:=by
 obtain⟨its,_,p,_⟩:=I.tuple h
 obtain⟨its',_,p',_⟩:=I.list h'
 exact SeqAt.ne_of_list_tuple p'.isList p rfl
mutual
theorem Zb {H:Hp}{s:Shared} (I:Inv X pins σ H s) {d d':D}{v:V} (r:Rep X.K H μ B d v) (q:Rep X.K H μ B d' v) (n:By d=true) (n':By d'=true):pyD d=pyD d':=by
 cases r with
 |non=>cases q;rfl
 |bl _=>cases q;rfl
 |int _=>cases q;rfl
 |str _ _=>cases q;rfl
 |ref _=>exact C8 n
 |dic _ _ _ _=>exact C8 n
 |dks _ _ _ _=>exact C8 n
 |fn _=>exact C8 n
 |tup h r =>
  cases q with
  |tup h' r' =>
   cases I.tuple_inj h h'
   exact Asc PyData.tuple (Ea I r r' n n')
  |lst h' _ r'=>exact (Rep.tl I h (.inl h')).elim
  |kl h' r'=>exact (Rep.tl I h h'.sq).elim
  |_=>exact C8 n'
 |lst h _ r =>
  cases q with
  |tup h' r'=>exact (Rep.tl I h' (.inl h)).elim
  |lst h' _ r' =>
   cases I.list_inj (.inl h) (.inl h')
   exact Asc PyData.list (Ea I r r' n n')
  |kl h' r' =>
   cases I.list_inj (.inl h) h'.sq
   exact Asc PyData.list (Ea I r r' n n')
  |_=>exact C8 n'
 |kl h r =>
  cases q with
  |tup h' r'=>exact (Rep.tl I h' h.sq).elim
  |lst h' _ r' =>
   cases I.list_inj h.sq (.inl h')
   exact Asc PyData.list (Ea I r r' n n')
  |kl h' r' =>
   cases I.list_inj h.sq h'.sq
   exact Asc PyData.list (Ea I r r' n n')
  |_=>exact C8 n'
theorem Ea {H:Hp}{s:Shared} (I:Inv X pins σ H s) {d d':List D}{v:List V} (r:Reps X.K H μ B d v) (q:Reps X.K H μ B d' v) (n:A7 d=true) (n':A7 d'=true):Iz d=Iz d':=by
 cases r with
 |nil=>cases q;rfl
 |cons h r =>
  cases q with
  |cons h' r' =>
  have e:=Bool.and_eq_true_iff.mp n
  have e':=Bool.and_eq_true_iff.mp n'
  rw[Iz,Iz,Zb I h h' e.1 e'.1,Ea I r r' e.2 e'.2]
end
theorem Mb {pins:List (Addr×Obj)}{σ:St}{H:Hp}{s:Shared}{A:Around}{μ:List Addr}{B:Addr->Prop}{x:D}{vx:V}{ux:Value} (I:Inv X pins σ H s) (rx:Rep X.K H μ B x vx) (nx:By x=true) (rux:RelV vx ux) (hu:A.units+dep x < cLine)
  {ds:List D}{vs:List V}{us:List Value} (rs:Reps X.K H μ B ds vs) (ns:A7 ds=true) (rv:Vals vs us) :
  ∃ e:Value->Bool,(∀ y∈us,SeqAt.EqAt A s y ux (e y))/\us.any e=ds.any fun d=>deq d x:=by
 have key:∀ y,∃ b:Bool,∀ (i:Nat) (d:D),us[i]?=some y->ds[i]?=some d->b=deq d x:=fun y=>by
  by_cases h:∃ (i:Nat) (d:D),us[i]?=some y/\ds[i]?=some d
  ·obtain⟨i,d,h1,h2⟩:=h
   refine⟨deq d x,fun j d' h3 h4=>?_⟩
   obtain⟨v,e1,r1⟩:=rs.get h2
   obtain⟨v',e2,r2⟩:=rs.get h4
   obtain⟨u,e3,r3⟩:=rv.get e1
   obtain⟨u',e4,r4⟩:=rv.get e2
   rw[h1] at e3;cases e3
   rw[h3] at e4;cases e4
   cases r3.inj r4
   unfold deq
   rw[Zb I r1 r2 (D8 ns (Aq4 h2)) (D8 ns (Aq4 h4))]
  ·exact⟨false,fun i d h1 h2=>absurd ⟨i,d,h1,h2⟩ h⟩
 refine⟨fun y=>Classical.choose (key y),fun y hy=>?_,?_⟩
 ·obtain⟨i,hi⟩:=As6 hy
  have hil:i < ds.length:=by
   have:=(List.getElem?_eq_some_iff.mp hi).1
   rw[rs.length,rv.length];exact this
  obtain⟨v,e1,r1⟩:=rs.get (i:=i) (d:=ds[i]) (by simp[hil])
  obtain⟨u,e3,r3⟩:=rv.get e1
  rw[hi] at e3;cases e3
  have ec:=Classical.choose_spec (key y) i ds[i] hi (by simp[hil])
  show SeqAt.EqAt A s y ux (Classical.choose (key y))
  rw[ec]
  exact Adj I r1 rx (D8 ns (Ar4 hil)) nx r3 rux hu
 ·have aux:∀ (f:Value->Bool) (ds:List D) (us:List Value),us.length=ds.length->(∀ (i:Nat) (y:Value) (d:D),us[i]?=some y->ds[i]?=some d->f y=deq d x)->us.any f=ds.any fun d=>deq d x:=fun f=>by
   intro ds
   induction ds with
   |nil=>intro us hl _;cases us with
    |nil=>rfl
    |cons _ _=>cases hl
   |cons d ds ih =>
    intro us hl h
    cases us with
    |nil=>cases hl
    |cons y us =>
     rw[Arx,Arx,h 0 y d rfl rfl,ih us (by simpa using hl) fun i y d h1 h2=>h (i+1) y d (by simpa using h1) (by simpa using h2)]
  exact aux _ ds us (by rw[rs.length,rv.length]) fun i y d h1 h2=>Classical.choose_spec (key y) i d h1 h2
theorem X1 {k:Nat} (hr:Room k X.A) {pins:List (Addr×Obj)}{s:Shared}{σ:St}{H:Hp}{μ:List Addr}{m:MH}{x y:D}{v u:V}{v' u':Value}{b:Bool}{R:Bool->Prop} (I:Inv X pins σ H s) (S:Sim X.K H μ m) (rx:Rep X.K H μ (·∈μ) x v) (ry:Rep X.K H μ (·∈μ) y u) (r1:RelV v v') (r2:RelV u u')
  (e:inO m x y=some b):(∃ z w t t',v'=.str w t/\u'=.str z t'/\b=!(Builtin.Str.occurrences z w 0 z.length 1).isEmpty) \/
   ∃ (p:Addr) (its:List Value) (e:Value->Bool),u'=.ref p/\(s.heap.IsList p its.toArray\/s.heap.IsTuple p its.toArray)/\(∀ y∈its,SeqAt.EqAt X.A.in1 s y v' (e y))/\its.any e=b:=by
 have seq:((Ci m x).bind fun x'=>(Ci m y).bind fun y'=>(sq [] y').bind fun ds=>if dep x'<=50 then some (ds.any fun d=>deq d x') else none)=some b ->
   ∃ (p:Addr) (its:List Value) (e:Value->Bool),u'=.ref p/\(s.heap.IsList p its.toArray\/s.heap.IsTuple p its.toArray)/\(∀ y∈its,SeqAt.EqAt X.A.in1 s y v' (e y))/\its.any e=b:=fun h=>by
  obtain⟨x',h1,h⟩:=bind_some h
  obtain⟨y',h2,h⟩:=bind_some h
  obtain⟨ds,h3,h⟩:=bind_some h
  split at h
  ·rename_i hd
   cases h
   obtain⟨a1,n1⟩:=Bf S rx h1
   obtain⟨a2,n2⟩:=Bf S ry h2
   have hu:=hr.units
   have hu':X.A.in1.units+dep x' < cLine:=by show X.A.units+1+dep x' < cLine;lia
   cases a2 with
   |@tup es a xs hq rs =>
    cases h3
    cases r2
    obtain⟨its,rv,p,_⟩:=I.tuple hq
    obtain⟨f,h4,h5⟩:=Mb I a1 n1 r1 hu' rs n2 rv
    exact⟨a,its,f,rfl,.inr p,h4,h5⟩
   |@lst es a xs hq _ rs =>
    cases h3
    cases r2
    obtain⟨its,rv,p,_⟩:=I.list (.inl hq)
    obtain⟨f,h4,h5⟩:=Mb I a1 n1 r1 hu' rs n2 rv
    exact⟨a,its,f,rfl,.inl p.isList,h4,h5⟩
   |@kl es a xs hq rs =>
    cases h3
    cases r2
    obtain⟨its,rv,p,_⟩:=I.list hq.sq
    obtain⟨f,h4,h5⟩:=Mb I a1 n1 r1 hu' rs n2 rv
    exact⟨a,its,f,rfl,.inl p.isList,h4,h5⟩
   |_=>cases h3
  ·cases h
 cases ry with
 |str z ok =>
  cases rx with
  |str w ok' =>
   cases e
   obtain⟨t,rfl⟩:=r1
   obtain⟨t',rfl⟩:=r2
   exact .inl ⟨z,w,t,t',rfl,rfl,rfl⟩
  |_=>cases e
 |non=>exact .inr (seq e)
 |bl _=>exact .inr (seq e)
 |int _=>exact .inr (seq e)
 |tup h1 h2=>exact .inr (seq e)
 |lst h1 h2 h3=>exact .inr (seq e)
 |kl h1 h2=>exact .inr (seq e)
 |dic _ _ _ _=>exact .inr (seq e)
 |dks _ _ _ _=>exact .inr (seq e)
 |fn _=>exact .inr (seq e)
 |ref h'=>exact .inr (seq e)
theorem U8 (hr:Room k X.A):OpM X (compareOp .In) oIn:=by
 intro pins s σ H μ m x y z v u v' u' Q I S rx ry r1 r2 e q
 obtain⟨b,h1,h2⟩:=bind_some e
 cases h2
 have fin:EP X pins σ Q (.bool b) s:=⟨.bl b,H,I,rfl,q _ H (Same.refl H) (.bl b)⟩
 rcases X1 (R:=fun _=>True) hr I S rx ry r1 r2 h1 with ⟨z,w,t,t',rfl,rfl,hb⟩|⟨p,its,f,rfl,hp,hf,hb⟩
 ·subst hb;exact in_str fin
 ·subst hb
  rcases hp with hp|hp
  ·exact SeqAt.in_listAt f hp (fun y hy=>hf y (by simpa using hy)) (by simpa using fin)
  ·exact SeqAt.in_tupleAt f hp (fun y hy=>hf y (by simpa using hy)) (by simpa using fin)
theorem Mm (hr:Room k X.A):OpM X (compareOp .NotIn) Gs:=by
 intro pins s σ H μ m x y z v u v' u' Q I S rx ry r1 r2 e q
 obtain⟨b,h1,h2⟩:=bind_some e
 cases h2
 have fin:EP X pins σ Q (.bool (!b)) s:=⟨.bl (!b),H,I,rfl,q _ H (Same.refl H) (.bl (!b))⟩
 rcases X1 (R:=fun _=>True) hr I S rx ry r1 r2 h1 with ⟨z,w,t,t',rfl,rfl,hb⟩|⟨p,its,f,rfl,hp,hf,hb⟩
 ·subst hb;exact notIn_str fin
 ·subst hb
  rcases hp with hp|hp
  ·exact SeqAt.notIn_listAt f hp (fun y hy=>hf y (by simpa using hy)) (by simpa using fin)
  ·exact SeqAt.notIn_tupleAt f hp (fun y hy=>hf y (by simpa using hy)) (by simpa using fin)
end
open Classical in
noncomputable section
inductive Out where
 |nx (env:A2) (m:MH)|rt (d:D) (m:MH)|bk (env:A2) (m:MH)|ct (env:A2) (m:MH)
abbrev FS:=A2->MH->Option Out
def FinS (K:W.Frag) (H:Hp) (μ:List Addr) (o:Out) (Dn:Ends):Prop:=match o with
 |.nx env' m'=>∀ σ' H' μ',Step H μ H' μ'->Sim K H' μ' m'->EnvRep K H' μ' σ' env'->Dn.nx σ' H'
 |.bk env' m'=>∀ σ' H' μ',Step H μ H' μ'->Sim K H' μ' m'->EnvRep K H' μ' σ' env'->Dn.bk σ' H'
 |.ct env' m'=>∀ σ' H' μ',Step H μ H' μ'->Sim K H' μ' m'->EnvRep K H' μ' σ' env'->Dn.ct σ' H'
 |.rt d m'=>∀ v H' μ',Step H μ H' μ'->Sim K H' μ' m'->Rep K H' μ' (·∈μ') d v->Dn.rt v H'
inductive tS (K:W.Frag) (g:FS) (Dn:Ends) (σ:St) (H:Hp):Prop
 |mk (env:A2) (μ:List Addr) (m:MH) (o:Out) (S:Sim K H μ m) (E:EnvRep K H μ σ env) (h:g env m=some o) (q:FinS K H μ o Dn)
abbrev PSD (X:Cx) (st:Stmt) (g:FS):Prop:=PS X st (tS X.K g)
abbrev Zu (X:Cx) (st:List Stmt) (g:FS):Prop:=PSs X st (tS X.K g)
theorem PS.imp {t t':TS} (h:PS X e t) (i:∀ D σ H,t' D σ H->t D σ H):PS X e t':=fun pins s σ H D I q=>h pins s σ H D I (i D σ H q)
theorem PSs.imp {t t':TS} (h:PSs X e t) (i:∀ D σ H,t' D σ H->t D σ H):PSs X e t':=fun pins s σ H D I q=>h pins s σ H D I (i D σ H q)
theorem PG.imp {t t':TG} (h:PG X e t) (i:∀ v σ H Q,t' v σ H Q->t v σ H Q):PG X e t':=fun pins s σ H v u Q I r q=>h pins s σ H v u Q I r (i v σ H Q q)
theorem FinS.step {K:W.Frag}{H H1:Hp}{μ μ1:List Addr}{m m1:MH}{o:Out}{Dn:Ends} (S:Sim K H μ m) (S1:Sim K H1 μ1 m1) (s:Step H μ H1 μ1) (f:FinS K H μ o Dn):FinS K H1 μ1 o Dn:=by
 have hn:=s.none S S1
 cases o with
 |nx e m'=>exact fun σ' H' μ' s' S' E'=>f σ' H' μ' (s.trans s' hn) S' E'
 |bk e m'=>exact fun σ' H' μ' s' S' E'=>f σ' H' μ' (s.trans s' hn) S' E'
 |ct e m'=>exact fun σ' H' μ' s' S' E'=>f σ' H' μ' (s.trans s' hn) S' E'
 |rt e m'=>exact fun σ' H' μ' s' S' E'=>f σ' H' μ' (s.trans s' hn) S' E'
section
variable {X:Cx}{a b c e:Expr}{es:List Expr}{pos p p':Pos}{x:Str}{st:Stmt}{rest:List Stmt}
noncomputable def Eb:FS:=fun env m=>some (.nx env m)
noncomputable def Ba (f g:FS):FS:=fun env m=>(f env m).bind fun o=>match o with
 |.nx env' m'=>g env' m'
 |o=>some o
theorem Ahe:Zu X [] Eb:=PSs.imp Ahi fun D σ H ⟨env,μ,m,o,S,E,h,f⟩=>by
 cases h
 exact f σ H μ Step.refl S E
theorem tS.seq {K:W.Frag}{f g:FS}{Dn:Ends}{σ:St}{H:Hp} (h:tS K (Ba f g) Dn σ H):Apx (tS K f) (tS K g) Dn σ H:=by
 obtain⟨env,μ,m,o,S,E,h,q⟩:=h
 obtain⟨o1,h1,h2⟩:=bind_some h
 refine⟨env,μ,m,o1,S,E,h1,?_⟩
 cases o1 with
 |nx env' m'=>exact fun σ' H' μ' s' S' E'=>⟨env',μ',m',o,S',E',h2,q.step S S' s'⟩
 |rt d m'=>cases h2;exact q
 |bk d m'=>cases h2;exact q
 |ct d m'=>cases h2;exact q
theorem Ace (h1:PSD X st f) (h2:Zu X rest g):Zu X (st::rest) (Ba f g):=PSs.imp (Aci h1 h2) fun _ _ _ h=>h.seq
theorem Ahf (h1:PSD X st f):Zu X [st] f:=Ahj h1
noncomputable def Cv (f:FE):FS:=fun env m=>(f env m).bind fun d=>some (.rt d m)
theorem Ahh (he:PD X e f):PSD X (.Return (some e) pos) (Cv f):=PS.imp (Ad9 he) fun D σ H ⟨env,μ,m,o,S,E,h,q⟩=>by
 obtain⟨d,h1,h2⟩:=bind_some h
 cases h2
 exact⟨env,μ,m,d,S,E,h1,fun v H' s r=>q v H' μ (Step.of_same s) (S.same s) r⟩
theorem Sim.push {K:W.Frag}{H H':Hp}{μ:List Addr}{m:MH}{a:Addr}{ds:List D}{xs:List V} (S:Sim K H μ m) (s:Same H H') (hn:H a=none) (ha:H' a=some (.lst xs)) (r:Reps K H' μ (nw μ a) ds xs) :
  Step H μ H' (μ++[a])/\Sim K H' (μ++[a]) (m++[.lst ds]):=by
 have st:Step H μ H' (μ++[a]):=⟨⟨[a],rfl,fun b hb=>by rw[show b=a by simpa using hb];exact hn⟩,fun b o e _=>s b o e⟩
 have na:a∉μ:=S.nnone hn
 refine⟨st,?_,?_,fun n b o h1 h2=>?_⟩
 ·rw[List.nodup_append]
  exact⟨S.nd,by simp,fun b hb c hc z=>na (by rw[<- show c=a by simpa using hc,<- z];exact hb)⟩
 ·simp[S.len]
 ·by_cases hl:n < μ.length
  ·rw[Aq3 hl] at h1
   rw[Aq3 (by rw[<- S.len];exact hl)] at h2
   have q:=S.obj n b o h1 h2
   cases o with
   |lst es=>obtain⟨ys,q1,q2⟩:=q;exact⟨ys,s _ _ q1,q2.step S st⟩
   |dcs ks vs=>obtain⟨ys,q1,q2,q3⟩:=q;exact⟨ys,s _ _ q1,q2,q3.step S st⟩
   |dct ks vs=>obtain⟨ys,q1,q2,q3⟩:=q;exact⟨ys,s _ _ q1,q2,q3.step S st⟩
  ·have e:n=μ.length:=by
    have:=(List.getElem?_eq_some_iff.mp h1).1
    rw[Aqv,Arm] at this
    lia
   subst e
   rw[Are (Aqo _)] at h1
   rw[S.len,Are (Aqo _)] at h2
   simp at h1 h2
   subst h1
   subst h2
   refine⟨xs,ha,r.up (fun _ _ _ h=>h) (fun c u _ h b=>⟨h,fun z=>b ?_⟩) fun _ _ h=>st.ix h⟩
   rcases List.mem_append.mp z with z|z
   ·exact .inl z
   ·exact .inr (by simpa using z)
noncomputable def Po (f:FL):FS:=fun env m=>(f env m).bind fun ds=>some (.rt (.ref m.length) (m++[.lst ds]))
theorem Mv {K:W.Frag}{H:Hp}{μ:List Addr}{B:Addr->Prop}{m:MH}{a:Addr} (hl:μ.length=m.length):Rep K H (μ++[a]) B (.ref m.length) (.ref a):=.ref (by rw[<- hl];simp)
theorem Acg {f:FL} (he:PF X e f):PSD X (.Return (some e) pos) (Po f):=PS.imp (Ad9 he) fun D σ H ⟨env,μ,m,o,S,E,h,q⟩=>by
 obtain⟨ds,h1,h2⟩:=bind_some h
 cases h2
 refine⟨env,μ,m,ds,S,E,h1,fun a xs H' s hn ha r=>?_⟩
 obtain⟨st,S'⟩:=S.push s hn ha r
 exact q _ H' _ st S' (Mv S.len)
noncomputable def sIf (t:FB) (f g:FS):FS:=fun env m=>(t env m).bind fun c=>if c=true then f env m else g env m
theorem Ale {t:FB} (hc:PB X c t) (ha:Zu X sa f) (hb:Zu X sb g):PSD X (.If c sa sb pos) (sIf t f g):=PS.imp (Ao2 hc ha hb) fun D σ H ⟨env,μ,m,o,S,E,h,q⟩=>by
 obtain⟨b,h1,h2⟩:=bind_some h
 refine⟨env,μ,m,b,S,E,h1,fun H1 s1=>?_⟩
 have st:=Step.of_same (μ:=μ) s1
 cases b with
 |true =>
  rw[Aqx rfl] at h2
  exact Aoe ⟨env,μ,m,o,S.same s1,E.same s1,h2,q.step S (S.same s1) st⟩
 |false =>
  rw[Aq0 Arb] at h2
  exact Aod ⟨env,μ,m,o,S.same s1,E.same s1,h2,q.step S (S.same s1) st⟩
abbrev FG:=D->A2->Option A2
inductive tG (K:W.Frag) (g:FG) (v:V) (σ:St) (H:Hp) (Q:St->Hp->Prop):Prop
 |mk (env:A2) (μ:List Addr) (m:MH) (d:D) (env':A2) (S:Sim K H μ m) (E:EnvRep K H μ σ env) (r:Rep K H μ (·∈μ) d v) (h:g d env=some env') (q:∀ σ',EnvRep K H μ σ' env'->Q σ' H)
inductive tGs (K:W.Frag) (g:List D->A2->Option A2) (vs:List V) (σ:St) (H:Hp) (Q:St->Hp->Prop):Prop
 |mk (env:A2) (μ:List Addr) (m:MH) (ds:List D) (env':A2) (S:Sim K H μ m) (E:EnvRep K H μ σ env) (r:Reps K H μ (·∈μ) ds vs) (h:g ds env=some env') (q:∀ σ',EnvRep K H μ σ' env'->Q σ' H)
abbrev PGD (X:Cx) (e:Expr) (g:FG):Prop:=PG X e (tG X.K g)
abbrev Aiq (X:Cx) (es:List Expr) (g:List D->A2->Option A2):Prop:=PGs X es (tGs X.K g)
theorem PGs.imp {X:Cx}{e:List Expr}{t t':TGs} (h:PGs X e t) (i:∀ v σ H Q,t' v σ H Q->t v σ H Q):PGs X e t':=fun pins s σ H v u Q I r q=>h pins s σ H v u Q I r (i v σ H Q q)
noncomputable def Ao (i:Nat):FG:=fun d env=>some (env.set i (some d))
theorem Mp (hN:X.N.Nodup) (hi:X.N[i]?=some x) (hx:Loc X.env.scope x) (hf:X.fn x=true\/X.env.scope.names.lookup x=some .local):PGD X (.Name x pos) (Ao i):=PG.imp (Ag3 hN hi hx hf) fun v σ H Q ⟨env,μ,m,d,env',S,E,r,h,q⟩=>by
 cases h
 exact q _ (E.set i r)
noncomputable def Nm:List D->A2->Option A2:=fun ds env=>match ds with|[]=>some env|_=>none
noncomputable def B1 (g:FG) (h:List D->A2->Option A2):List D->A2->Option A2:=fun ds env=>match ds with
 |d::ds=>(g d env).bind fun env'=>h ds env'
 |[]=>none
theorem Ab7:Aiq X [] Nm:=PGs.imp Ag5 fun v σ H Q ⟨env,μ,m,ds,env',S,E,r,h,q⟩=>by
 cases r with
 |nil=>cases h;exact⟨rfl,q _ E⟩
 |cons _ _=>exact Aj h
theorem Yu {g:FG}{h:List D->A2->Option A2} (h1:PGD X e g) (h2:Aiq X es h) (hs:(assignEach (e::es) X.env).map (·.2)=assign e X.env::(assignEach es X.env).map (·.2)):Aiq X (e::es) (B1 g h) :=
 PGs.imp (Ab6 h1 h2 hs) fun v σ H Q ⟨env,μ,m,ds,env',S,E,r,h,q⟩=>by
  cases r with
  |nil=>exact Aj h
  |cons r rs =>
   obtain⟨env1,h1,h2⟩:=bind_some h
   exact⟨_,_,rfl,env,μ,m,_,env1,S,E,r,h1,fun σ' E'=>⟨env1,μ,m,_,env',S,E',rs,h2,q⟩⟩
noncomputable def G5 (n:Nat) (g:List D->A2->Option A2):FG:=fun d env=>match d with
 |.tup ds=>if ds.length=n then g ds env else none
 |_=>none
theorem Ag4 (hc:X.calm=true) (h:Aiq X es g) (hn:(assignEach es X.env).length=n) (hst:(assignEach es X.env).findIdx? (·.1)=none):PGD X (.Tuple es k pos) (G5 n g) :=
 PG.imp (Alb hc h hn hst) fun v σ H Q ⟨env,μ,m,d,env',S,E,r,h,q⟩=>by
  cases r with
  |@tup ds a xs hq rs =>
   unfold G5 at h
   simp only at h
   split at h
   ·rename_i hl
    exact⟨a,xs,rfl,hq,by rw[<- rs.length];exact hl,env,μ,m,ds,env',S,E,rs,h,q⟩
   ·exact Aj h
  |_=>exact Aj h
noncomputable def Br (i:Nat) (f:FE):FS:=fun env m=>(f env m).bind fun d=>some (.nx (env.set i (some d)) m)
theorem Ph (hN:X.N.Nodup) (hi:X.N[i]?=some x) (hx:Loc X.env.scope x) (he:PD X e f) (hs:swapsWith e (some (.Name x p')) pos.line X.env=pure false) (hf:X.fn x=true\/X.env.scope.names.lookup x=some .local) :
  PSD X (.Assign [.Name x p'] e pos) (Br i f):=PS.imp (T3 hN hi hx he hs hf) fun D σ H ⟨env,μ,m,o,S,E,h,q⟩=>by
 obtain⟨d,h1,h2⟩:=bind_some h
 cases h2
 exact⟨env,μ,m,d,S,E,h1,fun v H' s r=>q _ H' μ (Step.of_same s) (S.same s) ((E.same s).set i r)⟩
noncomputable def Gg (i:Nat) (f:FL):FS:=fun env m=>(f env m).bind fun ds=>some (.nx (env.set i (some (.ref m.length))) (m++[.lst ds]))
theorem Ahd {i:Nat}{f:FL} (hN:X.N.Nodup) (hi:X.N[i]?=some x) (hx:Loc X.env.scope x) (he:PF X e f) (hs:swapsWith e (some (.Name x p')) pos.line X.env=pure false) (hf:X.fn x=true\/X.env.scope.names.lookup x=some .local) :
  PSD X (.Assign [.Name x p'] e pos) (Gg i f):=PS.imp (T3 hN hi hx he hs hf) fun D σ H ⟨env,μ,m,o,S,E,h,q⟩=>by
 obtain⟨ds,h1,h2⟩:=bind_some h
 cases h2
 refine⟨env,μ,m,ds,S,E,h1,fun a xs H' s hn ha r=>?_⟩
 obtain⟨st,S'⟩:=S.push s hn ha r
 exact q _ H' _ st S' ((E.step S st).set i (Mv S.len))
noncomputable def Ain (f:FE) (g:FG):FS:=fun env m=>(f env m).bind fun d=>(g d env).bind fun env'=>some (.nx env' m)
theorem Ahb (he:PD X e f) (hg:PGD X tg g) (hs:swapsWithSole [tg] e pos.line X.env=pure false) (hw:swappedStores [tg] e X.env=pure none) (h1:(assignEach [tg] X.env).map (·.2)=[assign tg X.env]) :
  PSD X (.Assign [tg] e pos) (Ain f g):=PS.imp (Ad8 he hg hs hw h1) fun D σ H ⟨env,μ,m,o,S,E,h,q⟩=>by
 obtain⟨d,h1,h2⟩:=bind_some h
 obtain⟨env',hg',h3⟩:=bind_some h2
 cases h3
 exact⟨env,μ,m,d,S,E,h1,fun v H' s r=>⟨env,μ,m,d,env',S.same s,E.same s,r,hg',fun σ' E'=>q σ' H' μ (Step.of_same s) (S.same s) E'⟩⟩
end
end
open Classical
noncomputable section
section
variable {X:Cx}{a b c e:Expr}{es:List Expr}{pos p p':Pos}{x:Str}{st:Stmt}{rest:List Stmt}
noncomputable def Jj (chk:MH->Prop) (g:FG) (b:FS):List D->A2->MH->Option Out
 |[],env,m=>if chk m then some (.nx env m) else none
 |d::ds,env,m=>if chk m then (g d env).bind fun env1=>(b env1 m).bind fun o=>match o with
   |.nx env2 m2=>Jj chk g b ds env2 m2
   |.ct env2 m2=>Jj chk g b ds env2 m2
   |.bk env2 m2=>some (.nx env2 m2)
   |.rt d m2=>some (.rt d m2)
  else none
structure Src (K:W.Frag) (J:It) (all:List D) (chk:MH->Prop) (src:Hp->List Addr->MH->Prop):Prop where
 go:∀ H μ m (i:Nat) d,Sim K H μ m->src H μ m->chk m->all[i]?=some d->J.go i H/\∀ x H',J.yld i H x H'->Same H H'/\Rep K H' μ (·∈μ) d x
 stop:∀ H μ m,Sim K H μ m->src H μ m->chk m->J.stop all.length H
 keep:∀ H μ m H' μ' m',src H μ m->Sim K H μ m->Step H μ H' μ'->Sim K H' μ' m'->src H' μ' m'
theorem Abh {K:W.Frag}{J:It}{all:List D}{chk:MH->Prop}{src:Hp->List Addr->MH->Prop} (hs:Src K J all chk src) {g:FG}{b:FS}{Dn:Ends}{σ:St}{H:Hp}{env:A2}{μ:List Addr}{m:MH}{o:Out}
  (S:Sim K H μ m) (E:EnvRep K H μ σ env) (h0:src H μ m) (h:Jj chk g b all env m=some o) (f:FinS K H μ o Dn) :
  ∃ W:Nat->Nat->St->Hp->Prop,(∃ m,W 0 m σ H)/\∀ i m σ H,W i m σ H ->
   (J.stop i H/\Dn.nx σ H)\/(J.go i H/\∃ N:St->Hp->Prop,(∀ σ' H',N σ' H'->∃ m',m' < m/\W (i+1) m' σ' H')/\∀ x H',J.yld i H x H'->tG K g x σ H' fun σ2 H2=>tS K b { Dn with nx:=N,ct:=N,bk:=Dn.nx } σ2 H2):=by
 refine⟨fun i k σ H=>k=all.length - i/\i<=all.length/\∃ env μ m,Sim K H μ m/\EnvRep K H μ σ env/\src H μ m/\Jj chk g b (all.drop i) env m=some o/\FinS K H μ o Dn,⟨all.length,by simp,Arl _,env,μ,m,S,E,h0,by simpa using h,f⟩,?_⟩
 rintro i k σ1 H1 ⟨rfl,hi,env1,μ1,m1,S1,E1,h1,e1,f1⟩
 by_cases hlt:i < all.length
 ·have hd:all.drop i=all[i]::all.drop (i+1):=Asn hlt
  rw[hd] at e1
  unfold Jj at e1
  split at e1
  ·rename_i hc
   obtain⟨env2,e2,e1⟩:=bind_some e1
   obtain⟨o2,e3,e4⟩:=bind_some e1
   obtain⟨go,yl⟩:=hs.go H1 μ1 m1 i all[i] S1 h1 hc (by simp[hlt])
   refine .inr ⟨go,fun σ' H'=>all.length - (i+1) < all.length - i/\i+1<=all.length/\∃ env μ m,Sim K H' μ m/\EnvRep K H' μ σ' env/\src H' μ m/\Jj chk g b (all.drop (i+1)) env m=some o/\FinS K H' μ o Dn,fun σ' H' ⟨l1,l2,q⟩=>⟨_,l1,rfl,l2,q⟩,fun x H2 y=>?_⟩
   obtain⟨s2,r2⟩:=yl x H2 y
   have S2:=S1.same s2
   refine⟨env1,μ1,m1,all[i],env2,S2,E1.same s2,r2,e2,fun σ' E'=>⟨env2,μ1,m1,o2,S2,E',e3,?_⟩⟩
   have f2:=f1.step S1 S2 (Step.of_same s2)
   have h2:=hs.keep H1 μ1 m1 H2 μ1 m1 h1 S1 (Step.of_same s2) S2
   cases o2 with
   |nx env3 m3=>exact fun σ3 H3 μ3 st3 S3 E3=>⟨by lia,hlt,env3,μ3,m3,S3,E3,hs.keep _ _ _ _ _ _ h2 S2 st3 S3,e4,f2.step S2 S3 st3⟩
   |ct env3 m3=>exact fun σ3 H3 μ3 st3 S3 E3=>⟨by lia,hlt,env3,μ3,m3,S3,E3,hs.keep _ _ _ _ _ _ h2 S2 st3 S3,e4,f2.step S2 S3 st3⟩
   |bk env3 m3=>cases e4;exact f2
   |rt d m3=>cases e4;exact f2
  ·cases e1
 ·have e:i=all.length:=by lia
  subst e
  rw[List.drop_length] at e1
  unfold Jj at e1
  split at e1
  ·rename_i hc
   cases e1
   exact .inl ⟨hs.stop H1 μ1 m1 S1 h1 hc,f1 σ1 H1 μ1 Step.refl S1 E1⟩
  ·exact Aj e1
structure Wk where
 all:List D
 chk:MH->Prop
abbrev FW:=A2->MH->Option Wk
inductive tW (K:W.Frag) (f:FW) (σ:St) (H:Hp) (R:It->Hp->Prop):Prop
 |mk (env:A2) (μ:List Addr) (m:MH) (w:Wk) (S:Sim K H μ m) (E:EnvRep K H μ σ env) (h:f env m=some w) (q:∀ H' J src,Same H H'->Src K J w.all w.chk src->src H' μ m->R J H')
abbrev PW' (X:Cx) (tg e:Expr) (f:FW):Prop:=PI X tg e (tW X.K f)
def J6 (f:FW) (g:FG) (b:FS):FS:=fun env m=>(f env m).bind fun w=>Jj w.chk g b w.all env m
theorem PI.imp {t t':TI} (h:PI X tg e t) (i:∀ σ H Q,t' σ H Q->t σ H Q):PI X tg e t':=fun pins s σ H Q I q=>h pins s σ H Q I (i σ H Q q)
theorem Ahc {tg iter:Expr}{body:List Stmt}{f:FW}{g:FG}{b:FS} (hp:PassesOwn (model X.prog X.w) X.A X.env X.xe) (hc:X.calm=true) (hi:PW' X tg iter f) (hg:PGD X tg g) (hb:Zu X body b)
  (hs:∀ x,foldedSetIterable iter X.env x=pure x):PSD X (.For tg iter body [] pos) (J6 f g b):=PS.imp (Ald hp hc hi hg hb hs) fun D σ H ⟨env,μ,m,o,S,E,h,q⟩=>by
 obtain⟨w,h1,h2⟩:=bind_some h
 exact⟨env,μ,m,w,S,E,h1,fun H' J src s hsrc h0=>Abh hsrc (S.same s) (E.same s) h0 h2 (q.step S (S.same s) (Step.of_same s))⟩
def Cb:MH->Prop:=fun _=>True
theorem Ah9 {K:W.Frag}{a:Addr}{ds:List D}:Src K (Itt K a) ds Cb (fun H μ m=>Rep K H μ (·∈μ) (.tup ds) (.ref a)) where
 go:=fun H μ m i d S h _ e=>by
  cases h with
  |tup hq rs =>
   obtain⟨v,e1,r⟩:=rs.get e
   exact⟨⟨_,v,hq,e1⟩,fun x H' ⟨h1,h2⟩=>by subst h1;rw[h2 _ hq] at e1;cases e1;exact⟨Same.refl _,r⟩⟩
 stop:=fun H μ m S h _=>by
  cases h with
  |tup hq rs=>exact⟨_,hq,by rw[rs.length];exact Aqo _⟩
 keep:=fun H μ m H' μ' m' h S st S'=>h.step S st
theorem Ah6 {K:W.Frag}{a:Addr}{ds:List D}:Src K (Itl K a) ds Cb (fun H μ m=>Rep K H μ (·∈μ) (.lst ds) (.ref a)) where
 go:=fun H μ m i d S h _ e=>by
  cases h with
  |lst hq _ rs =>
   obtain⟨v,e1,r⟩:=rs.get e
   exact⟨⟨_,v,.inl hq,e1⟩,fun x H' ⟨h1,h2⟩=>by subst h1;rw[h2 _ (.inl hq)] at e1;cases e1;exact⟨Same.refl _,r⟩⟩
 stop:=fun H μ m S h _=>by
  cases h with
  |lst hq _ rs=>exact⟨_,.inl hq,by rw[rs.length];exact Aqo _⟩
 keep:=fun H μ m H' μ' m' h S st S'=>h.step S st
theorem Aly {K:W.Frag}{a:Addr}{ds:List D}:Src K (Itl K a) ds Cb (fun H μ m=>Rep K H μ (·∈μ) (.kl ds) (.ref a)) where
 go:=fun H μ m i d S h _ e=>by
  cases h with
  |kl hq rs =>
   obtain⟨v,e1,r⟩:=rs.get e
   exact⟨⟨_,v,hq.sq,e1⟩,fun x H' ⟨h1,h2⟩=>by subst h1;rw[h2 _ hq.sq] at e1;cases e1;exact⟨Same.refl _,r⟩⟩
 stop:=fun H μ m S h _=>by
  cases h with
  |kl hq rs=>exact⟨_,hq.sq,by rw[rs.length];exact Aqo _⟩
 keep:=fun H μ m H' μ' m' h S st S'=>h.step S st
theorem Ah7 {K:W.Frag}{a:Addr}{ds:List D}{n:Nat}:Src K (Itl K a) ds (fun m=>m[n]?=some (.lst ds)) (fun H μ m=>μ[n]?=some a) where
 go:=fun H μ m i d S h hc e=>by
  obtain⟨xs,e1,rs⟩:=S.obj n a _ h hc
  obtain⟨v,e2,r⟩:=rs.get e
  exact⟨⟨_,v,SqL.of e1,e2⟩,fun x H' ⟨h1,h2⟩=>by subst h1;rw[h2 _ (SqL.of e1)] at e2;cases e2;exact⟨Same.refl _,r⟩⟩
 stop:=fun H μ m S h hc=>by
  obtain⟨xs,e1,rs⟩:=S.obj n a _ h hc
  exact⟨_,SqL.of e1,by rw[rs.length];exact Aqo _⟩
 keep:=fun H μ m H' μ' m' h S st S'=>st.ix h
noncomputable def D1 (lo:Int) (n:Nat):List D:=(List.range n).map fun (i:Nat)=>.int (lo+i)
theorem Zk {K:W.Frag}{lo:Int}{n:Nat}:Src K (Itr lo n) (D1 lo n) Cb (fun _ _ _=>True) where
 go:=fun H μ m i d S h _ e=>by
  unfold D1 at e
  rw[Aq9] at e
  cases q:(List.range n)[i]? with
  |none=>rw[q] at e;cases e
  |some j =>
   rw[q] at e
   cases e
   have hi:=(List.getElem?_eq_some_iff.mp q).1
   rw[List.length_range] at hi
   rw[List.getElem?_range hi] at q
   cases q
   exact⟨hi,fun x H' ⟨h1,h2⟩=>by subst h1;subst h2;exact⟨Same.refl _,.int _⟩⟩
 stop:=fun H μ m S h _=>by show n<=(D1 lo n).length;unfold D1;simp
 keep:=fun H μ m H' μ' m' h S st S'=>trivial
def Jh (g:FL):FW:=fun env m=>(g env m).bind fun ds=>match ds with
 |[.int j]=>if -(2 ^ 62)<=j/\j < 2 ^ 62 then some ⟨D1 0 j.toNat,Cb⟩ else none
 |_=>none
theorem Y3 (hg:Gl X "range") (hm:X.mg "range"=none) (ha:PL X [a] g) (hs:starEach [a] X.env=[(false,eval a X.env)]):PW' X tg (.Call (.Name "range" p) [a] [] pos) (Jh g):=PI.imp (Yv hg hm ha hs) fun σ H R ⟨env,μ,m,w,S,E,h,q⟩=>by
 obtain⟨ds,h1,h2⟩:=bind_some h
 refine⟨env,μ,m,ds,S,E,h1,fun vs H' s rs=>?_⟩
 obtain⟨j,rfl⟩:∃ j,ds=[.int j]:=by
  cases ds with
  |nil=>cases h2
  |cons d ds =>
   cases ds with
   |cons _ _=>cases d<;>cases h2
   |nil =>
    cases d with
    |int j=>exact⟨j,rfl⟩
    |_=>cases h2
 simp only at h2
 split at h2
 ·rename_i hc
  cases h2
  obtain⟨v,rfl,r⟩:=rs.one
  cases r
  exact⟨j,rfl,hc.1,hc.2,q H' _ _ s Zk trivial⟩
 ·exact Aj h2
noncomputable def D2 (c:FB) (b:FS):Nat->A2->MH->Option Out
 |0,_,_=>none
 |k+1,env,m=>(c env m).bind fun t=>if t=true then (b env m).bind fun o=>match o with
   |.nx env2 m2=>D2 c b k env2 m2
   |.ct env2 m2=>D2 c b k env2 m2
   |.bk env2 m2=>some (.nx env2 m2)
   |.rt d m2=>some (.rt d m2)
  else some (.nx env m)
theorem Y1 {f:FB}{b:FS}{body:List Stmt} (k:Nat) (hp:PassesOwn (model X.prog X.w) X.A X.env X.xe) (hc:PB X c f) (hb:Zu X body b):PSD X (.While c body [] pos) (D2 f b k):=PS.imp (Acd hp hc hb) fun D σ H ⟨env,μ,m,o,S,E,h,q⟩=>by
 refine⟨fun k σ H=>∃ env μ m,Sim X.K H μ m/\EnvRep X.K H μ σ env/\D2 f b k env m=some o/\FinS X.K H μ o D,⟨k,env,μ,m,S,E,h,q⟩,?_⟩
 rintro k σ1 H1 ⟨env1,μ1,m1,S1,E1,e1,f1⟩
 cases k with
 |zero=>cases e1
 |succ k =>
  unfold D2 at e1
  obtain⟨t,e2,e3⟩:=bind_some e1
  refine⟨env1,μ1,m1,t,S1,E1,e2,fun H2 s2=>?_⟩
  have S2:=S1.same s2
  have f2:=f1.step S1 S2 (Step.of_same s2)
  cases t with
  |true =>
   rw[Aqx rfl] at e3
   obtain⟨o2,e3,e4⟩:=bind_some e3
   refine Aoe ⟨fun σ' H'=>∃ env μ m,Sim X.K H' μ m/\EnvRep X.K H' μ σ' env/\D2 f b k env m=some o/\FinS X.K H' μ o D,fun σ' H' q=>⟨k,As4 k,q⟩,env1,μ1,m1,o2,S2,E1.same s2,e3,?_⟩
   cases o2 with
   |nx env3 m3=>exact fun σ3 H3 μ3 st3 S3 E3=>⟨env3,μ3,m3,S3,E3,e4,f2.step S2 S3 st3⟩
   |ct env3 m3=>exact fun σ3 H3 μ3 st3 S3 E3=>⟨env3,μ3,m3,S3,E3,e4,f2.step S2 S3 st3⟩
   |bk env3 m3=>cases e4;exact f2
   |rt d m3=>cases e4;exact f2
  |false =>
   rw[Aq0 Arb] at e3
   cases e3
   exact Aod (f2 σ1 H2 μ1 Step.refl S2 (E1.same s2))
end
mutual
/-- without lists -/
def Bj:D->Bool
 |.lst _=>false
 |.kl _=>false
 |.ref _=>false
 |.dic _ _=>false
 |.dks _ _=>false
 |.fn _ _=>false
 |.tup ds=>Av ds
 |_=>true
def Av:List D->Bool
 |[]=>true
 |d::ds=>Bj d&&Av ds
end
noncomputable def xp1 (m:MH):D->Option D
 |.ref n=>match m[n]? with
  |some (.lst ds)=>if Av ds=true then some (.lst ds) else none
  |_=>none
 |_=>none
def xpL (m:MH):List D->Option (List D)
 |[]=>some []
 |d::ds=>(xp1 m d).bind fun e=>(xpL m ds).bind fun es=>some (e::es)
mutual
/-- what is handed back: the mirror's own lists,as they stand -/
def B4 (m:MH):D->Option D
 |.ref n=>match m[n]? with
  |some (.lst ds)=>if Av ds=true then some (.lst ds) else (xpL m ds).bind fun es=>some (.lst es)
  |some (.dct ks vs)=>if Av vs=true then some (.dic ks vs) else none
  |some (.dcs ks vs)=>if Av vs=true then some (.dks ks vs) else none
  |_=>none
 |.lst _=>none
 |.kl _=>none
 |.dic _ _=>none
 |.dks _ _=>none
 |.fn _ _=>none
 |.tup ds=>(Dg m ds).bind fun es=>some (.tup es)
 |.non=>some .non
 |.bl b=>some (.bl b)
 |.int i=>some (.int i)
 |.str x=>some (.str x)
def Dg (m:MH):List D->Option (List D)
 |[]=>some []
 |d::ds=>(B4 m d).bind fun e=>(Dg m ds).bind fun es=>some (e::es)
end
section
variable {K:W.Frag}{H H':Hp}{μ μ':List Addr}{B B':Addr->Prop}{m:MH}
mutual
theorem Rep.nolst {d:D}{v:V} (r:Rep K H μ B d v) (e:Bj d=true):Rep K H μ' B' d v:=by
 cases r with
 |non=>exact .non
 |bl b=>exact .bl b
 |int b=>exact .int b
 |str b h=>exact .str b h
 |tup h r=>exact .tup h (Reps.nolst r e)
 |_=>exact C8 e
theorem Reps.nolst {ds:List D}{vs:List V} (r:Reps K H μ B ds vs) (e:Av ds=true):Reps K H μ' B' ds vs:=by
 cases r with
 |nil=>exact .nil
 |cons h r =>
  have e':=(Bool.and_eq_true_iff.mp e)
  exact .cons (Rep.nolst h e'.1) (Reps.nolst r e'.2)
end
theorem Aii (S:Sim K H μ m) (hn:∀ a∈μ,B a->False) {d d':D}{v:V} (r:Rep K H μ (·∈μ) d v) (h:xp1 m d=some d'):Rep K H [] B d' v:=by
 cases r with
 |@ref n a e =>
  unfold xp1 at h
  cases q:m[n]? with
  |none=>simp[q] at h
  |some o =>
   simp only[q] at h
   cases o with
   |dcs _ _=>exact Aj h
   |dct _ _=>exact Aj h
   |lst ds =>
    simp only at h
    split at h
    ·rename_i hl
     cases h
     obtain⟨xs,e1,e2⟩:=S.obj n a _ e q
     exact .lst (.inl e1) (hn a (Aq4 e)) (e2.nolst hl)
    ·exact Aj h
 |_=>exact Aj h
theorem Aij (S:Sim K H μ m) (hn:∀ a∈μ,B a->False) {ds ds':List D}{vs:List V} (r:Reps K H μ (·∈μ) ds vs) (h:xpL m ds=some ds'):Reps K H [] B ds' vs:=by
 induction ds generalizing ds' vs with
 |nil=>cases r;cases h;exact .nil
 |cons d ds ih =>
  cases r with
  |cons r rs =>
  obtain⟨e,h1,h⟩:=bind_some h
  obtain⟨es,h2,h⟩:=bind_some h
  cases h
  exact .cons (Aii S hn r h1) (ih rs h2)
mutual
theorem Ov (S:Sim K H μ m) (hn:∀ a∈μ,B a->False):∀ {d d':D}{v:V},Rep K H μ (·∈μ) d v->B4 m d=some d'->Rep K H [] B d' v
 |_,_,_,.non,h=>by cases h;exact .non
 |_,_,_,.bl b,h=>by cases h;exact .bl b
 |_,_,_,.int b,h=>by cases h;exact .int b
 |_,_,_,.str b ok,h=>by cases h;exact .str b ok
 |_,_,_,.tup hq r,h=>by
  rw[B4] at h
  obtain⟨es,h1,h2⟩:=bind_some h
  cases h2
  exact .tup hq (Le S hn r h1)
 |_,_,_,.lst _ _ _,h=>nomatch h
 |_,_,_,.kl _ _,h=>Aj h
 |_,_,_,.dic _ _ _ _,h=>Aj h
 |_,_,_,.fn _,h=>nomatch h
 |_,_,_,.dks _ _ _ _,h=>nomatch h
 |.ref n,_,_,.ref (a:=a) e,h=>by
  rw[B4] at h
  cases q:m[n]? with
  |none=>simp[q] at h
  |some o =>
   simp only[q] at h
   cases o with
   |dct ks vs =>
    simp only at h
    split at h
    ·rename_i hl
     cases h
     obtain⟨xs,e1,e2,e3⟩:=S.obj n a _ e q
     exact .dic (.inl e1) (hn a (Aq4 e)) e2 (e3.nolst hl)
    ·cases h
   |dcs ks vs =>
    simp only at h
    split at h
    ·rename_i hl
     cases h
     obtain⟨xs,e1,e2,e3⟩:=S.obj n a _ e q
     exact .dks (.inl e1) (hn a (Aq4 e)) e2 (e3.nolst hl)
    ·cases h
   |lst ds =>
    simp only at h
    split at h
    ·rename_i hl
     cases h
     obtain⟨xs,e1,e2⟩:=S.obj n a _ e q
     exact .lst (.inl e1) (hn a (Aq4 e)) (e2.nolst hl)
    ·obtain⟨es,h1,h⟩:=bind_some h
     cases h
     obtain⟨xs,e1,e2⟩:=S.obj n a _ e q
     exact .lst (.inl e1) (hn a (Aq4 e)) (Aij S hn e2 h1)
theorem Le (S:Sim K H μ m) (hn:∀ a∈μ,B a->False):∀ {ds ds':List D}{vs:List V},Reps K H μ (·∈μ) ds vs->Dg m ds=some ds'->Reps K H [] B ds' vs
 |_,_,_,.nil,h=>by cases h;exact .nil
 |_,_,_,.cons r rs,h=>by
  rw[Dg] at h
  obtain⟨d',h1,h⟩:=bind_some h
  obtain⟨ds',h2,h⟩:=bind_some h
  cases h
  exact .cons (Ov S hn r h1) (Le S hn rs h2)
end
end
def old (H H':Hp):Addr->Prop:=fun a=>H a≠none\/∃ o u,H' a=some (.frz o u)
inductive spP (K:W.Frag) (n:Nat) (fn:List D->Option D) (vs:List V) (H:Hp) (Q:VK) (E:XK):Prop
 |mk (ds:List D) (d:D) (r:Reps K H [] (fun _=>False) ds vs) (l:ds.length=n) (h:fn ds=some d) (q:∀ v H',Same H H'->Rep K H' [] (old H H') d v->Q v H')
noncomputable def Dp (n:Nat) (g:FS):List D->Option D:=fun ds=>(g (ds.map some++List.replicate (n - ds.length) none) []).bind fun o=>match o with
 |.rt d m=>B4 m d
 |.nx _ _=>some .non
 |_=>none
theorem Nr {K:W.Frag}{H:Hp}{N:List Str}{ds:List D}{vs:List V} (r:Reps K H [] (fun _=>False) ds vs):EnvRep K H [] (Jc N vs) (ds.map some++List.replicate (N.length - ds.length) none):=by
 refine⟨by unfold Jc;simp[r.length],fun i d e=>?_⟩
 by_cases hi:i < ds.length
 ·rw[Aq3 (by simpa using hi),Aq9] at e
  cases q:ds[i]? with
  |none=>rw[q] at e;cases e
  |some d' =>
   rw[q] at e
   cases e
   obtain⟨v,h1,h2⟩:=r.get q
   refine⟨v,?_,h2.up (fun _ _ _ h=>h) (fun _ _ _ h _=>⟨h,by simp⟩) fun _ _ h=>h⟩
   unfold Jc
   rw[Aq3 (by simpa [r.length] using hi),Aq9,h1]
   rfl
 ·rw[Are (by simpa using hi),Asv] at e
  split at e<;>cases e
theorem Afl {P:Program}{w:World}{K:W.Frag}{mg:Str->Option Value}{base:Heap}{x qual:Str}{st:Stmt}{f:Addr}{fd:FuncData}{N ps:List Str}{k:Nat}{g:FS} (F:Fun K x qual st f fd) (S:FnScope N ps (A5 st))
  (hbody:∀ (cdv:Value) (A:Around) (outer:List Env) (s:Shared) (H:Hp) (E:XK),Room k (A.deeper (envOfC qual (A5 st) s.heap.objs.size f cdv)) ->
   Zu (Aa8 CX0 P w K mg base N qual (A5 st) f cdv A outer s H E).nox (Cy st) g):FnOk P w K mg base CX0 (k+1) f fd ps (spP K ps.length (Dp N.length g)):=by
 refine F.ok S (fun vs H Q E h=>?_) (fun cdv A outer s H vs Q E hr h=>?_)
 ·obtain⟨ds,d,r,hl,_⟩:=h
  rw[<- r.length];exact hl
 ·obtain⟨ds,d,r,hl,h,q⟩:=h
  refine⟨_,hbody cdv A outer s H E hr,?_⟩
  obtain⟨o,h1,h2⟩:=bind_some h
  have S0:Sim K H [] []:=⟨List.nodup_nil,rfl,fun n a o h=>by simp at h⟩
  refine⟨_,[],[],o,S0,Nr r,h1,?_⟩
  have fin:∀ {H':Hp}{μ':List Addr}{m':MH},Step H [] H' μ'->Sim K H' μ' m'->Same H H'/\∀ a∈μ',old H H' a->False:=fun {H' μ' m'} st S'=>by
   obtain⟨l,e,hl⟩:=st.pre
   refine⟨fun b o e=>st.keep b o e (by simp),fun a ha z=>?_⟩
   rcases z with hne|⟨o,u,z⟩
   ·rw[e] at ha
    exact hne (hl a (by simpa using ha))
   ·obtain⟨xs,e',l⟩:=S'.trk ha
    rw[e'] at z
    cases z
    exact l
  cases o with
  |rt d' m'=>exact fun v H' μ' st S' r'=>q v H' (fin st S').1 (Ov S' (fin st S').2 r' h2)
  |nx env m'=>cases h2;exact fun σ' H' μ' st S' E'=>q _ H' (fin st S').1 .non
  |bk _ _=>exact Aj h2
  |ct _ _=>exact Aj h2
section
variable {X:Cx}{a b c e:Expr}{es:List Expr}{pos p p':Pos}{x:Str}
def L3 (n:Nat) (fn:List D->Option D):List D->MH->Option D:=fun ds m=>(Da m ds).bind fun ds'=>if ds'.length=n then fn ds' else none
theorem Rep.ofCall {K:W.Frag}{H H':Hp}{μ:List Addr}{m:MH}{d:D}{v:V} (S:Sim K H μ m) (r:Rep K H' [] (old H H') d v):Rep K H' μ (·∈μ) d v :=
 r.up (fun _ _ _ h=>h) (fun a u _ h b=>⟨h,fun z=>b (.inl (by obtain⟨xs,e,_⟩:=S.trk z;rw[e];simp))⟩) fun n a h=>by simp at h
theorem Agx {fd:FuncData}{E:XK} (F:FnOk X.prog X.w X.K X.mg X.base CX k f fd ps (spP X.K n fn)) (hr:Room k X.A) (hg:Gl X x) (hm:X.mg x=some (.ref f)) (hk:W.keepIn X.K (.ref f)=true) (hb:Binds X.K fd ps []) (hx:M5 CX X E) (ha:PL X (e::es) g) (hdb:(x == ("__debug__":Str))=false) (he:starEach (e::es) X.env=(false,eval e X.env)::starEach es X.env) (hpl:(backTo pos (starEach es X.env)).any (·.1)=false) :
  PD X (.Call (.Name x p) (e::es) [] pos) (Ay (L3 n fn) g):=PE.imp (Pg F hr hg hm hk hb .nil hx ha hdb he hpl) fun σ H Q ⟨env,μ,m,d,S,E,h,q⟩=>by
 obtain⟨ds,h1,h⟩:=bind_some h
 obtain⟨ds',h2,h⟩:=bind_some h
 split at h
 ·rename_i hl
  refine⟨env,μ,m,ds,S,E,h1,fun vs H1 s1 rs=>⟨ds',d,by rw[Arc];exact Es (S.same s1) rs h2,hl,h,fun v H' s' r=>q v H' (s1.trans s') (Rep.ofCall (S.same s1) r)⟩⟩
 ·exact Aj h
def Jm (n:Nat) (fn:List D->Option D):List D->MH->Option (List D):=fun ds m=>(L3 n fn ds m).bind fun d=>match d with|.lst es=>if Av es=true then some es else none|_=>none
theorem Ag1 {fd:FuncData}{E:XK} (F:FnOk X.prog X.w X.K X.mg X.base CX k f fd ps (spP X.K n fn)) (hr:Room k X.A) (hg:Gl X x) (hm:X.mg x=some (.ref f)) (hk:W.keepIn X.K (.ref f)=true) (hb:Binds X.K fd ps []) (hx:M5 CX X E) (ha:PL X (e::es) g) (hdb:(x == ("__debug__":Str))=false) (he:starEach (e::es) X.env=(false,eval e X.env)::starEach es X.env) (hpl:(backTo pos (starEach es X.env)).any (·.1)=false) :
  PF X (.Call (.Name x p) (e::es) [] pos) (Dm (Jm n fn) g):=PE.imp (Pg F hr hg hm hk hb .nil hx ha hdb he hpl) fun σ H Q ⟨env,μ,m,d,S,E,h,q⟩=>by
 obtain⟨ds,h1,h⟩:=bind_some h
 obtain⟨z,h2,h⟩:=bind_some h
 obtain⟨ds',h2,h3⟩:=bind_some h2
 split at h3
 ·rename_i hl
  refine⟨env,μ,m,ds,S,E,h1,fun vs H1 s1 rs=>⟨ds',z,by rw[Arc];exact Es (S.same s1) rs h2,hl,h3,fun v H' s' r=>?_⟩⟩
  cases r with
  |@lst es a xs hq hb rs' =>
   simp only at h
   split at h
   ·rename_i hl'
    cases h
    have hn:H1 a=none:=Ati fun z=>hb (.inl z)
    rcases hq with hq|⟨o,hq⟩
    ·exact q a xs H' (s1.trans s') (s1.free hn) hq (rs'.nolst hl')
    ·exact absurd (.inr ⟨o,_,hq⟩) hb
   ·cases h
  |_=>exact Aj h
 ·exact Aj h3
end
end
end ML
end L2
end S_ML1
section S_ML6
namespace L2
namespace ML
open PySem PySem.Spec PyProof.Rows
open Classical
noncomputable section
theorem Ga {scope:Scope}{env:Env}:∀ (names:List (Str×NameKind)) (cs:List (Str×Addr)),(∀ y∈names,y.2=.free->∃ c,env.cells.lookup y.1=some c)->∃ cl:List (Str×Addr),
  (forIn names cs fun (y:Str×NameKind) cs=>if (y.2 == .free)=true then (do let c <- cellOf env y.1;pure (ForInStep.yield ((y.1,c)::cs))) else (pure (ForInStep.yield cs):Sem _))=pure cl /\
   (∀ x c,cl.lookup x=some c->cs.lookup x=some c\/env.cells.lookup x=some c)/\(∀ x,((x,NameKind.free)∈names\/∃ c,cs.lookup x=some c)->∃ c,cl.lookup x=some c)
 |[],cs,_=>⟨cs,rfl,fun x c h=>.inl h,fun x h=>by
   rcases h with h|h
   ·exact absurd h (by simp)
   ·exact h⟩
 |(n,k)::names,cs,h=>by
  have h':∀ y∈names,y.2=.free->∃ c,env.cells.lookup y.1=some c:=fun y hy=>h y (Aqr _ hy)
  rw[List.forIn_cons]
  by_cases hk:k=.free
  ·subst hk
   obtain⟨c,hc⟩:=h (n,.free) Aqy rfl
   obtain⟨cl,e1,e2,e3⟩:=Ga (scope:=scope) (env:=env) names ((n,c)::cs) h'
   refine⟨cl,?_,fun x c' hx=>?_,fun x hx=>?_⟩
   ·have ec:cellOf env n=pure c:=by unfold cellOf;rw[hc]
    simp only[beq_self_eq_true,if_true,ec]
    exact e1
   ·rcases e2 x c' hx with q|q
    ·rw[Ar3] at q
     by_cases hxn:(x == n)=true
     ·simp only[hxn] at q
      cases q
      rw[eq_of_beq hxn]
      exact .inr hc
     ·simp only[Bool.not_eq_true] at hxn
      simp only[hxn] at q
      exact .inl q
    ·exact .inr q
   ·refine e3 x ?_
    by_cases hxn:(x == n)=true
    ·exact .inr ⟨c,by rw[Ar3];simp only[hxn]⟩
    ·simp only[Bool.not_eq_true] at hxn
     rcases hx with hx|⟨c',hx⟩
     ·rcases List.mem_cons.mp hx with z|z
      ·have:x=n:=by injection z
       rw[this,beq_self_eq_true] at hxn
       cases hxn
      ·exact .inl z
     ·exact .inr ⟨c',by rw[Ar3];simp only[hxn];exact hx⟩
  ·obtain⟨cl,e1,e2,e3⟩:=Ga (scope:=scope) (env:=env) names cs h'
   refine⟨cl,?_,e2,fun x hx=>e3 x ?_⟩
   ·have ek:(k == NameKind.free)=false:=by simpa using hk
    simp only[ek,Arp,if_false]
    exact e1
   ·rcases hx with hx|hx
    ·rcases List.mem_cons.mp hx with z|z
     ·injection z with z1 z2
      exact absurd z2.symm hk
     ·exact .inl z
    ·exact .inr hx
theorem L5 (h:∀ y∈scope.names,y.2=.free->∃ c,env.cells.lookup y.1=some c):∃ cl:List (Str×Addr),closureFor scope env=pure cl /\
  (∀ x c,cl.lookup x=some c->env.cells.lookup x=some c)/\∀ x,(x,NameKind.free)∈scope.names->∃ c,cl.lookup x=some c:=by
 obtain⟨cl,e1,e2,e3⟩:=Ga (scope:=scope) (env:=env) scope.names [] h
 refine⟨cl,?_,fun x c hx=>(e2 x c hx).elim (fun z=>by exact Aj z) id,fun x hx=>e3 x (.inl hx)⟩
 have e:closureFor scope env=((forIn scope.names [] fun (y:Str×NameKind) cs=>if (y.2 == .free)=true then (do let c <- cellOf env y.1;pure (ForInStep.yield ((y.1,c)::cs))) else (pure (ForInStep.yield cs):Sem _)) >>= fun cs=>pure cs):=rfl
 rw[e,e1]
 rfl
theorem Xf:∀ (names:List (Str×NameKind)) (h:Heap) (acc:List (Str×Addr)),(∀ x c,acc.lookup x=some c->c < h.objs.size)->(∀ x y c,acc.lookup x=some c->acc.lookup y=some c->x=y) ->
  (∀ x c,(cellsFrom h.objs.size names acc).lookup x=some c->(acc.lookup x=some c/\(x,NameKind.cell)∉names)\/((x,NameKind.cell)∈names/\h.objs.size<=c/\(pushCells h names).IsCell c none)\/(acc.lookup x=some c/\h.IsCell c none/\False)) /\
  (∀ x y c,(cellsFrom h.objs.size names acc).lookup x=some c->(cellsFrom h.objs.size names acc).lookup y=some c->x=y)/\(∀ x,((x,NameKind.cell)∈names\/∃ c,acc.lookup x=some c)->∃ c,(cellsFrom h.objs.size names acc).lookup x=some c)
 |[],h,acc,h1,h2=>⟨fun x c e=>.inl ⟨e,by simp⟩,h2,fun x e=>e.elim (fun z=>absurd z (by simp)) id⟩
 |(n,k)::r,h,acc,h1,h2=>by
  by_cases hk:k=.cell
  ·subst hk
   have hs:(h.push { cls:=.type "cell",data:=.cell none }).objs.size=h.objs.size+1:=Asg ..
   have lk:∀ x c,((n,h.objs.size)::acc).lookup x=some c->(x=n/\c=h.objs.size)\/(x≠n/\acc.lookup x=some c):=fun x c e=>by
    rw[Ar3] at e
    by_cases hx:(x == n)=true
    ·simp only[hx] at e
     cases e
     exact .inl ⟨eq_of_beq hx,rfl⟩
    ·have hx':(x == n)=false:=by simpa using hx
     simp only[hx'] at e
     exact .inr ⟨fun z=>hx (by rw[z];exact beq_self_eq_true _),e⟩
   obtain⟨i1,i2,i3⟩:=Xf r (h.push { cls:=.type "cell",data:=.cell none }) ((n,h.objs.size)::acc) (fun x c e=>by
    rw[hs]
    rcases lk x c e with ⟨_,z⟩|⟨_,z⟩
    ·rw[z];exact As4 _
    ·exact Ar7 (h1 x c z)) (fun x y c e1 e2=>by
    rcases lk x c e1 with ⟨z1,w1⟩|⟨_,z1⟩<;>rcases lk y c e2 with ⟨z2,w2⟩|⟨_,z2⟩
    ·rw[z1,z2]
    ·exact absurd (h1 y c z2) (by rw[w1];exact Arj _)
    ·exact absurd (h1 x c z1) (by rw[w2];exact Arj _)
    ·exact h2 x y c z1 z2)
   have ec:cellsFrom h.objs.size ((n,NameKind.cell)::r) acc=cellsFrom (h.push { cls:=.type "cell",data:=.cell none }).objs.size r ((n,h.objs.size)::acc):=by rw[hs];rfl
   have ep:pushCells h ((n,NameKind.cell)::r)=pushCells (h.push { cls:=.type "cell",data:=.cell none }) r:=rfl
   rw[ec,ep]
   refine⟨fun x c e=>?_,i2,fun x e=>i3 x ?_⟩
   ·rcases i1 x c e with ⟨z,w⟩|⟨z1,z2,z3⟩|⟨_,_,z⟩
    ·rcases lk x c z with ⟨rfl,rfl⟩|⟨hne,z⟩
     ·exact .inr (.inl ⟨Aqy,Aqo _,⟨_,pushCells_keeps _ _ _ _ (Aqt _ rfl),rfl⟩⟩)
     ·exact .inl ⟨z,fun y=>by
       rcases List.mem_cons.mp y with y|y
       ·exact hne (Prod.mk.inj y).1
       ·exact w y⟩
    ·exact .inr (.inl ⟨Aqr _ z1,Nat.le_of_succ_le (by rw[hs] at z2;exact z2),z3⟩)
    ·exact z.elim
   ·by_cases hx:x=n
    ·exact .inr ⟨_,by rw[Ar3,hx,beq_self_eq_true]⟩
    ·have hx':(x == n)=false:=by simpa using hx
     rcases e with e|⟨c,e⟩
     ·rcases List.mem_cons.mp e with e|e
      ·exact absurd (Prod.mk.inj e).1 hx
      ·exact .inl e
     ·exact .inr ⟨c,by rw[Ar3,hx'];exact e⟩
  ·obtain⟨i1,i2,i3⟩:=Xf r h acc h1 h2
   have hk':(k == NameKind.cell)=false:=by simpa using hk
   have ec:cellsFrom h.objs.size ((n,k)::r) acc=cellsFrom h.objs.size r acc:=by rw[cellsFrom,hk'];rfl
   have ep:pushCells h ((n,k)::r)=pushCells h r:=by rw[pushCells,hk'];rfl
   have em:∀ x,(x,NameKind.cell)∈(n,k)::r ↔ (x,NameKind.cell)∈r:=fun x=>⟨fun z=>by
    rcases List.mem_cons.mp z with z|z
    ·exact absurd (Prod.mk.inj z).2.symm hk
    ·exact z,Aqr _⟩
   rw[ec,ep]
   refine⟨fun x c e=>?_,i2,fun x e=>i3 x ?_⟩
   ·rcases i1 x c e with ⟨z,w⟩|⟨z1,z2,z3⟩|⟨_,_,z⟩
    ·exact .inl ⟨z,fun y=>w ((em x).mp y)⟩
    ·exact .inr (.inl ⟨(em x).mpr z1,z2,z3⟩)
    ·exact z.elim
   ·exact e.imp (em x).mp id
theorem Pa {E:Value->Shared->Prop}{s:Shared} (hQ:∀ h',h'.Ns s.heap.objs.size (fun _=>none)->(∀ b o,s.heap.get? b=some o->h'.get? b=some o)->h'=pushCells (s.heap.push { cls:=.type "dict",data:=.dict #[] }) scope.names ->
   Q { scope,locals:=s.heap.objs.size,globals,cells:=cellsFrom (s.heap.objs.size+1) scope.names cl,qual,func:=none,code:=env.code,frame:=env.frame,builtins:=env.builtins } { s with heap:=h' }) :
  wpAny M A (newFunctionEnv scope globals cl [] qual none .none (some env)) Q E s:=by
 simp only[newFunctionEnv,Asd,if_true]
 refine Aql (wpAny_alloc ?_)
 refine Aql (wpAny_layCells _ (fun name kind cells=>by cases hkc:kind == NameKind.cell<;>simp[hkc]) _ _ _ _ ?_)
 rw[show ({ s with heap:=s.heap.push { cls:=.type "dict",data:=.dict #[] } }:Shared).heap.objs.size=s.heap.objs.size+1 from Asg ..]
 rw[List.forIn_nil]
 refine Aql (Aqm (Aqm ?_))
 exact hQ _ ((Heap.Ns.new s.heap (.type "dict")).keeps (pushCells_keeps _ _)) (fun b o e=>pushCells_keeps _ _ b o (Aqn _ e)) rfl
noncomputable def Az (X:Cx) (N':List Str) (scope:Scope) (cl:List (Str×Addr)) (C:Addr) (s₀:Shared) (H₀:Hp) (ex:List Addr) (pn:List (Addr×Obj)):Cx where
 prog:=X.prog
 w:=X.w
 K:=X.K
 mg:=X.mg
 base:=X.base
 A:=X.A
 N:=N'
 s₀:=s₀
 H₀:=H₀
 env:=compEnvC scope cl C X.env
 outer:=X.stack
 stack:=X.stack
 ex:=ex
 fn:=fun x=>match scope.names.lookup x with
  |some .cell=>true
  |_=>false
 calm:=X.calm
 pn:=pn
 xe:=fun _ _=>False
noncomputable def capσ (cap:List Nat) (k:Nat) (σ:St):St:=cap.map (fun i=>(σ[i]?).bind id)++List.replicate k none
def Vr (cap:List Nat) (k:Nat) (env:A2):A2:=cap.map (fun i=>(env[i]?).bind id)++List.replicate k none
structure CompOk (X:Cx) (scope:Scope) (cap:List Nat) (N':List Str):Prop where
 kind:scope.kind=.function
 cell:∀ y∈scope.names,y.2=.cell->scope.names.lookup y.1=some .cell
 names:∀ y∈scope.names,y.2=.local->scope.names.lookup y.1=some .local
 free:∀ y∈scope.names,y.2=.free->X.env.scope.names.lookup y.1=some .cell\/X.env.scope.names.lookup y.1=some .free
 nd:N'.Nodup
 le:cap.length<=N'.length
 cap:∀ (j i:Nat) (x:Str),cap[j]?=some i->N'[j]?=some x->X.N[i]?=some x/\scope.names.lookup x=some .free
theorem C7 {env:Env}:∀ {names:List (Str×NameKind)}{x:Str}{k:NameKind},(names.map fun (n,k)=>if (k == NameKind.free&&env.scope.kind == .function&&env.kindOf n == some .cell) then (n,NameKind.cell) else (n,k)).lookup x=some k ->
  (names.lookup x=some k/\(k=.free->env.kindOf x≠some .cell\/env.scope.kind≠.function))\/(names.lookup x=some .free/\k=.cell)
 |[],_,_,h=>by simp at h
 |(n,k)::r,x,k',h=>by
  have ih:=@C7 env r x k'
  rw[Aqs] at h
  by_cases hc:(k == NameKind.free&&env.scope.kind == .function&&env.kindOf n == some .cell)=true
  ·simp only[hc,if_true] at h
   rw[Ar3] at h ⊢
   cases hx:x == n with
   |true =>
    simp only[hx] at h ⊢
    cases h
    have:k=.free:=by simp at hc;exact hc.1.1
    exact .inr ⟨by rw[this],rfl⟩
   |false =>
    simp only[hx] at h ⊢
    exact ih h
  ·simp only[Aq0 hc] at h
   rw[Ar3] at h ⊢
   cases hx:x == n with
   |true =>
    simp only[hx] at h ⊢
    cases h
    refine .inl ⟨rfl,fun z=>?_⟩
    subst z
    have e:=eq_of_beq hx
    subst e
    simp at hc
    by_cases q:env.scope.kind=.function
    ·exact .inl fun z=>hc q z
    ·exact .inr q
   |false =>
    simp only[hx] at h ⊢
    exact ih h
section
variable {X:Cx}{elt tg iter:Expr}{ifs:List Expr}{scope:Scope}{pos:Pos}{cap:List Nat}{N':List Str}
theorem Aa7 {pins:List (Addr×Obj)}{σ:St}{H2 H3:Hp}{s2:Shared}{h₁:Heap}{tk:Nat}{fp:List Addr}{cl:List (Str×Addr)}{C:Addr}{ys:List V} (ok:CompOk X scope cap N') (I2:Inv X pins σ H2 s2) (f2:∀ b∈fp,Ac8 X pins H2 b) (fo:∀ b∈fp,∃ o,s2.heap.get? b=some o)
  (hcl:∀ x c,cl.lookup x=some c->(X.env.cells.lookup x=some c/\scope.names.lookup x≠some .cell)\/(scope.names.lookup x=some .cell/\C < c/\h₁.IsCell c none/\H3 c=none)) (hinj:∀ x y c,cl.lookup x=some c->cl.lookup y=some c->x=y)
  (hcl2:∀ x,((x,NameKind.free)∈scope.names\/(x,NameKind.cell)∈scope.names)->∃ c,cl.lookup x=some c)
  (hC:s2.heap.objs.size<=C) (hns:∃ m,h₁.Ns C m) (hk:∀ b o,s2.heap.get? b=some o->h₁.get? b=some o) (hH:∀ b o,s2.heap.get? b=some o->H2 b=none->H3 b=none) (hS:Same H2 H3) (hC3:H3 C=none) (hok:HOk X.prog X.w X.K H3 h₁) :
  Inv (Az X N' scope cl C s2 H2 fp (X.pn++pins)) [] (capσ cap (N'.length - cap.length) σ) H3 { s2 with heap:=h₁,toks:=tk }:=by
 have lt:∀ b o,s2.heap.get? b=some o->b≠C:=fun b o e=>Aq2 (Aqz (Aqp e) hC)
 have kin:∀ x,(Az X N' scope cl C s2 H2 fp (X.pn++pins)).env.kindOf x=some .cell\/(Az X N' scope cl C s2 H2 fp (X.pn++pins)).env.kindOf x=some .free->(x,NameKind.free)∈scope.names\/(x,NameKind.cell)∈scope.names:=fun x h=>by
  have key:∀ k,(relabel scope X.env).names.lookup x=some k->k=.cell\/k=.free->(x,NameKind.free)∈scope.names\/(x,NameKind.cell)∈scope.names:=fun k hk hkk=>by
   rcases C7 hk with ⟨q,_⟩|⟨q,_⟩
   ·rcases hkk with rfl|rfl
    ·exact .inr (Ari q)
    ·exact .inl (Ari q)
   ·exact .inl (Ari q)
  rcases h with h|h
  ·exact key _ h (.inl rfl)
  ·exact key _ h (.inr rfl)
 have fpx:∀ b∈fp,∀ o,X.base.get? b=some o->False:=fun b hb o e=>by
  obtain⟨_,_,_,q,_,_⟩:=f2 b hb
  rcases q with q|q
  ·exact I2.ok.noex b o e q
  ·exact absurd (Aqz (Aqp e) (Arf I2.ok.bsz q)) (Arj _)
 refine⟨⟨I2.ok.mod,ok.kind,I2.ok.glob,I2.ok.blt,hC,?_,?_,?_,I2.ok.hd,I2.ok.frames,.inl rfl,?_,I2.bs,Arf I2.ok.bsz I2.sz,?_,?_,I2.stack,I2.stkFree⟩,rfl,I2.bare,⟨?_,?_,?_,?_,?_,?_,?_⟩,?_,?_,hC3,?_,?_,hok,?_⟩
 ·exact hinj
 ·exact fun x h=>hcl2 x (kin x h)
 ·intro x c h e
  have h:(match scope.names.lookup x with|some .cell=>true|_=>false)=true:=h
  rcases hcl x c e with ⟨_,z⟩|⟨_,z,_⟩
  ·split at h
   ·rename_i q;exact absurd q z
   ·exact C8 h
  ·exact Ate (Nat.lt_of_le_of_lt hC z)
 ·intro b hb
  obtain⟨o,e⟩:=fo b hb
  refine⟨lt b o e,fun x c h=>?_⟩
  rcases hcl x c h with ⟨z,_⟩|⟨_,z,_⟩
  ·exact (f2 b hb).2.2.2.2.1 x c z
  ·exact Atd (Nat.lt_trans (Aqz (Aqp e) hC) z)
 ·exact fun b o e hb=>fpx b hb o e
 ·intro b hb hfs
  have z:b∈X.env.locals::X.fs:=I2.stkSub b hfs
  rcases List.mem_cons.mp z with z|z
  ·exact (f2 b hb).2.1 z
  ·exact (f2 b hb).2.2.1 z
 ·exact fun b o e n _ _=>hk b o e
 ·exact fun b o e n _ _=>⟨o.slots,hk b o e⟩
 ·exact fun b o e n _=>hH b o e n
 ·exact fun b o e _=>⟨o,hk b o e⟩
 ·exact fun b xs e=>hS b _ e
 ·exact fun b o u e=>hS b _ e
 ·exact fun b ps e=>⟨#[],by rw[hS b _ e];simp⟩
 ·obtain⟨m,hm⟩:=hns
  refine⟨m,hm,fun j x v e1 e2 e3=>?_⟩
  have hj:j < cap.length:=by
   apply Ati
   intro hj
   unfold capσ at e2
   rw[Are (by simpa using hj),Asv] at e2
   split at e2<;>cases e2
  obtain⟨i,hi⟩:∃ i,cap[j]?=some i:=⟨cap[j],by simp[hj]⟩
  obtain⟨q1,q2⟩:=ok.cap j i x hi e1
  have e4:σ[i]?=some (some v):=by
   unfold capσ at e2
   rw[Aq3 (by simpa using hj),Aq9,hi] at e2
   simp only[Option.map_some,Option.some.injEq] at e2
   obtain⟨o,h1,h2⟩:=bind_some e2
   have h2:o=some v:=h2
   rw[h1,h2]
  have hfr:=ok.free (x,.free) (Ari q2) rfl
  have vis:Vis X.env.scope x:=.inr hfr
  obtain⟨m0,hn0,hl⟩:=I2.loc
  obtain⟨u,r,l⟩:=hl i x v q1 e4 vis
  refine⟨u,r,.inr ?_⟩
  rcases l with ⟨l1,_⟩|⟨l1,c,l2,l3⟩
  ·have l1:X.env.scope.names.lookup x=some .local:=l1
   rcases hfr with z|z<;>rw[l1] at z<;>cases z
  ·obtain⟨c',hc'⟩:=hcl2 x (.inl (Ari q2))
   have:c'=c:=by
    rcases hcl x c' hc' with ⟨z,_⟩|⟨z,_⟩
    ·rw[l2] at z;exact (Arn z).symm
    ·rw[q2] at z;cases z
   subst this
   refine⟨?_,c',hc',?_⟩
   ·rcases e3 with z|z|z
    ·have z':(relabel scope X.env).names.lookup x=some .local:=z
     rcases C7 z' with ⟨q,_⟩|⟨q,w⟩
     ·rw[q2] at q;cases q
     ·cases w
    ·exact .inl z
    ·exact .inr z
   ·obtain⟨oc,ho,hd⟩:=l3
    exact⟨oc,hk _ _ ho,hd⟩
 ·intro x c h
  rcases hcl x c h with ⟨z,_⟩|⟨_,_,z,_⟩
  ·obtain⟨v,oc,ho,hd⟩:=I2.cell x c z
   exact⟨v,oc,hk _ _ ho,hd⟩
  ·exact⟨none,z⟩
 ·intro x c h
  rcases hcl x c h with ⟨z,_⟩|⟨_,_,_,z⟩
  ·obtain⟨v,oc,ho,hd⟩:=I2.cell x c z
   exact hH c oc ho (I2.freeC x c z)
  ·exact z
 ·intro p hp
  have hp':p∈X.pn++pins:=by
   have:p∈(X.pn++pins)++[]:=hp
   simpa using this
  obtain⟨e,n,ne,nf,d⟩:=I2.pin p hp'
  refine⟨hk _ _ e,hH _ _ e n,lt _ _ e,?_,d⟩
  intro z
  have z:p.1∈X.env.locals::X.fs:=I2.stkSub p.1 z
  rcases List.mem_cons.mp z with z|z
  ·exact ne z
  ·exact nf z
 ·unfold capσ
  show _=N'.length
  rw[Aqv,Aqw,List.length_replicate]
  have:=ok.le
  lia
end
end
end ML
end L2
end S_ML6
section S_ML7
namespace L2
namespace ML
open PySem PySem.Spec PyProof.Rows
open Classical
noncomputable section
noncomputable def Gb (g:FG) (t:FB) (fe:FE) (m:MH) (env:A2):List D->Option (List D)
 |[]=>some []
 |d::ds=>(g d env).bind fun env1=>(t env1 m).bind fun ok=>if ok=true then (fe env1 m).bind fun y=>(Gb g t fe m env ds).bind fun ys=>some (y::ys) else Gb g t fe m env ds
noncomputable def M4:FB:=fun _ _=>some true
def PTs (X:Cx) (ifs:List Expr) (f:FB):Prop:=∀ (pins:List (Addr×Obj)) (s:Shared) (σ:St) (H:Hp) (Q:Bool->Hp->Prop),Inv X pins σ H s->tB' X.K f σ H Q ->
 wpAny (model X.prog X.w) X.A (forIn ifs true fun c r=>if r=true then do let ok <- isTrue c X.env (eval c X.env);pure (ForInStep.yield ok) else pure (ForInStep.yield r)) (TP X pins σ Q) X.xe s
theorem Ahl:PTs X [] M4:=fun pins s σ H Q I ⟨env,μ,m,b,S,E,h,q⟩=>by
 cases h
 exact wpAny_tests_nil ⟨H,I,q H (Same.refl H)⟩
theorem Ahm (h:PB X c f):PTs X [c] f:=fun pins s σ H Q I q=>wpAny_tests_one (h pins s σ H Q I q)
theorem Nl {s:Shared}{pos:Pos} (I:Nat->Shared->Prop) (turn:∀ n s,I n s->wpAny (model prog w) A (pyNext it) (fun r s₁=>match r with
   |none=>R (.ok .next) s₁
   |some v=>wpAny (model prog w) A (letOwnedTupleGo target it v) (fun _ s₁'=>wpAny (model prog w) A (assign target env v) (fun _ s₂ =>
     wpAny (model prog w) A (forIn ifs true fun c r=>if r=true then do let ok <- isTrue c env (eval c env);pure (ForInStep.yield ok) else pure (ForInStep.yield r)) (fun ok s₃ =>
      if ok=true then wpAny (model prog w) A (eval elt env) (fun x s₄ =>
       wpAny (model prog w) A (call (.builtin "list.append") [acc,x]) (fun _ s₅=>∃ m,m < n/\I m s₅) (fun _ _=>False) s₄) (fun _ _=>False) s₃
      else ∃ m,m < n/\I m s₃) (fun _ _=>False) s₂) (fun _ _=>False) s₁') (fun _ _=>False) s₁) (fun _ _=>False) s) (n:Nat) (h:I n s):codeAny (model prog w) A (.compLoop (.ListComp elt [⟨target,iter,ifs,0⟩] scope pos) 0 it acc env) R s:=by
 have no:∀ {E:Value->Shared->Prop} (e:Value) (s:Shared),False->E e s:=fun _ _ h=>h.elim
 refine codeAny_loop rfl I (fun n s hI=>?_) n h
 show wpAny _ A ((compTurn (.ListComp elt [⟨target,iter,ifs,0⟩] scope pos) 0 it acc env).onRaise (fun x=>do noteFrame x env;theTreesLotGoes x)) _ _ s
 refine wpAny_noted ?_
 rw[compTurn_list]
 refine Aql (wpAny_standAt (Aql (Asq (turn n s hI) (fun r s₁ h₁=>?_) no)))
 cases r with
 |none=>exact Aqm h₁
 |some v =>
  refine Aql (Asq h₁ (fun _ s₁' h₁'=>?_) no)
  refine Aql (Asq h₁' (fun _ s₂ h₂=>Aql (Asq h₂ (fun ok s₃ h₃=>?_) no)) no)
  cases ok with
  |false=>exact Aqm ⟨rfl,h₃⟩
  |true =>
   exact Aql (Aql (Asq h₃ (fun x s₄ h₄=>Aql (Asq h₄ (fun _ s₅ h₅=>Aqm (Aqm ⟨rfl,h₅⟩)) no)) no))
theorem Aa4 {K:W.Frag}{H:Hp}{μ:List Addr}{σ:St}{env:A2} (h:EnvRep K H μ σ env) (cap:List Nat) (k:Nat):EnvRep K H μ (capσ cap k σ) (Vr cap k env):=by
 refine⟨by unfold capσ Vr;simp,fun j d e=>?_⟩
 have hj:j < cap.length:=by
  apply Ati
  intro hj
  unfold Vr at e
  rw[Are (by simpa using hj),Asv] at e
  split at e<;>cases e
 unfold Vr at e
 rw[Aq3 (by simpa using hj),Aq9] at e
 have hi:cap[j]?=some cap[j]:=by simp[hj]
 rw[hi] at e
 simp only[Option.map_some,Option.some.injEq] at e
 obtain⟨o,h1,h2⟩:=bind_some e
 have h2:o=some d:=h2
 subst h2
 obtain⟨v,q1,q2⟩:=h.get _ _ h1
 refine⟨v,?_,q2⟩
 unfold capσ
 rw[Aq3 (by simpa using hj),Aq9,hi]
 simp[q1]
section
variable {X:Cx}{elt tg iter:Expr}{ifs:List Expr}{scope:Scope}{pos:Pos}{cap:List Nat}{N':List Str}{fw:FW}{g:FG}{t:FB}{fe:FE}
def Bq (cap:List Nat) (k:Nat) (fw:FW) (g:FG) (t:FB) (fe:FE):FL:=fun env m=>(fw env m).bind fun w=>if w.chk m/\w.all.length<=1000000 then Gb g t fe m (Vr cap k env) w.all else none
structure CompEnd (X:Cx) (pins:List (Addr×Obj)) (σ:St) (H:Hp) (μ:List Addr) (zs:List D) (D C:Addr) (s':Shared):Prop where
 out:∃ H' ys,Same H H'/\H D=none/\H' D=some (.lst ys)/\Reps X.K H' μ (nw μ D) zs ys/\Inv X pins σ H' s'/\H' C=none/\∀ σ' s'' h',Inv X pins σ' H' s''->Heap.SameBut C s''.heap h'->Inv X pins σ' H' { s'' with heap:=h' }
 ns:∃ m,s'.heap.Ns C m
 lc:C≠X.env.locals
 cc:∀ x c,X.env.cells.lookup x=some c->c≠C
inductive CI (Y:Cx) (μ:List Addr) (fp:List Addr) (tn:Nat->Heap->Prop) (Dd:Addr) (H2:Hp) (g:FG) (e0:A2) (cd:Nat->Option (List D)) (n:Nat) (zs:List D) (s:Shared):Nat->Prop where
 |mk {i:Nat}{H3:Hp}{σ3:St}{env3:A2}{ys:List V}{its:List Value}{na:Nat}{dn rs:List D}:i<=n->Inv Y [] σ3 H3 s->tn i s.heap->(∀ b∈fp,H3 b=none)->Same H2 H3->H3 Dd=none->EnvRep Y.K H3 μ σ3 env3->(∀ d,g d env3=g d e0) ->
  s.heap.get? Dd=some { cls:=.type "list",data:=.seq its.toArray na }->Vals ys its->Reps Y.K H3 μ (·∈μ) dn ys->cd i=some rs->dn++rs=zs->dn.length<=i->CI Y μ fp tn Dd H2 g e0 cd n zs s (n - i)
theorem Js (ok:CompOk X scope cap N') (hc:X.calm=true) (hi:PW' X tg iter fw) (hg2:∀ d d' env e1,g d env=some e1->g d' e1=g d' env)
  {Φ:Hp->Prop} (hΦ:∀ {pins:List (Addr×Obj)}{σ:St}{H:Hp}{s:Shared},Inv X pins σ H s->Φ H) (hg:∀ cl C s₀ H₀ ex pn,Φ H₀->PGD (Az X N' scope cl C s₀ H₀ ex pn) tg g) (ht:∀ cl C s₀ H₀ ex pn,Φ H₀->PTs (Az X N' scope cl C s₀ H₀ ex pn) ifs t) (he:∀ cl C s₀ H₀ ex pn,Φ H₀->PD (Az X N' scope cl C s₀ H₀ ex pn) elt fe)
  (hs:∀ x,foldedSetIterable iter X.env x=pure x) {use:Option (Value->Sem Unit)}{ipos:Pos}{pins:List (Addr×Obj)}{s:Shared}{σ:St}{H:Hp}{Q:Value->Shared->Prop} (I:Inv X pins σ H s) {env:A2}{μ:List Addr}{m:MH}{zs:List D}
  (S:Sim X.K H μ m) (E:EnvRep X.K H μ σ env) (h:Bq cap (N'.length - cap.length) fw g t fe env m=some zs)
  (hQ:∀ D C s',CompEnd X pins σ H μ zs D C s'->compPost (model X.prog X.w) X.A X.xe use Q (.ref D) C (.ok .next) s') :
  wpAny (model X.prog X.w) X.A (comprehension (.ListComp elt [⟨tg,iter,ifs,0⟩] scope pos) scope X.env ipos (newList []) false (eval iter X.env) use) Q X.xe s:=by
 obtain⟨w,h1,h⟩:=bind_some h
 split at h
 rotate_left
 ·cases h
 rename_i hck
 obtain⟨hck,hsz⟩:=hck
 have hfr:∀ y∈scope.names,y.2=.free->∃ c,X.env.cells.lookup y.1=some c:=fun y hy hf=>I.ok.has y.1 (ok.free y hy hf)
 obtain⟨cl0,hclos,hcl0,hcl20⟩:=L5 hfr
 refine wpAny_comprehension_free (g:=⟨tg,iter,ifs,0⟩) (gs:=[]) rfl hs hclos ok.kind ok.names (thn (hi pins s σ H (fun J H2=>∃ src,Same H H2/\Src X.K J w.all w.chk src/\src H2 μ m) I ⟨env,μ,m,w,S,E,h1,fun H' J src s1 hsrc h0=>⟨src,s1,hsrc,h0⟩⟩) fun v s1 h2=>thn h2 fun itv s2 h3=>?_)
 obtain⟨it,fp,tn,J,H2,e,I2,T,st2,f2,src,hS2,hsrc,h0⟩:=h3
 subst e
 refine Arv (Pa fun h₁ hns₁ hsb₁ heq₁=>?_)
 dsimp only at hns₁ hsb₁ heq₁ ⊢
 generalize hHp:s2.heap.push { cls:=.type "list",dict:=none,data:=.seq ([]:List Value).toArray }=HP at hns₁ hsb₁ heq₁ ⊢
 have hCs:HP.objs.size=s2.heap.objs.size+1:=by rw[<- hHp,Asg]
 have hDC:s2.heap.objs.size≠HP.objs.size:=by rw[hCs];exact Aq2 (As4 _)
 have hCle:s2.heap.objs.size<=HP.objs.size:=by rw[hCs];exact As9 _
 have below:∀ b,b < s2.heap.objs.size->b≠HP.objs.size/\b≠s2.heap.objs.size:=fun b hb=>⟨by rw[hCs];exact Aq2 (Ar7 hb),Aq2 hb⟩
 have hkp:∀ b o,s2.heap.get? b=some o->h₁.get? b=some o:=fun b o e=>hsb₁ b o (hHp ▸ Aqn _ e)
 have hacc:h₁.get? s2.heap.objs.size=some { cls:=.type "list",data:=.seq ([]:List Value).toArray 0 }:=hsb₁ _ _ (hHp ▸ Aqt _ rfl)
 have hDn:H2 s2.heap.objs.size=none:=I2.hok.fresh (Aqo _)
 have hCn:H2 HP.objs.size=none:=I2.hok.fresh hCle
 have fo:∀ b∈fp,∃ o,s2.heap.get? b=some o:=fun b hb=>let ⟨o,e,_⟩:=T.obj _ _ st2 b hb;⟨o,e⟩
 have fdc:∀ b∈fp,b≠HP.objs.size/\b≠s2.heap.objs.size:=fun b hb=>let ⟨o,e⟩:=fo b hb;below b (Aqp e)
 have hsz1:(HP.push { cls:=.type "dict",data:=.dict #[] }).objs.size=HP.objs.size+1:=Asg ..
 obtain⟨c1,c2,c3⟩:=Xf scope.names (HP.push { cls:=.type "dict",data:=.dict #[] }) cl0 (fun x c e=>by
  obtain⟨v,oc,ho,_⟩:=I2.cell x c (hcl0 x c e)
  rw[hsz1,hCs]
  exact Ar7 (Ar7 (Aqp ho))) (fun x y c e1 e2=>I2.ok.inj x y c (hcl0 x c e1) (hcl0 y c e2))
 rw[hsz1,<- heq₁] at c1
 rw[hsz1] at c2 c3
 generalize hcle:cellsFrom (HP.objs.size+1) scope.names cl0=cl at *
 have hcl:∀ x c,cl.lookup x=some c->(X.env.cells.lookup x=some c/\scope.names.lookup x≠some .cell)\/(scope.names.lookup x=some .cell/\HP.objs.size < c/\h₁.IsCell c none/\H2 c=none):=fun x c e=>by
  rcases c1 x c e with ⟨z,w⟩|⟨z1,z2,z3⟩|⟨_,_,z⟩
  ·exact .inl ⟨hcl0 x c z,fun q=>w (Ari q)⟩
  ·exact .inr ⟨ok.cell _ z1 rfl,z2,z3,I2.hok.fresh (Arf hCle (Ate z2))⟩
  ·exact z.elim
 have hcl2:∀ x,((x,NameKind.free)∈scope.names\/(x,NameKind.cell)∈scope.names)->∃ c,cl.lookup x=some c:=fun x e=>c3 x (e.elim (fun z=>.inr (hcl20 x z)) .inl)
 generalize hDd:s2.heap.objs.size=Dd at *
 generalize hCc:HP.objs.size=C at *
 have Y0:Inv (Az X N' scope cl C s2 H2 fp (X.pn++pins)) [] (capσ cap (N'.length - cap.length) σ) H2 { s2 with heap:=h₁,toks:=s2.toks } :=
  Aa7 (ys:=[]) ok I2 f2 fo hcl c2 hcl2 (by rw[hDd];exact hCle) ⟨_,hns₁⟩ hkp (fun _ _ _ n=>n) (Same.refl _) hCn (I2.hok.kept hkp)
 -- what stays true of the iterator's objects in the block
 have fpY:∀ {H':Hp}{ps:List (Addr×Obj)},(∀ b∈fp,H' b=none)->(∀ p∈ps,p.1∉fp)->∀ b∈fp,Ac8 (Az X N' scope cl C s2 H2 fp (X.pn++pins)) ps H' b:=fun {H' ps} hn hps b hb=>by
  obtain⟨q0,q1,q2,q3,q4,q5⟩:=f2 b hb
  refine⟨hn b hb,(fdc b hb).1,fun z=>?_,.inl hb,fun x c e=>?_,fun p hp z=>?_⟩
  rotate_left
  ·rcases hcl x c e with ⟨z,_⟩|⟨_,z,_⟩
   ·exact q4 x c z
   ·obtain⟨o,e'⟩:=fo b hb
    exact Atd (Aqz (by have:=Aqp e';rw[hDd] at this;exact this) (Arf hCle (Ate z)))
  rotate_left
  ·have z:b∈X.env.locals::X.fs:=I2.stkSub b z
   rcases List.mem_cons.mp z with z|z
   ·exact q1 z
   ·exact q2 z
  ·rcases List.mem_append.mp hp with hp|hp
   ·exact q5 p hp z
   ·exact hps p hp (by rw[z];exact hb)
 have key:∀ s₃:Shared,s₃={ s2 with heap:=h₁,toks:=s2.toks } ->
   codeAny (model X.prog X.w) X.A (.compLoop (.ListComp elt [⟨tg,iter,ifs,0⟩] scope pos) 0 (.ref it) (.ref Dd) (compEnvC scope cl C X.env)) (compPost (model X.prog X.w) X.A X.xe use Q (.ref Dd) C) s₃:=by
  rintro s₃ rfl
  refine Nl (fun k s=>CI (Az X N' scope cl C s2 H2 fp (X.pn++pins)) μ fp tn Dd H2 g (Vr cap (N'.length - cap.length) env) (fun i=>Gb g t fe m (Vr cap (N'.length - cap.length) env) (w.all.drop i)) w.all.length zs s k) ?_ w.all.length
   (.mk (ys:=[]) (dn:=[]) (Arl _) Y0 (T.keep _ _ _ st2 fun b hb o e=>hkp b o e) (fun b hb=>(f2 b hb).1) (Same.refl _) hDn (Aa4 (E.same hS2) cap _) (fun _=>rfl) hacc .nil .nil (by simpa using h) rfl (Arl _))
  intro k s3 ci
  cases ci with
  |@mk i H3 σ3 env3 ys its na dn rs hi' I3 st3 fr3 s3' hD3 E3 hg3 ha3 rv3 rr3 hc3 hz3 hl3 =>
  have S3:Sim X.K H3 μ m:=S.same (hS2.trans s3')
  have src3:src H3 μ m:=hsrc.keep _ _ _ _ _ _ h0 (S.same hS2) (Step.of_same s3') S3
  have hDfp:Dd∉fp:=fun z=>(fdc Dd z).2 rfl
  have hDne:Dd≠(Az X N' scope cl C s2 H2 fp (X.pn++pins)).env.locals:=hDC
  have hDcell:∀ x c,(Az X N' scope cl C s2 H2 fp (X.pn++pins)).env.cells.lookup x=some c->c≠Dd:=fun x c e z=>by
   rcases hcl x c e with ⟨w,_⟩|⟨_,w,_⟩
   ·obtain⟨v,oc,ho,_⟩:=I2.cell x c w
    exact absurd (Aqp ho) (by rw[z,hDd];exact Arj _)
   ·exact absurd w (by rw[z];exact Nat.not_lt.mpr hCle)
  have hDpn:∀ p∈X.pn++pins,p.1≠Dd:=fun p hp z=>absurd (Aqp (I2.pin p hp).1) (by rw[z,hDd];exact Arj _)
  have hDs:s2.heap.objs.size<=Dd:=Nat.le_of_eq hDd
  have hDfs:Dd∉(Az X N' scope cl C s2 H2 fp (X.pn++pins)).fs:=fun z=>by
   have z:Dd∈X.env.locals::X.fs:=I2.stkSub Dd z
   rcases List.mem_cons.mp z with z|z
   ·exact absurd I2.lt (by rw[<- z,hDd];exact Arj _)
   ·exact I2.nofs hDs z
  have I3p:Inv (Az X N' scope cl C s2 H2 fp (X.pn++pins)) [(Dd,{ cls:=.type "list",data:=.seq its.toArray na })] σ3 H3 s3:=I3.pins_of fun p hp=>by
   have e:p=(Dd,{ cls:=.type "list",data:=.seq its.toArray na }):=by simpa using hp
   subst e
   exact⟨ha3,hD3,hDne,hDfs,fun v z=>by cases z⟩
  have pfp:∀ p∈[(Dd,({ cls:=.type "list",data:=.seq its.toArray na }:Obj))],p.1∉fp:=fun p hp=>by
   have e:p=(Dd,{ cls:=.type "list",data:=.seq its.toArray na }):=by simpa using hp
   subst e
   exact hDfp
  by_cases hlt:i < w.all.length
  ·have hd:w.all.drop i=w.all[i]::w.all.drop (i+1):=Asn hlt
   rw[hd] at hc3
   unfold Gb at hc3
   obtain⟨env4,e4,hc3⟩:=bind_some hc3
   obtain⟨tb,e5,hc3⟩:=bind_some hc3
   obtain⟨go,yl⟩:=hsrc.go H3 μ m i w.all[i] S3 src3 hck (by simp[hlt])
   refine thn (T.item (Az X N' scope cl C s2 H2 fp (X.pn++pins)) rfl rfl rfl hc i _ s3 σ3 H3 _ I3p (fpY fr3 pfp) st3 go) fun r s4 ⟨u,hr,h4⟩=>?_
   subst hr
   refine thn h4 fun _ s5 ⟨x,H5,I5,r5,y5,st5,fr5⟩=>?_
   obtain⟨s5',rx5⟩:=yl x H5 y5
   have S5:=S3.same s5'
   have E5:=E3.same s5'
   have I5':=I5.pinned (fpY fr5 pfp) (T.obj _ _ st5)
   generalize hps:[(Dd,({ cls:=.type "list",data:=.seq its.toArray na }:Obj))]++Oa fp s5.heap=ps at I5'
   have pacc:(Dd,({ cls:=.type "list",data:=.seq its.toArray na }:Obj))∈ps:=by rw[<- hps];exact Aq8 _ (by simp)
   have pits:∀ b o,b∈fp->s5.heap.get? b=some o->(b,o)∈ps:=fun b o hb e=>by rw[<- hps];exact Aq5 _ (Ge hb e)
   refine thn (hg cl C s2 H2 fp (X.pn++pins) (hΦ I2) ps s5 σ3 H5 x u (fun σ' H'=>H'=H5/\EnvRep X.K H5 μ σ' env4) I5' r5 ⟨env3,μ,m,_,env4,S5,E5,rx5,by rw[hg3];exact e4,fun σ' E'=>⟨rfl,E'⟩⟩) fun _ s6 ⟨σ6,H6,I6,eH6,E6⟩=>?_
   subst eH6
   refine thn (ht cl C s2 H2 fp (X.pn++pins) (hΦ I2) ps s6 σ6 H6 (fun b H'=>b=tb/\Same H6 H') I6 ⟨env4,μ,m,tb,S5,E6,e5,fun H' s=>⟨rfl,s⟩⟩) fun ok s7 ⟨H7,I7,eb,s7'⟩=>?_
   subst eb
   have S7:=S5.same s7'
   have E7:=E6.same s7'
   have hg4:∀ d,g d env4=g d (Vr cap (N'.length - cap.length) env):=fun d=>by rw[hg2 _ d _ _ e4]
   cases ok with
   |false =>
    rw[Aq0 Arb] at hc3
    have pin7:=fun p hp=>I7.pin p (Aq5 _ hp)
    refine Aod ⟨w.all.length - (i+1),by lia,.mk hlt (I7.pins_of (fun p hp=>by simp at hp)) (T.keep _ _ _ st5 fun b hb o e=>(pin7 (b,o) (pits b o hb e)).1) (fun b hb=>?_) ((s3'.trans s5').trans s7') (pin7 _ pacc).2.1 E7 hg4 (pin7 _ pacc).1 rv3 (rr3.same (s5'.trans s7')) hc3 hz3 (Nat.le_succ_of_le hl3)⟩
    obtain⟨o,e,_⟩:=T.obj _ _ st5 b hb
    exact (pin7 (b,o) (pits b o hb e)).2.1
   |true =>
    rw[Aqx rfl] at hc3
    obtain⟨y,e6,hc3⟩:=bind_some hc3
    obtain⟨rs',e7,hc3⟩:=bind_some hc3
    cases hc3
    refine Aoe (thn (he cl C s2 H2 fp (X.pn++pins) (hΦ I2) ps s7 σ6 H7 (fun v H'=>Same H7 H'/\Rep X.K H' μ (·∈μ) y v) I7 ⟨env4,μ,m,y,S7,E7,e6,fun v H' s r=>⟨s,r⟩⟩) fun u8 s8 ⟨x8,H8,I8,r8,s8',rx8⟩=>?_)
    have pin8:=fun p hp=>I8.pin p (Aq5 _ hp)
    have e8:=(pin8 _ pacc).1
    have hil:its.length<=i:=by rw[<- rv3.length,<- rr3.length];exact hl3
    have hsl:sizeLine=16777216:=Ar8
    refine call_meets F.slot_list_append ⟨_,e8,rfl⟩ F.entry_list_append (F.args_list_append_2 _ _) (PySem.list_append Dd its.toArray na u8 (by rw[Aqq];lia)) ⟨e8,?_⟩
    obtain⟨na',q9⟩:∃ na',(s8.heap.update Dd (Obj.mapSeq fun a=>a.push u8)).get? Dd=some { cls:=.type "list",data:=.seq (its++[u8]).toArray na' }:=by
     have q9:=PySem.IsL.update e8 (fun a=>a.push u8)
     have ea:(its.toArray.push u8)=(its++[u8]).toArray:=by simp
     rw[ea] at q9
     exact⟨_,q9⟩
    have I8':Inv (Az X N' scope cl C s2 H2 fp (X.pn++pins)) [] σ6 H8 s8:=I8.pins_of (fun p hp=>by simp at hp)
    have I9:=I8'.turned (it:=Dd) (t':=s8.toks) (h':=s8.heap.update Dd (Obj.mapSeq fun a=>a.push u8)) (fun b o hb e=>(Aru s8.heap _ (Asr hb)).trans e) (pin8 _ pacc).2.1 hDne (.inr hDs) hDcell (fun p hp=>hDpn p (by
     have hp:p∈(X.pn++pins)++[]:=hp
     simpa using hp))
    refine⟨w.all.length - (i+1),by lia,.mk (na:=na') hlt I9 (T.keep _ _ _ st5 fun b hb o e=>?_) (fun b hb=>?_) (((s3'.trans s5').trans s7').trans s8') (pin8 _ pacc).2.1 (E7.same s8') hg4 ?_ (rv3.append (.cons r8 .nil)) ((rr3.same ((s5'.trans s7').trans s8')).append (.cons rx8 .nil)) e7 (by rw[<- hz3];simp) (by rw[Aqv];simp;lia)⟩
    ·exact (Aru s8.heap _ (Asr (fdc b hb).2)).trans (pin8 (b,o) (pits b o hb e)).1
    ·obtain⟨o,e,_⟩:=T.obj _ _ st5 b hb
     exact (pin8 (b,o) (pits b o hb e)).2.1
    ·exact q9
  ·have e:i=w.all.length:=by lia
   subst e
   rw[List.drop_length] at hc3
   cases hc3
   rw[Arc] at hz3
   subst hz3
   refine thn (T.done (Az X N' scope cl C s2 H2 fp (X.pn++pins)) rfl rfl rfl hc _ _ s3 σ3 H3 _ I3p (fpY fr3 pfp) st3 (hsrc.stop H3 μ m S3 src3 hck)) fun r s4 ⟨hr,I4⟩=>?_
   subst hr
   have e4:=(I4.pin (Dd,_) (Aq5 _ (List.mem_singleton.mpr rfl))).1
   have hyl:ys.length<=sizeLine:=by rw[<- rr3.length];exact big (Arf hl3 hsz)
   have inv:∀ h',(∀ b o,b≠C->s4.heap.get? b=some o->h'.get? b=some o)->Inv X pins σ (upd H3 Dd (.lst ys)) { s4 with heap:=h' }:=fun h' hk=>by
    have nC:∀ b o,s2.heap.get? b=some o->b≠C/\b≠Dd:=fun b o e=>below b (by rw[<- hDd];exact Aqp e)
    have un:Un (frs X.stack) fp H2 H3 s2.heap s4.heap:=I4.base
    refine I2.call' (s':={ s4 with heap:=h' }) (ch:=fp) I4.os ⟨fun b o e n hb hx=>hk b o (nC b o e).1 (un.keep b o e n hb hx),fun b o e n hb hx=>?_,fun b o e n hx=>?_,fun b o e hx=>?_,fun b xs e=>?_,fun b o v e=>?_,fun b ps e=>?_⟩ (fun b v e=>?_) I4.bare fun b hb=>?_
    ·obtain⟨sl,q⟩:=un.slot b o e n hb hx
     exact⟨sl,hk b _ (nC b o e).1 q⟩
    ·rw[A0 (nC b o e).2];exact un.free b o e n hx
    ·obtain⟨o',q⟩:=un.there b o e hx
     exact⟨o',hk b _ (nC b o e).1 q⟩
    ·rw[A0 (Ax e hDn)];exact un.tups b xs e
    ·rw[A0 (Ax e hDn)];exact un.frzs b o v e
    ·obtain⟨more,q⟩:=un.tbls b ps e
     exact⟨more,by rw[A0 (Ax e hDn)];exact q⟩
    ·have hCfree:H3 C=none:=I4.free
     by_cases hbD:b=Dd
     ·subst hbD
      rw[Be] at e
      cases e
      exact⟨hyl,its,na,rv3,hk _ _ hDC e4⟩
     ·rw[A0 hbD] at e
      refine (I4.hok b v e).stay (fun c o hc q=>hk c o ?_ q) (fun c q=>by rw[A0 (Ax q hD3)];exact q) (fun c xs q=>Rd.upd_none hD3 q) fun c x u q=>by rw[A0 (Ax q hD3)];exact q
      rcases hc with rfl|hc
      ·exact Ax e hCfree
      ·exact Ax hc hCfree
    ·obtain⟨q0,q1,q2,q3,q4,q5⟩:=f2 b hb
     exact⟨q3,q1,q4,q5⟩
   have hCl:C≠X.env.locals:=fun z=>absurd I2.lt (by rw[<- z,hDd];exact Nat.not_lt.mpr hCle)
   have hCc':∀ x c,X.env.cells.lookup x=some c->c≠C:=fun x c e z=>by
    obtain⟨v,oc,ho,_⟩:=I2.cell x c e
    exact absurd (Aqp ho) (by rw[z,hDd];exact Nat.not_lt.mpr hCle)
   refine hQ Dd C s4 ⟨⟨upd H3 Dd (.lst ys),ys,(hS2.trans s3').trans (Bd hD3),hS2.free hDn,Be,rr3.fresh hD3,inv s4.heap fun _ _ _ e=>e,by rw[A0 hDC.symm];exact I4.free,fun σ' s'' h' J sb=>?_⟩,?_,hCl,hCc'⟩
   ·exact J.turned (it:=C) (t':=s''.toks) (fun b o hb e=>(sb.2 b hb).trans e) (by rw[A0 hDC.symm];exact I4.free) hCl (.inr (Arf I2.sz (by rw[hDd];exact hCle))) hCc' fun p hp z=>absurd (Aqp (I2.pin p hp).1) (by rw[z,hDd];exact Nat.not_lt.mpr hCle)
   obtain⟨m',hm,_⟩:=I4.loc
   exact⟨m',hm⟩
 exact codeAny_compStart_list (key _ rfl) (T.self _ 0 _ _ _ (T.keep _ _ _ st2 fun b hb o e=>hkp b o e) (key _ rfl))
theorem Ab5 (ok:CompOk X scope cap N') (hc:X.calm=true) (hi:PW' X tg iter fw) (hg2:∀ d d' env e1,g d env=some e1->g d' e1=g d' env)
  {Φ:Hp->Prop} (hΦ:∀ {pins:List (Addr×Obj)}{σ:St}{H:Hp}{s:Shared},Inv X pins σ H s->Φ H) (hg:∀ cl C s₀ H₀ ex pn,Φ H₀->PGD (Az X N' scope cl C s₀ H₀ ex pn) tg g) (ht:∀ cl C s₀ H₀ ex pn,Φ H₀->PTs (Az X N' scope cl C s₀ H₀ ex pn) ifs t) (he:∀ cl C s₀ H₀ ex pn,Φ H₀->PD (Az X N' scope cl C s₀ H₀ ex pn) elt fe)
  (hs:∀ x,foldedSetIterable iter X.env x=pure x):PF X (.ListComp elt [⟨tg,iter,ifs,0⟩] scope pos) (Bq cap (N'.length - cap.length) fw g t fe):=by
 intro pins s σ H Q I ⟨env,μ,m,zs,S,E,h,q⟩
 rw[eval_ListComp]
 refine Js ok hc hi hg2 hΦ hg ht he hs I S E h fun D C s' ⟨⟨H',ys,h1,h2,h3,h4,h5,h6,h7⟩,⟨mm,hm⟩,_,_⟩=>?_
 exact⟨mm,hm,fun h' sb=>⟨.ref D,H',h7 σ s' h' h5 sb,rfl,q D ys H' h1 h2 h3 h4⟩⟩
variable {x:Str}{p' spos:Pos}{i:Nat}
theorem Xh (ok:CompOk X scope cap N') (hc:X.calm=true) (hi:PW' X tg iter fw) (hg2:∀ d d' env e1,g d env=some e1->g d' e1=g d' env)
  {Φ:Hp->Prop} (hΦ:∀ {pins:List (Addr×Obj)}{σ:St}{H:Hp}{s:Shared},Inv X pins σ H s->Φ H) (hg:∀ cl C s₀ H₀ ex pn,Φ H₀->PGD (Az X N' scope cl C s₀ H₀ ex pn) tg g) (ht:∀ cl C s₀ H₀ ex pn,Φ H₀->PTs (Az X N' scope cl C s₀ H₀ ex pn) ifs t) (he:∀ cl C s₀ H₀ ex pn,Φ H₀->PD (Az X N' scope cl C s₀ H₀ ex pn) elt fe)
  (hs:∀ x,foldedSetIterable iter X.env x=pure x) (hsw:swapsWith (.ListComp elt [⟨tg,iter,ifs,0⟩] scope pos) (some (.Name x p')) spos.line X.env=pure true) (hN:X.N.Nodup) (hn:X.N[i]?=some x) (hx:Loc X.env.scope x) (hf:X.fn x=true\/X.env.scope.names.lookup x=some .local) :
  PS X (.Assign [.Name x p'] (.ListComp elt [⟨tg,iter,ifs,0⟩] scope pos) spos) (Aip (tF X.K (Bq cap (N'.length - cap.length) fw g t fe)) (Uw i)):=by
 intro pins s σ H Dn I ⟨env,μ,m,zs,S,E,h,q⟩
 rw[exec_Assign_Name_used _ _ _ _ hsw]
 refine Aql (wpAny_standAt (Aql ?_))
 show wpAny _ X.A (do let _ <- comprehension (.ListComp elt [⟨tg,iter,ifs,0⟩] scope pos) scope X.env _ (newList []) false (eval iter X.env) (some (assign (.Name x p') X.env))) _ _ s
 refine Aql (Asq (Js ok hc hi hg2 hΦ hg ht he hs (use:=some (assign (.Name x p') X.env)) (Q:=fun _ s'=>SP X pins Dn .next s') I S E h fun D C s' ⟨⟨H',ys,h1,h2,h3,h4,h5,h6,h7⟩,⟨mm,hm⟩,lc,cc⟩=>?_) (fun _ s' hq=>Aqm (Aqm hq)) fun _ _ e=>e)
 show wpAny _ X.A (assign (.Name x p') X.env (.ref D)) _ _ _
 refine wpAny_assign_Name (Oq (v:=.ref D) h5 hN hn hx rfl (fun s'' I'' ⟨a,sb,ha⟩=>?_) hf)
 refine⟨mm,hm.sameBut sb ?_,fun h' sb'=>⟨_,H',h7 _ s'' h' I'' sb',q D ys H' h1 h2 h3 h4⟩⟩
 rcases ha with ha|ha
 ·rw[ha];exact lc
 ·exact (cc x a ha).symm
theorem Ag2 (ok:CompOk X scope cap N') (hc:X.calm=true) (hi:PW' X tg iter fw) (hg2:∀ d d' env e1,g d env=some e1->g d' e1=g d' env)
  (hg:∀ cl C s₀ H₀ ex pn,PGD (Az X N' scope cl C s₀ H₀ ex pn) tg g) (ht:∀ cl C s₀ H₀ ex pn,PTs (Az X N' scope cl C s₀ H₀ ex pn) ifs t) (he:∀ cl C s₀ H₀ ex pn,PD (Az X N' scope cl C s₀ H₀ ex pn) elt fe)
  (hs:∀ x,foldedSetIterable iter X.env x=pure x):PF X (.ListComp elt [⟨tg,iter,ifs,0⟩] scope pos) (Bq cap (N'.length - cap.length) fw g t fe) :=
 Ab5 (Φ:=fun _=>True) ok hc hi hg2 (fun _=>trivial) (fun a b c d e f _=>hg a b c d e f) (fun a b c d e f _=>ht a b c d e f) (fun a b c d e f _=>he a b c d e f) hs
theorem R3 (ok:CompOk X scope cap N') (hc:X.calm=true) (hi:PW' X tg iter fw) (hg2:∀ d d' env e1,g d env=some e1->g d' e1=g d' env)
  (hg:∀ cl C s₀ H₀ ex pn,PGD (Az X N' scope cl C s₀ H₀ ex pn) tg g) (ht:∀ cl C s₀ H₀ ex pn,PTs (Az X N' scope cl C s₀ H₀ ex pn) ifs t) (he:∀ cl C s₀ H₀ ex pn,PD (Az X N' scope cl C s₀ H₀ ex pn) elt fe)
  (hs:∀ x,foldedSetIterable iter X.env x=pure x) (hsw:swapsWith (.ListComp elt [⟨tg,iter,ifs,0⟩] scope pos) (some (.Name x p')) spos.line X.env=pure true) (hN:X.N.Nodup) (hn:X.N[i]?=some x) (hx:Loc X.env.scope x) (hf:X.fn x=true\/X.env.scope.names.lookup x=some .local) :
  PS X (.Assign [.Name x p'] (.ListComp elt [⟨tg,iter,ifs,0⟩] scope pos) spos) (Aip (tF X.K (Bq cap (N'.length - cap.length) fw g t fe)) (Uw i)) :=
 Xh (Φ:=fun _=>True) ok hc hi hg2 (fun _=>trivial) (fun a b c d e f _=>hg a b c d e f) (fun a b c d e f _=>ht a b c d e f) (fun a b c d e f _=>he a b c d e f) hs hsw hN hn hx hf
theorem Ach (h:PS X (.Assign [.Name x p'] (.ListComp elt [⟨tg,iter,ifs,0⟩] scope pos) spos) (Aip (tF X.K (Bq cap (N'.length - cap.length) fw g t fe)) (Uw i))) :
  PSD X (.Assign [.Name x p'] (.ListComp elt [⟨tg,iter,ifs,0⟩] scope pos) spos) (Br i (Cq (Bq cap (N'.length - cap.length) fw g t fe))):=PS.imp h fun D σ H ⟨env,μ,m,o,S,E,h,q⟩=>by
 obtain⟨d,h1,h2⟩:=bind_some h
 obtain⟨ds,h0,h1⟩:=bind_some h1
 cases h1
 cases h2
 exact⟨env,μ,m,ds,S,E,h0,fun a xs H' s hn ha r=>q _ H' μ (Step.of_same s) (S.same s) ((E.same s).set i (.lst (.inl ha) (S.nnone hn) r.unw))⟩
theorem Acf (h:PS X (.Assign [.Name x p'] (.ListComp elt [⟨tg,iter,ifs,0⟩] scope pos) spos) (Aip (tF X.K (Bq cap (N'.length - cap.length) fw g t fe)) (Uw i))) :
  PSD X (.Assign [.Name x p'] (.ListComp elt [⟨tg,iter,ifs,0⟩] scope pos) spos) (Gg i (Bq cap (N'.length - cap.length) fw g t fe)):=PS.imp h fun D σ H ⟨env,μ,m,o,S,E,h,q⟩=>by
 obtain⟨ds,h1,h2⟩:=bind_some h
 cases h2
 refine⟨env,μ,m,ds,S,E,h1,fun a xs H' s hn ha r=>?_⟩
 obtain⟨st,S'⟩:=S.push s hn ha r
 exact q _ H' _ st S' ((E.step S st).set i (Mv S.len))
end
end
end ML
end L2
end S_ML7
section S_ML8
namespace L2
namespace ML
open PySem PySem.Spec PyProof.Rows
open Classical
noncomputable section
noncomputable def Its (x:Str):It:=⟨fun i _=>i < x.cps.size,fun i H v H'=>H'=H/\∃ c,x.cps[i]?=some c/\v=.str ⟨#[c]⟩,fun i _=>x.cps.size<=i⟩
theorem Ac4 {P:Program}{w:World}{K:W.Frag}{tg:Expr} (it:Addr) (ty:String) (x:Str) (t:Tok) (hty:ty="str_ascii_iterator"\/ty="str_iterator"):Turn P w K tg (Its x) [it] it (fun i h=>h.IsStrIter it ty x t i) where
 mem:=by simp
 obj:=fun i h st b hb=>by
  have e:b=it:=by simpa using hb
  subst e
  obtain⟨o,e,c,d⟩:=st
  exact⟨o,e,fun v z=>by rw[d] at z;cases z⟩
 keep:=fun i h h' st k=>by
  obtain⟨o,e,c,d⟩:=st
  exact⟨o,k it (by simp) o e,c,d⟩
 item:=by
  intro X hP hw hK hc i pins s σ H E I hf st hg
  subst hP hw hK
  obtain⟨f0,f1,f2,f3,f4,f5⟩:=hf it (by simp)
  have hi:i < x.cps.size:=hg
  have hx:x.cps[i]?=some x.cps[i]:=by simp[hi]
  have fin:∀ h',h'.IsStrIter it ty x t (i+1)->Heap.SameBut it s.heap h'->∃ u,some (Value.str ⟨#[x.cps[i]]⟩ s.toks)=some u /\
    wpAny (model X.prog X.w) X.A (letOwnedTupleGo tg (.ref it) u) (fun _ s2=>∃ y H',Inv X pins σ H' s2/\RelV y u/\(Its x).yld i H y H'/\s2.heap.IsStrIter it ty x t (i+1)/\∀ b∈[it],H' b=none) E { s with heap:=h',toks:=s.toks+1 }:=fun h' st' sb=>by
   have I1:Inv X pins σ H { s with heap:=h',toks:=s.toks+1 }:=I.turned (fun b o hb e=>(sb.2 b hb).trans e) f0 f1 f3 f4 f5
   obtain⟨o,e,c,d⟩:=id st'
   refine⟨_,rfl,Abi (s:={ s with heap:=h',toks:=s.toks+1 }) e c d (by rcases hty with rfl|rfl<;>decide) ⟨.str ⟨#[x.cps[i]]⟩,H,I1,⟨_,rfl⟩,⟨rfl,_,hx,rfl⟩,st',fun b hb=>(hf b hb).1⟩⟩
  rcases hty with rfl|rfl
  ·exact wpAny_pyNext_ascii_item st hx fun h' st' sb=>fin h' st' sb
  ·exact wpAny_pyNext_wide_item st hx fun h' st' sb=>fin h' st' sb
 done:=by
  intro X hP hw hK hc i pins s σ H E I hf st hg
  subst hP hw hK
  obtain⟨f0,f1,f2,f3,f4,f5⟩:=hf it (by simp)
  have hi:x.cps.size<=i:=hg
  rcases hty with rfl|rfl
  ·exact wpAny_pyNext_ascii_end (I.ok.hd hc) st (by simp[hi]) fun h' eb=>⟨rfl,I.turned (t':=s.toks) (fun b o hb e=>eb b o hb e) f0 f1 f3 f4 f5⟩
  ·exact wpAny_pyNext_wide_end (I.ok.hd hc) st (by simp[hi]) fun h' eb=>⟨rfl,I.turned (t':=s.toks) (fun b o hb e=>eb b o hb e) f0 f1 f3 f4 f5⟩
 self:=fun _ _ _ _ _ st h=>by
  rcases hty with rfl|rfl
  ·exact wpAny_pyIter_striter_ascii st h
  ·exact wpAny_pyIter_striter_wide st h
noncomputable def J9 (z:Str):List D:=z.cps.toList.map fun c=>.str ⟨#[c]⟩
theorem Ah8 {K:W.Frag}{z:Str} (ok:PyData.strOk z=true):Src K (Its z) (J9 z) Cb (fun _ _ _=>True) where
 go:=fun H μ m i d S h _ e=>by
  unfold J9 at e
  rw[Aq9] at e
  cases q:z.cps.toList[i]? with
  |none=>rw[q] at e;cases e
  |some c =>
   rw[q] at e
   cases e
   have hi:i < z.cps.size:=by simpa using (List.getElem?_eq_some_iff.mp q).1
   have q':z.cps[i]?=some c:=by simpa using q
   refine⟨hi,fun x H' ⟨h1,c',h2,h3⟩=>?_⟩
   subst h1
   subst h3
   rw[q'] at h2
   cases h2
   exact⟨Same.refl _,.str _ (Jf ok fun c' hc=>by rw[show c'=c by simpa using hc];exact Aq4 q)⟩
 stop:=fun H μ m S h _=>by show z.cps.size<=(J9 z).length;unfold J9;simp
 keep:=fun H μ m H' μ' m' h S st S'=>trivial
section
variable {X:Cx}{a b c e o':Expr}{es:List Expr}{pos p p' apos cpos spos:Pos}{x:Str}{tg:Expr}{id:String}
def Ed (f:FE):FW:=fun env m=>(f env m).bind fun d=>match d with
 |.str z=>some ⟨J9 z,Cb⟩
 |.tup ds=>some ⟨ds,Cb⟩
 |.lst ds=>some ⟨ds,Cb⟩
 |.kl ds=>some ⟨ds,Cb⟩
 |.ref n=>(match m[n]? with
  |some (.lst ds)=>some ⟨ds,fun m'=>m'[n]?=some (.lst ds)⟩
  |_=>none)
 |_=>none
theorem Ali {f:FE} (h:PD X e f):PW' X tg e (Ed f):=by
 intro pins s σ H R I hw
 obtain⟨env,μ,m,w,S,E,hw,q⟩:=hw
 obtain⟨d,h1,h2⟩:=bind_some hw
 refine thn (h pins s σ H (fun v H1=>Same H H1/\Rep X.K H1 μ (·∈μ) d v) I ⟨env,μ,m,d,S,E,h1,fun v H1 s1 r1=>⟨s1,r1⟩⟩) fun u s1 ⟨v,H1,I1,r1,s1',rx⟩=>?_
 have lst:∀ {a:Addr}{xs:List V},u=.ref a->SqL X.K H1 a xs->R (Itl X.K a) H1->wpAny (model X.prog X.w) X.A (pyIter u) (PIE X pins σ tg R) X.xe s1:=fun {a xs} e hq hR=>by
  subst e
  obtain⟨its,rv,p,hz⟩:=I1.list hq
  refine wpAny_pyIter_list p.isList ?_
  refine⟨s1.heap.objs.size,[s1.heap.objs.size],_,_,H1,rfl,I1.kept (t':=s1.toks) fun b o e=>Aqn _ e,Zo a _,⟨_,Aqt _ rfl,rfl,rfl⟩,fun b hb=>?_,hR⟩
  have e:b=s1.heap.objs.size:=by simpa using hb
  subst e
  exact I1.fpOk (Aqo _) (I1.hok.fresh (Aqo _))
 have rx0:=rx
 cases rx with
 |str z ok =>
  cases h2
  obtain⟨t,rfl⟩:=r1
  have fin:∀ ty,(ty="str_ascii_iterator"\/ty="str_iterator")->PIE X pins σ tg R (.ref s1.heap.objs.size) { s1 with heap:=s1.heap.push { cls:=.type ty,data:=.fields #[.str z t,.int 0 0] } }:=fun ty hty=>by
   refine⟨s1.heap.objs.size,[s1.heap.objs.size],_,_,H1,rfl,I1.kept (t':=s1.toks) fun b o e=>Aqn _ e,Ac4 _ ty z t hty,⟨_,Aqt _ rfl,rfl,rfl⟩,fun b hb=>?_,q H1 _ _ s1' (Ah8 ok) trivial⟩
   have e:b=s1.heap.objs.size:=by simpa using hb
   subst e
   exact I1.fpOk (Aqo _) (I1.hok.fresh (Aqo _))
  cases ha:z.cps.all (· < 128)
  ·exact wpAny_pyIter_wide ha (fin _ (.inr rfl))
  ·exact wpAny_pyIter_ascii ha (fin _ (.inl rfl))
 |@tup ds a xs hq rs =>
  cases h2
  cases r1
  obtain⟨its,rv,p,hz⟩:=I1.tuple hq
  refine wpAny_pyIter_tuple (show s1.heap.IsTuple a its.toArray from p) ?_
  refine⟨s1.heap.objs.size,[s1.heap.objs.size],_,_,H1,rfl,I1.kept (t':=s1.toks) fun b o e=>Aqn _ e,Vo a _,⟨_,Aqt _ rfl,rfl,rfl⟩,fun b hb=>?_,q H1 _ _ s1' Ah9 rx0⟩
  have e:b=s1.heap.objs.size:=by simpa using hb
  subst e
  exact I1.fpOk (Aqo _) (I1.hok.fresh (Aqo _))
 |@lst ds a xs hq _ rs=>cases h2;exact lst r1 (.inl hq) (q H1 _ _ s1' Ah6 rx0)
 |@kl ds a xs hq rs=>cases h2;exact lst r1 hq.sq (q H1 _ _ s1' Aly rx0)
 |dic _ _ _ _=>cases h2
 |dks _ _ _ _=>exact Aj h2
 |fn _=>exact Aj h2
 |@ref n a e =>
  simp only at h2
  cases q':m[n]? with
  |none=>simp[q'] at h2
  |some ob =>
   simp only[q'] at h2
   cases ob with
   |dcs _ _=>cases h2
   |dct _ _=>cases h2
   |lst ds =>
    cases h2
    obtain⟨xs,e1,rs⟩:=(S.same s1').obj n a _ e q'
    exact lst r1 (SqL.of e1) (q H1 _ _ s1' Ah7 e)
 |non=>exact Aj h2
 |bl _=>exact Aj h2
 |int _=>exact Aj h2
theorem Sim.write {K:W.Frag}{H:Hp}{μ:List Addr}{m:MH}{n:Nat}{a:Addr}{ds es:List D}{ys:List V} (S:Sim K H μ m) (h1:μ[n]?=some a) (h2:m[n]?=some (.lst ds)) (r:Reps K H μ (·∈μ) es ys) :
  Step H μ (upd H a (.lst ys)) μ/\Sim K (upd H a (.lst ys)) μ (m.set n (.lst es))/\∀ {d:D}{v:V},Rep K H μ (·∈μ) d v->Rep K (upd H a (.lst ys)) μ (·∈μ) d v:=by
 have ha:a∈μ:=Aq4 h1
 have st:Step H μ (upd H a (.lst ys)) μ:=⟨⟨[],by simp,by simp⟩,fun b o e hb=>by rw[A0 fun z=>hb (by rw[z];exact ha)];exact e⟩
 have nl:n < m.length:=(List.getElem?_eq_some_iff.mp h2).1
 refine⟨st,⟨S.nd,by simp[S.len],fun j b o h3 h4=>?_⟩,fun r=>r.step S st⟩
 by_cases hj:j=n
 ·subst hj
  rw[h1] at h3
  cases h3
  rw[Ar1 nl] at h4
  cases h4
  exact⟨ys,Be,r.step S st⟩
 ·rw[Asl (Asr hj)] at h4
  have q:=S.obj j b o h3 h4
  have hb:b≠a:=fun z=>hj (by
   subst z
   exact (List.getElem_inj S.nd).mp ((List.getElem?_eq_some_iff.mp h3).2.trans (List.getElem?_eq_some_iff.mp h1).2.symm))
  cases o with
  |lst fs=>obtain⟨zs,q1,q2⟩:=q;exact⟨zs,by rw[A0 hb];exact q1,q2.step S st⟩
  |dcs ks vs=>obtain⟨zs,q1,q2,q3⟩:=q;exact⟨zs,by rw[A0 hb];exact q1,q2,q3.step S st⟩
  |dct ks vs=>obtain⟨zs,q1,q2,q3⟩:=q;exact⟨zs,by rw[A0 hb];exact q1,q2,q3.step S st⟩
def Anp (X:Cx) (r:V->List V->Hp->VK->Prop) (o:List D->List D->Option (List D)):Prop :=
 ∀ (μ:List Addr) (H:Hp) (a:Addr) (xs vs:List V) (ds es fs:List D) (Q:VK),H a=some (.lst xs)->a∈μ->Reps X.K H μ (·∈μ) ds xs->Reps X.K H μ (·∈μ) es vs->o ds es=some fs->(∀ ys,Reps X.K H μ (·∈μ) fs ys->Q .non (upd H a (.lst ys)))->r (.ref a) vs H Q
noncomputable def Pn (o:List D->List D->Option (List D)) (f:FE) (g:FL):FS:=fun env m=>(f env m).bind fun d=>match d with
 |.ref n=>(g env m).bind fun es=>(match m[n]? with
  |some (.lst ds)=>(o ds es).bind fun fs=>some (.nx env (m.set n (.lst fs)))
  |_=>none)
 |_=>none
theorem Yz {r:V->List V->Hp->VK->Prop}{o:List D->List D->Option (List D)}{f:FE}{g:FL}{name:Str} (pa:PlainAttrs "list") (slot:Slot "list" name id) (hty:typeOf (.builtin id)=pure (.type "method_descriptor")) (hm:MtR X id r) (ho:Anp X r o) (hf:PD X o' f) (ha:PL X (e::es) g)
  (hbase:attributeBase o' name X.env (eval o' X.env)=eval o' X.env)
  (hfew:((backTo cpos (starEach (e::es) X.env)).all (fun x=>!x.1)&&(backToKw cpos (keywordEach [] X.env)).all (fun x=>x.1.isSome)
   &&decide ((e::es).length+([]:List Keyword).length+(if ([]:List Keyword).isEmpty then 0 else 1) < 30))=true)
  (hline:(apos.endLine == cpos.line)=true) (hs:starEach (e::es) X.env=(false,eval e X.env)::starEach es X.env) (hplain:(backTo cpos (starEach es X.env)).any (·.1)=false) :
  PSD X (.Expr (.Call (.Attribute o' name apos) (e::es) [] cpos) spos) (Pn o f g):=PS.imp (Aha (Aoy pa slot hty hm hf ha hbase hfew hline hs hplain)) fun D σ H ⟨env,μ,m,ob,S,E,h,q⟩=>by
 obtain⟨d,h1,h⟩:=bind_some h
 refine⟨env,μ,m,d,S,E,h1,fun v H1 s1 r1=>?_⟩
 cases r1 with
 |@ref n a e =>
  simp only at h
  obtain⟨es,h2,h⟩:=bind_some h
  cases q':m[n]? with
  |none=>simp[q'] at h
  |some mo =>
   simp only[q'] at h
   cases mo with
   |dcs _ _=>cases h
   |dct _ _=>cases h
   |lst ds =>
    simp only at h
    obtain⟨fs,h3,h⟩:=bind_some h
    cases h
    obtain⟨xs,e1,rs⟩:=(S.same s1).obj n a _ e q'
    refine⟨.inl ⟨rfl,xs,SqL.of e1⟩,env,μ,m,es,S.same s1,E.same s1,h2,fun vs H2 s2 r2=>?_⟩
    have S2:=S.same (s1.trans s2)
    refine ho μ H2 a xs vs ds es fs _ (s2 _ _ e1) (Aq4 e) (rs.same s2) r2 h3 fun ys ry=>?_
    obtain⟨st,S3,up⟩:=S2.write e q' ry
    exact q σ _ μ ((Step.of_same (s1.trans s2)).trans st fun c hc=>(s1.trans s2).free hc) S3 ((E.same (s1.trans s2)).step S2 st)
 |_=>exact Aj h
noncomputable def Vu:List D->List D->Option (List D):=fun ds es=>match es with
 |[d]=>if ds.length < 1000000 then some (ds++[d]) else none
 |_=>none
theorem Aju:Anp X Y8 Vu:=fun μ H a xs vs ds es fs Q h1 ha rs re h q=>by
 match es,h with
 |[d],h =>
  unfold Vu at h
  simp only at h
  split at h
  ·rename_i hl
   cases h
   obtain⟨v,rfl,r⟩:=re.one
   exact⟨a,xs,v,rfl,rfl,h1,by rw[<- rs.length];have:sizeLine=16777216:=Ar8;lia,q _ (rs.append (.cons r .nil))⟩
  ·cases h
end
end
end ML
end L2
end S_ML8
section S_ML8a
namespace L2
namespace ML
open PySem PySem.Spec PyProof.Rows
noncomputable def B5:Expr->Bool
 |.Starred ..=>false
 |_=>true
noncomputable def Ml:Expr->Bool
 |.ListComp ..=>false|.SetComp ..=>false|.DictComp ..=>false
 |_=>true
noncomputable def Ady:Expr->Bool
 |.UnaryOp ..=>false|.BoolOp ..=>false|.IfExp ..=>false|.Compare ..=>false
 |_=>true
noncomputable def Aoh:Expr->Bool
 |.Slice ..=>false
 |_=>true
noncomputable def Gu:Expr->Bool
 |.Set ..=>false
 |_=>true
noncomputable def Tu:Expr->Bool
 |.Call ..=>false
 |_=>true
theorem Aq (h:B5 e=true):starEach (e::es) env=(false,eval e env)::starEach es env:=by
 cases e<;>first|rfl|cases h
theorem Ez {pos:Pos}{env:Env}:∀ {es:List Expr},es.all B5=true->(backTo pos (starEach es env)).any (·.1)=false
 |[],_=>rfl
 |e::es,h=>by
  rw[Asa,Aq1] at h
  rw[Aq h.1]
  have ih:=Ez (pos:=pos) (env:=env) h.2
  unfold backTo at ih ⊢
  rw[Aqs,Arx,ih]
  rfl
theorem Ue {pos:Pos}{env:Env}:∀ {es:List Expr},es.all B5=true->(backTo pos (starEach es env)).all (fun x=>!x.1)=true
 |[],_=>rfl
 |e::es,h=>by
  rw[Asa,Aq1] at h
  rw[Aq h.1]
  have ih:=Ue (pos:=pos) (env:=env) h.2
  unfold backTo at ih ⊢
  rw[Aqs,Asa,ih]
  rfl
theorem Ug {pos:Pos} (h:es.all B5=true) (hl:decide (es.length < 30)=true):((backTo pos (starEach es env)).all (fun x=>!x.1)&&(backToKw pos (keywordEach [] env)).all (fun x=>x.1.isSome)
   &&decide (es.length+([]:List Keyword).length+(if ([]:List Keyword).isEmpty then 0 else 1) < 30))=true:=by
 rw[Ue h]
 have hl:=Arq hl
 have e:es.length+([]:List Keyword).length+(if ([]:List Keyword).isEmpty then 0 else 1)=es.length:=rfl
 rw[e,Art hl]
 rfl
theorem Gi {t:Option Expr}{l:Nat} (h:Ml e=true):swapsWith e t l env=pure false:=by
 cases e<;>first|rfl|cases h
theorem Ui {e t:Expr}{l:Nat} (h:Ml e=true):swapsWithSole [t] e l env=pure false:=Gi h
theorem Vl (h:Ady e=true):∀ whole,isTrue e env whole=(do let v <- whole;standAt e.pos;holding [v] (truthy v)):=by
 intro whole
 cases e<;>first|rfl|cases h
theorem Tb (h:Aoh e=true):Lg e:=by
 intro o i
 cases e<;>first|rfl|cases h
theorem D6 (h:Gu e=true):∀ x,foldedSetIterable e env x=pure x:=by
 intro x
 cases e<;>first|rfl|cases h
theorem E9 (h:Tu e=true):attributeBase e n env (eval e env)=eval e env:=by
 cases e<;>first|rfl|cases h
theorem J0 (h:Gu e=true):behindInMarks op e=false:=by
 cases e<;>first|rfl|cases h
open Classical
noncomputable section
def H4 (scope outer:Scope) (N N':List Str) (cap:List Nat):Bool :=
 scope.kind == .function&&scope.names.all (fun y=>y.2 != .cell||scope.names.lookup y.1 == some .cell)&&scope.names.all (fun y=>y.2 != .local||scope.names.lookup y.1 == some .local)
 &&scope.names.all (fun y=>y.2 != .free||(outer.names.lookup y.1 == some .cell||outer.names.lookup y.1 == some .free))&&decide N'.Nodup&&decide (cap.length<=N'.length)
 &&(List.range cap.length).all fun j=>match cap[j]?,N'[j]? with
  |some i,some x=>N[i]? == some x&&scope.names.lookup x == some .free
  |_,_=>false
theorem CompOk.of {cap:List Nat} (h:H4 scope X.env.scope X.N N' cap=true):CompOk X scope cap N':=by
 unfold H4 at h
 simp only[Aq1] at h
 obtain⟨⟨⟨⟨⟨⟨h1,h2⟩,h3⟩,h4⟩,h5⟩,h6⟩,h7⟩:=h
 refine⟨by simpa using h1,fun y hy e=>?_,fun y hy e=>?_,fun y hy e=>?_,Arq h5,Arq h6,fun j i x e1 e2=>?_⟩
 ·have:=List.all_eq_true.mp h2 y hy
  rw[e] at this
  simpa using this
 ·have:=List.all_eq_true.mp h3 y hy
  rw[e] at this
  simpa using this
 ·have:=List.all_eq_true.mp h4 y hy
  rw[e] at this
  simpa using this
 ·have hj:j < cap.length:=(List.getElem?_eq_some_iff.mp e1).1
  have:=List.all_eq_true.mp h7 j (List.mem_range.mpr hj)
  rw[e1,e2] at this
  simpa using this
theorem Cc (i:Nat):∀ d d' env e1,Ao i d env=some e1->Ao i d' e1=Ao i d' env:=fun d d' env e1 h=>by
 cases h
 unfold Ao
 rw[List.set_set]
structure QD (X:Cx) (e:Expr) (f:FE):Prop where out:PD X e f
structure QF (X:Cx) (e:Expr) (f:FL):Prop where out:PF X e f
structure QB (X:Cx) (e:Expr) (f:FB):Prop where out:PB X e f
structure QWB (X:Cx) (e:Expr) (f:FB):Prop where out:PWB X e f
structure QL (X:Cx) (e:List Expr) (f:FL):Prop where out:PL X e f
structure QO (X:Cx) (e:Option Expr) (f:FO):Prop where out:PO' X e f
structure QS (X:Cx) (e:Stmt) (f:FS):Prop where out:PSD X e f
structure QSs (X:Cx) (e:List Stmt) (f:FS):Prop where out:Zu X e f
structure QG (X:Cx) (e:Expr) (f:FG):Prop where out:PGD X e f
structure QGs (X:Cx) (e:List Expr) (f:List D->A2->Option A2):Prop where out:Aiq X e f
structure QW (X:Cx) (tg e:Expr) (f:FW):Prop where out:PW' X tg e f
structure QTs (X:Cx) (e:List Expr) (f:FB):Prop where out:PTs X e f
theorem Apo {P:Program}{w:World}{K:W.Frag}{mg:Str->Option Value}{base:Heap}{x qual:Str}{st:Stmt}{f:Addr}{fd:FuncData}{N ps:List Str}{k n:Nat} (F:Fun K x qual st f fd) (S:FnScope N ps (A5 st)) (g:FS) (fn:List D->Option D) (hfn:fn=Dp N.length g) (hn:ps.length=n)
  (hbody:∀ (cdv:Value) (A:Around) (outer:List Env) (s:Shared) (H:Hp) (E:XK),Room k (A.deeper (envOfC qual (A5 st) s.heap.objs.size f cdv)) ->
   QSs (Aa8 CX0 P w K mg base N qual (A5 st) f cdv A outer s H E).nox (Cy st) g):FnOk P w K mg base CX0 (k+1) f fd ps (spP K n fn):=by
 subst hfn hn
 exact Afl F S fun cdv A outer s H E hr=>(hbody cdv A outer s H E hr).out
theorem C6:QTs X [] M4:=⟨Ahl⟩
theorem G1 (h:QB X c f):QTs X [c] f:=⟨Ahm h.out⟩
section
variable {X:Cx}{a b c e:Expr}{es:List Expr}{pos p p' apos cpos spos:Pos}{x:Str}{tg:Expr}{id:String}
theorem Ad {i j}:QD X (.Constant (.int i) j pos) (fC (.int i)):=⟨Akr⟩
theorem Aea {i j}:QD X (.Constant (.bool i) j pos) (fC (.bl i)):=⟨Aos⟩
theorem Y5 {j}:QD X (.Constant .none j pos) (fC .non):=⟨Aku⟩
theorem Au (ho:OpM X (binaryOp op) o) (ha:QD X a f) (hb:QD X b g):QD X (.BinOp a op b pos) (f2 o f g):=⟨Akp ho ha.out hb.out⟩
theorem Ao5 (ha:QD X a f):QD X (.UnaryOp .Not a pos) (Xp f):=⟨Akv ha.out⟩
theorem Ahv {op} (h:QD X a f):QD X (.BoolOp op [a] pos) f:=⟨Akw h.out⟩
theorem Alm (ha:QD X a f) (hb:QD X (.BoolOp .And (b::es) pos) g):QD X (.BoolOp .And (a::b::es) pos) (Ut f g):=⟨Ako ha.out hb.out⟩
theorem Ap9 (ha:QD X a f) (hb:QD X (.BoolOp .Or (b::es) pos) g):QD X (.BoolOp .Or (a::b::es) pos) (Ajj f g):=⟨Aov ha.out hb.out⟩
theorem App {t:FB} (hc:QB X c t) (ha:QD X a f) (hb:QD X b g):QD X (.IfExp c a b pos) (fIf t f g):=⟨Aot hc.out ha.out hb.out⟩
theorem As {x1} (h:QL X es g):QD X (.Tuple es x1 pos) (B0 g):=⟨Aky h.out⟩
theorem Do (h:QL X es g):QF X (.List es pos) (Bz g):=⟨Ak9 h.out⟩
theorem C3 (h:QF X e g):QD X e (Cq g):=⟨Ab2 h.out⟩
theorem Ae:QL X [] Ak:=⟨Alc⟩
theorem Dz:QO X none fNo:=⟨Aca⟩
theorem Bp (h:QD X e f):QO X (some e) (C2 f):=⟨Acb h.out⟩
theorem Ahx {f:FE}{l h:FO}{lo hi:Option Expr} (ha:QD X a f) (hl:QO X lo l) (hh:QO X hi h):QD X (.Subscript a (.Slice lo hi none p) pos) (fSl f l h):=⟨Aow ha.out hl.out hh.out⟩
theorem Vg {f:FE}{l h:FO}{lo hi:Option Expr} (ha:QD X a f) (hl:QO X lo l) (hh:QO X hi h):QF X (.Subscript a (.Slice lo hi none p) pos) (Zv f l h):=⟨Ao1 ha.out hl.out hh.out⟩
theorem Acp (ha:QD X a f) (hb:QD X b g):QF X (.BinOp a .Add b pos) (Adl f g):=⟨Ak8 ha.out hb.out⟩
theorem Ao4 {j} (ha:QD X a f):QD X (.Compare a [.Is] [.Constant .none j p] pos) (f1 Adx f):=⟨Aks ha.out⟩
theorem Aln {j} (ha:QD X a f):QB X (.Compare a [.Is] [.Constant .none j p] pos) (A4 (f1 Adx f)):=⟨Akl ha.out⟩
theorem Er (ha:QB X a f):QWB X (.BoolOp .And [a] pos) f:=⟨Acm ha.out⟩
theorem Y6 (ha:QB X a f):QWB X (.BoolOp .Or [a] pos) f:=⟨Ahp ha.out⟩
theorem I0 (ha:QB X a f) (hb:QWB X (.BoolOp .And (b::es) pos) g):QWB X (.BoolOp .And (a::b::es) pos) (Vs f g):=⟨Aho ha.out hb.out⟩
theorem Ahy (ha:QB X a f) (hb:QWB X (.BoolOp .Or (b::es) pos) g):QWB X (.BoolOp .Or (a::b::es) pos) (fOr f g):=⟨Alk ha.out hb.out⟩
theorem C9 (h:QWB X (.BoolOp op es pos) f):QB X (.BoolOp op es pos) f:=⟨Agw h.out⟩
theorem Oc (ha:QB X a f):QB X (.UnaryOp .Not a pos) (Abe f):=⟨Akm ha.out⟩
theorem B6 (h:QD X e f):QW X tg e (Ed f):=⟨Ali h.out⟩
theorem Dx:QGs X [] Nm:=⟨Ab7⟩
variable {st:Stmt}{rest sa sb:List Stmt}
theorem Bc:QSs X [] Eb:=⟨Ahe⟩
theorem Af (h1:QS X st f) (h2:QSs X rest g):QSs X (st::rest) (Ba f g):=⟨Ace h1.out h2.out⟩
theorem Al (h1:QS X st f):QSs X [st] f:=⟨Ahf h1.out⟩
theorem Ap (he:QD X e f):QS X (.Return (some e) pos) (Cv f):=⟨Ahh he.out⟩
theorem Pk (he:QF X e f):QS X (.Return (some e) pos) (Po f):=⟨Acg he.out⟩
theorem B3 {t:FB} (hc:QB X c t) (ha:QSs X sa f) (hb:QSs X sb g):QS X (.If c sa sb pos) (sIf t f g):=⟨Ale hc.out ha.out hb.out⟩
theorem T8 (k:Nat) (hp:PassesOwn (model X.prog X.w) X.A X.env X.xe) (hc:QB X c f) (hb:QSs X body g):QS X (.While c body [] pos) (D2 f g k):=⟨Y1 k hp hc.out hb.out⟩
theorem Ah (i:Nat) (hN:X.N[i]?=some x:=by kernel_rfl) (hv:Vis X.env.scope x:=by exact Asy (by kernel_rfl)) (hd:(x == ("__debug__":Str))=false:=by decide) (hcd:(x == ("__classdict__":Str))=false:=by decide):QD X (.Name x pos) (Ai i):=⟨Ad6 i hN hv hd hcd⟩
theorem B2 (i:Nat) (hN:X.N[i]?=some x:=by kernel_rfl) (hv:Vis X.env.scope x:=by exact Or.inr (Asy (by kernel_rfl))) (hd:(x == ("__debug__":Str))=false:=by decide) (hcd:(x == ("__classdict__":Str))=false:=by decide):QD X (.Name x pos) (Ai i):=⟨Ad6 i hN hv hd hcd⟩
theorem Od {j} (ok:PyData.strOk z=true:=by exact Jp _):QD X (.Constant (.str z) j pos) (fC (.str z)):=⟨Akx ok⟩
theorem Ag (ha:QD X e f) (hr:QL X es g) (hs':B5 e=true:=by rfl):QL X (e::es) (Aa f g):=⟨Ag7 ha.out hr.out (Aq hs')⟩
theorem Gx (ho:OpM X (compareOp op) o) (ha:QD X a f) (hb:QD X b g) (hm':Gu b=true:=by rfl):QD X (.Compare a [op] [b] pos) (f2 o f g):=⟨Akq ho ha.out hb.out (J0 hm')⟩
theorem Ar (ho:OpM X (compareOp op) o) (ha:QD X a f) (hb:QD X b g) (hm':Gu b=true:=by rfl):QB X (.Compare a [op] [b] pos) (A4 (f2 o f g)):=⟨Akk ho ha.out hb.out (J0 hm')⟩
theorem Dw (ha:QD X a f) (he':Ady a=true:=by rfl):QB X a (O2 f):=⟨Akn ha.out (Vl he')⟩
theorem An (ha:QD X a f) (hb:QD X b g) (hs':Aoh b=true:=by rfl):QD X (.Subscript a b pos) (f2 oIx f g):=⟨Aou ha.out hb.out (Tb hs')⟩
theorem Co (hm:X.mg "len"=none) (ha:QL X [e] g) (hg:Gl X "len":=by unfold Gl;kernel_rfl) (he':B5 e=true:=by rfl):QD X (.Call (.Name "len" p) [e] [] pos) (Ay Jk g):=⟨Hs Ajd hg hm boot_len ha.out (by decide) (by decide) (Aq he') rfl⟩
theorem Aeb (hm:X.mg "int"=none) (ha:QL X [e] g) (hg:Gl X "int":=by unfold Gl;kernel_rfl) (he':B5 e=true:=by rfl):QD X (.Call (.Name "int" p) [e] [] pos) (Ay Agl g):=⟨Iv Ajc hg hm (by decide +kernel) ha.out (by decide) (by decide) (Aq he') rfl⟩
theorem Cg (hm:X.mg "tuple"=none) (ha:QL X [e] g) (hg:Gl X "tuple":=by unfold Gl;kernel_rfl) (he':B5 e=true:=by rfl):QD X (.Call (.Name "tuple" p) [e] [] pos) (Ay C5 g):=⟨Iv Aa6 hg hm (by decide +kernel) ha.out (by decide) (by decide) (Aq he') rfl⟩
theorem T6 (ha:QD X e f) (hm:X.mg "isinstance"=none) (hm':X.mg y=none) (hv':bootBuiltins y=some (.type U)) (hn:y≠"__name__":=by decide) (hdb:(y == ("__debug__":Str))=false:=by decide) (hg:Gl X "isinstance":=by unfold Gl;kernel_rfl) (hg':Gl X y:=by unfold Gl;kernel_rfl) (he':B5 e=true:=by rfl):QD X (.Call (.Name "isinstance" p) [e,.Name y p'] [] pos) (Adm U f):=⟨Akt ha.out hg hm hg' hm' hv' hn hdb (by decide +kernel) (Aq he') (Aq rfl) (Ez rfl)⟩
theorem Ahq {fd:FuncData} (F:FnOk X.prog X.w X.K X.mg X.base CX0 k f fd ps (spP X.K n fn)) (hr:Room k X.A) (hm:X.mg x=some (.ref f)) (hk:W.keepIn X.K (.ref f)=true) (hb:Binds X.K fd ps []) (ha:QL X (e::es) g) (hg:Gl X x:=by unfold Gl;kernel_rfl) (hdb:(x == ("__debug__":Str))=false:=by decide) (he':B5 e=true:=by rfl) (hpl':es.all B5=true:=by rfl) :
  QD X (.Call (.Name x p) (e::es) [] pos) (Ay (L3 n fn) g):=⟨Agx F hr hg hm hk hb (Agv (X:=X)) ha.out hdb (Aq he') (Ez hpl')⟩
theorem Aht {fd:FuncData} (F:FnOk X.prog X.w X.K X.mg X.base CX0 k f fd ps (spP X.K n fn)) (hr:Room k X.A) (hm:X.mg x=some (.ref f)) (hk:W.keepIn X.K (.ref f)=true) (hb:Binds X.K fd ps []) (ha:QL X (e::es) g) (hg:Gl X x:=by unfold Gl;kernel_rfl) (hdb:(x == ("__debug__":Str))=false:=by decide) (he':B5 e=true:=by rfl) (hpl':es.all B5=true:=by rfl) :
  QF X (.Call (.Name x p) (e::es) [] pos) (Dm (Jm n fn) g):=⟨Ag1 F hr hg hm hk hb (Agv (X:=X)) ha.out hdb (Aq he') (Ez hpl')⟩
theorem Gz (hf:QD X a f) (ha:QL X [e] g) (hbase':Tu a=true:=by rfl) (hline:(apos.endLine == cpos.line)=true:=by kernel_rfl) (hs':B5 e=true:=by rfl) :
  QS X (.Expr (.Call (.Attribute a "append" apos) [e] [] cpos) spos) (Pn Vu f g):=⟨Yz PySem.F.plainAttrs_list PySem.F.slot_list_append PySem.F.type_list_append Ye Aju hf.out ha.out (E9 hbase') (Ug (by rw[Asa,hs'];rfl) rfl) hline (Aq hs') rfl⟩
theorem Aw (hN:X.N.Nodup) (he:QD X e f) (hi:X.N[i]?=some x:=by kernel_rfl) (hx:Loc X.env.scope x:=by exact Asy (by kernel_rfl)) (hs':Ml e=true:=by rfl) (hf:X.fn x=true\/X.env.scope.names.lookup x=some .local:=by exact Asy (by kernel_rfl)) :
  QS X (.Assign [.Name x p'] e pos) (Br i f):=⟨Ph hN hi hx he.out (Gi hs') hf⟩
theorem Ms (hN:X.N.Nodup) (he:QD X e f) (hi:X.N[i]?=some x:=by kernel_rfl) (hx:Loc X.env.scope x:=by exact Or.inr (by kernel_rfl)) (hs':Ml e=true:=by rfl) (hf:X.fn x=true\/X.env.scope.names.lookup x=some .local:=by exact Asy (by kernel_rfl)) :
  QS X (.Assign [.Name x p'] e pos) (Br i f):=⟨Ph hN hi hx he.out (Gi hs') hf⟩
theorem G0 (hN:X.N.Nodup) (he:QF X e f) (hi:X.N[i]?=some x:=by kernel_rfl) (hx:Loc X.env.scope x:=by exact Asy (by kernel_rfl)) (hs':Ml e=true:=by rfl) (hf:X.fn x=true\/X.env.scope.names.lookup x=some .local:=by exact Asy (by kernel_rfl)) :
  QS X (.Assign [.Name x p'] e pos) (Gg i f):=⟨Ahd hN hi hx he.out (Gi hs') hf⟩
theorem Gy (hN:X.N.Nodup) (hi:X.N[i]?=some x:=by kernel_rfl) (hx:Loc X.env.scope x:=by exact Asy (by kernel_rfl)) (hf:X.fn x=true\/X.env.scope.names.lookup x=some .local:=by exact Asy (by kernel_rfl)):QG X (.Name x pos) (Ao i):=⟨Mp hN hi hx hf⟩
theorem Ahu (hN:X.N.Nodup) (hi:X.N[i]?=some x:=by kernel_rfl) (hx:Loc X.env.scope x:=by exact Or.inr (by kernel_rfl)) (hf:X.fn x=true\/X.env.scope.names.lookup x=some .local:=by exact Asy (by kernel_rfl)):QG X (.Name x pos) (Ao i):=⟨Mp hN hi hx hf⟩
theorem Ct (hN:X.N.Nodup) (hi:X.N[i]?=some x:=by kernel_rfl) (hx:Loc X.env.scope x:=by exact Asy (by kernel_rfl)) (hf:X.fn x=true\/X.env.scope.names.lookup x=some .local:=by exact Or.inr (by kernel_rfl)):QG X (.Name x pos) (Ao i):=⟨Mp hN hi hx hf⟩
theorem A8 (h1:QG X e g) (h2:QGs X es h) (hs:(assignEach (e::es) X.env).map (·.2)=assign e X.env::(assignEach es X.env).map (·.2):=by kernel_rfl):QGs X (e::es) (B1 g h):=⟨Yu h1.out h2.out hs⟩
theorem Dy (hc:X.calm=true) (h:QGs X es g) (hn:(assignEach es X.env).length=n:=by kernel_rfl) (hst:(assignEach es X.env).findIdx? (·.1)=none:=by kernel_rfl):QG X (.Tuple es k pos) (G5 n g):=⟨Ag4 hc h.out hn hst⟩
theorem Aec (he:QD X e f) (hg:QG X tg g) (hs':Ml e=true:=by rfl) (hw:swappedStores [tg] e X.env=pure none:=by kernel_rfl) (h1:(assignEach [tg] X.env).map (·.2)=[assign tg X.env]:=by kernel_rfl):QS X (.Assign [tg] e pos) (Ain f g):=⟨Ahb he.out hg.out (Ui hs') hw h1⟩
theorem Cp {iter:Expr}{body:List Stmt}{f:FW}{g:FG}{b:FS} (hp:PassesOwn (model X.prog X.w) X.A X.env X.xe) (hc:X.calm=true) (hi:QW X tg iter f) (hg:QG X tg g) (hb:QSs X body b)
  (hs':Gu iter=true:=by rfl):QS X (.For tg iter body [] pos) (J6 f g b):=⟨Ahc hp hc hi.out hg.out hb.out (D6 hs')⟩
theorem Oe (hm:X.mg "range"=none) (ha:QL X [a] g) (hg:Gl X "range":=by unfold Gl;kernel_rfl) (hs':B5 a=true:=by rfl):QW X tg (.Call (.Name "range" p) [a] [] pos) (Jh g):=⟨Y3 hg hm ha.out (Aq hs')⟩
variable {elt iter:Expr}{ifs:List Expr}{scope:Scope}{fw:FW}{g:FG}{t:FB}{fe:FE}
theorem Bo (cap:List Nat) (N':List Str) (hc:X.calm=true) (hi:QW X tg iter fw) (hg2:∀ d d' env e1,g d env=some e1->g d' e1=g d' env)
  (hg:∀ cl C s₀ H₀ ex pn,QG (Az X N' scope cl C s₀ H₀ ex pn) tg g) (ht:∀ cl C s₀ H₀ ex pn,QTs (Az X N' scope cl C s₀ H₀ ex pn) ifs t) (he:∀ cl C s₀ H₀ ex pn,QD (Az X N' scope cl C s₀ H₀ ex pn) elt fe)
  (ok:H4 scope X.env.scope X.N N' cap=true:=by kernel_rfl) (hs':Gu iter=true:=by rfl):QF X (.ListComp elt [⟨tg,iter,ifs,0⟩] scope pos) (Bq cap (N'.length - cap.length) fw g t fe):=⟨Ag2 (CompOk.of ok) hc hi.out hg2 (fun cl C s H ex pn=>(hg cl C s H ex pn).out) (fun cl C s H ex pn=>(ht cl C s H ex pn).out) (fun cl C s H ex pn=>(he cl C s H ex pn).out) (D6 hs')⟩
theorem Acn (cap:List Nat) (N':List Str) (hN:X.N.Nodup) (hc:X.calm=true) (hi:QW X tg iter fw) (hg2:∀ d d' env e1,g d env=some e1->g d' e1=g d' env) (hg:∀ cl C s₀ H₀ ex pn,QG (Az X N' scope cl C s₀ H₀ ex pn) tg g) (ht:∀ cl C s₀ H₀ ex pn,QTs (Az X N' scope cl C s₀ H₀ ex pn) ifs t) (he:∀ cl C s₀ H₀ ex pn,QD (Az X N' scope cl C s₀ H₀ ex pn) elt fe) (ok:H4 scope X.env.scope X.N N' cap=true:=by kernel_rfl) (hs':Gu iter=true:=by rfl) (hn:X.N[i]?=some x:=by kernel_rfl) (hx:Loc X.env.scope x:=by exact Asy (by kernel_rfl)) (hf:X.fn x=true\/X.env.scope.names.lookup x=some .local:=by exact Asy (by kernel_rfl)) (hsw:swapsWith (.ListComp elt [⟨tg,iter,ifs,0⟩] scope pos) (some (.Name x p')) spos.line X.env=pure true:=by kernel_rfl):QS X (.Assign [.Name x p'] (.ListComp elt [⟨tg,iter,ifs,0⟩] scope pos) spos) (Br i (Cq (Bq cap (N'.length - cap.length) fw g t fe))):=⟨Ach (R3 (CompOk.of ok) hc hi.out hg2 (fun cl C s H ex pn=>(hg cl C s H ex pn).out) (fun cl C s H ex pn=>(ht cl C s H ex pn).out) (fun cl C s H ex pn=>(he cl C s H ex pn).out) (D6 hs') hsw hN hn hx hf)⟩
theorem Mq (cap:List Nat) (N':List Str) (hN:X.N.Nodup) (hc:X.calm=true) (hi:QW X tg iter fw) (hg2:∀ d d' env e1,g d env=some e1->g d' e1=g d' env) (hg:∀ cl C s₀ H₀ ex pn,QG (Az X N' scope cl C s₀ H₀ ex pn) tg g) (ht:∀ cl C s₀ H₀ ex pn,QTs (Az X N' scope cl C s₀ H₀ ex pn) ifs t) (he:∀ cl C s₀ H₀ ex pn,QD (Az X N' scope cl C s₀ H₀ ex pn) elt fe) (ok:H4 scope X.env.scope X.N N' cap=true:=by kernel_rfl) (hs':Gu iter=true:=by rfl) (hn:X.N[i]?=some x:=by kernel_rfl) (hx:Loc X.env.scope x:=by exact Asy (by kernel_rfl)) (hf:X.fn x=true\/X.env.scope.names.lookup x=some .local:=by exact Asy (by kernel_rfl)) (hsw:swapsWith (.ListComp elt [⟨tg,iter,ifs,0⟩] scope pos) (some (.Name x p')) spos.line X.env=pure true:=by kernel_rfl):QS X (.Assign [.Name x p'] (.ListComp elt [⟨tg,iter,ifs,0⟩] scope pos) spos) (Gg i (Bq cap (N'.length - cap.length) fw g t fe)):=⟨Acf (R3 (CompOk.of ok) hc hi.out hg2 (fun cl C s H ex pn=>(hg cl C s H ex pn).out) (fun cl C s H ex pn=>(ht cl C s H ex pn).out) (fun cl C s H ex pn=>(he cl C s H ex pn).out) (D6 hs') hsw hN hn hx hf)⟩
end
end
end ML
end L2
end S_ML8a
section S_ML10
namespace L2
namespace ML
open PySem PySem.Spec PyProof.Rows
section
variable {X:Cx}{a b c e e' o':Expr}{es:List Expr}{pos p p' apos cpos spos:Pos}{x:Str}
noncomputable def E4 {α:Type} (xs:List α) (n:Nat):List α:=(List.replicate n xs).flatten
theorem Ahz {xs:List Value}{n:Nat}:List.foldl (fun x1 x2=>x1++x2) #[] (List.replicate (if xs.toArray.isEmpty=true then 0 else n) xs.toArray)=(E4 xs n).toArray:=by
 have gen:∀ (k:Nat) (acc:Array Value),List.foldl (fun x1 x2=>x1++x2) acc (List.replicate k xs.toArray)=acc++(E4 xs k).toArray:=by
  intro k
  induction k with
  |zero=>intro acc;simp[E4]
  |succ k ih=>intro acc;rw[List.replicate_succ,List.foldl_cons,ih];simp[E4,List.replicate_succ]
 cases xs with
 |nil=>simp[E4]
 |cons y ys=>rw[Aq0 (by simp),gen];simp
theorem Vals.rep (r:Vals xs us) (n:Nat):Vals (E4 xs n) (E4 us n):=by
 unfold E4
 induction n with
 |zero=>exact .nil
 |succ k ih=>rw[List.replicate_succ,List.replicate_succ,List.flatten_cons,List.flatten_cons];exact Vals.append r ih
theorem Reps.rep {K:W.Frag}{H:Hp}{μ:List Addr}{B:Addr->Prop}{ds:List D}{vs:List V} (r:Reps K H μ B ds vs) (n:Nat):Reps K H μ B (E4 ds n) (E4 vs n):=by
 unfold E4
 induction n with
 |zero=>exact .nil
 |succ k ih=>rw[List.replicate_succ,List.replicate_succ,List.flatten_cons,List.flatten_cons];exact Reps.append r ih
theorem Ja:(E4 xs n).length=xs.length * n:=by
 unfold E4
 induction n with
 |zero=>rfl
 |succ k ih=>rw[List.replicate_succ,List.flatten_cons,Aqv,ih,Nat.mul_succ];lia
theorem Akg:OpR X (binaryOp .Mult) (fun x y H Q=>∃ l xs i,x=.ref l/\y=.int i/\H l=some (.lst xs)/\0<=i/\i < 2 ^ 62/\xs.length * i.toNat<=1000000/\∀ p,H p=none->Q (.ref p) (upd H p (.lst (E4 xs i.toNat)))):=by
 intro pins s σ H x y v u Q I rx ry h
 obtain⟨l,xs,i,rfl,rfl,hl,h0,h1,hz,q⟩:=h
 cases rx
 obtain⟨t,rfl⟩:=ry
 obtain⟨z,its,n,r,hl',e⟩:=I.lstM hl
 refine wpAny_binaryOp_repeat_ref (T:="list") (U:="int") (by decide) ⟨_,e,rfl⟩ (fun s'=>typeIs_int s' i t) noFill_list_mul F.fills_int_mul F.slot_int_rmul repeat_list F.slot_int_index.lookup
  (call_meets F.slot_int_rmul (typeIs_int s i t) F.entry_int_rmul (F.args_int_rmul_2 _ _) (int___rmul___int_list i t l its.toArray n)
   ⟨e,rfl,⟨_,e,rfl⟩,call_meets F.slot_list_mul ⟨_,e,rfl⟩ F.entry_list_mul (F.args_list_mul_2 _ _)
    (AutoListH.list___mul___list_int_3 l its.toArray n i t (by simp[Builtin.List.listFitsIndex];lia) (by rw[Aqq,<- r.length];lia) (by rw[Aqq,<- r.length];simp[Builtin.List.listTooLong,sizeLine];lia))
    ⟨e,?_⟩⟩)
 rw[Ahz]
 exact⟨.ref _,_,I.lnew (t':=s.toks) (Vals.rep r i.toNat) (by rw[Ja];exact big hz),rfl,q _ I.fresh⟩
def Aik (g:FL) (f:FE):FL:=fun env m=>(g env m).bind fun xs=>(f env m).bind fun y=>match y with
 |.int i=>if 0<=i/\i < 2 ^ 62/\xs.length * i.toNat<=1000000 then some (E4 xs i.toNat) else none
 |_=>none
theorem Ahw {g:FL}{i:Int} {j} (ha:QF X a g):QF X (.BinOp a .Mult (.Constant (.int i) j p) pos) (Aik g (fC (.int i))):=⟨PE.imp (Ak3 Akg ha.out Ad7) fun σ H Q ⟨env,μ,m,d,S,E,h,q⟩=>by
 obtain⟨xs,h1,h⟩:=bind_some h
 obtain⟨y,h2,h⟩:=bind_some h
 cases h2
 simp only at h
 split at h
 ·rename_i hl
  cases h
  refine⟨env,μ,m,xs,S,E,h1,fun a ys H1 s1 hn ha1 r1=>?_⟩
  refine⟨a,ys,i,rfl,rfl,ha1,hl.1,hl.2.1,by rw[<- r1.length];exact hl.2.2,fun p hp=>q p _ _ (s1.trans (Bd hp)) (s1.free hp) Be ?_⟩
  exact Reps.fresh ((Reps.rep r1 _).up (fun _ _ _ h=>h) (fun a u _ h b=>⟨h,fun z=>b (.inl z)⟩) (fun _ _ h=>h)) hp
 ·cases h⟩
end
end ML
end L2
end S_ML10
section S_ML11
namespace L2
namespace ML
open PySem PySem.Spec PyProof.Rows PySem.SeqAt
def LtAt (A:Around) (s:Shared) (x y:Value) (k:Bool):Prop :=
 ∀ (prog:Program) (w:World) (E:Value->Shared->Prop) (Q:Value->Shared->Prop),Q (.bool k) s->wpAny (model prog w) A (richCompare .Lt x y) Q E s
inductive LexAt (A:Around) (s:Shared):List Value->List Value->Bool->Prop where
 |nil:LexAt A s [] [] false
 |short {y ys}:LexAt A s [] (y::ys) true
 |long {x xs}:LexAt A s (x::xs) [] false
 |same {x y xs ys k}:EqAt A s x y true->LexAt A s xs ys k->LexAt A s (x::xs) (y::ys) k
 |diff {x y xs ys k}:EqAt A s x y false->LtAt A s x y k->LexAt A s (x::xs) (y::ys) k
theorem LexAt.end1 {s:Shared} (h:LexAt A s xs ys k) (e:xs.zip ys=[]):k=decide (xs.length < ys.length):=by
 cases h with
 |nil=>rfl
 |short=>simp
 |long=>simp
 |same _ _=>simp at e
 |diff _ _=>simp at e
theorem Vm (l b:Addr) (xs ys:Array Value) (n n2:Nat) (dd dd2:Option Addr) (sl sl2:Array (Option Value)) (k:Bool) :
  Meets (Builtin.«tuple.__lt__» ⟨[.ref l,.ref b],[]⟩)
   (fun A R s=>(s.heap.get? l=some { cls:=.type "tuple",dict:=dd,data:=.seq xs n,slots:=sl }/\s.heap.get? b=some { cls:=.type "tuple",dict:=dd2,data:=.seq ys n2,slots:=sl2 }) /\
    LexAt A.in1 s xs.toList ys.toList k/\R (.ok (.ret (.bool k))) s) :=
 .of_wp fun prog w A R s h=>by
  obtain⟨hp,g,d,tk,os⟩:=s
  obtain⟨⟨hl,hb⟩,hx,hR⟩:=h
  have f2:=AutoSeq1.sub_tuple_tuple
  wp_walk using wpAny_loadPart' hl,wpAny_loadPart' hb,wpAny_forIn_list _ (fun rest b s'=>b.1=none/\s'=⟨hp,g,d,tk,os⟩/\∃ us ws,rest=us.zip ws/\us.length+ys.size=ws.length+xs.size/\LexAt A.in1 ⟨hp,g,d,tk,os⟩ us ws k) _
  case turn =>
   rintro ⟨y,x⟩ rest b s' ⟨hb1,rfl,us,ws,hz,hn,hx⟩
   cases hx with
   |nil=>cases hz
   |short=>cases hz
   |long=>cases hz
   |@same u v us ws _ he hx =>
    cases hz
    refine Aql (he prog w _ _ ?_)
    wp_walk
    exact⟨rfl,rfl,us,ws,rfl,by simp only[Ara] at hn;lia,hx⟩
   |@diff u v us ws _ he hk =>
    cases hz
    refine Aql (he prog w _ _ ?_)
    have hk2:∀ {E:Value->Shared->Prop}{Q:Value->Shared->Prop},Q (.bool k) ⟨hp,g,d,tk,os⟩->wpAny (model prog w) A.in1 (richCompare .Lt y x) Q E ⟨hp,g,d,tk,os⟩:=fun q=>hk prog w _ _ q
    wp_walk using hk2
    exact⟨_,rfl,hR⟩
  case fin =>
   rintro ⟨b1,b2⟩ s' ⟨hb1,rfl,us,ws,hz,hn,hx⟩
   simp only at hb1
   subst hb1
   have e:=hx.end1 hz.symm
   subst e
   wp_walk
   refine⟨_,rfl,?_⟩
   have e2:decide (us.length < ws.length)=decide (xs.size < ys.size):=by rw[As3];lia
   rw[e2] at hR
   simpa [Builtin.Tuple.tupleCompareSizes] using hR
  case h =>
   exact⟨rfl,rfl,xs.toList,ys.toList,rfl,by simp[Nat.add_comm],hx⟩
theorem LtAt.tuples {s:Shared}{l b:Addr} (hl:s.heap.IsTuple l xs) (hb:s.heap.IsTuple b ys) (hu:A.units < cLine) (hx:LexAt A.in1 s xs.toList ys.toList k):LtAt A s (.ref l) (.ref b) k:=fun prog w E Q h=>by
 obtain⟨⟨cls,dd,data,sl⟩,ho,hc,n,hd⟩:=id hl
 obtain⟨⟨cls2,dd2,data2,sl2⟩,ho2,hc2,n2,hd2⟩:=id hb
 simp only at hc hd hc2 hd2
 subst hc hd hc2 hd2
 refine richCompare_meets_room (op:=.Lt) ⟨_,ho,rfl⟩ ⟨_,ho2,rfl⟩ F.slot_tuple_lt F.entry_tuple_lt (F.args_tuple_lt_2 _ _) (Vm l b xs ys n n2 dd dd2 sl sl2 k) ⟨⟨ho,ho2⟩,hx,?_⟩ hu
 exact⟨(fun x=>nomatch x),h⟩
theorem Yb (l b:Addr) (xs ys:Array Value) (n n2:Nat) (dd dd2:Option Addr) (sl sl2:Array (Option Value)) (k:Bool):∀ (us ws:List Value) (i:Nat),xs.toList.drop i=us->ys.toList.drop i=ws->i<=xs.size->i<=ys.size ->
  Meets (Builtin.«list.__eq__.loop» ⟨[.ref l,.ref b,rawInt i,rawInt 0],[]⟩)
   (fun A R s=>(s.heap.get? l=some { cls:=.type "list",dict:=dd,data:=.seq xs n,slots:=sl }/\s.heap.get? b=some { cls:=.type "list",dict:=dd2,data:=.seq ys n2,slots:=sl2 })/\LexAt A.in1 s us ws k/\R (.ok (.ret (.bool k))) s):=by
 have none_at:∀ {zs:Array Value}{i:Nat},zs.toList.drop i=[]->zs[((i:Nat):Int).toNat]?=none:=fun {zs i} h=>by
  have:=List.drop_eq_nil_iff.mp h
  simp at this ⊢
  exact this
 have some_at:∀ {zs:Array Value}{i:Nat}{z:Value}{r:List Value},zs.toList.drop i=z::r->zs[((i:Nat):Int).toNat]?=some z/\zs.toList.drop (i+1)=r/\i+1<=zs.size:=fun {zs i z r} h=>by
  have hl:i < zs.toList.length:=by
   rcases Nat.lt_or_ge i zs.toList.length with q|q
   ·exact q
   ·rw[List.drop_eq_nil_of_le q] at h;cases h
  have e:=Asn hl
  rw[h] at e
  obtain⟨e1,e2⟩:=List.cons.inj e
  have hl':i < zs.size:=by simpa using hl
  refine⟨?_,e2.symm,hl'⟩
  rw[e1]
  simp[hl']
 intro us
 induction us with
 |nil =>
  intro ws i hx hy hi1 hi2 prog w A R s h
  obtain⟨hp,g,d,tk,os⟩:=s
  obtain⟨⟨hl,hb⟩,hL,hR⟩:=h
  have e1:=none_at hx
  have z1:xs.size=i:=by have:=List.drop_eq_nil_iff.mp hx;simp at this;lia
  have hk:k=decide (xs.size < ys.size):=by
   cases hL with
   |nil =>
    have:ys.size=i:=by have:=List.drop_eq_nil_iff.mp hy;simp at this;lia
    rw[z1,this];simp
   |short =>
    have:=(some_at hy).2.2
    rw[Art (by lia)]
  subst hk
  wp_walk using wpAny_loadPart' hl,wpAny_loadPart' hb
  rw[e1]
  wp_walk using wpAny_loadPart' hl,wpAny_loadPart' hb
  exact hR
 |cons u us ih =>
  intro ws i hx hy hi1 hi2 prog w A R s h
  obtain⟨hp,g,d,tk,os⟩:=s
  obtain⟨⟨hl,hb⟩,hL,hR⟩:=h
  obtain⟨e1,x2,x3⟩:=some_at hx
  cases hL with
  |long =>
   have e2:=none_at hy
   have hk:decide (xs.size < ys.size)=false:=by
    have:ys.size=i:=by have:=List.drop_eq_nil_iff.mp hy;simp at this;lia
    rw[Arh (by lia)]
   rw[<- hk] at hR
   wp_walk using wpAny_loadPart' hl,wpAny_loadPart' hb
   rw[e1,e2]
   wp_walk using wpAny_loadPart' hl,wpAny_loadPart' hb
   exact hR
  |@same _ y _ ws _ he hx' =>
   obtain⟨e2,y2,y3⟩:=some_at hy
   have hc:((i:Int)+1)=((i+1:Nat):Int):=by push_cast;rfl
   wp_walk using wpAny_loadPart' hl,wpAny_loadPart' hb
   rw[e1,e2]
   refine Aql (he prog w _ _ ?_)
   wp_walk
   rw[hc]
   exact⟨plainId_quiet As1 _,codeAny_builtin MeetsSeq3.entry_eq_loop (by
    rw[Around.under_plainId As1 _]
    exact ih ws (i+1) x2 y2 x3 y3 prog w A R _ ⟨⟨hl,hb⟩,hx',hR⟩)⟩
  |@diff _ y _ ws _ he hk =>
   obtain⟨e2,y2,y3⟩:=some_at hy
   wp_walk using wpAny_loadPart' hl,wpAny_loadPart' hb
   rw[e1,e2]
   refine Aql (he prog w _ _ ?_)
   have hk2:∀ {E:Value->Shared->Prop}{Q:Value->Shared->Prop},Q (.bool k) ⟨hp,g,d,tk,os⟩->wpAny (model prog w) A.in1 (richCompare .Lt u y) Q E ⟨hp,g,d,tk,os⟩:=fun q=>hk prog w _ _ q
   wp_walk using wpAny_loadPart' hl,wpAny_loadPart' hb
   rw[e1,e2]
   wp_walk using hk2
   exact hR
theorem X7 (l b:Addr) (xs ys:Array Value) (n n2:Nat) (dd dd2:Option Addr) (sl sl2:Array (Option Value)) (k:Bool) :
  Meets (Builtin.«list.__lt__» ⟨[.ref l,.ref b],[]⟩)
   (fun A R s=>(s.heap.get? l=some { cls:=.type "list",dict:=dd,data:=.seq xs n,slots:=sl }/\s.heap.get? b=some { cls:=.type "list",dict:=dd2,data:=.seq ys n2,slots:=sl2 })/\LexAt A.in1 s xs.toList ys.toList k/\R (.ok (.ret (.bool k))) s):=by
 intro prog w A R s h
 obtain⟨hp,g,d,tk,os⟩:=s
 obtain⟨⟨hl,hb⟩,hL,hR⟩:=h
 have f3:=AutoSeq1.sub_list_list
 wp_walk using wpAny_loadPart' hl,wpAny_loadPart' hb
 exact⟨plainId_quiet As1 _,codeAny_builtin MeetsSeq3.entry_eq_loop (by
  rw[Around.under_plainId As1 _]
  exact Yb l b xs ys n n2 dd dd2 sl sl2 k _ _ 0 rfl rfl (Arl _) (Arl _) prog w A R _ ⟨⟨hl,hb⟩,by simpa using hL,hR⟩)⟩
theorem LtAt.lists {s:Shared}{l b:Addr} (hl:s.heap.IsList l xs) (hb:s.heap.IsList b ys) (hu:A.units < cLine) (hx:LexAt A.in1 s xs.toList ys.toList k):LtAt A s (.ref l) (.ref b) k:=fun prog w E Q h=>by
 obtain⟨⟨cls,dd,data,sl⟩,ho,hc,n,hd⟩:=id hl
 obtain⟨⟨cls2,dd2,data2,sl2⟩,ho2,hc2,n2,hd2⟩:=id hb
 simp only at hc hd hc2 hd2
 subst hc hd hc2 hd2
 refine richCompare_meets_room (op:=.Lt) ⟨_,ho,rfl⟩ ⟨_,ho2,rfl⟩ F.slot_list_lt F.entry_list_lt (F.args_list_lt_2 _ _) (X7 l b xs ys n n2 dd dd2 sl sl2 k) ⟨⟨ho,ho2⟩,hx,?_⟩ hu
 exact⟨(fun x=>nomatch x),h⟩
mutual
def ltD:D->D->Option Bool
 |.int i,.int j=>some (decide (i < j))
 |.str i,.str j=>some (decide (i.cps.toList < j.cps.toList))
 |.tup xs,.tup ys=>Gq xs ys
 |.lst xs,.lst ys=>Gq xs ys
 |_,_=>none
def Gq:List D->List D->Option Bool
 |[],[]=>some false
 |[],_::_=>some true
 |_::_,[]=>some false
 |x::xs,y::ys=>if deq x y=true then Gq xs ys else ltD x y
end
section
variable {X:Cx}{pins:List (Addr×Obj)}{σ:St}{H:Hp}{s:Shared}{μ:List Addr}{B:Addr->Prop}
set_option tactic.hygienic true in
mutual
theorem Ads (I:Inv X pins σ H s):∀ (d d':D) {A:Around}{v v':V}{u u':Value}{k:Bool},Rep X.K H μ B d v->Rep X.K H μ B d' v'->By d=true->By d'=true->RelV v u->RelV v' u'->A.units+dep d+dep d' < cLine->ltD d d'=some k->LtAt A s u u' k
 |.int i,d',A,v,v',u,u',k,r,r',n,n',q,q',hu,h=>by
  cases d'<;>first|(simp[ltD] at h;done)|skip
  cases r;cases r'
  obtain⟨t,rfl⟩:=q
  obtain⟨t2,rfl⟩:=q'
  rw[ltD] at h
  cases h
  intro prog w E Q q
  exact lt_int q
 |.str i,d',A,v,v',u,u',k,r,r',n,n',q,q',hu,h=>by
  cases d'<;>first|(simp[ltD] at h;done)|skip
  cases r;cases r'
  obtain⟨t,rfl⟩:=q
  obtain⟨t2,rfl⟩:=q'
  rw[ltD] at h
  cases h
  intro prog w E Q q
  exact lt_str q
 |.tup ds,d',A,v,v',u,u',k,r,r',n,n',q,q',hu,h=>by
  cases d'<;>first|(simp[ltD] at h;done)|skip
  rename_i es
  cases r with
  |tup h1 r1 =>
  cases r' with
  |tup h2 r2 =>
  cases q
  cases q'
  obtain⟨its,rv,p,hz⟩:=I.tuple h1
  obtain⟨its',rv',p',hz'⟩:=I.tuple h2
  rw[ltD] at h
  rw[dep,dep] at hu
  refine LtAt.tuples p p' (by lia) ?_
  rw[By] at n n'
  exact Mf I ds es r1 r2 n n' rv rv' (by show A.units+1+_+_ < _;lia) h
 |.non,d',A,v,v',u,u',k,r,r',n,n',q,q',hu,h=>by simp[ltD] at h
 |.bl _,d',A,v,v',u,u',k,r,r',n,n',q,q',hu,h=>by simp[ltD] at h
 |.lst ds,d',A,v,v',u,u',k,r,r',n,n',q,q',hu,h=>by
  cases d'<;>first|(simp[ltD] at h;done)|skip
  rename_i es
  cases r with
  |lst h1 _ r1 =>
  cases r' with
  |lst h2 _ r2 =>
  cases q
  cases q'
  obtain⟨its,rv,p,hz⟩:=I.list (.inl h1)
  obtain⟨its',rv',p',hz'⟩:=I.list (.inl h2)
  rw[ltD] at h
  rw[dep,dep] at hu
  refine LtAt.lists p.isList p'.isList (by lia) ?_
  rw[By] at n n'
  exact Mf I ds es r1 r2 n n' rv rv' (by show A.units+1+_+_ < _;lia) h
 |.kl _,d',A,v,v',u,u',k,r,r',n,n',q,q',hu,h=>by simp[ltD] at h
 |.ref _,d',A,v,v',u,u',k,r,r',n,n',q,q',hu,h=>by simp[ltD] at h
 |.dic _ _,d',A,v,v',u,u',k,r,r',n,n',q,q',hu,h=>by simp[ltD] at h
 |.dks _ _,d',A,v,v',u,u',k,r,r',n,n',q,q',hu,h=>by simp[ltD] at h
 |.fn _ _,d',A,v,v',u,u',k,r,r',n,n',q,q',hu,h=>by simp[ltD] at h
theorem Mf (I:Inv X pins σ H s):∀ (ds es:List D) {A:Around}{vs vs':List V}{us us':List Value}{k:Bool},Reps X.K H μ B ds vs->Reps X.K H μ B es vs'->A7 ds=true->A7 es=true->Vals vs us->Vals vs' us'->A.units+E2 ds+E2 es < cLine->Gq ds es=some k->LexAt A s us us' k
 |[],es,A,vs,vs',us,us',k,r,r',n,n',q,q',hu,h=>by
  cases r
  cases q
  cases es with
  |nil=>cases r';cases q';rw[Gq] at h;cases h;exact .nil
  |cons e es =>
   cases r' with
   |cons r1 r2=>cases q' with
    |cons q1 q2=>rw[Gq] at h;cases h;exact .short
 |d::ds,es,A,vs,vs',us,us',k,r,r',n,n',q,q',hu,h=>by
  cases r with
  |cons r1 rs =>
  cases q with
  |cons q1 qs =>
  cases es with
  |nil=>cases r';cases q';rw[Gq] at h;cases h;exact .long
  |cons e es =>
   cases r' with
   |cons r2 rs2=>cases q' with
    |cons q2 qs2 =>
     rw[Gq] at h
     rw[A7,Aq1] at n n'
     rw[E2,E2] at hu
     have he:=Adj (A:=A) I r1 r2 n.1 n'.1 q1 q2 (by lia)
     by_cases hd:deq d e=true
     ·rw[Aqx hd] at h
      rw[hd] at he
      exact .same he (Mf I ds es rs rs2 n.2 n'.2 qs qs2 (by lia) h)
     ·rw[Aq0 hd] at h
      rw[Bool.eq_false_iff.mpr hd] at he
      exact .diff he (Ads I d e r1 r2 n.1 n'.1 q1 q2 (by lia) h)
end
end
section
variable {X:Cx}
def Aim:D->D->MH->Option D:=fun x y m=>(Ci m x).bind fun x'=>(Ci m y).bind fun y'=>if dep x'<=30/\dep y'<=30 then (ltD x' y').bind fun k=>some (.bl k) else none
theorem Yo (hr:Room k X.A):OpM X (compareOp .Lt) Aim:=by
 intro pins s σ H μ m x y z v u v' u' Q I S rx ry r1 r2 e q
 obtain⟨x',e1,h1⟩:=bind_some e
 obtain⟨y',e2,h1⟩:=bind_some h1
 split at h1
 ·rename_i hd
  obtain⟨b,h2,h3⟩:=bind_some h1
  cases h3
  obtain⟨a1,n1⟩:=Bf S rx e1
  obtain⟨a2,n2⟩:=Bf S ry e2
  have hu:=hr.units
  exact Ads I _ _ a1 a2 n1 n2 r1 r2 (by lia) h2 _ _ _ _ ⟨.bl b,H,I,rfl,q _ H (Same.refl H) (.bl _)⟩
 ·cases h1
end
end ML
end L2
end S_ML11
section S_ML12
namespace L2
namespace ML
open PySem PySem.Spec PyProof.Rows
section
variable {X:Cx}{a b c e e' o':Expr}{es:List Expr}{pos p p' apos cpos spos:Pos}{x:Str}
noncomputable def Yi:List D->MH->Option D:=fun xs _=>match xs with
 |[.int i,.int j]=>some (.int (if j < i then j else i))
 |_=>none
theorem Afe (hc:X.calm=true):Jl X (.builtin "min") Yi:=by
 intro pins s σ H μ m xs z vs us Q I S rx rv e q
 obtain⟨i,j,rfl⟩:∃ i j,xs=[.int i,.int j]:=by
  cases xs with
  |nil=>cases e
  |cons d ds =>
   cases d with
   |int i =>
    cases ds with
    |nil=>cases e
    |cons d ds =>
     cases d with
     |int j =>
      cases ds with
      |nil=>exact⟨i,j,rfl⟩
      |cons _ _=>exact Aj e
     |_=>cases e
   |_=>cases e
 cases e
 obtain⟨v,w,rfl,r1,r2⟩:=rx.two
 cases r1
 cases r2
 exact Xe hc pins s σ H _ us Q I rv ⟨i,j,rfl,q _ H (Same.refl H) (.int _)⟩
theorem Y4 (hc:X.calm=true) (hm:X.mg "min"=none) (ha:QL X [e,e'] g) (hg:Gl X "min":=by unfold Gl;kernel_rfl) (he':B5 e=true:=by rfl) (he2:B5 e'=true:=by rfl):QD X (.Call (.Name "min" p) [e,e'] [] pos) (Ay Yi g):=⟨Hs (Afe hc) hg hm (by decide +kernel) ha.out (by decide) (by decide) (Aq he') (by rw[Aq he2];rfl)⟩
end
section
variable {X:Cx}{a b c e:Expr}{tg:Expr}{p pos:Pos}
end
open Classical
noncomputable section
theorem Za (r:Air o u):o.isSome=u.isSome:=by
 cases o<;>cases u<;>first|rfl|exact (show False from r).elim
section
variable {X:Cx}{pins:List (Addr×Obj)}{σ:St}{H:Hp}{s:Shared}{a:Addr}
theorem X2 (I:Inv X pins σ H s):sysModules < s.heap.objs.size:=by
 have h:mainGlobals < s.heap.objs.size:=(I.mod.glob.keeps I.bk).lt
 exact Nat.lt_trans (by decide) h
end
section
variable {K:W.Frag}{H:Hp}{μ:List Addr}{B:Addr->Prop}
end
section
variable {X:Cx}{a b c e:Expr}{es:List Expr}{pos p p':Pos}{x:Str}
end
section
variable {X:Cx}{a b c e:Expr}{es:List Expr}{pos p p':Pos}{x:Str}
end
end
end ML
end L2
end S_ML12
section S_ML15
namespace L2
namespace ML
open PySem PySem.Spec PyProof.Rows
namespace RV
section
variable {prog:Program}{w:World}{A:Around}{E:Value->Shared->Prop}{s:Shared}
end
section
variable {prog:Program}{w:World}{A:Around}{s:Shared}{R:Result->Shared->Prop}
end
section
variable {prog:Program}{w:World}{A:Around}{E:Value->Shared->Prop}{s:Shared}
end
end RV
section
variable {X:Cx}{e:Expr}{pos pos' p p':Pos}
end
namespace RL
section
variable {prog:Program}{w:World}{A:Around}{E:Value->Shared->Prop}{s:Shared}
end
section
variable {prog:Program}{w:World}{A:Around}{s:Shared}{R:Result->Shared->Prop}
end
section
variable {prog:Program}{w:World}{A:Around}{E:Value->Shared->Prop}{s:Shared}
end
end RL
section
variable {X:Cx}{e:Expr}{pos pos' p p':Pos}
end
section
variable {X:Cx}{a e:Expr}{apos cpos:Pos}
end
section
variable {X:Cx}{a e:Expr}{apos cpos spos:Pos}
noncomputable def Agk:List D->List D->Option (List D):=fun ds es=>match es with
 |[.lst zs]=>if ds.length+zs.length<=1000000 then some (ds++zs) else none
 |_=>none
def Alq (K:W.Frag):V->List V->Hp->VK->Prop:=fun x vs H Q=>∃ l b xs zs,x=.ref l/\vs=[.ref b]/\H l=some (.lst xs)/\SqL K H b zs/\xs.length+zs.length<=sizeLine/\Q .non (upd H l (.lst (xs++zs)))
theorem Agj:MtM X "list.extend" (Alq X.K):=by
 intro pins s σ H x vs v us Q I rx rv h
 obtain⟨l,b,xs,zs,rfl,rfl,hH,hB,hz,q⟩:=h
 cases rx
 obtain⟨u,rfl,ru⟩:=rv.one
 cases ru
 obtain⟨z,its,n,r,hl,e⟩:=I.lstM hH
 obtain⟨its2,r2,⟨o2,n2,e2,hc2⟩,z2⟩:=I.list hB
 have hl2:=r2.length
 have hsz:its.toArray.size+its2.toArray.size<=sizeLine:=by rw[Aqq,Aqq];lia
 have hlong:¬ (!its.toArray.isEmpty&&Builtin.List.listTooLong (its.toArray.size+its2.toArray.size))=true:=by
  rw[Abx hsz,Bool.and_false]
  exact Arb
 obtain⟨hc2,hd2,hs2⟩:=hc2
 refine Ars F.slot_list_extend ⟨_,e,rfl⟩ F.entry_list_extend ?_ (F.args_list_extend_2 _ _)
 show wpAny _ _ (Builtin.List.listExtendWith (.ref l) (.ref b) .none) _ _ s
 unfold Builtin.List.listExtendWith
 refine Aql (Asx ⟨o2,e2,hc2⟩ ?_)
 rw[Aqx (by simp)]
 unfold Builtin.List.listItems
 refine Aql (Aql (Atm e2 hs2 (Aqm ?_)))
 refine Aql (Aql (Atm e rfl (Aqm ?_)))
 rw[Aq0 hlong]
 refine Aql (wpAny_updateSeq (hz:=by simp only[Aqq,Array.size_append];lia) e rfl ?_)
 refine Aqm ⟨_,rfl,?_⟩
 refine⟨.non,_,I.lset (its':=its++its2) hH e (by simp) (r.append r2) ?_,rfl,q⟩
 rw[Aqv]
 lia
theorem Ajv:Anp X (Alq X.K) Agk:=fun μ H a xs vs ds es fs Q h1 ha rs re h q=>by
 obtain⟨d,rfl⟩:=Ad4 (o:=fun es=>Agk ds es) rfl (fun a _ _=>by cases a<;>rfl) h
 obtain⟨v,rfl,r⟩:=re.one
 cases r with
 |@lst zs b zs' hb hn rz =>
  unfold Agk at h
  simp only at h
  split at h
  ·rename_i hl
   cases h
   exact⟨a,b,xs,zs',rfl,rfl,h1,.inl hb,by rw[<- rs.length,<- rz.length];have:sizeLine=16777216:=Ar8;lia,q _ (rs.append rz)⟩
  ·cases h
 |_=>exact Aj h
theorem Aed (hf:QD X a f) (ha:QL X [e] g) (hbase':Tu a=true:=by rfl) (hline:(apos.endLine == cpos.line)=true:=by kernel_rfl) (hs':B5 e=true:=by rfl) :
  QS X (.Expr (.Call (.Attribute a "extend" apos) [e] [] cpos) spos) (Pn Agk f g):=⟨Yz PySem.F.plainAttrs_list PySem.F.slot_list_extend PySem.F.type_list_extend Agj Ajv hf.out ha.out (E9 hbase') (Ug (by rw[Asa,hs'];rfl) rfl) hline (Aq hs') rfl⟩
end
end ML
end L2
end S_ML15
section S_ML19
namespace L2
namespace ML
open PySem PySem.Spec PyProof.Rows PySem.SeqAt
open PySem.W (KasT kas_sort katRev KatLex)
section
variable {X:Cx}{pins:List (Addr×Obj)}{σ:St}{H:Hp}{s:Shared}{μ:List Addr}{B:Addr->Prop}
end
section
variable {X:Cx}{pins:List (Addr×Obj)}{σ:St}{H:Hp}{s:Shared}{μ:List Addr}{m:MH}{k:Nat}{f:Addr}{fd:FuncData}{ps:List Str}{fn:List D->Option D}{A':Around}
end
section
variable {X:Cx}{pins:List (Addr×Obj)}{σ:St}{H:Hp}{s:Shared}{μ:List Addr}{m:MH}{k:Nat}{f:Addr}{fd:FuncData}{ps:List Str}{fn:List D->Option D}{A':Around}
end
end ML
end L2
end S_ML19
section S_ML20
namespace L2
namespace ML
open PySem PySem.Spec PyProof.Rows PySem.SeqAt
open PySem.W (KasT kas_sort katRev KatLex)
section
variable {X:Cx}{pins:List (Addr×Obj)}{σ:St}{H H1:Hp}{s:Shared}{μ:List Addr}{m:MH}{k:Nat}{f:Addr}{fd:FuncData}{ps:List Str}{fn:List D->Option D}{A':Around}{kS D0:Addr}{b:Bool}{e e1:Nat}{P:PySem.Fin->Shared->Prop}{E:Value->Shared->Prop}
end
section
variable {X:Cx}{e:Expr}{pos p p' kp kp' cp:Pos}{x:Str}{k:Nat}{f:Addr}{fd:FuncData}{ps:List Str}{fn:List D->Option D}{b:Bool}
end
end ML
end L2
end S_ML20
section S_ML21
namespace L2
namespace ML
open PySem PySem.Spec PyProof.Rows
open PySem.Builtin PySem.Builtin.Str
section
variable {X:Cx}{a e:Expr}{apos cpos:Pos}
end
end ML
end L2
end S_ML21
section S_ML22
namespace L2
namespace ML
open PySem PySem.Spec PyProof.Rows
section
variable {X:Cx}{a e:Expr}{apos cpos:Pos}
end
section
variable {X:Cx}{e:Expr}{pos p p' kp p2 p3 p4:Pos}{x:Str}{k:Nat}{f:Addr}{fd:FuncData}{ps:List Str}{fn:List D->Option D}
end
section
variable {X:Cx}{pins:List (Addr×Obj)}{σ:St}{H:Hp}{s:Shared}{pos:Pos}
end
section
variable {X:Cx}{e:Expr}{es:List Expr}{pos p:Pos}{x:Str}
open Classical in
end
section
variable {X:Cx}{e:Expr}{es:List Expr}{pos p:Pos}{x:Str}
def M3 (m:MH):D->Option D
 |.fn i l=>some (.fn i l)
 |.dks ks vs=>if A7 vs=true then some (.dks ks vs) else none
 |d=>Ci m d
def Cw (m:MH):List D->Option (List D)
 |[]=>some []
 |d::ds=>(M3 m d).bind fun d'=>(Cw m ds).bind fun ds'=>some (d'::ds')
theorem Zp {K:W.Frag}{H:Hp}{μ:List Addr}{m:MH} (S:Sim K H μ m) {d d':D}{v:V} (r:Rep K H μ (·∈μ) d v) (h:M3 m d=some d'):Rep K H [] (fun _=>False) d' v:=by
 cases r with
 |fn hf=>cases h;exact .fn hf
 |dks h1 h2 h3 h4 =>
  unfold M3 at h
  simp only at h
  split at h
  ·rename_i hn
   cases h
   exact .dks h1 (fun z=>z) h3 (h4.noref (fun _ _ _ _ z=>z) hn)
  ·exact Aj h
 |non=>exact (Bf S .non h).1
 |bl b=>exact (Bf S (.bl b) h).1
 |int b=>exact (Bf S (.int b) h).1
 |str b ok=>exact (Bf S (.str b ok) h).1
 |tup h1 h2=>exact (Bf S (.tup h1 h2) h).1
 |lst h1 h2 h3=>exact (Bf S (.lst h1 h2 h3) h).1
 |kl h1 h2=>exact (Bf S (.kl h1 h2) h).1
 |dic h1 h2 h3 h4=>exact (Bf S (.dic h1 h2 h3 h4) h).1
 |ref h1=>exact (Bf S (.ref h1) h).1
theorem G4 {K:W.Frag}{H:Hp}{μ:List Addr}{m:MH} (S:Sim K H μ m):∀ {ds ds':List D}{vs:List V},Reps K H μ (·∈μ) ds vs->Cw m ds=some ds'->Reps K H [] (fun _=>False) ds' vs
 |_,_,_,.nil,h=>by cases h;exact .nil
 |_,_,_,.cons r rs,h=>by
  unfold Cw at h
  obtain⟨d',h1,h⟩:=bind_some h
  obtain⟨ds',h2,h⟩:=bind_some h
  cases h
  exact .cons (Zp S r h1) (G4 S rs h2)
def Jr (n:Nat) (fn:List D->Option D):List D->MH->Option D:=fun ds m=>(Cw m ds).bind fun ds'=>if ds'.length=n then fn ds' else none
variable {ex:Expr}{n:Nat}{fn:List D->Option D}{g:FL}{E:XK}
theorem Pf (hp:PE X ex (Ama (spP X.K n fn) [] E (tL X.K g))):PD X ex (Ay (Jr n fn) g):=PE.imp hp fun σ H Q ⟨env,μ,m,d,S,E,h,q⟩=>by
 obtain⟨ds,h1,h⟩:=bind_some h
 obtain⟨ds',h2,h⟩:=bind_some h
 split at h
 ·rename_i hl
  exact⟨env,μ,m,ds,S,E,h1,fun vs H1 s1 rs=>⟨ds',d,by rw[Arc];exact G4 (S.same s1) rs h2,hl,h,fun v H' s' r=>q v H' (s1.trans s') (Rep.ofCall (S.same s1) r)⟩⟩
 ·exact Aj h
end
section
variable {prog:Program}{w:World}{A:Around}{E:Value->Shared->Prop}{s:Shared}
end
section
variable {X:Cx}{pins:List (Addr×Obj)}{σ:St}{H:Hp}{s:Shared}{μ:List Addr}{m:MH}{k:Nat}{f:Addr}{fd:FuncData}{ps:List Str}{fn:List D->Option D}{b:Bool}
end
section
variable {X:Cx}{e:Expr}{pos p p' kp kp' cp:Pos}{x:Str}{k:Nat}{f:Addr}{fd:FuncData}{ps:List Str}{fn:List D->Option D}{b:Bool}
end
section
variable {X:Cx}{pins:List (Addr×Obj)}{σ:St}{H:Hp}{s:Shared}{h':Heap}
end
section
variable {X:Cx}{e:Expr}{es:List Expr}{pos p tp:Pos}{x1:Nat}{elts:List Expr}
end
section
variable {X:Cx}{a b c e:Expr}{es:List Expr}{pos p p':Pos}{x:Str}
theorem Acq {fd:FuncData} (F:FnOk X.prog X.w X.K X.mg X.base CX0 k f fd ps (spP X.K n fn)) (hr:Room k X.A) (hm:X.mg x=some (.ref f)) (hk:W.keepIn X.K (.ref f)=true) (hb:Binds X.K fd ps []) (ha:QL X (e::es) g) (hg:Gl X x:=by unfold Gl;kernel_rfl) (hdb:(x == ("__debug__":Str))=false:=by decide) (he':B5 e=true:=by rfl) (hpl':es.all B5=true:=by rfl) :
  QD X (.Call (.Name x p) (e::es) [] pos) (Ay (Jr n fn) g):=⟨Pf (Pg F hr hg hm hk hb .nil Agv ha.out hdb (Aq he') (Ez hpl'))⟩
end
theorem Afh (i j:Nat) (hij:i≠j):∀ d d' env e1,G5 2 (B1 (Ao i) (B1 (Ao j) Nm)) d env=some e1->G5 2 (B1 (Ao i) (B1 (Ao j) Nm)) d' e1=G5 2 (B1 (Ao i) (B1 (Ao j) Nm)) d' env:=fun d d' env e1 h=>by
 have he:∃ a b,e1=(env.set i (some a)).set j (some b):=by
  cases d with
  |tup ds =>
   match ds,h with
   |[a,b],h =>
    have h:some ((env.set i (some a)).set j (some b))=some e1:=h
    cases h
    exact⟨a,b,rfl⟩
   |[],h=>exact absurd h (by simp[G5])
   |[_],h=>exact absurd h (by simp[G5])
   |_::_::_::_,h=>exact absurd h (by simp[G5])
  |_=>exact absurd h (by simp[G5])
 obtain⟨a,b,rfl⟩:=he
 cases d' with
 |tup ds =>
  match ds with
  |[a',b'] =>
   show some ((((env.set i (some a)).set j (some b)).set i (some a')).set j (some b'))=some ((env.set i (some a')).set j (some b'))
   rw[List.set_comm _ _ hij.symm,List.set_set,List.set_comm _ _ hij,List.set_comm _ _ hij,List.set_set]
   exact Asc some (List.set_comm _ _ hij.symm)
  |[]=>rfl
  |[_]=>rfl
  |_::_::_::_=>simp[G5]
 |_=>rfl
section
variable {X:Cx}{st:Stmt}{sts:List Stmt}
end
section
variable {X:Cx}{o' a:Expr}{apos cpos:Pos}{T:String}{id:String}
end
section
variable {X:Cx}{pins:List (Addr×Obj)}{σ:St}{H:Hp}{s:Shared}{h':Heap}
end
section
variable {X:Cx}{e e2:Expr}{es:List Expr}{pos p tp:Pos}{x1:Nat}{elts:List Expr}
end
section
variable {X:Cx}{e ex:Expr}{es:List Expr}{pos p:Pos}{x:Str}{n:Nat}{fn:List D->Option D}{g:FL}{E:XK}
end
section
variable {X:Cx}{tg elt iter:Expr}{ifs:List Expr}{scope:Scope}{fw:FW}{g:FG}{t:FB}{fe:FE}{x:Str}{pos p' spos:Pos}
end
section
variable {X:Cx}{e:Expr}{es:List Expr}{pos p:Pos}{x:Str}
open Classical in
end
structure FD (K:W.Frag) (mg:Str->Option Value) (x:Str) (st:Stmt) (ps:List Str):Prop where
 ex:∃ a fd,mg x=some (.ref a)/\Fun K x x st a fd/\Binds K fd ps []
structure Cl (P:Program) (w:World) (K:W.Frag) (mg:Str->Option Value) (base:Heap) (k:Nat) (x:Str) (n:Nat) (fn:List D->Option D):Prop where
 ex:∃ a fd ps,FnOk P w K mg base CX0 k a fd ps (spP K n fn)/\mg x=some (.ref a)/\W.keepIn K (.ref a)=true/\Binds K fd ps []
abbrev BH (x:Str) (st:Stmt) (ps:List Str):Prop:=∀ (kV doc pm:Value) (an:Option Addr) (cdv ct:Value) (us:List Value),us.length=ps.length->bindArgs (W.fnOf x x (El st) (Cy st) (A5 st) .none kV doc pm an cdv ct) ⟨us,[]⟩=pure (ps.zip us)
theorem of1 {P:List Value->Prop} (h:∀ a,P [a]):∀ us:List Value,us.length=1->P us:=by
 intro us e
 cases us with
 |nil=>cases e
 |cons a us =>
  cases us with
  |nil=>exact h a
  |cons _ _=>cases e
theorem of2 {P:List Value->Prop} (h:∀ a b,P [a,b]):∀ us:List Value,us.length=2->P us:=by
 intro us e
 cases us with
 |nil=>cases e
 |cons a us=>exact of1 (P:=fun us=>P (a::us)) (h a) us (Nat.succ.inj e)
theorem of3 {P:List Value->Prop} (h:∀ a b c,P [a,b,c]):∀ us:List Value,us.length=3->P us:=by
 intro us e
 cases us with
 |nil=>cases e
 |cons a us=>exact of2 (P:=fun us=>P (a::us)) (h a) us (Nat.succ.inj e)
structure FM (K:W.Frag) (x:Str) (st:Stmt):Prop where
 ex:∃ a fd,W.nsIn K mainGlobals x=some (some (.ref a))/\Fun K x x st a fd
theorem fm_mk {K:W.Frag}{x:Str}{st:Stmt}{f:Addr}{oc:Value}{od an:Option Addr}{osl:Array (Option Value)}{kV doc pm cdv ct:Value} (n:W.nsIn K mainGlobals x=some (some (.ref f))) (l:K.lookup f=some ⟨oc,od,.func (W.fnOf x x (El st) (Cy st) (A5 st) .none kV doc pm an cdv ct),osl⟩)
  (c:W.codeIn K cdv x=true) (k:W.keepIn K (.ref f)=true):FM K x st:=⟨f,_,n,Adp l c k⟩
theorem FM.fd {K:W.Frag}{h:Heap}{mg:Str->Option Value}{x:Str}{st:Stmt}{ps:List Str} (F:FM K x st) (X:K.In h) (G:h.Ns mainGlobals mg)
  (hb:BH x st ps):FD K mg x st ps:=by
 obtain⟨a,fd,n,F⟩:=F.ex
 exact⟨a,fd,W.mg_of X G n,F,F.binds hb⟩
theorem FM.fd1 {K:W.Frag}{h:Heap}{mg:Str->Option Value}{x a:Str}{st:Stmt} (F:FM K x st) (X:K.In h) (G:h.Ns mainGlobals mg) (hb:BH x st [a]:=by exact fun _ _ _ _ _ _=>of1 fun _=>rfl):FD K mg x st [a]:=F.fd X G hb
theorem FM.fd2 {K:W.Frag}{h:Heap}{mg:Str->Option Value}{x a b:Str}{st:Stmt} (F:FM K x st) (X:K.In h) (G:h.Ns mainGlobals mg) (hb:BH x st [a,b]:=by exact fun _ _ _ _ _ _=>of2 fun _ _=>rfl):FD K mg x st [a,b]:=F.fd X G hb
theorem FM.fd3 {K:W.Frag}{h:Heap}{mg:Str->Option Value}{x a b c:Str}{st:Stmt} (F:FM K x st) (X:K.In h) (G:h.Ns mainGlobals mg) (hb:BH x st [a,b,c]:=by exact fun _ _ _ _ _ _=>of3 fun _ _ _=>rfl):FD K mg x st [a,b,c]:=F.fd X G hb
section
variable {P:Program}{w:World}{K:W.Frag}{mg:Str->Option Value}{base:Heap}{x:Str}{st:Stmt}{ps:List Str}{k n:Nat}{tabs:List (Addr×Str)}{p:Addr}
theorem B7 (N:List Str) (T:FD K mg x st ps) (g:FS) (fn:List D->Option D)
  (hbody:∀ (f:Addr) (cdv:Value) (A:Around) (outer:List Env) (s:Shared) (H:Hp) (E:XK),Room k (A.deeper (envOfC x (A5 st) s.heap.objs.size f cdv))->N.Nodup ->
   QSs (Aa8 CX0 P w K mg base N x (A5 st) f cdv A outer s H E).nox (Cy st) g) (hfn:fn=Dp N.length g:=by rfl) (hn:ps.length=n:=by rfl) (S:FnScope N ps (A5 st):=by exact⟨rfl,rfl,rfl,by decide +kernel,rfl,by decide +kernel,by decide +kernel⟩):Cl P w K mg base (k+1) x n fn:=by
 obtain⟨a,fd,m,F,b⟩:=T.ex
 exact⟨a,fd,ps,Apo F S g fn hfn hn fun cdv A outer s H E hr=>hbody a cdv A outer s H E hr S.nd,m,F.kp,b⟩
end
section
variable {X:Cx}{e:Expr}{es:List Expr}{pos p p' cp:Pos}{x:Str}{k j n:Nat}{fn:List D->Option D}{g:FL}{tabs:List (Addr×Str)}{kp kp':Pos}{b:Bool}
theorem q_c (F:Cl X.prog X.w X.K X.mg X.base k x n fn) (hr:Room j X.A) (ha:QL X (e::es) g) (hk:k<=j:=by decide) (hg:Gl X x:=by unfold Gl;kernel_rfl) (hdb:(x == ("__debug__":Str))=false:=by decide) (he':B5 e=true:=by rfl) (hpl':es.all B5=true:=by rfl) :
  QD X (.Call (.Name x p) (e::es) [] pos) (Ay (L3 n fn) g):=by
 obtain⟨a,fd,ps,F,m,kp,b⟩:=F.ex
 exact Ahq F (hr.mono hk) m kp b ha hg hdb he' hpl'
theorem Aco (F:Cl X.prog X.w X.K X.mg X.base k x n fn) (hr:Room j X.A) (ha:QL X (e::es) g) (hk:k<=j:=by decide) (hg:Gl X x:=by unfold Gl;kernel_rfl) (hdb:(x == ("__debug__":Str))=false:=by decide) (he':B5 e=true:=by rfl) (hpl':es.all B5=true:=by rfl) :
  QF X (.Call (.Name x p) (e::es) [] pos) (Dm (Jm n fn) g):=by
 obtain⟨a,fd,ps,F,m,kp,b⟩:=F.ex
 exact Aht F (hr.mono hk) m kp b ha hg hdb he' hpl'
theorem Ap8 (F:Cl X.prog X.w X.K X.mg X.base k x n fn) (hr:Room j X.A) (ha:QL X (e::es) g) (hk:k<=j:=by decide) (hg:Gl X x:=by unfold Gl;kernel_rfl) (hdb:(x == ("__debug__":Str))=false:=by decide) (he':B5 e=true:=by rfl) (hpl':es.all B5=true:=by rfl) :
  QD X (.Call (.Name x p) (e::es) [] pos) (Ay (Jr n fn) g):=by
 obtain⟨a,fd,ps,F,m,kp,b⟩:=F.ex
 exact Acq F (hr.mono hk) m kp b ha hg hdb he' hpl'
end
def fVI (i:Nat) (k:Int):FE:=f2 oIx (Ai i) (fC (.int k))
def fC1 (fn:List D->Option D) (a:FE):FE:=Ay (L3 1 fn) (Aa a Ak)
def fC2 (fn:List D->Option D) (a b:FE):FE:=Ay (L3 2 fn) (Aa a (Aa b Ak))
def fC3 (fn:List D->Option D) (a b c:FE):FE:=Ay (L3 3 fn) (Aa a (Aa b (Aa c Ak)))
def fF3 (fn:List D->Option D) (a b c:FE):FL:=Dm (Jm 3 fn) (Aa a (Aa b (Aa c Ak)))
end ML
end L2
end S_ML22
section S_TS1
open Lean in
set_option hygiene false in
local macro_rules|`(tactic| sizeOf_list_dec)=>do
 let n (s:String):TSyntax `ident:=mkIdent (mkPrivateNameCore `PySem.Builtin.List.W1All (Name.str `PySem.Builtin s))
 `(tactic| delta $(n "gallop"))
namespace L2
namespace TS
open PySem PySem.W PySem.Calls PyProof.Rows
section
variable {σ:Type}{M:Model}{A:Around}{E:Value->Shared->Prop}
end
section
variable {prog:Program}{w:World}{A:Around}{E:Value->Shared->Prop}{κ:SortKind}{it:Array Keyed}
variable {N:Nat}{c:Nat->Nat->Bool}{J:Shared->Prop}
end
end TS
end L2
end S_TS1
section S_TS2
namespace L2
namespace TS
open PySem PySem.W PySem.Calls PyProof.Rows
section
variable {prog:Program}{w:World}{A:Around}{E:Value->Shared->Prop}{κ:SortKind}{it:Array Keyed}{N:Nat}{c:Nat->Nat->Bool}{J:Shared->Prop}
variable {X Y O:List Nat}{ia ib:Nat}
end
end TS
end L2
end S_TS2
section S_TS3
open Lean in
set_option hygiene false in
local macro_rules|`(tactic| sizeOf_list_dec)=>do
 let n (s:String):TSyntax `ident:=mkIdent (mkPrivateNameCore `PySem.Builtin.List.W1All (Name.str `PySem.Builtin s))
 `(tactic| delta $(n "mergeLo"))
namespace L2
namespace TS
open PySem PySem.W PySem.Calls PyProof.Rows
section
variable {prog:Program}{w:World}{A:Around}{E:Value->Shared->Prop}{κ:SortKind}{it:Array Keyed}{N:Nat}{c:Nat->Nat->Bool}{J:Shared->Prop}
end
end TS
end L2
end S_TS3
section S_TS4
namespace L2
namespace TS
open PySem PySem.W PySem.Calls PyProof.Rows
section
variable {c:Nat->Nat->Bool}
variable {X Y O:List Nat}{na nb:Nat}
end
end TS
end L2
end S_TS4
section S_TS5
open Lean in
set_option hygiene false in
local macro_rules|`(tactic| sizeOf_list_dec)=>do
 let n (s:String):TSyntax `ident:=mkIdent (mkPrivateNameCore `PySem.Builtin.List.W1All (Name.str `PySem.Builtin s))
 `(tactic| delta $(n "mergeHi"))
namespace L2
namespace TS
open PySem PySem.W PySem.Calls PyProof.Rows
section
variable {prog:Program}{w:World}{A:Around}{E:Value->Shared->Prop}{κ:SortKind}{it:Array Keyed}{N:Nat}{c:Nat->Nat->Bool}{J:Shared->Prop}
end
end TS
end L2
end S_TS5
section S_TS6
open Lean in
set_option hygiene false in
local macro_rules|`(tactic| sizeOf_list_dec)=>do
 let n (s:String):TSyntax `ident:=mkIdent (mkPrivateNameCore `PySem.Builtin.List.W1All (Name.str `PySem.Builtin s))
 `(tactic| delta $(n "mergeAt"))
namespace L2
namespace TS
open PySem PySem.W PySem.Calls PyProof.Rows
section
variable {prog:Program}{w:World}{A:Around}{E:Value->Shared->Prop}{κ:SortKind}{it:Array Keyed}{N:Nat}{c:Nat->Nat->Bool}{J:Shared->Prop}
end
end TS
end L2
end S_TS6
section S_TS7
namespace L2
namespace TS
open PySem PySem.W PySem.Calls PyProof.Rows
section
variable {α:Type}
end
section
variable {prog:Program}{w:World}{A:Around}{E:Value->Shared->Prop}{κ:SortKind}{it:Array Keyed}{N:Nat}{c:Nat->Nat->Bool}{J:Shared->Prop}
end
end TS
end L2
end S_TS7
section S_TS8
namespace L2
namespace TS
open PySem PySem.W PySem.Calls PyProof.Rows
section
variable {prog:Program}{w:World}{A:Around}{E:Value->Shared->Prop}{κ:SortKind}{it:Array Keyed}{n:Nat}{c:Nat->Nat->Bool}{J:Shared->Prop}
end
end TS
end L2
end S_TS8
section S_ML35
namespace L2
namespace ML
open PySem PySem.Spec PyProof.Rows PySem.SeqAt
open PySem.W (KasT kas_sort katRev KatLex)
open Classical in
section
variable {X:Cx}{pins:List (Addr×Obj)}{σ:St}{H H1:Hp}{s:Shared}{μ:List Addr}{m:MH}{k:Nat}{f:Addr}{fd:FuncData}{ps:List Str}{fn:List D->Option D}{A':Around}
end
section
variable {X:Cx}{e:Expr}{pos p p' kp kp' cp:Pos}{x:Str}{k:Nat}{f:Addr}{fd:FuncData}{ps:List Str}{fn:List D->Option D}{b:Bool}
end
section
variable {X:Cx}{e:Expr}{es:List Expr}{pos p p' cp:Pos}{x:Str}{k j n:Nat}{fn:List D->Option D}{g:FL}{tabs:List (Addr×Str)}{kp kp':Pos}{b:Bool}
end
section
variable {X:Cx}{e:Expr}{pos p':Pos}{x:Str}{i:Nat}{f:FE}
theorem Mt (hN:X.N.Nodup) (he:QD X e f) (hi:X.N[i]?=some x:=by kernel_rfl) (hx:Loc X.env.scope x:=by exact Or.inr (by kernel_rfl)) (hsw:swapsWith e (some (.Name x p')) pos.line X.env=pure false:=by kernel_rfl) (hf:X.fn x=true\/X.env.scope.names.lookup x=some .local:=by exact Asy (by kernel_rfl)) :
  QS X (.Assign [.Name x p'] e pos) (Br i f):=⟨Ph hN hi hx he.out hsw hf⟩
end
end ML
end L2
end S_ML35
section S_TX1
namespace L2
namespace TX
open PySem PySem.Spec PyProof.Rows
theorem U3 (t:SetTable) (es:Array (Int×Value)) (h:Int) (x:Value):(layNew t es h x).2.1.led=t.led:=by
 unfold layNew
 split
 ·dsimp only
  unfold SetTable.orStandIn
  split<;>rfl
 ·rfl
theorem Og {t t':SetTable}{hs:Array Int}{n:Nat}{order:Array Nat} (h:t.relaid hs n=some (t',order)):t'.led=t.led/\t'.plain=t.plain:=by
 unfold SetTable.relaid SetTable.laid at h
 obtain⟨ow,h1,h2⟩:=Option.bind_eq_some_iff.mp h
 cases h2
 exact⟨rfl,rfl⟩
set_option tactic.hygienic true in
theorem Jo (t:SetTable) (es:Array (Int×Value)) (n:Nat):(relayAll t es n).2.1.led=t.led/\(t.plain=false->(relayAll t es n).2.1.plain=false):=by
 unfold relayAll
 split
 ·rename_i t' order h
  obtain⟨h1,h2⟩:=Og h
  dsimp only
  split
  ·exact⟨h1,fun h=>h2.trans h⟩
  ·exact⟨rfl,fun _=>rfl⟩
 ·exact⟨rfl,fun _=>rfl⟩
noncomputable def txs (es:List (Int×Value)):List Str:=es.map fun e=>strOf e.2
section
variable {prog:Program}{w:World}{A:Around}{E:Value->Shared->Prop}{s:Shared}
def SetT (prog:Program) (w:World) (h:Heap) (a:Addr) (xs:List Str):Prop :=
 ∃ o es ep t,h.get? a=some o/\o.ExactSet/\o.data=.set es ep t/\ElemsOf (PySem.strKind prog w) es.toList/\(txs es.toList).Perm xs/\t.fits es.size=true/\t.led=!w.params.followText "set-order"/\(0 < es.size->t.plain=false)
theorem SetT.at' {h h':Heap}{a:Addr}{xs:List Str} (x:SetT prog w h a xs) (e:∀ o,h.get? a=some o->h'.get? a=some o):SetT prog w h' a xs:=let ⟨o,es,ep,t,ho,r⟩:=x;⟨o,es,ep,t,e _ ho,r⟩
theorem Agf {es:List (Int×Value)} (h:ElemsOf (PySem.strKind prog w) es) (x:Str):x∈txs es ↔ ∃ e∈es,(PySem.strKind prog w).is x e.2=true:=by
 unfold txs
 rw[List.mem_map]
 constructor
 ·rintro ⟨e,he,rfl⟩
  obtain⟨⟨k,hk,_⟩,_⟩:=h e he
  obtain⟨t,ht⟩:=Value.isStrOf_shape hk
  refine⟨e,he,?_⟩
  rw[ht] at hk ⊢
  exact hk
 ·rintro ⟨e,he,hx⟩
  obtain⟨t,ht⟩:=Value.isStrOf_shape hx
  exact⟨e,he,by rw[ht];rfl⟩
theorem J7 {h:Heap}{a:Addr}{o:Obj}{es:Array (Int×Value)}{ep:Nat}{t:SetTable}{xs:List Str} (ho:h.get? a=some o) (hex:o.ExactSet) (hd:o.data=.set es ep t)
  {es':Array (Int×Value)}{t':SetTable} (hel:ElemsOf (PySem.strKind prog w) es'.toList) (hp:(txs es'.toList).Perm xs) (hf:t'.fits es'.size=true) (hl:t'.led=!w.params.followText "set-order") (hpl:0 < es'.size->t'.plain=false) :
  (h.update a (Obj.putSet es' t')).get? a=some { o with data:=.set es' (ep+1) t' }/\SetT prog w (h.update a (Obj.putSet es' t')) a xs:=by
 have hg:(h.update a (Obj.putSet es' t')).get? a=some { o with data:=.set es' (ep+1) t' }:=by
  have:=Aso (Obj.putSet es' t') ho (by rw[putSet_of es' t' hd];rfl)
  rw[putSet_of es' t' hd] at this;exact this
 exact⟨hg,_,es',ep+1,t',hg,hex,rfl,hel,hp,hf,hl,hpl⟩
theorem V8 {g:Bool->Sem Unit} (hg:∀ (b:Bool) (s₁:Shared) (Q':Unit->Shared->Prop),Q' () s₁->wpAny (model prog w) A (g b) Q' E s₁)
  {a:Addr}{o:Obj}{es:Array (Int×Value)}{ep:Nat}{t:SetTable}{xs:List Str} (ho:s.heap.get? a=some o) (hex:o.ExactSet) (hd:o.data=.set es ep t)
  {es1:Array (Int×Value)}{t2:SetTable} (hel1:ElemsOf (PySem.strKind prog w) es1.toList) (hp1:(txs es1.toList).Perm xs) (hb1:es1.size < scanBound) (hf2:t2.fits es1.size=true) (hl:t2.led=!w.params.followText "set-order") (hpl:t2.plain=false) {wasDummy:Bool}{R:Option Bool->Shared->Prop}
  (h:∀ h',Heap.SameBut a s.heap h'->SetT prog w h' a xs->R (some true) { s with heap:=h' }) :
  wpAny (model prog w) A (do
    storeSet a es1 t2
    if (!wasDummy&&t2.tooFull)=true then do
      g (relayAll t2 es1 (SetTable.grown es1.size)).2.2
      storeSet a (relayAll t2 es1 (SetTable.grown es1.size)).1 (relayAll t2 es1 (SetTable.grown es1.size)).2.1
      pure (some true)
     else pure (some true)) R E s:=by
 refine Aql (wpAny_storeSet_of ho hd ?_ (fits_of_scanBound hb1))
 obtain⟨ho1,hS1⟩:=J7 (prog:=prog) ho hex hd hel1 hp1 hf2 hl (fun _=>hpl)
 have hsb1:=Heap.SameBut.update s.heap a (Obj.putSet es1 t2)
 split
 ·have hp:=relayAll_perm t2 es1 (SetTable.grown es1.size)
  have hfr:=relayAll_fits t2 es1 (SetTable.grown es1.size)
  have hkp:=Jo t2 es1 (SetTable.grown es1.size)
  generalize hRl:relayAll t2 es1 (SetTable.grown es1.size)=Rl at hp hfr hkp ⊢
  obtain⟨es2,t3,gave2⟩:=Rl
  dsimp only at hp hfr hkp ⊢
  have hsz:es2.size=es1.size:=by rw[<- Ard,hp.length_eq,Ard]
  refine Aql (hg _ _ _ ?_)
  refine Aql (wpAny_storeSet_of ho1 rfl ?_ (fits_of_scanBound (by rw[hsz];exact hb1)))
  obtain⟨_,hS2⟩:=J7 (prog:=prog) ho1 hex rfl (hel1.perm hp) ((hp.map _).trans hp1) hfr (hkp.1.trans hl) (fun _=>hkp.2 hpl)
  exact Aqm (h _ (hsb1.trans (Heap.SameBut.update _ a _)) hS2)
 ·exact Aqm (h _ hsb1 hS1)
theorem Acv {a:Addr}{xs:List Str}{x:Str}{tk:Tok}{Q:Bool->Shared->Prop} (hS:SetT prog w s.heap a xs) (hb:xs.length+1 < scanBound)
  (h:∀ h',Heap.SameBut a s.heap h'->SetT prog w h' a (if x∈xs then xs else xs++[x])->Q (!decide (x∈xs)) { s with heap:=h' }) :
  wpAny (model prog w) A (setAddHashed a (.str x tk) (hashStr w x)) Q E s:=by
 obtain⟨o,es,ep,t,ho,hex,hd,hel,hp,hf,hl,hpl⟩:=id hS
 have hsz:es.size=xs.length:=by rw[<- hp.length_eq];simp[txs]
 have hkey:(PySem.strKind prog w).is x (.str x tk)=true:=by simp[PySem.strKind,Value.isStrOf]
 have hsc:(Value.str x tk).scannable=true:=rfl
 have hmem:x∈xs ↔ ∃ e∈es.toList,(PySem.strKind prog w).is x e.2=true:=hp.mem_iff.symm.trans (Agf hel x)
 show wpAny _ _ (setAddHashed a (.str x tk) ((PySem.strKind prog w).hash x)) _ _ _
 unfold setAddHashed setAddHashedIn
 refine Arw (Aql (wpAny_setState_of ho hd hf ?_))
 dsimp only
 rw[byScan_of hsc (by lia) hel]
 simp only[↓reduceIte]
 unfold setAddByScan
 refine Aql ?_
 refine Aql (wpAny_rule ?_)
 refine Aql (wpAny_setScan_of hkey ho hd hf hel ?_)
 cases hr:List.findIdx? (fun e=>(PySem.strKind prog w).is x e.2) es.toList with
 |some j =>
  dsimp only
  obtain⟨hj,hpj,_⟩:=List.findIdx?_eq_some_iff_getElem.mp hr
  have hSk:x∈xs:=hmem.mpr ⟨es.toList[j],Ar4 hj,hpj⟩
  refine Aqm (Aqm ?_)
  have:=h s.heap (Heap.SameBut.refl a s.heap) (by rw[Aqx hSk];exact hS)
  rw[Art hSk] at this
  exact this
 |none =>
  dsimp only
  have hSk:x∉xs:=fun hx=>by
   obtain⟨e,he,hp⟩:=hmem.mp hx
   have:=List.findIdx?_eq_none_iff.mp hr e he
   rw[hp] at this
   exact Bool.noConfusion this
  rw[Aq0 hSk,Arh hSk] at h
  have hgw:∀ (b:Bool) {s₁:Shared}{Q':Unit->Shared->Prop},Q' () s₁->wpAny (model prog w) A (match b with|true=>rule "set.scan.the-table-gave-way"|false=>pure ()) Q' E s₁ :=
   fun b s₁ Q' hq=>by cases b<;>first|exact Aqm hq|exact wpAny_rule hq
  have hperm:=layNew_perm t es ((PySem.strKind prog w).hash x) (.str x tk)
  have hfits:=layNew_fits t es ((PySem.strKind prog w).hash x) (.str x tk)
  have hled:=U3 t es ((PySem.strKind prog w).hash x) (.str x tk)
  generalize hL:layNew t es ((PySem.strKind prog w).hash x) (.str x tk)=L at hperm hfits hled ⊢
  obtain⟨es1,t1,wasDummy,gave⟩:=L
  dsimp only at hperm hfits hled ⊢
  rw[Array.toList_push] at hperm
  have hel1:ElemsOf (PySem.strKind prog w) es1.toList:=(hel.push hkey hsc).perm hperm
  have hp1:(txs es1.toList).Perm (xs++[x]):=by
   refine (hperm.map _).trans ?_
   rw[Ary]
   exact hp.append_right _
  have hb1':es1.size < scanBound:=by rw[<- Ard,hperm.length_eq,Aqv,Ard];simp only[Arm];lia
  refine Aql (hgw _ ?_)
  split
  ·refine Aql ?_
   rw[hashByValue_scannable 8 hsc]
   refine Aqm ?_
   refine V8 ?_ ho hex hd hel1 hp1 hb1' ?_ ?_ ?_ ?_
   ·intro b s₁ Q' hq;cases b<;>first|exact Aqm hq|exact wpAny_rule hq
   ·exact SetTable.fits_plain_off hfits
   ·exact hled.trans hl
   ·rfl
   ·intro h' hsb hS';dsimp only;exact Aqm (h h' hsb hS')
  ·rename_i hpf
   refine Aql (Aqm ?_)
   simp only[↓reduceIte]
   refine V8 ?_ ho hex hd hel1 hp1 hb1' hfits (hled.trans hl) (by simpa using hpf) ?_
   ·intro b s₁ Q' hq;cases b<;>first|exact Aqm hq|exact wpAny_rule hq
   ·intro h' hsb hS';dsimp only;exact Aqm (h h' hsb hS')
end
end TX
end L2
end S_TX1
section S_TX2
namespace L2
namespace TX
open PySem PySem.Spec PyProof.Rows
noncomputable def Zx (xs:List Str) (x:Str):List Str:=if x∈xs then xs else xs++[x]
def metT (ys:List Str):List Str:=ys.foldl Zx []
theorem Agg (xs:List Str) (x:Str):(Zx xs x).length<=xs.length+1:=by
 unfold Zx;split
 ·lia
 ·simp
theorem Yc (ys:List Str) (x:Str):metT (ys++[x])=Zx (metT ys) x:=by unfold metT;rw[List.foldl_append];rfl
theorem Abf (ys:List Str):∀ xs:List Str,(ys.foldl Zx xs).length<=xs.length+ys.length:=by
 induction ys with
 |nil=>intro xs;simp
 |cons y ys ih=>intro xs;have h1:=ih (Zx xs y);have h2:=Agg xs y;simp only[List.foldl_cons,Ara];lia
theorem O7 (ys:List Str):(metT ys).length<=ys.length:=by have:=Abf ys [];simpa [metT] using this
theorem Xy (x:Str) (ys:List Str):∀ xs:List Str,x∈ys.foldl Zx xs ↔ x∈xs\/x∈ys:=by
 induction ys with
 |nil=>intro xs;simp
 |cons y ys ih =>
  intro xs
  rw[List.foldl_cons,ih]
  unfold Zx
  by_cases h:y∈xs
  ·rw[Aqx h]
   constructor
   ·rintro (h1|h1)
    ·exact .inl h1
    ·exact .inr (Aqr _ h1)
   ·rintro (h1|h1)
    ·exact .inl h1
    ·rcases List.mem_cons.mp h1 with rfl|h1
     ·exact .inl h
     ·exact .inr h1
  ·rw[Aq0 h];simp[or_assoc]
theorem Abu {x:Str}{ys:List Str}:x∈metT ys ↔ x∈ys:=by have:=Xy x ys [];simpa [metT] using this
theorem Abg (ys:List Str):∀ xs:List Str,xs.Nodup->(ys.foldl Zx xs).Nodup:=by
 induction ys with
 |nil=>intro xs h;exact h
 |cons y ys ih =>
  intro xs h
  rw[List.foldl_cons]
  refine ih _ ?_
  unfold Zx
  split
  ·exact h
  ·rename_i hy
   rw[List.nodup_append]
   exact⟨h,by simp,fun a ha b hb e=>hy (by rw[List.mem_singleton.mp hb] at e;rw[<- e];exact ha)⟩
theorem Agh (ys:List Str):(metT ys).Nodup:=Abg ys [] List.nodup_nil
theorem Lb:∀ {vs:List Value}{ss:List Str},StrsAre vs ss->∀ (i:Nat) (v:Value),vs[i]?=some v->∃ x t,ss[i]?=some x/\v=.str x t
 |_,_,.nil,i,v,h=>by simp at h
 |_,_,.cons n t hr,0,v,h=>by simp at h;exact⟨n,t,rfl,h.symm⟩
 |_,_,.cons n t hr,i+1,v,h=>by
  simp only[Aro] at h
  exact Lb hr i v h
section
variable {prog:Program}{w:World}{A:Around}{R:Result->Shared->Prop}{I:Addr}{fp wr:List Addr}{G:Array GenState->Array GenState->Prop}{n:Nat}{P:Nat->Value->Prop}{St:Nat->Shared->Prop}
theorem Ac5 (W:WalksS prog w A.in1 I fp wr G n P St) (S:Addr) (hSf:S∉fp) (ss:List Str) (hval:∀ i v,P i v->∃ x t,ss[i]?=some x/\v=.str x t) (hb:n+1 < scanBound) :
  ∀ (k i:Nat) (s:Shared),n - i=k->i<=n->St i s->SetT prog w s.heap S (metT (ss.take i)) ->
   (∀ s',Moved (S::wr) G s s'->SetT prog w s'.heap S (metT (ss.take n))->R (.ok (.ret .none)) s') ->
   codeAny (model prog w) A (.builtin "set.update.loop" ⟨[.ref S,.ref I],[]⟩) R s:=by
 have hSw:S∉wr:=fun h=>hSf (W.sub _ h)
 have hsub:∀ b∈wr,b∈S::wr:=fun b hb=>Aqr _ hb
 intro k
 induction k with
 |zero =>
  intro i s hk hi hst hS hR
  have hin:i=n:=by lia
  subst hin
  refine codeAny_builtin F.entry_set_update_loop ?_
  rw[Around.under_plainId F.plain_set_update_loop _]
  show wpAny _ A.in1 (pyNext (.ref I) >>= _) _ _ s
  refine Aql (W.done s _ _ hst fun s' hm=>?_)
  show wpAny _ A.in1 (ret Value.none) _ _ s'
  exact Aqm (hR s' (hm.mono hsub) (hS.at' fun o e=>hm.heap S _ hSw e))
 |succ k ih =>
  intro i s hk hi hst hS hR
  have hlt:i < n:=by lia
  refine codeAny_builtin F.entry_set_update_loop ?_
  rw[Around.under_plainId F.plain_set_update_loop _]
  show wpAny _ A.in1 (pyNext (.ref I) >>= _) _ _ s
  refine Aql (W.item i s _ _ hlt hst fun v s' hP hst' hm=>?_)
  obtain⟨x,t,hx,rfl⟩:=hval i v hP
  have hS':=hS.at' (h':=s'.heap) fun o e=>hm.heap S _ hSw e
  show wpAny _ A.in1 (holding [Value.str x t] (setAdd S (.str x t)) >>= _) _ _ s'
  refine Aql (Arw ?_)
  unfold setAdd
  refine Arw ?_
  refine Aql (wpAny_pyHash_str ?_)
  have hroom:(metT (ss.take i)).length+1 < scanBound:=by have:=O7 (ss.take i);have:=List.length_take_le i ss;lia
  refine Acv (s:={ s' with toks:=s'.toks+1 }) hS' hroom fun h' hsb hS2=>?_
  have hSi:SetT prog w h' S (metT (ss.take (i+1))):=by
   have e:ss.take (i+1)=ss.take i++[x]:=by rw[List.take_add_one,hx];rfl
   rw[e,Yc]
   exact hS2
  refine Aqm ⟨plainId_quiet F.plain_set_update_loop _,ih (i+1) _ (by lia) hlt (W.frame _ s' _ _ hst' (As9 _) fun b hb o e=>?_) hSi fun s'' hm'' hS''=>?_⟩
  ·rw[hsb.2 b (fun h:b=S=>hSf (by rw[<- h];exact hb))];exact e
  ·refine hR s'' (Moved.trans W.gtrans ((hm.mono hsub).then_heap (As9 _) fun b o hb e=>?_) hm'') hS''
   rw[hsb.2 b (fun h:b=S=>hb (by rw[h];exact Aqy))];exact e
end
section
variable {prog:Program}{w:World}{A:Around}{E:Value->Shared->Prop}{s:Shared}
noncomputable def Ce (w:World):Obj:={ cls:=.type "set",dict:=none,data:=.set #[] 0 (.fresh 0 0 (!w.params.followText "set-order")) }
theorem Ah2 (a:Value) {Q₁:Value->Shared->Prop} (h:Q₁ (.ref s.heap.objs.size) { s with heap:=s.heap.push (Ce w) }) :
  codeAny (model prog w) A (.call (.builtin "set.__new__") ⟨[.type "set",a],[]⟩) (wants Q₁ E) s:=by
 refine codeAny_of_tree ?_
 show wpAny _ A.in1 (do checkBuiltinCall "set.__new__" ⟨[.type "set",a],[]⟩;again (.builtin "set.__new__" ⟨[.type "set",a],[]⟩)) _ _ s
 refine Aql (wpAny_of_eq (PySem.F.newCall_set_1 a) (Aqm ⟨plainId_quiet PySem.F.plain_set_new _,codeAny_builtin PySem.F.entry_set_new ?_⟩))
 rw[Around.under_plainId PySem.F.plain_set_new _]
 unfold Builtin.«set.__new__» Builtin.Frozenset.newClass
 have hsub:=sub_set_self
 obtain⟨hp,g,d,tk,os⟩:=s
 dsimp only
 wp_walk
 refine wpAny_askSetting (Aqm ?_)
 dsimp only
 simp only[newObj]
 refine Aql (wpAny_alloc (Aqm ?_))
 exact Aqm h
theorem set_list {l:Addr}{items:Array Value}{ss:List Str}{Q:Value->Shared->Prop} (hh:A.handled=none) (hl:s.heap.IsList l items) (hi:StrsAre items.toList ss) (hb:items.size+1 < scanBound)
  (h:∀ (h':Heap) (tk:Nat),SetT prog w h' s.heap.objs.size (metT ss)->(∀ b o,b < s.heap.objs.size->s.heap.get? b=some o->h'.get? b=some o)->Q (.ref s.heap.objs.size) { s with heap:=h',toks:=tk }) :
  wpAny (model prog w) A (call (.type "set") [.ref l]) Q E s:=by
 obtain⟨c,tl,hmro⟩:=PySem.F.called_set.mro
 have hmade:=PySem.F.called_set.made
 have hsub:=PySem.F.called_set.sub
 refine wpAny_call (codeAny_of_tree ?_)
 show wpAny _ _ (callAny (.type "set") _) _ _ _
 refine Aqm ⟨Code.quiet_builtin _ (by decide +kernel),codeAny_builtin PySem.F.entry_type_call ?_⟩
 rw[Around.under_plain (weight_type_call_type "set" [.ref l] []) rfl]
 have h1:=PySem.F.called_set.notType
 have h2:=PySem.F.called_set.canCreate
 have hct:=PySem.F.typeCall_set_1 (.ref l)
 repeat (any_goals (first|assumption|wp_step))
 refine codeAny_mono (Ah2 (.ref l) (E:=E) (Q₁:=fun obj s₁=>obj=.ref s.heap.objs.size/\s₁={ s with heap:=s.heap.push (Ce w) }) ⟨rfl,rfl⟩) fun r s₁ hr=>?_
 cases r with
 |error e=>exact hr
 |ok fl =>
  cases fl with
  |ret obj =>
   obtain⟨rfl,rfl⟩:=hr
   have hS:(s.heap.push (Ce w)).get? s.heap.objs.size=some (Ce w):=Aqt _ rfl
   have hT:Shared.TypeIs { s with heap:=s.heap.push (Ce w) } (.ref s.heap.objs.size) "set":=⟨_,hS,rfl⟩
   have hli:=PySem.F.called_set.init.lookup
   have hbi:=PySem.F.called_set.init.bind (.ref s.heap.objs.size)
   repeat (any_goals (first|assumption|wp_step))
   refine codeAny_mono (codeAny_call_builtin (R:=wants (fun r s₂=>r=.none/\∃ h' tk,s₂={ s with heap:=h',toks:=tk }/\SetT prog w h' s.heap.objs.size (metT ss) /\
     (∀ b o,b < s.heap.objs.size->s.heap.get? b=some o->h'.get? b=some o)) E) PySem.F.called_set.init.plain PySem.F.entry_set_init (check_set_init_1 hT ?_)) fun r₂ s₂ hr₂=>?_
   ·obtain⟨ol,hol,hcl,nl,hdl⟩:=hl
    obtain⟨ocls,odict,odata,oslots⟩:=ol
    simp only at hcl hdl
    subst hcl;subst hdl
    have hol':(s.heap.push (Ce w)).get? l=some { cls:=.type "list",dict:=odict,data:=.seq items nl,slots:=oslots }:=Aqn _ hol
    have hsls:=PySem.F.sub_list_set
    have hslf:=PySem.F.sub_list_frozenset
    have hne:(Value.type "list" == Value.type "dict")=false:=by decide
    have hl1:(s.heap.push (Ce w)).IsList l items:=⟨_,hol',rfl,nl,rfl⟩
    unfold Builtin.«set.__init__» noKeywords Builtin.Frozenset.updateFrom
    generalize hPI:pyIter=PI
    wp_walk
    subst hPI
    refine wpAny_pyIter_list hl1 ?_
    refine Aql (wpAny_runValue ?_)
    have hlS:l < s.heap.objs.size:=Aqp hol
    have hh3:A.in1.in1.in1.handled=none:=by simp[hh]
    have hneI:l≠(s.heap.push (Ce w)).objs.size:=by
     rw[Asg];exact Aq2 (Ar7 hlS)
    have hSf:s.heap.objs.size∉[(s.heap.push (Ce w)).objs.size,l]:=by
     rw[Asg];simp only[Ark,List.mem_singleton,Aq7,or_false,not_or]
     exact⟨Aq2 (As4 _),Atd hlS⟩
    have hval:∀ (i:Nat) (v:Value),items[i]?=some v->∃ x t,ss[i]?=some x/\v=.str x t:=fun i v hv =>
     Lb hi i v (by rw[Array.getElem?_toList];exact hv)
    have hlen:ss.take items.size=ss:=List.take_of_length_le (by rw[<- hi.length,Ard];exact Aqo _)
    refine Ac5 ((Walks.list hh3 _ l hneI items).toS) s.heap.objs.size
     hSf ss hval hb (items.size - 0) 0 _ (by lia) (Arl _)
     ⟨⟨_,Aqt _ rfl,rfl,rfl⟩,(hl1.push _)⟩ ?hS0 ?hR
    case hS0 =>
     exact⟨Ce w,#[],0,_,Aqn _ hS,⟨rfl,rfl,rfl⟩,rfl,fun e he=>by simp at he,by rw[List.take_zero];exact .rfl,by rfl,by rfl,fun h=>absurd h (by simp)⟩
    case hR =>
     intro s' hm hS'
     rw[hlen] at hS'
     obtain⟨h',g',d',tk',os'⟩:=s'
     have eg:g'=s.gens:=hm.gens
     have ed:d'=s.drawn:=hm.drawn
     have eo:os'=s.os:=hm.os
     subst eg;subst ed;subst eo
     show wpAny _ _ _ _ _ _
     refine Aqm ?_
     show wpAny _ _ (ret Value.none) _ _ _
     refine Aqm ⟨rfl,h',tk',rfl,hS',fun b o hb e=>?_⟩
     have hb1:b≠s.heap.objs.size:=Aq2 hb
     have hb2:b≠(s.heap.push (Ce w)).objs.size:=by
      rw[Asg];exact Aq2 (Ar7 hb)
     exact hm.heap b o (by simp only[Ark,List.mem_singleton,Aq7,or_false,not_or];exact⟨hb1,hb2⟩) (Aqn _ (Aqn _ e))
   ·cases r₂ with
    |error e=>exact hr₂
    |ok fl₂ =>
     cases fl₂ with
     |ret r =>
      obtain⟨rfl,h',tk,rfl,hS',hk'⟩:=hr₂
      repeat (any_goals (first|assumption|wp_step))
      exact h _ _ hS' hk'
     |_=>exact hr₂.elim
  |_=>exact hr.elim
end
end TX
end L2
end S_TX2
section S_TX3
open Lean in
set_option hygiene false in
local macro_rules|`(tactic| sizeOf_list_dec)=>do
 let n (s:String):TSyntax `ident:=mkIdent (mkPrivateNameCore `PySem.SetOps (Name.str `PySem s))
 `(tactic| delta $(n "drawn"))
open Lean in
set_option hygiene false in
local macro_rules|`(tactic| array_get_dec)=>do
 let n (s:String):TSyntax `ident:=mkIdent (mkPrivateNameCore `PySem.SetOps (Name.str `PySem s))
 `(tactic| delta $(n "mustBeLedForItsPlaces"))
namespace L2
namespace TX
open PySem PySem.Spec PyProof.Rows
theorem slot_next:Slot "set_iterator" "__next__" "set_iterator.__next__" :=
 .of (owner:="set_iterator") (n:="__next__") (by rw[typeLookup_type,builtinLookup_eq_fast];kernel_rfl) (by decide +kernel) (by decide +kernel) (by decide +kernel)
  (by first|exact .inl (by decide +kernel)|exact .inr (by decide +kernel)) (by rw[isSubtype_type];kernel_rfl)
theorem Om:Slot "set_iterator" "__iter__" "set_iterator.__iter__" :=
 .of (owner:="set_iterator") (n:="__iter__") (by rw[typeLookup_type,builtinLookup_eq_fast];kernel_rfl) (by decide +kernel) (by decide +kernel) (by decide +kernel)
  (by first|exact .inl (by decide +kernel)|exact .inr (by decide +kernel)) (by rw[isSubtype_type];kernel_rfl)
theorem Gc:entryFor table "set_iterator.__next__"=some Builtin.«set_iterator.__next__»:=entryFor_of_tree (by kernel_rfl)
theorem Uq:entryFor table "set_iterator.__iter__"=some Builtin.«dict_keyiterator.__iter__» :=
 entryFor_alias (id':="dict_keyiterator.__iter__") (by kernel_rfl) rfl (by decide +kernel) (by kernel_rfl)
theorem O1:entryFor table "set.__iter__"=some Builtin.«frozenset.__iter__» :=
 entryFor_alias (id':="frozenset.__iter__") (by kernel_rfl) rfl (by decide +kernel) (by kernel_rfl)
theorem Hz (a:Value):argsOk "set_iterator.__next__" ⟨[a],[]⟩:=by unfold argsOk;kernel_rfl
theorem V9 (a:Value):argsOk "set_iterator.__iter__" ⟨[a],[]⟩:=by unfold argsOk;kernel_rfl
theorem Gd {α:Type}:∀ (l:List α) (i:Nat) (h:i < l.length),(l[i]::l.eraseIdx i).Perm l
 |[],_,h=>absurd h (by simp)
 |x::l,0,_=>.rfl
 |x::l,i+1,h=>by
  have h':i < l.length:=by simpa using h
  exact (List.Perm.swap x l[i] _).trans ((Gd l i h').cons x)
theorem Ag6 {α:Type} (f:Nat->Nat):∀ (n k:Nat) (left:List α) (out:Array α),left.length=n->(pickOrder.go f n k left out).toList.Perm (out.toList++left):=by
 intro n
 induction n with
 |zero=>intro k left out h;rw[pickOrder.go,List.length_eq_zero_iff.mp h,Arc]
 |succ n ih =>
  intro k left out h
  rw[pickOrder.go]
  have hlt:f k % left.length < left.length:=Nat.mod_lt _ (by lia)
  rw[Aqu hlt]
  refine (ih _ _ _ (by rw[List.length_eraseIdx];simp[hlt];lia)).trans ?_
  rw[Array.toList_push,List.append_assoc]
  refine List.Perm.append_left _ ?_
  exact Gd _ _ hlt
theorem Iw {α:Type} (f:Nat->Nat) (xs:Array α):(pickOrder f xs).toList.Perm xs.toList:=by
 have:=Ag6 f xs.size 0 xs.toList #[] (by simp)
 simpa [pickOrder] using this
section
variable {prog:Program}{w:World}{A:Around}{E:Value->Shared->Prop}{s:Shared}
theorem Vp {src:Source}{n:Nat}{Q:Nat->Shared->Prop} (hn:n≠0) (h:∀ k d',k < n->Q k { s with drawn:=d' }):wpAny (model prog w) A (choose src n) Q E s:=fun Γ p hΓ=>by
 unfold choose
 rw[Sem.wp_choose]
 exact⟨hn,h _ _ (Nat.mod_lt _ (Nat.pos_of_ne_zero hn))⟩
theorem Aih {α:Type}:∀ (n:Nat) (xs:List α) {s:Shared}{Q:List α->Shared->Prop},xs.length=n->(∀ ys d',ys.Perm xs->Q ys { s with drawn:=d' })->wpAny (model prog w) A (drawOrder n xs) Q E s:=by
 intro n
 induction n with
 |zero=>intro xs s Q h hQ;rw[List.length_eq_zero_iff.mp h];unfold drawOrder;exact Aqm (hQ [] s.drawn (by rw[List.length_eq_zero_iff.mp h]))
 |succ n ih =>
  intro xs s Q h hQ
  cases xs with
  |nil=>simp at h
  |cons x xs =>
   unfold drawOrder
   refine Aql (Vp (by simp) fun i d hi=>?_)
   rw[Aqu hi]
   refine Aql (ih _ (by rw[List.length_eraseIdx,Aqx hi];lia) fun ys d' hp=>Aqm ?_)
   exact hQ _ _ ((hp.cons _).trans (Gd _ _ hi))
def SetAt (h:Heap) (a:Addr) (es:Array (Int×Value)) (ep:Nat) (t:SetTable):Prop:=∃ o,h.get? a=some o/\o.ExactSet/\o.data=.set es ep t/\t.fits es.size=true
def SetIter (h:Heap) (it a:Addr) (first:Value) (i n ep:Nat):Prop:=∃ o,h.get? it=some o/\o.cls=.type "set_iterator"/\o.data=.fields #[first,.int i 0,.ref a,.int n 0,.int ep 0]
theorem SetAt.at' {h h':Heap}{a:Addr}{es:Array (Int×Value)}{ep:Nat}{t:SetTable} (x:SetAt h a es ep t) (e:∀ o,h.get? a=some o->h'.get? a=some o):SetAt h' a es ep t:=let ⟨o,ho,r⟩:=x;⟨o,e _ ho,r⟩
theorem SetIter.at' {h h':Heap}{it a:Addr}{f:Value}{i n ep:Nat} (x:SetIter h it a f i n ep) (e:∀ o,h.get? it=some o->h'.get? it=some o):SetIter h' it a f i n ep:=let ⟨o,ho,r⟩:=x;⟨o,e _ ho,r⟩
theorem SetIter.typeIs {it a:Addr}{f:Value}{i n ep:Nat} (x:SetIter s.heap it a f i n ep):s.TypeIs (.ref it) "set_iterator":=let ⟨o,ho,hc,_⟩:=x;⟨o,ho,hc⟩
theorem SetIter.set {h:Heap}{it a:Addr}{f f':Value}{i n ep:Nat} (x:SetIter h it a f i n ep):SetIter (h.update it (Obj.mapFields (·.setIfInBounds 0 f'))) it a f' i n ep:=by
 obtain⟨o,ho,hc,hd⟩:=x
 exact⟨_,Aso _ ho (Obj.isFreed_of_fields (Atl hd _)),(Obj.cls_mapFields ..).trans hc,by rw[Atl hd];simp⟩
theorem SetIter.inc {h:Heap}{it a:Addr}{f:Value}{i n ep:Nat} (x:SetIter h it a f i n ep):SetIter (h.update it (Obj.mapFields (·.setIfInBounds 1 (rawInt ((i:Int)+1))))) it a f (i+1) n ep:=by
 obtain⟨o,ho,hc,hd⟩:=x
 exact⟨_,Aso _ ho (Obj.isFreed_of_fields (Atl hd _)),(Obj.cls_mapFields ..).trans hc,by rw[Atl hd];simp[rawInt]⟩
theorem Jd {it a:Addr}{f:Value}{i n ep:Nat}{Q:Option Value->Shared->Prop} (hh:A.handled=none) (hit:SetIter s.heap it a f i n ep) (hQ:∀ h',Heap.ExtBut it s.heap h'->Q none { s with heap:=h' }) :
  wpAny (model prog w) A.in1 (do setField (.ref it) 2 .none;raiseNew (<- newExc (.type "StopIteration") []):Sem Fin) (fun fin s'=>∃ r,fin=.done (.ret r)/\wpAny (model prog w) A (pure (some r)) Q E s')
   (fun e s'=>wpAny (model prog w) A (do if <- isInstance e (.type "StopIteration") then pure none else throw e) Q E s') s:=by
 obtain⟨o,ho,hc,hd⟩:=id hit
 refine Aql (Ass ho hd (by simp) ?_)
 refine Aql ?_
 simp only[newExc,newTuple]
 refine Aql (Arv ?_ (by size_fits))
 refine Aql (m:=firstArgMember _ _) (wpAny_of_eq (a:=Value.none) (by first|rfl|(simp only[firstArgMember];rfl)) ?_)
 refine Arv ?_ (by size_fits)
 simp only[raiseNew]
 refine Aql (wpAny_handled ?_)
 rw[show A.in1.handled=none from hh]
 refine Aql (Aqm (wpAny_throw ?_))
 refine Aql (wpAny_isInstance (T:="StopIteration") (b:=true) ⟨_,Aqt _ rfl,rfl⟩ isSubtype_stop ?_)
 exact Aqm (hQ _ (((Heap.SameBut.update ..).extBut.push _).push _))
end
end TX
end L2
end S_TX3
section S_TX4
open Lean in
set_option hygiene false in
local macro_rules|`(tactic| sizeOf_list_dec)=>do
 let n (s:String):TSyntax `ident:=mkIdent (mkPrivateNameCore `PySem.SetOps (Name.str `PySem s))
 `(tactic| delta $(n "drawn"))
open Lean in
set_option hygiene false in
local macro_rules|`(tactic| array_get_dec)=>do
 let n (s:String):TSyntax `ident:=mkIdent (mkPrivateNameCore `PySem.SetOps (Name.str `PySem s))
 `(tactic| delta $(n "mustBeLedForItsPlaces"))
namespace L2
namespace TX
open PySem PySem.Spec PyProof.Rows
section
variable {prog:Program}{w:World}{A:Around}{E:Value->Shared->Prop}{s:Shared}
theorem Adv {it a:Addr}{i ep:Nat}{es:Array (Int×Value)}{t:SetTable}{Q:Option Value->Shared->Prop} (hft:w.params.followText "set-order"=true) (hh:A.handled=none) (hit:SetIter s.heap it a (.int 0 0) i es.size ep) (hS:SetAt s.heap a es ep t)
  (h1:∀ e h',(pickOrder (w.params.setOrder a ep) es)[i]?=some e->SetIter h' it a (.int 0 0) (i+1) es.size ep->Heap.ExtBut it s.heap h'->Q (some e.2) { s with heap:=h' })
  (h0:∀ h',(pickOrder (w.params.setOrder a ep) es)[i]?=none->Heap.ExtBut it s.heap h'->Q none { s with heap:=h' }):wpAny (model prog w) A (pyNext (.ref it)) Q E s:=by
 obtain⟨o,ho,hc,hd⟩:=id hit
 obtain⟨oa,hoa,hex,hda,hf⟩:=id hS
 unfold pyNext
 refine Aql (wpAny_attempt (Ase (name:=Str.ofString "__next__") hit.typeIs slot_next (Ars slot_next hit.typeIs Gc ?_ (Hz _))))
 unfold Builtin.«set_iterator.__next__»
 refine Aql (Aqm ?_)
 refine Aql (wpAny_fieldsOf ho hd ?_)
 show wpAny _ _ (setEntries a >>= _) _ _ s
 refine Aql (wpAny_setEntries_of hoa hda hf ?_)
 rw[Aq0 (by simp)]
 show wpAny _ _ (setNext a 0 (Int.toNat i) (Int.toNat ep) >>= _) _ _ s
 rw[Int.toNat_natCast,Int.toNat_natCast]
 refine Aql ?_
 unfold setNext
 refine Aql (wpAny_setState_of hoa hda hf ?_)
 refine Aql (Aql (wpAny_askSetting (Aqm ?_)))
 show wpAny _ _ (if w.params.followText "set-order"=true then _ else _) _ _ s
 rw[Aqx hft]
 rw[Aq0 (by simp)]
 refine Aql ?_
 unfold setWalk
 refine Aql (wpAny_setState_of hoa hda hf ?_)
 refine Aql (Aql (wpAny_askSetting (Aqm ?_)))
 show wpAny _ _ (if w.params.followText "set-order"=true then _ else _) _ _ s
 rw[Aqx hft]
 refine Aql (wpAny_askSetting (Aqm ?_))
 show wpAny _ _ (pure (Option.map _ ((pickOrder (w.params.setOrder a ep) es)[i]?))) _ _ s
 refine Aqm ?_
 cases hq:(pickOrder (w.params.setOrder a ep) es)[i]? with
 |none=>exact Jd hh hit fun h' hb=>h0 h' hq hb
 |some e =>
  show wpAny _ _ (setField (.ref it) 0 (rawInt 0) >>= _) _ _ s
  refine Aql (Ass ho hd (by simp) ?_)
  have hit1:=hit.set (f':=rawInt 0)
  obtain⟨o1,ho1,hc1,hd1⟩:=id hit1
  refine Aql (Ass ho1 hd1 (by simp) ?_)
  exact Aqm ⟨_,rfl,Aqm (h1 e _ hq hit1.inc ((Heap.SameBut.update ..).trans (Heap.SameBut.update ..)).extBut)⟩
theorem Adt {it a tp:Addr}{i ep:Nat}{es:Array (Int×Value)}{t:SetTable}{ps:List Nat}{ot:Obj}{c:Nat}{Q:Option Value->Shared->Prop} (hh:A.handled=none) (hit:SetIter s.heap it a (.ref tp) i es.size ep) (hS:SetAt s.heap a es ep t)
  (ht:s.heap.get? tp=some ot) (hdt:ot.data=.seq (ps.map fun (k:Nat)=>rawInt k).toArray c) (hps:∀ p∈ps,p < es.size)
  (h1:∀ p e h',ps[i]?=some p->es[p]?=some e->SetIter h' it a (.ref tp) (i+1) es.size ep->Heap.ExtBut it s.heap h'->Q (some e.2) { s with heap:=h' })
  (h0:∀ h',ps[i]?=none->Heap.ExtBut it s.heap h'->Q none { s with heap:=h' }):wpAny (model prog w) A (pyNext (.ref it)) Q E s:=by
 obtain⟨o,ho,hc,hd⟩:=id hit
 obtain⟨oa,hoa,hex,hda,hf⟩:=id hS
 unfold pyNext
 refine Aql (wpAny_attempt (Ase (name:=Str.ofString "__next__") hit.typeIs slot_next (Ars slot_next hit.typeIs Gc ?_ (Hz _))))
 unfold Builtin.«set_iterator.__next__»
 refine Aql (Aqm ?_)
 refine Aql (wpAny_fieldsOf ho hd ?_)
 show wpAny _ _ (setEntries a >>= _) _ _ s
 refine Aql (wpAny_setEntries_of hoa hda hf ?_)
 rw[Aq0 (by simp)]
 show wpAny _ _ (seqItems? (.ref tp) >>= _) _ _ s
 refine Aql (Atm ht hdt ?_)
 have eg:(ps.map fun (k:Nat)=>rawInt k).toArray[Int.toNat (i:Int)]?=(ps[i]?).map fun (k:Nat)=>rawInt k:=by
  rw[Int.toNat_natCast,List.getElem?_toArray,Aq9]
 dsimp only
 rw[eg]
 cases hq:ps[i]? with
 |none =>
  show wpAny _ _ (setField (.ref it) 0 (rawInt 0) >>= _) _ _ s
  refine Aql (Ass ho hd (by simp) ?_)
  exact Jd hh (hit.set (f':=rawInt 0)) fun h' hb=>h0 h' hq ((Heap.SameBut.update ..).extBut.trans hb)
 |some p =>
  have hp:p < es.size:=hps p (Aq4 hq)
  show wpAny _ _ (setNextDrawn a (Int.toNat p) (Int.toNat ep) >>= _) _ _ s
  rw[Int.toNat_natCast,Int.toNat_natCast]
  refine Aql ?_
  unfold setNextDrawn
  refine Aql (wpAny_setState_of hoa hda hf ?_)
  dsimp only
  rw[Aq0 (by simp)]
  have he:es[p]?=some es[p]:=Asp hp
  rw[he]
  refine Aqm ?_
  refine Aql (Ass ho hd (by simp) ?_)
  exact Aqm ⟨_,rfl,Aqm (h1 p es[p] _ hq he hit.inc (Heap.SameBut.update ..).extBut)⟩
theorem Adu {it a:Addr}{i sl ep:Nat}{es:Array (Int×Value)}{t:SetTable}{Q:Option Value->Shared->Prop} (hft:w.params.followText "set-order"=false) (hl:t.led=true) (h2:es.size<=1) (hh:A.handled=none) (hit:SetIter s.heap it a (.int sl 0) i es.size ep) (hS:SetAt s.heap a es ep t)
  (hb:SetTable.below t.place sl=i)
  (h1:∀ e j h',es[i]?=some e->t.place[i]?=some j->SetIter h' it a (.int ((j+1:Nat):Int) 0) (i+1) es.size ep->Heap.ExtBut it s.heap h'->Q (some e.2) { s with heap:=h' })
  (h0:∀ h',es[i]?=none->Heap.ExtBut it s.heap h'->Q none { s with heap:=h' }):wpAny (model prog w) A (pyNext (.ref it)) Q E s:=by
 obtain⟨o,ho,hc,hd⟩:=id hit
 obtain⟨oa,hoa,hex,hda,hf⟩:=id hS
 have hpz:t.place.size=es.size:=by simp only[SetTable.fits,Aq1,beq_iff_eq] at hf;exact hf.1
 unfold pyNext
 refine Aql (wpAny_attempt (Ase (name:=Str.ofString "__next__") hit.typeIs slot_next (Ars slot_next hit.typeIs Gc ?_ (Hz _))))
 unfold Builtin.«set_iterator.__next__»
 refine Aql (Aqm ?_)
 refine Aql (wpAny_fieldsOf ho hd ?_)
 show wpAny _ _ (setEntries a >>= _) _ _ s
 refine Aql (wpAny_setEntries_of hoa hda hf ?_)
 rw[Aq0 (by simp)]
 show wpAny _ _ (setNext a (Int.toNat sl) (Int.toNat i) (Int.toNat ep) >>= _) _ _ s
 rw[Int.toNat_natCast,Int.toNat_natCast,Int.toNat_natCast]
 refine Aql ?_
 unfold setNext
 refine Aql (wpAny_setState_of hoa hda hf ?_)
 refine Aql (Aql (wpAny_askSetting (Aqm ?_)))
 show wpAny _ _ (if w.params.followText "set-order"=true then _ else _) _ _ s
 rw[Aq0 (by rw[hft];exact Arb)]
 sizeOf_list_dec
 array_get_dec
 dsimp only
 rw[Aq0 (by simp;lia),Aq0 (by rw[hl];simp)]
 refine Aql (Aqm ?_)
 rw[hb]
 refine Aqm ?_
 cases hq:es[i]? with
 |none=>exact Jd hh hit fun h' hb=>h0 h' hq hb
 |some e =>
  have hi:i < t.place.size:=by rw[hpz];exact (Array.getElem?_eq_some_iff.mp hq).1
  have hj:t.place[i]?=some t.place[i]:=Asp hi
  rw[hj]
  show wpAny _ _ (setField (.ref it) 0 (rawInt ((t.place[i]+1:Nat):Int)) >>= _) _ _ s
  refine Aql (Ass ho hd (by simp) ?_)
  have hit1:=hit.set (f':=rawInt ((t.place[i]+1:Nat):Int))
  obtain⟨o1,ho1,hc1,hd1⟩:=id hit1
  refine Aql (Ass ho1 hd1 (by simp) ?_)
  exact Aqm ⟨_,rfl,Aqm (h1 e _ _ hq hj hit1.inc ((Heap.SameBut.update ..).trans (Heap.SameBut.update ..)).extBut)⟩
end
end TX
end L2
end S_TX4
section S_TX5
open Lean in
set_option hygiene false in
local macro_rules|`(tactic| sizeOf_list_dec)=>do
 let n (s:String):TSyntax `ident:=mkIdent (mkPrivateNameCore `PySem.SetOps (Name.str `PySem s))
 `(tactic| delta $(n "drawn"))
namespace L2
namespace TX
open PySem PySem.Spec PyProof.Rows
theorem Ai9 (xs:Array Nat) (h:xs.size<=1):SetTable.below xs 0=0:=by
 unfold SetTable.below
 rcases Nat.lt_or_ge 0 xs.size with h0|h0
 ·have e:xs.size=1:=by lia
  rw[e];simp[SetTable.below.go]
 ·have e:xs.size=0:=by lia
  rw[e];simp[SetTable.below.go]
theorem Aja (xs:Array Nat) (j:Nat) (h:xs.size=1) (hj:xs[0]?=some j):SetTable.below xs (j+1)=1:=by
 unfold SetTable.below
 rw[h]
 simp[SetTable.below.go,Array.getD_eq_getD_getElem?,hj]
section
variable {prog:Program}{w:World}{A:Around}{E:Value->Shared->Prop}{s:Shared}
theorem Jb {it a:Addr}{f:Value}{i n ep:Nat}{Q:Value->Shared->Prop} (hit:SetIter s.heap it a f i n ep) (h:Q (.ref it) s):wpAny (model prog w) A (pyIter (.ref it)) Q E s:=by
 refine wpAny_pyIter_slot hit.typeIs Om (Ars Om hit.typeIs Uq ?_ (V9 _))
 show wpAny _ _ (ret (.ref it)) _ _ s
 exact Aqm ⟨_,rfl,"set_iterator",_,hit.typeIs,slot_next.lookup,h⟩
theorem Aig (hft:w.params.followText "set-order"=true) (hh:A.handled=none) (I a:Addr) (hne:a≠I) (es:Array (Int×Value)) (ep:Nat) (t:SetTable) :
  Walks prog w A I [I,a] [I] es.size (fun i v=>((pickOrder (w.params.setOrder a ep) es).toList.map (·.2))[i]?=some v) (fun i h=>SetIter h I a (.int 0 0) i es.size ep/\SetAt h a es ep t) where
 sub:=fun b hb=>by simp at hb;simp[hb]
 frame:=fun _ _ _ st hk=>⟨st.1.at' fun o e=>hk I (by simp) o e,st.2.at' fun o e=>hk a (by simp) o e⟩
 item:=fun i s Q E hi st hQ=>Adv hft hh st.1 st.2 (fun e h' he hit' hb=>hQ e.2 h' s.toks (by rw[Aq9,Array.getElem?_toList,he];rfl) ⟨hit',st.2.at' fun o e=>hb a o hne e⟩ fun b o hb' e=>hb b o (fun h=>hb' (by simp[h])) e)
  fun h' hn _=>by
   have hz:(pickOrder (w.params.setOrder a ep) es).size=es.size:=by rw[<- Ard,(Iw _ es).length_eq,Ard]
   rw[Asp (by lia)] at hn
   cases hn
 done:=fun s Q E st hQ=>Adv hft hh st.1 st.2 (fun e h' he _ _=>by
   have hz:(pickOrder (w.params.setOrder a ep) es).size=es.size:=by rw[<- Ard,(Iw _ es).length_eq,Ard]
   rw[Array.getElem?_eq_none (by lia)] at he
   cases he) fun h' _ hb=>hQ h' s.toks fun b o hb' e=>hb b o (fun h=>hb' (by simp[h])) e
 self:=fun _ _ _ _ st hQ=>Jb st.1 hQ
theorem Aif (hft:w.params.followText "set-order"=false) (t:SetTable) (hl:t.led=true) (es:Array (Int×Value)) (h2:es.size<=1) (hf:t.fits es.size=true) (hh:A.handled=none) (I a:Addr) (hne:a≠I) (ep:Nat) :
  Walks prog w A I [I,a] [I] es.size (fun i v=>(es.toList.map (·.2))[i]?=some v) (fun i h=>(∃ sl:Nat,SetIter h I a (.int sl 0) i es.size ep/\SetTable.below t.place sl=i)/\SetAt h a es ep t) where
 sub:=fun b hb=>by simp at hb;simp[hb]
 frame:=fun _ _ _ st hk=>⟨st.1.imp fun _ z=>⟨z.1.at' fun o e=>hk I (by simp) o e,z.2⟩,st.2.at' fun o e=>hk a (by simp) o e⟩
 item:=fun i s Q E hi st hQ=>by
  obtain⟨⟨sl,hit,hb⟩,hS⟩:=st
  refine Adu hft hl h2 hh hit hS hb (fun e j h' he hj hit' hb=>hQ e.2 h' s.toks (by rw[Aq9,Array.getElem?_toList,he];rfl) ⟨⟨_,hit',?_⟩,hS.at' fun o e=>hb a o hne e⟩ fun b o hb' e=>hb b o (fun h=>hb' (by simp[h])) e) fun h' hn _=>?_
  ·have hpz:t.place.size=es.size:=by simp only[SetTable.fits,Aq1,beq_iff_eq] at hf;exact hf.1
   have e0:i=0:=by lia
   subst e0
   exact Aja _ _ (by lia) hj
  ·rw[Asp hi] at hn;cases hn
 done:=fun s Q E st hQ=>by
  obtain⟨⟨sl,hit,hb⟩,hS⟩:=st
  refine Adu hft hl h2 hh hit hS hb (fun e j h' he _ _ _=>?_) fun h' _ hb=>hQ h' s.toks fun b o hb' e=>hb b o (fun h=>hb' (by simp[h])) e
  rw[Array.getElem?_eq_none (Aqo _)] at he;cases he
 self:=fun _ _ _ _ st hQ=>Jb st.1.choose_spec.1 hQ
theorem Aie (hh:A.handled=none) (I a tp:Addr) (hne:a≠I) (hnt:tp≠I) (es:Array (Int×Value)) (ep:Nat) (t:SetTable) (ps:List Nat) (hps:ps.Perm (List.range es.size)) (ot:Obj) (c:Nat) (hdt:ot.data=.seq (ps.map fun (k:Nat)=>rawInt k).toArray c) :
  Walks prog w A I [I,a,tp] [I] es.size (fun i v=>(ps.map fun p=>(es.getD p (0,.none)).2)[i]?=some v) (fun i h=>SetIter h I a (.ref tp) i es.size ep/\SetAt h a es ep t/\h.get? tp=some ot) where
 sub:=fun b hb=>by simp at hb;simp[hb]
 frame:=fun _ _ _ st hk=>⟨st.1.at' fun o e=>hk I (by simp) o e,st.2.1.at' fun o e=>hk a (by simp) o e,hk tp (by simp) _ st.2.2⟩
 item:=fun i s Q E hi st hQ=>Adt hh st.1 st.2.1 st.2.2 hdt (fun p hp=>List.mem_range.mp (hps.mem_iff.mp hp)) (fun p e h' hp he hit' hb=>hQ e.2 h' s.toks (by rw[Aq9,hp];simp[Array.getD_eq_getD_getElem?,he]) ⟨hit',st.2.1.at' fun o e=>hb a o hne e,hb tp _ hnt st.2.2⟩ fun b o hb' e=>hb b o (fun h=>hb' (by simp[h])) e)
  fun h' hn _=>by
   have hz:ps.length=es.size:=by rw[hps.length_eq,List.length_range]
   rw[Aqu (by lia)] at hn
   cases hn
 done:=fun s Q E st hQ=>Adt hh st.1 st.2.1 st.2.2 hdt (fun p hp=>List.mem_range.mp (hps.mem_iff.mp hp)) (fun p e h' hp _ _ _=>by
   have hz:ps.length=es.size:=by rw[hps.length_eq,List.length_range]
   rw[Ar6 (by lia)] at hp
   cases hp) fun h' _ hb=>hQ h' s.toks fun b o hb' e=>hb b o (fun h=>hb' (by simp[h])) e
 self:=fun _ _ _ _ st hQ=>Jb st.1 hQ
theorem Gh {es:List (Int×Value)} (h:ElemsOf (PySem.strKind prog w) es):∀ {l:List Value},(∀ v∈l,v∈es.map (·.2))->StrsAre l (l.map strOf):=fun {l} hl=>strsAre_map l fun v hv=>by
 obtain⟨e,he,rfl⟩:=List.mem_map.mp (hl v hv)
 obtain⟨⟨k,hk,_⟩,_⟩:=h e he
 obtain⟨t,ht⟩:=Value.isStrOf_shape hk
 exact⟨k,t,ht⟩
theorem Abs (es:Array (Int×Value)):(List.range es.size).map (fun p=>(es.getD p (0,.none)).2)=es.toList.map (·.2):=by
 refine List.ext_getElem? fun i=>?_
 rw[Aq9,Aq9]
 by_cases hi:i < es.size
 ·rw[List.getElem?_range hi];simp[Array.getD_eq_getD_getElem?,hi]
 ·rw[Ar6 (by simpa using hi),Ar6 (by simpa using hi)];rfl
theorem Vf {a:Addr}{xs:List Str}{Q:Value->Shared->Prop} (hh:A.handled=none) (hS:SetT prog w s.heap a xs) (hz:xs.length<=1000)
  (hQ:∀ (I:Addr) (h0:Heap) (d':Drawn) (fp:List Addr) (St:Nat->Heap->Prop) (ord:List Value) (ss:List Str),Walks prog w A I fp [I] xs.length (fun i v=>ord[i]?=some v) St->St 0 h0->StrsAre ord ss->ss.Perm xs ->
   (∀ b o,s.heap.get? b=some o->h0.get? b=some o)->(∀ b∈fp,b=a\/s.heap.objs.size<=b)->s.heap.objs.size<=I->Q (.ref I) { s with heap:=h0,drawn:=d' }):wpAny (model prog w) A (pyIter (.ref a)) Q E s:=by
 obtain⟨o,es,ep,t,ho,hex,hd,hel,hp,hf,hl,hpl⟩:=hS
 have hsz:es.size=xs.length:=by rw[<- hp.length_eq];simp[txs]
 rw[<- hsz] at hQ
 have hT:s.TypeIs (.ref a) "set":=⟨o,ho,hex.1⟩
 have ha:a < s.heap.objs.size:=Aqp ho
 have hA:SetAt s.heap a es ep t:=⟨o,ho,hex,hd,hf⟩
 have etx:txs es.toList=(es.toList.map (·.2)).map strOf:=by unfold txs;rw[As2];rfl
 refine wpAny_pyIter_slot hT PySem.F.slot_set_iter (Ars PySem.F.slot_set_iter hT O1 ?_ (PySem.F.args_set_iter_1 _))
 unfold Builtin.«frozenset.__iter__»
 refine Aql ?_
 unfold Builtin.Frozenset.slot0 slotArgs
 simp only[List.isEmpty_nil,Asi,Arp,↓reduceIte,bind_assoc,Arz,bne_self_eq_false]
 unfold Builtin.Frozenset.addrOf Builtin.Frozenset.sizeOf
 refine Aql (Aqm ?_)
 try dsimp only
 refine Aqm ?_
 refine Aql (Aql (wpAny_setEntries_of ho hd hf (Aqm ?_)))
 refine Aql ?_
 unfold setDrawn setsByText
 refine Aql (wpAny_setState_of ho hd hf ?_)
 refine Aql (Aql (wpAny_askSetting (Aqm ?_)))
 sizeOf_list_dec
 refine Aqm ?_
 show wpAny _ _ (if (!w.params.followText "set-order"&&(!t.plain&&decide (es.size > 1)))=true then _ else _) _ _ s
 have fin:∀ {st:Shared}{first:Value}{R:Fin->Shared->Prop}{E':Value->Shared->Prop},st.heap.get? a=some o->R (.done (.ret (.ref st.heap.objs.size))) { st with heap:=st.heap.push { cls:=.type "set_iterator",data:=.fields #[first,.int 0 0,.ref a,.int es.size 0,.int ep 0] } }->wpAny (model prog w) A.in1 (do
   let __do_lift <- setEpoch a
   let __do_lift <- newFields "set_iterator" [first,rawInt 0,Value.ref a,rawInt ↑es.size,rawInt ↑__do_lift]
   ret __do_lift) R E' st:=fun {st first R E'} ho' h=>Aql (wpAny_setEpoch_of ho' hd hf (Aql (Arv (Aqm h))))
 by_cases hc:(!w.params.followText "set-order"&&(!t.plain&&decide (es.size > 1)))=true
 ·rw[Aqx hc]
  refine Aql (Aih es.size _ (by simp) fun ps d' hps=>?_)
  have hpl:ps.length=es.size:=by rw[hps.length_eq,List.length_range]
  refine Aql (wpAny_newTuple ?_ (by rw[Aqw];have:=Ar8;lia))
  refine fin (Aqn _ ho) ⟨_,rfl,"set_iterator",_,⟨_,Aqt _ rfl,rfl⟩,slot_next.lookup,?_⟩
  have htp:(s.heap.push { cls:=.type "tuple",data:=.seq (ps.map fun (i:Nat)=>rawInt i).toArray }).get? s.heap.objs.size=some { cls:=.type "tuple",data:=.seq (ps.map fun (i:Nat)=>rawInt i).toArray }:=Aqt _ rfl
  have hI:(s.heap.push { cls:=.type "tuple",data:=.seq (ps.map fun (i:Nat)=>rawInt i).toArray }).objs.size=s.heap.objs.size+1:=Asg ..
  have hmap:(ps.map fun p=>(es.getD p (0,.none)).2).Perm (es.toList.map (·.2)):=by rw[<- Abs];exact hps.map _
  have hgI:((s.heap.push { cls:=.type "tuple",data:=.seq (ps.map fun (i:Nat)=>rawInt i).toArray }).push { cls:=.type "set_iterator",data:=.fields #[.ref s.heap.objs.size,.int 0 0,.ref a,.int es.size 0,.int ep 0] }).get? (s.heap.objs.size+1)=some { cls:=.type "set_iterator",data:=.fields #[.ref s.heap.objs.size,.int 0 0,.ref a,.int es.size 0,.int ep 0] }:=by rw[<- hI];exact Aqt _ rfl
  rw[hI]
  refine hQ _ _ d' _ _ _ _ (Aie hh (s.heap.objs.size+1) a s.heap.objs.size (Aq2 (Ar7 ha)) (Aq2 (As4 _)) es ep t ps hps _ _ rfl) ⟨⟨_,hgI,rfl,rfl⟩,(hA.at' fun o e=>Aqn _ (Aqn _ e)),Aqn _ htp⟩ (Gh hel fun v hv=>hmap.mem_iff.mp hv) ((hmap.map strOf).trans (etx ▸ hp)) (fun b o e=>Aqn _ (Aqn _ e)) (fun b hb=>?_) (As9 _)
  simp only[Ark,Aq7,or_false] at hb
  rcases hb with rfl|rfl|rfl
  ·exact .inr (As9 _)
  ·exact .inl rfl
  ·exact .inr (Aqo _)
 ·rw[Aq0 hc]
  refine Aql (Aqm ?_)
  refine fin ho ⟨_,rfl,"set_iterator",_,⟨_,Aqt _ rfl,rfl⟩,slot_next.lookup,?_⟩
  have kp:∀ b o,s.heap.get? b=some o->(s.heap.push { cls:=.type "set_iterator",data:=.fields #[.int 0 0,.int 0 0,.ref a,.int es.size 0,.int ep 0] }).get? b=some o:=fun b o e=>Aqn _ e
  have hfp:∀ b∈[s.heap.objs.size,a],b=a\/s.heap.objs.size<=b:=fun b hb=>by
   simp only[Ark,Aq7,or_false] at hb
   rcases hb with rfl|rfl
   ·exact .inr (Aqo _)
   ·exact .inl rfl
  cases hft:w.params.followText "set-order" with
  |true =>
   have hmap:((pickOrder (w.params.setOrder a ep) es).toList.map (·.2)).Perm (es.toList.map (·.2)):=(Iw _ es).map _
   exact hQ _ _ s.drawn _ _ _ _ (Aig hft hh _ a (Aq2 ha) es ep t) ⟨⟨_,Aqt _ rfl,rfl,rfl⟩,hA.at' fun o e=>kp _ o e⟩ (Gh hel fun v hv=>hmap.mem_iff.mp hv) ((hmap.map strOf).trans (etx ▸ hp)) kp hfp (Aqo _)
  |false =>
   have h2:es.size<=1:=by
    rcases Nat.lt_or_ge 1 es.size with h|h
    ·exact absurd (by rw[hft,hpl (by lia)];simp;lia) hc
    ·exact h
   have hpz:t.place.size=es.size:=by simp only[SetTable.fits,Aq1,beq_iff_eq] at hf;exact hf.1
   exact hQ _ _ s.drawn _ _ _ _ (Aif hft t (by rw[hl,hft];rfl) es h2 hf hh _ a (Aq2 ha) ep) ⟨⟨0,⟨_,Aqt _ rfl,rfl,rfl⟩,Ai9 _ (by lia)⟩,hA.at' fun o e=>kp _ o e⟩ (Gh hel fun v hv=>hv) (etx ▸ hp) kp hfp (Aqo _)
end
end TX
end L2
end S_TX5
section S_TX6
namespace L2
namespace TX
open PySem PySem.Spec PyProof.Rows
section
variable {prog:Program}{w:World}{A:Around}{E:Value->Shared->Prop}{s:Shared}
theorem Abm {r:Addr}{Q:Bool->Shared->Prop} (hT:s.TypeIs (.ref r) "set") (h:Q false s):wpAny (model prog w) A (Builtin.List.listLengthHint (.ref r)) Q E s:=by
 unfold Builtin.List.listLengthHint
 refine Aql (wpAny_specialOf hT PySem.F.slot_set_len.lookup ?_)
 generalize hid:("set.__len__":String)=id0
 wp_delta
 rw[show splitId id0=some ("set","__len__") from by subst hid;decide +kernel]
 subst hid
 refine Aql (wpAny_isInstance (T:="set") (b:=true) hT (by rw[isSubtype_type];kernel_rfl) ?_)
 refine wpAny_ite_split (fun hab=>absurd hab (by decide)) (fun _=>?_)
 refine wpAny_ite_split (fun _=>?_) (fun hab=>absurd (by decide +kernel) hab)
 refine Aql (Asx hT ?_)
 exact Aqm h
theorem Us {R:Result->Shared->Prop}{r:Addr}{xs:List Str} (hh:A.handled=none) (hX:SetT prog w s.heap r xs) (hz:xs.length<=1000) (S:Addr) (hSr:S≠r) (res:Value) (c₀:Nat) (hS:s.heap.get? S=some { cls:=.type "list",data:=.seq #[] c₀ })
  (hR:∀ h' tk d' acc' c' ss,(∀ b o,b≠S->s.heap.get? b=some o->h'.get? b=some o)->h'.get? S=some { cls:=.type "list",dict:=none,data:=.seq acc' c',slots:=#[] }->StrsAre acc'.toList ss->ss.Perm xs->R (.ok (.ret res)) { s with heap:=h',toks:=tk,drawn:=d' }) :
  wpAny (model prog w) A.in1 (Builtin.List.listExtendWith (.ref S) (.ref r) res)
   (fun fin s'=>match fin with|.done f=>R (.ok f) s'|.again c'=>c'.quiet=true/\codeAny (model prog w) A c' R s') (fun e s'=>R (.error e) s') s:=by
 have hlS:S < s.heap.objs.size:=Aqp hS
 have hT:∀ {s':Shared},SetT prog w s'.heap r xs->s'.TypeIs (.ref r) "set":=fun {s'} x=>let ⟨o,_,_,_,ho,hc,_⟩:=x;⟨o,ho,hc.1⟩
 unfold Builtin.List.listExtendWith
 refine Aql (Asx (T:="set") (hT hX) ?_)
 have h1:Builtin.List.listSameRef (.ref S) (.ref r)=false:=by simp[Builtin.List.listSameRef,hSr]
 have n1:(Value.type "set" == Value.type "list")=false:=by decide
 have n2:(Value.type "set" == Value.type "tuple")=false:=by decide
 simp only[h1,n1,n2,As8,Arp,if_false]
 refine Aql (Vf (A:=A.in1) hh hX hz fun I h0 d' fp St ord ss W st hord hp hk hfp hI=>?_)
 have hSf:S∉fp:=fun h=>by
  rcases hfp S h with e|e
  ·exact hSr e
  ·exact absurd (Aqz hlS e) (Arj _)
 have hSI:S≠I:=fun e=>by rw[e] at hlS;exact absurd (Aqz hlS hI) (Arj _)
 have hlo:ord.length=xs.length:=by rw[hord.length,hp.length_eq]
 have key:∀ (h:Heap) (c₁ tk:Nat),St 0 h->(∀ b o,b≠S->s.heap.get? b=some o->h.get? b=some o) ->
   h.get? S=some { cls:=.type "list",data:=.seq #[] c₁ }->codeAny (model prog w) A (.builtin "list.extend.loop" ⟨[.ref S,.ref I,res],[]⟩) R { s with heap:=h,toks:=tk,drawn:=d' }:=by
  intro h c₁ tk hst hk hS₁
  refine codeAny_extend_loopS W.toS (by have:=Ar8;lia) S hSf res xs.length 0 _ #[] c₁ rfl (Arl _) hst hS₁ (ItemsOf.nil _) fun s' acc' c' hm hS' hacc=>?_
  rw[Moved.eq_with hm]
  refine hR s'.heap s'.toks d' acc' c' ss (fun b o hb e=>hm.heap b o (fun hmem=>?_) (hk b o hb e)) hS' ?_ hp
  ·rcases List.mem_cons.mp hmem with e'|hmem
   ·exact hb e'
   ·exact absurd (Aqp e) (by rw[List.mem_singleton.mp hmem];exact Nat.not_lt.mpr hI)
  ·have ea:acc'.toList=ord:=by
    refine List.ext_getElem? fun i=>?_
    by_cases hi:i < acc'.size
    ·have q:ord[i]?=some acc'[i]:=hacc.2 i acc'[i] (by simp[hi])
     rw[q,Array.getElem?_toList];simp[hi]
    ·have h1:=hacc.1
     rw[Ar6 (by simpa using hi),Ar6 (by lia)]
   rw[ea];exact hord
 have hS₁:=hk S _ hS
 refine Aql (Arw (Abm (s:={ s with heap:=h0,drawn:=d' }) (hT (hX.at' fun o e=>hk r o e)) ?_))
 refine wpAny_ite_split (fun _=>?_) (fun _=>Aqm ⟨plainId_quiet PySem.F.plain_extend_loop _,key _ c₀ s.toks st (fun b o _ e=>hk b o e) hS₁⟩)
 refine Aql (wpAny_rule ?_)
 refine Aql ?_
 show wpAny _ _ (updateSeq S (·.push .none) >>= fun _=>updateSeq S (·.pop)) _ _ _
 refine Aql (wpAny_updateSeq hS₁ rfl ?_)
 have hS₂:=Aso (Obj.mapSeq (·.push Value.none)) hS₁ rfl
 refine wpAny_updateSeq (hz:=by seq_fits) hS₂ rfl ?_
 have hS₃:=Aso (Obj.mapSeq (·.pop)) hS₂ rfl
 refine Aqm ⟨plainId_quiet PySem.F.plain_extend_loop _,key _ _ s.toks ?_ (fun b o hb e=>?_) hS₃⟩
 ·refine W.frame 0 _ _ st fun b hb o e=>?_
  have hbS:b≠S:=fun h=>hSf (h ▸ hb)
  exact (Aru _ _ (Asr hbS)).trans ((Aru _ _ (Asr hbS)).trans e)
 ·exact (Aru _ _ (Asr hb)).trans ((Aru _ _ (Asr hb)).trans (hk _ _ e))
theorem Oz {R:List Value->Shared->Prop}{r:Addr}{xs:List Str} (hh:A.handled=none) (hX:SetT prog w s.heap r xs) (hz:xs.length<=1000)
  (h:∀ (h':Heap) (tk:Nat) (d':Drawn) (acc:List Value) (ss:List Str),(∀ b o,s.heap.get? b=some o->h'.get? b=some o)->StrsAre acc ss->ss.Perm xs->R acc { s with heap:=h',toks:=tk,drawn:=d' }) :
  wpAny (model prog w) A (collect (.ref r)) R E s:=by
 have hlt:r < s.heap.objs.size:=let ⟨_,_,_,_,ho,_⟩:=hX;Aqp ho
 unfold collect
 refine Aql (wpAny_runValue (codeAny_builtin entry_proto_collect' ?_))
 rw[Around.under_plainId PySem.F.plain_proto_collect _]
 show wpAny _ A.in1 (newList [] >>= fun l=>again (.builtin "list.__iadd__" ⟨[l,.ref r],[]⟩)) _ _ s
 refine Aql (Arv ?_)
 refine Aqm ⟨plainId_quiet PySem.F.plain_list_iadd _,codeAny_builtin entry_list_iadd' ?_⟩
 rw[Around.under_plainId PySem.F.plain_list_iadd _]
 have hS₁:(s.heap.push { cls:=.type "list",data:=.seq ([]:List Value).toArray }).get? s.heap.objs.size=some { cls:=.type "list",data:=.seq #[] }:=Aqt _ rfl
 show wpAny _ A.in1 (Builtin.List.listExtendWith (.ref s.heap.objs.size) (.ref r) (.ref s.heap.objs.size)) _ _ _
 have key:=Us (A:=A) (s:={ s with heap:=s.heap.push { cls:=.type "list",data:=.seq ([]:List Value).toArray } })
  (R:=fun (q:Result) (s':Shared)=>∃ (h':Heap) (tk:Nat) (d':Drawn) (acc':Array Value) (c':Nat) (ss:List Str),q=.ok (.ret (.ref s.heap.objs.size))/\s'={ s with heap:=h',toks:=tk,drawn:=d' } /\
   (∀ b o,s.heap.get? b=some o->h'.get? b=some o)/\h'.get? s.heap.objs.size=some { cls:=.type "list",dict:=none,data:=.seq acc' c',slots:=#[] }/\StrsAre acc'.toList ss/\ss.Perm xs)
  hh (hX.at' fun o e=>Aqn _ e) hz s.heap.objs.size (Atd hlt) (.ref s.heap.objs.size) 0 hS₁
  (fun h' tk d' acc' c' ss hk hS' hacc hp=>⟨h',tk,d',acc',c',ss,rfl,rfl,fun b o e=>hk b o (Aq2 (Aqp e)) (Aqn _ e),hS',hacc,hp⟩)
 refine Asq key (fun fin s' x=>?_) fun e s' x=>?_
 ·cases fin with
  |done f =>
   obtain⟨h',tk,d',acc',c',ss,e,rfl,hk,hS',hacc,hp⟩:=x
   cases e
   show wpAny _ A (load s.heap.objs.size >>= _) _ _ _
   refine Aql (wpAny_load hS' ?_)
   exact Aqm (h h' tk d' acc'.toList ss hk hacc hp)
  |again c₁ =>
   refine⟨x.1,codeAny_mono x.2 fun q s₂ y=>?_⟩
   obtain⟨h',tk,d',acc',c',ss,rfl,rfl,hk,hS',hacc,hp⟩:=y
   show wpAny _ A (load s.heap.objs.size >>= _) _ _ _
   refine Aql (wpAny_load hS' ?_)
   exact Aqm (h h' tk d' acc'.toList ss hk hacc hp)
 ·obtain⟨_,_,_,_,_,_,e',_⟩:=x
  cases e'
end
end TX
end L2
end S_TX6
section S_TX7
namespace L2
namespace TX
open PySem PySem.Spec PyProof.Rows
noncomputable def leT (a b:Str):Bool:=!decide (b.cps.toList < a.cps.toList)
theorem Pr {a b:Str} (h:a.cps.toList=b.cps.toList):a=b:=by
 cases a;cases b;simp only at h;rw[Array.toList_inj.mp h]
theorem Abp {a b:Str} (h:leT a b=true) (h':leT b a=true):a=b:=by
 unfold leT at h h'
 simp only[Bool.not_eq_true',decide_eq_false_iff_not,List.not_lt] at h h'
 exact Pr (List.le_antisymm h h')
theorem N5 (a b c:Str) (h:leT a b=true) (h':leT b c=true):leT a c=true:=by
 unfold leT at h h' ⊢
 simp only[Bool.not_eq_true',decide_eq_false_iff_not,List.not_lt] at h h' ⊢
 exact List.le_trans h h'
theorem X6 (a b:Str):(leT a b||leT b a)=true:=by
 unfold leT
 rcases List.le_total a.cps.toList b.cps.toList with h|h
 ·have:¬ b.cps.toList < a.cps.toList:=List.not_lt.mpr h
  simp[this]
 ·have:¬ a.cps.toList < b.cps.toList:=List.not_lt.mpr h
  simp[this]
def sortT (ys:List Str):List Str:=(metT ys).mergeSort leT
theorem Ec (ys:List Str):(sortT ys).Perm (metT ys):=List.mergeSort_perm _ _
theorem Acz (ys:List Str):(sortT ys).Pairwise fun a b=>leT a b=true:=List.pairwise_mergeSort N5 X6 _
theorem sortT_nd (ys:List Str):(sortT ys).Nodup:=(Ec ys).nodup_iff.mpr (Agh ys)
theorem sortT_mem {x:Str}{ys:List Str}:x∈sortT ys ↔ x∈ys:=(Ec ys).mem_iff.trans Abu
theorem sortT_len (ys:List Str):(sortT ys).length<=ys.length:=by rw[(Ec ys).length_eq];exact O7 ys
theorem Acy {ys ss:List Str} (hp:ss.Perm (metT ys)) (hs:ss.Pairwise fun a b=>leT a b=true):ss=sortT ys :=
 List.Perm.eq_of_pairwise (le:=fun a b=>leT a b=true) (fun _ _ _ _ h1 h2=>Abp h1 h2) hs (Acz ys) (hp.trans (Ec ys).symm)
theorem Ob:∀ (p:Str) (l:List Str),risingS p l=true->(p::l).Pairwise (fun a b=>leT a b=true)
 |p,[],_=>by simp
 |p,x::r,h=>by
  have h:(!ltCps x.cps.toList p.cps.toList&&risingS x r)=true:=h
  rw[Aq1] at h
  have ih:=Ob x r h.2
  have h1:leT p x=true:=by have:=h.1;rw[ltCps_eq] at this;exact this
  refine List.pairwise_cons.mpr ⟨fun y hy=>?_,ih⟩
  rcases List.mem_cons.mp hy with rfl|hy
  ·exact h1
  ·exact N5 _ _ _ h1 ((List.pairwise_cons.mp ih).1 y hy)
theorem Ve {l:List Str} (h:sortedS l=true):l.Pairwise (fun a b=>leT a b=true):=by
 cases l with
 |nil=>exact .nil
 |cons x r=>exact Ob x r h
section
variable {prog:Program}{w:World}{A:Around}{E:Value->Shared->Prop}{s:Shared}
theorem Ah5 {a:Addr}{vs:List Value}{ss ys:List Str}{n:Nat}{P:Fin->Shared->Prop} (ho:s.heap.get? a=some (seqObj "list" vs.toArray n)) (hS:StrsAre vs ss) (hp:ss.Perm (metT ys)) (h64:vs.length < 64)
  (h:∀ (out:List Value) (h':Heap) (e:Nat),StrsAre out (sortT ys)->(∀ b o,b≠a->s.heap.get? b=some o->h'.get? b=some o)->h'.get? a=some (seqObj "list" out.toArray e)->P (.done (.ret .none)) { s with heap:=h' }) :
  wpAny (model prog w) A (Builtin.«list.sort» ⟨[.ref a],[]⟩) P E s :=
 list_sort_treeK strKind_oneLt ho hS.keysOf (fun v₁ v₂ rest e=>keyKind_strs (by rw[<- e];exact hS)) h64 fun st' hq hs=>by
  obtain⟨ss',h1,h2,h3⟩:=sorted_out_str hS hq hs
  rw[Acy (h2.trans hp) (Ve h3)] at h1
  obtain⟨e,he⟩:=sortedHeap_at (out:=(arrOf st').map (·.2)) ho
  exact h _ _ e h1 (fun b o hb q=>(sortedHeap_old hb (Aqp q)).trans q) (by rw[Array.toArray_toList];exact he)
theorem sorted_set {r:Addr}{ys:List Str}{Q:Value->Shared->Prop} (hh:A.handled=none) (hX:SetT prog w s.heap r (metT ys)) (hz:ys.length < 64)
  (h:∀ (h1 h':Heap) (tk:Nat) (d':Drawn) (out:List Value) (e:Nat),(∀ b o,s.heap.get? b=some o->h1.get? b=some o)->(∀ b o,h1.get? b=some o->h'.get? b=some o)->h'.get? h1.objs.size=some (seqObj "list" out.toArray e)->StrsAre out (sortT ys)->Q (.ref h1.objs.size) { s with heap:=h',toks:=tk,drawn:=d' }) :
  wpAny (model prog w) A (call (.builtin "sorted") [.ref r]) Q E s:=by
 have hlen:=O7 ys
 refine Calls.call_function_entry kind_sorted plain_sorted entry_sorted (args_sorted1 _) ?_
 unfold Builtin.«sorted»
 refine Aql (m:=checkCount "sorted" 1 1 _) (Aqm ?_)
 refine Aql (Oz (A:=A.in1) hh hX (by lia) fun h' tk d' acc ss hk hacc hp=>?_)
 have hl:acc.length < 64:=by rw[hacc.length,hp.length_eq];lia
 refine Aql (wpAny_newList ?_ (by have:=Ar8;lia))
 have hoL:(h'.push (seqObj "list" acc.toArray 0)).get? h'.objs.size=some (seqObj "list" acc.toArray 0):=Aqt _ rfl
 show wpAny _ _ _ _ _ { s with heap:=h'.push (seqObj "list" acc.toArray 0),toks:=tk,drawn:=d' }
 refine Aql (Arw (Ars slot_list_sort ⟨_,hoL,rfl⟩ entry_list_sort (Ah5 (s:={ s with heap:=h'.push (seqObj "list" acc.toArray 0),toks:=tk,drawn:=d' }) hoL hacc hp hl fun out h2 e h1 hk2 hg=>⟨_,rfl,?_⟩) (args_list_sort _)))
 exact Aqm ⟨_,rfl,h h' _ tk d' out e hk (fun b o q=>hk2 b o (fun z=>absurd (Aqp q) (by rw[z];exact Arj _)) (Aqn _ q)) hg h1⟩
end
end TX
end L2
end S_TX7
section S_DX1
namespace L2
namespace TX
open PySem PySem.Spec PyProof.Rows
section
variable {prog:Program}{w:World}{A:Around}{E:Value->Shared->Prop}{s:Shared}
theorem Ac3:typeLookup (.type "tuple") "keys"=pure none:=by rw[typeLookup_type,builtinLookup_eq_fast];kernel_rfl
theorem U2 {a:Addr}{o:Obj}{xs:Array Value}{k:Nat}{Q:Option Value->Shared->Prop} (hx:s.heap.get? a=some o) (hc:o.cls=.type "tuple") (hdat:o.data=.seq xs k) (hd:o.dict=none) (hA:A.handled=none)
  (h:∀ h' tk,(∀ b ob,s.heap.get? b=some ob->h'.get? b=some ob)->Q none { s with heap:=h',toks:=tk }):wpAny (model prog w) A (getAttr? (.ref a) "keys") Q E s:=by
 obtain⟨c,dct,dat,sl⟩:=o
 simp only at hc hdat hd
 subst hc hdat hd
 obtain⟨hp,g,d,tk,os⟩:=s
 have hT:∀ tk',(⟨hp,g,d,tk',os⟩:Shared).TypeIs (.ref a) "tuple":=fun _=>⟨_,hx,rfl⟩
 have f1:=sub_AttributeError
 have f3:=PySem.F.slot_tuple_getattribute.lookup
 have f4:=PySem.F.slot_tuple_getattribute.bind (.ref a)
 have f5:=am_tuple_getattr_none
 unfold getAttr? getAttrBy? getAttrBy
 repeat (any_goals (first|assumption|exact hT _|((with_reducible show wpAny _ _ (call (Value.builtin "tuple.__getattribute__") _ _) _ _ _);refine call_meets PySem.F.slot_tuple_getattribute (hT _) am_entry_tuple_getattribute (PySem.F.args_tuple_getattribute_2 _ _) (meets_getattribute_miss_tuple a xs k sl "keys" _ Ac3 (by decide +kernel) (by decide +kernel)) ⟨hx,hA,fun h' tk' e hx'=>?_⟩)|wp_step))
 obtain⟨t',u',he⟩:=hx'.there
 show wpAny _ _ (getattributeRaised _ _ _ _ _ _ _) _ _ _
 unfold getattributeRaised
 repeat (any_goals (first|assumption|wp_step))
 exact h _ _ hx'.keeps
end
end TX
end L2
end S_DX1
section S_DX2
namespace L2
namespace TX
open PySem PySem.Spec PyProof.Rows
theorem Nq:entryFor table "dict.update.loop"=some Builtin.«dict.update.loop»:=entryFor_of_tree (by kernel_rfl)
theorem Ey:plainId "dict.update.loop"=true:=by decide +kernel
structure Fills (prog:Program) (w:World) (A:Around) (d:Addr) (wr:List Addr) (n:Nat) (P:Nat->Value->Prop) (C:Heap->Prop) (Dn:Nat->Heap->Prop):Prop where
 pair:∀ i v h,i < n->P i v->C h->∃ (a:Addr) (o:Obj) (c:Nat) (k x:Value),v=.ref a/\h.get? a=some o/\o.cls=.type "tuple"/\o.data=.seq #[k,x] c /\
  ∀ (s:Shared) (Q:Unit->Shared->Prop) (E:Value->Shared->Prop),s.heap=h->Dn i h->(∀ h' tk,s.toks<=tk->Heap.SameBut d s.heap h'->Dn (i+1) h'->Q () { s with heap:=h',toks:=tk })->wpAny (model prog w) A (dictSet d k x) Q E s
 cKeep:∀ h h',C h->(∀ b o,b≠d->b∉wr->h.get? b=some o->h'.get? b=some o)->C h'
 dKeep:∀ i h h',Dn i h->(∀ b o,b∉wr->h.get? b=some o->h'.get? b=some o)->Dn i h'
section
variable {prog:Program}{w:World}{A:Around}{E:Value->Shared->Prop}{R:Result->Shared->Prop}{I:Addr}{fp wr:List Addr}{G:Array GenState->Array GenState->Prop}{n:Nat}{P:Nat->Value->Prop}{St:Nat->Shared->Prop}{C:Heap->Prop}{Dn:Nat->Heap->Prop}
theorem Mo {s:Shared}{a:Addr}{o:Obj}{c:Nat}{k x:Value}{Q:List Value->Shared->Prop} (ho:s.heap.get? a=some o) (hc:o.cls=.type "tuple") (hd:o.data=.seq #[k,x] c) (h:Q [k,x] s):wpAny (model prog w) A (Builtin.Dict.pairItems (.ref a)) Q E s:=by
 unfold Builtin.Dict.pairItems
 refine Aql (Asx (T:="tuple") ⟨o,ho,hc⟩ ?_)
 rw[Aqx (by decide)]
 refine Aql (Atm ho hd ?_)
 exact Aqm h
theorem Xl (W:WalksS prog w A.in1 I fp wr G n P St) (d:Addr) (hdf:d∉fp) (F:Fills prog w A.in1 d wr n P C Dn) (res:Value) :
  ∀ (k i:Nat) (s:Shared),n - i=k->i<=n->St i s->C s.heap->Dn i s.heap->(∀ s',Moved (d::wr) G s s'->Dn n s'.heap->R (.ok (.ret res)) s') ->
   codeAny (model prog w) A (.builtin "dict.update.loop" ⟨[.ref d,.ref I,rawInt i,res],[]⟩) R s:=by
 have hdw:d∉wr:=fun h=>hdf (W.sub _ h)
 have hsub:∀ b∈wr,b∈d::wr:=fun b hb=>Aqr _ hb
 intro k
 induction k with
 |zero =>
  intro i s hk hi hst hC hD hR
  have hin:i=n:=by lia
  subst hin
  refine codeAny_builtin Nq ?_
  rw[Around.under_plainId Ey _]
  show wpAny _ A.in1 (pyNext (.ref I) >>= _) _ _ s
  refine Aql (W.done s _ _ hst fun s' hm=>?_)
  show wpAny _ A.in1 (Builtin.Dict.addKeywords d [] >>= fun _=>ret res) _ _ s'
  refine Aql (Aqm ?_)
  exact Aqm (hR s' (hm.mono hsub) (F.dKeep _ _ _ hD fun b o hb e=>hm.heap b o hb e))
 |succ k ih =>
  intro i s hk hi hst hC hD hR
  have hlt:i < n:=by lia
  refine codeAny_builtin Nq ?_
  rw[Around.under_plainId Ey _]
  show wpAny _ A.in1 (pyNext (.ref I) >>= _) _ _ s
  refine Aql (W.item i s _ _ hlt hst fun v s' hP hst' hm=>?_)
  have hC':C s'.heap:=F.cKeep _ _ hC fun b o _ hb e=>hm.heap b o hb e
  have hD':Dn i s'.heap:=F.dKeep _ _ _ hD fun b o hb e=>hm.heap b o hb e
  obtain⟨a,o,c,kv,xv,rfl,ho,hc,hd,hset⟩:=F.pair i v s'.heap hlt hP hC'
  refine Aql (Arw (Aql (wpAny_tryCatch (Mo ho hc hd ?_))))
  refine Arw (hset s' _ _ rfl hD' fun h' tk htk hsb hD2=>?_)
  refine Aqm ⟨plainId_quiet Ey _,?_⟩
  refine ih (i+1) _ (by lia) hlt (W.frame _ s' _ _ hst' htk fun b hb o e=>?_) (F.cKeep _ _ hC' fun b o hb _ e=>(hsb.2 b hb).trans e) hD2 fun s'' hm'' hD''=>?_
  ·exact (hsb.2 b (fun h:b=d=>hdf (by rw[<- h];exact hb))).trans e
  ·refine hR s'' (Moved.trans W.gtrans ((hm.mono hsub).then_heap htk fun b o hb e=>?_) hm'') hD''
   exact (hsb.2 b (fun h:b=d=>hb (by rw[h];exact Aqy))).trans e
end
end TX
end L2
end S_DX2
section S_DX3
namespace L2
namespace TX
open PySem PySem.Spec PyProof.Rows
section
variable {prog:Program}{w:World}{A:Around}{E:Value->Shared->Prop}{s:Shared}{C:Heap->Prop}{Dn:Nat->Heap->Prop}
noncomputable def Jt:Obj:={ cls:=.type "dict",data:=.dict #[] }
theorem dict_tuple {t:Addr}{o:Obj}{items:Array Value}{c:Nat}{Q:Value->Shared->Prop} (hh:A.handled=none) (ho:s.heap.get? t=some o) (hc:o.cls=.type "tuple") (hdat:o.data=.seq items c) (hd:o.dict=none)
  (F:∀ I,s.heap.objs.size < I->Fills prog w A.in1.in1 s.heap.objs.size [I] items.size (fun i v=>items[i]?=some v) C Dn)
  (hC:∀ h,(∀ b ob,s.heap.get? b=some ob->h.get? b=some ob)->C h) (hD:∀ h,h.get? s.heap.objs.size=some Jt->Dn 0 h)
  (h:∀ h' tk,(∀ b ob,s.heap.get? b=some ob->h'.get? b=some ob)->Dn items.size h'->Q (.ref s.heap.objs.size) { s with heap:=h',toks:=tk }) :
  wpAny (model prog w) A (call (.type "dict") [.ref t]) Q E s:=by
 refine callType_codes (Q₁:=fun obj s₁=>obj=.ref s.heap.objs.size/\s₁={ s with heap:=s.heap.push Jt }) PySem.F.kt_called_dict (PySem.F.kt_typeCall_dict_1 _) PySem.F.entry_dict_init (kt_code_dict_new _ ⟨rfl,rfl⟩) ?_
 rintro obj s₁ ⟨rfl,rfl⟩
 have hlt:t < s.heap.objs.size:=Aqp ho
 have hg:(s.heap.push Jt).get? s.heap.objs.size=some Jt:=Aqt _ rfl
 have hT:Shared.TypeIs { s with heap:=s.heap.push Jt } (.ref s.heap.objs.size) "dict":=⟨_,hg,rfl⟩
 have ho1:(s.heap.push Jt).get? t=some o:=Aqn _ ho
 refine⟨hT,PySem.F.args_dict_init_2 _ _,?_⟩
 unfold Builtin.«dict.__init__»
 refine Aql ?_
 unfold Builtin.Dict.selfAndRest
 refine Aql (wpAny_notOrdered_dict hT ?_)
 show wpAny _ _ (pure (s.heap.objs.size,[Value.ref t])) _ _ _
 refine Aqm ?_
 show wpAny _ _ (Builtin.Dict.updateFrom "dict.__init__" s.heap.objs.size (.ref t) [] .none) _ _ _
 unfold Builtin.Dict.updateFrom
 refine Aql (Asx (T:="tuple") ⟨o,ho1,hc⟩ ?_)
 rw[Aqx (by decide)]
 refine Aql (U2 ho1 hc hdat hd hh fun h1 tk1 hk1=>?_)
 rw[Aqx (show (none:Option Value).isNone=true from rfl)]
 refine Aql (wpAny_rule ?_)
 have ht1:h1.IsTuple t items:=⟨o,hk1 _ _ ho1,hc,c,hdat⟩
 refine Aql (wpAny_pyIter_tuple ht1 ?_)
 have hI:s.heap.objs.size < h1.objs.size:=Aqp (hk1 _ _ hg)
 have htI:t≠h1.objs.size:=Aq2 (Nat.lt_trans hlt hI)
 have kp:∀ b ob,s.heap.get? b=some ob->(h1.push { cls:=.type "tuple_iterator",data:=.fields #[.ref t,.int 0 0] }).get? b=some ob:=fun b ob e=>Aqn _ (hk1 _ _ (Aqn _ e))
 refine Aqm ⟨plainId_quiet Ey _,?_⟩
 refine Xl ((Walks.tuple (A:=A.in1.in1) hh h1.objs.size t htI items).toS) s.heap.objs.size (by
  simp only[Ark,Aq7,or_false,not_or]
  exact⟨Aq2 hI,Atd hlt⟩) (F h1.objs.size hI) .none items.size 0 _ (by lia) (Arl _) ⟨⟨_,Aqt _ rfl,rfl,rfl⟩,ht1.push _⟩ (hC _ kp) (hD _ (Aqn _ (hk1 _ _ hg))) fun s' hm hD'=>?_
 obtain⟨h',g',d',tk',os'⟩:=s'
 have eg:g'=s.gens:=hm.gens
 have ed:d'=s.drawn:=hm.drawn
 have eo:os'=s.os:=hm.os
 subst eg;subst ed;subst eo
 refine⟨rfl,h h' tk' (fun b ob e=>?_) hD'⟩
 refine hm.heap b ob (fun hb=>?_) (kp b ob e)
 have hb':=Aqp e
 rcases List.mem_cons.mp hb with rfl|hb
 ·exact absurd hb' (Arj _)
 ·rw[List.mem_singleton.mp hb] at hb'
  exact absurd (Nat.lt_trans hI hb') (Arj _)
end
end TX
end L2
end S_DX3
section S_ML36
namespace L2
namespace ML
open PySem PySem.Spec PyProof.Rows
abbrev T4 (kvs:List (Key×V)) (k:Key) (v:V):List (Key×V):=if kvs.any (fun kv=>kv.1=k) then kvs.map (fun kv=>if kv.1=k then (kv.1,v) else kv) else kvs++[(k,v)]
theorem KV.any {kvs:List (Key×V)}{us:List (Key×Value)} (r:KV kvs us) (k:Key):kvs.any (fun kv=>kv.1=k)=us.any (fun kv=>kv.1=k):=by
 induction r with
 |nil=>rfl
 |cons h t ih=>rw[Arx,Arx,ih,h.1]
theorem KV.put {kvs:List (Key×V)}{us:List (Key×Value)} (r:KV kvs us) (k:Key) {y:V}{u:Value} (ry:RelV y u):KV (T4 kvs k y) (stored us k u):=by
 have e0:=KV.any r k
 have c1:KV (kvs.map fun kv=>if kv.1=k then (kv.1,y) else kv) (us.map fun kv=>if kv.1=k then (kv.1,u) else kv):=by
  clear e0
  induction r with
  |nil=>exact .nil
  |@cons p q ps qs h t ih =>
   refine .cons ?_ ih
   dsimp only
   by_cases e:p.1=k
   ·rw[Aqx e,Aqx (h.1.symm.trans e)];exact⟨h.1,ry⟩
   ·rw[Aq0 e,Aq0 (fun z=>e (h.1.trans z))];exact h
 have c2:KV (kvs++[(k,y)]) (us++[(k,u)]):=by
  clear e0 c1
  induction r with
  |nil=>exact .cons ⟨rfl,ry⟩ .nil
  |cons h t ih=>exact .cons h ih
 unfold T4 stored
 rw[e0]
 split
 ·exact c1
 ·exact c2
noncomputable def Ae3 (kvs:List (Key×V)) (k:Key):Option V:=(kvs.find? fun kv=>kv.1=k).map (·.2)
theorem KV.val {kvs:List (Key×V)}{us:List (Key×Value)} (r:KV kvs us) (k:Key):Air (Ae3 kvs k) (valueAt us k):=by
 induction r with
 |nil=>exact Atk
 |@cons p q ps qs h t ih =>
  unfold Ae3 valueAt at ih ⊢
  rw[Ar0,Ar0]
  by_cases e:p.1=k
  ·have e':q.1=k:=h.1.symm.trans e
   simp only[e,e',decide_true]
   exact h.2
  ·have e':¬ q.1=k:=fun z=>e (h.1.trans z)
   simp only[e,e',decide_false]
   exact ih
theorem Acl (kvs:List (Key×V)) (k:Key) (v:V):(T4 kvs k v).length<=kvs.length+1:=by
 unfold T4
 split
 ·rw[Aqw];lia
 ·simp
noncomputable def Vt:List Str->List D->Str->Option D
 |k::ks,v::vs,x=>if k=x then some v else Vt ks vs x
 |_,_,_=>none
noncomputable def Aio:List Str->List D->Str->D->List D
 |k::ks,v::vs,x,y=>(if k=x then y else v)::Aio ks vs x y
 |_,vs,_,_=>vs
def Iy (ks:List Str) (vs:List D) (x:Str) (y:D):List Str×List D:=if x∈ks then (ks,Aio ks vs x y) else (ks++[x],vs++[y])
section
variable {K:W.Frag}{H:Hp}{μ:List Addr}{B:Addr->Prop}
inductive RS (K:W.Frag) (H:Hp) (μ:List Addr) (B:Addr->Prop) (ks:List Str) (vs:List D) (kvs:List (Key×V)):Prop
 |mk (h1:ks.map Sum.inr=kvs.map (·.1)) (h2:Reps K H μ B vs (kvs.map (·.2)))
theorem RS.cons_inv {k:Str}{ks:List Str}{vs:List D}{kvs:List (Key×V)} (r:RS K H μ B (k::ks) vs kvs):∃ v vs' p kvs',vs=v::vs'/\kvs=p::kvs'/\p.1=.inr k/\Rep K H μ B v p.2/\RS K H μ B ks vs' kvs':=by
 obtain⟨h1,h2⟩:=r
 cases kvs with
 |nil=>simp at h1
 |cons p kvs =>
  rw[Aqs,Aqs] at h1
  obtain⟨e1,e2⟩:=List.cons.inj h1
  rw[Aqs] at h2
  cases h2 with
  |cons r rs=>exact⟨_,_,p,kvs,rfl,rfl,e1.symm,r,e2,rs⟩
theorem RS.nil_inv {vs:List D}{kvs:List (Key×V)} (r:RS K H μ B [] vs kvs):vs=[]/\kvs=[]:=by
 obtain⟨h1,h2⟩:=r
 cases kvs with
 |nil=>cases h2;exact⟨rfl,rfl⟩
 |cons p kvs=>simp at h1
theorem RS.any {ks:List Str}{vs:List D}{kvs:List (Key×V)} (r:RS K H μ B ks vs kvs) (x:Str):kvs.any (fun kv=>kv.1=.inr x)=decide (x∈ks):=by
 induction ks generalizing vs kvs with
 |nil=>obtain⟨rfl,rfl⟩:=r.nil_inv;rfl
 |cons k ks ih =>
  obtain⟨v,vs,p,kvs,rfl,rfl,e,_,r⟩:=r.cons_inv
  rw[Arx,ih r,e]
  by_cases q:x=k
  ·subst q;simp
  ·have:¬ (Sum.inr k:Key)=Sum.inr x:=fun z=>q (Sum.inr.inj z).symm
   simp[q,Asr q]
theorem RS.get {ks:List Str}{vs:List D}{kvs:List (Key×V)} (r:RS K H μ B ks vs kvs) {x:Str}{z:D} (h:Vt ks vs x=some z):∃ v,Ae3 kvs (.inr x)=some v/\Rep K H μ B z v:=by
 induction ks generalizing vs kvs with
 |nil=>cases h
 |cons k ks ih =>
  obtain⟨v,vs,p,kvs,rfl,rfl,e,rv,r⟩:=r.cons_inv
  rw[Vt] at h
  unfold Ae3
  rw[Ar0]
  by_cases q:k=x
  ·rw[Aqx q] at h
   cases h
   subst q
   simp only[e,decide_true]
   exact⟨_,rfl,rv⟩
  ·rw[Aq0 q] at h
   have:¬ (Sum.inr k:Key)=Sum.inr x:=fun z=>q (Sum.inr.inj z)
   simp only[e,this,decide_false]
   exact ih r h
theorem RS.put {ks:List Str}{vs:List D}{kvs:List (Key×V)} (r:RS K H μ B ks vs kvs) (x:Str) {y:D}{v:V} (ry:Rep K H μ B y v):RS K H μ B (Iy ks vs x y).1 (Iy ks vs x y).2 (T4 kvs (.inr x) v):=by
 unfold Iy T4
 rw[r.any x]
 by_cases q:x∈ks
 ·rw[Aqx q,Aqx (by simpa using q)]
  clear q
  induction ks generalizing vs kvs with
  |nil=>obtain⟨rfl,rfl⟩:=r.nil_inv;exact r
  |cons k ks ih =>
   obtain⟨w,vs,p,kvs,rfl,rfl,e,rv,r⟩:=r.cons_inv
   obtain⟨i1,i2⟩:=ih r
   refine⟨?_,?_⟩
   ·rw[Aqs,Aqs,Aqs,i1]
    congr 1
    split<;>exact e.symm
   ·show Reps K H μ B (Aio (k::ks) (w::vs) x y) _
    rw[Aio,Aqs,Aqs]
    refine .cons ?_ i2
    by_cases q:k=x
    ·subst q;rw[Aqx rfl,Aqx e];exact ry
    ·rw[Aq0 q,Aq0 (fun z=>q (Sum.inr.inj (e.symm.trans z)))];exact rv
 ·rw[Aq0 q,Aq0 (by simpa using q)]
  obtain⟨h1,h2⟩:=r
  refine⟨?_,?_⟩
  ·rw[Ary,Ary,h1];rfl
  ·rw[Ary];exact h2.append (.cons ry .nil)
end
noncomputable def Up (m:MH):D->Option (List Str×List D)
 |.dks ks vs=>some (ks,vs)
 |.ref n=>match m[n]? with
  |some (.dcs ks vs)=>some (ks,vs)
  |_=>none
 |_=>none
def Pb:D->D->MH->Option D:=fun x y m=>(Up m x).bind fun kv=>match y with
 |.str k=>Vt kv.1 kv.2 k
 |_=>none
def Ang:D->D->MH->Option D:=fun x y m=>(Up m y).bind fun kv=>match x with
 |.str k=>some (.bl (decide (k∈kv.1)))
 |_=>none
def Pd:D->D->MH->Option D:=fun x y m=>(Up m y).bind fun kv=>match x with
 |.str k=>some (.bl (!decide (k∈kv.1)))
 |_=>none
section
variable {K:W.Frag}{H:Hp}{μ:List Addr}{B:Addr->Prop}
theorem L8 (S:Sim K H μ m) {d:D} (r:Rep K H μ (·∈μ) d v) (h:Up m d=some (ks,vs)):∃ a kvs,v=.ref a/\Rd H a (.dK kvs)/\RS K H μ (·∈μ) ks vs kvs:=by
 cases r with
 |dks h1 h2 h3 h4=>cases h;exact⟨_,_,rfl,h1,h3,h4⟩
 |@ref n a e =>
  unfold Up at h
  cases q:m[n]? with
  |none=>simp[q] at h
  |some o =>
   simp only[q] at h
   cases o with
   |lst _=>exact Aj h
   |dct _ _=>exact Aj h
   |dcs ks vs =>
    cases h
    obtain⟨kvs,q1,q2,q3⟩:=S.obj n a _ e q
    exact⟨a,kvs,rfl,.inl q1,q2,q3⟩
 |_=>exact Aj h
end
section
variable {X:Cx}{pins:List (Addr×Obj)}{σ:St}{H:Hp}{s:Shared}{a:Addr}
theorem Xm (I:Inv X pins σ H s) (e:Rd H a (.dK kvs)):kvs.length<=sizeLine/\(a == sysModules)=false/\∃ us,KV kvs us/\s.heap.DictOf (Dt X.prog X.w) a us :=
 (show ObjOk X.prog X.w X.K H s.heap a (.dK kvs) from e.ok I.hok)
end
section
variable {X:Cx}{a b c e:Expr}{es:List Expr}{pos p p':Pos}{x:Str}
theorem Agy {f g:FE} (ha:PD X a f) (hb:PD X b g) (hs:Lg b):PD X (.Subscript a b pos) (f2 Pb f g):=by
 intro pins s σ H Q I ⟨env,μ,m,z,S,E,h,q⟩
 obtain⟨d1,h1,h⟩:=bind_some h
 obtain⟨d2,h2,h⟩:=bind_some h
 obtain⟨kv,h3,h⟩:=bind_some h
 refine Subscript_ (Anb ha hb I (show tE X.K f σ H fun x H1=>tE X.K g σ H1 fun y H2=>Same H H2/\Rep X.K H2 μ (·∈μ) d1 x/\Rep X.K H2 μ (·∈μ) d2 y from ⟨env,μ,m,d1,S,E,h1,fun v H1 s1 r1=>⟨env,μ,m,d2,S.same s1,E.same s1,h2,fun u H2 s2 r2=>⟨s1.trans s2,r1.same s2,r2⟩⟩⟩) fun v u s2 x y H2 I2 rx ry q2=>?_)
 obtain⟨sm,r1,r2⟩:=q2
 cases r2 with
 |str k ok =>
  obtain⟨ad,kvs,rfl,hd,rs⟩:=L8 (S.same sm) r1 (by rw[h3])
  obtain⟨w,hw,rw'⟩:=rs.get h
  cases rx
  obtain⟨t,rfl⟩:=ry
  obtain⟨z1,hm,us,rel,dd⟩:=Xm I2 hd
  have q3:=KV.val rel (.inr k)
  rw[hw] at q3
  cases q4:valueAt us (.inr k) with
  |none=>rw[q4] at q3;exact (show False from q3).elim
  |some w' =>
   rw[q4] at q3
   refine subscriptTail_builtinR (x:=w') dd.typeIs slot_dict_getitem.lookup (wpAny_getItem_of (Ds k t) dd.mapOf q4 ?_) (hs _ _)
   exact⟨rfl,w,H2,I2.tok _,q3,q w H2 sm rw'⟩
 |_=>exact Aj h
theorem Ad3:OpM X (compareOp .In) Ang:=by
 intro pins s σ H μ m x y z v u v' u' Q I S rx ry r1 r2 e q
 obtain⟨kv,h3,h⟩:=bind_some e
 cases rx with
 |str k ok =>
  cases h
  obtain⟨ad,kvs,rfl,hd,rs⟩:=L8 S ry (by rw[h3])
  obtain⟨t,rfl⟩:=r1
  cases r2
  obtain⟨z1,hm,us,rel,dd⟩:=Xm I hd
  refine wpAny_in_of (knd:=Dt X.prog X.w) (k:=.inr k) (Ds k t) hm dd.mapOf ?_
  have q3:=Za (KV.val rel (.inr k))
  have q5:(Ae3 kvs (.inr k)).isSome=decide (k∈kv.1):=by
   rw[<- rs.any k]
   unfold Ae3
   rw[Option.isSome_map,Asf,List.find?_isSome,List.any_eq_true]
  rw[<- q3,q5]
  exact⟨.bl _,H,I.tok _,rfl,q _ H (Same.refl H) (.bl _)⟩
 |_=>exact Aj h
end
noncomputable def Gw:List D->Option (List (Str×D))
 |[]=>some []
 |.tup [.str k,v]::ds=>(Gw ds).bind fun r=>some ((k,v)::r)
 |_=>none
def Np (ps:List (Str×D)):List Str×List D:=ps.foldl (fun a p=>Iy a.1 a.2 p.1 p.2) ([],[])
def J3:List D->MH->Option D:=fun xs _=>match xs with
 |[.tup ds]=>(Gw ds).bind fun ps=>some (.dks (Np ps).1 (Np ps).2)
 |_=>none
abbrev Q4:=Str×D×V×Value
def fD (T:List Q4):List Str×List D:=T.foldl (fun a q=>Iy a.1 a.2 q.1 q.2.1) ([],[])
noncomputable def fV (T:List Q4):List (Key×V):=T.foldl (fun l q=>T4 l (.inr q.1) q.2.2.1) []
noncomputable def fU (T:List Q4):List (Key×Value):=T.foldl (fun l q=>stored l (.inr q.1) q.2.2.2) []
theorem Afk (T:List Q4) (q:Q4):fU (T++[q])=stored (fU T) (.inr q.1) q.2.2.2:=by unfold fU;rw[List.foldl_append];rfl
theorem Vk (l:List (Key×Value)) (k:Key) (v:Value):(stored l k v).length<=l.length+1:=by
 unfold stored
 split
 ·rw[Aqw];lia
 ·simp
theorem Adn (T:List Q4):(fU T).length<=T.length:=by
 have go:∀ (T:List Q4) (l:List (Key×Value)),(T.foldl (fun l q=>stored l (.inr q.1) q.2.2.2) l).length<=l.length+T.length:=by
  intro T
  induction T with
  |nil=>intro l;simp
  |cons q T ih=>intro l;have h1:=ih (stored l (.inr q.1) q.2.2.2);have h2:=Vk l (.inr q.1) q.2.2.2;simp only[List.foldl_cons,Ara];lia
 have:=go T []
 simpa [fU] using this
theorem Anx {K:W.Frag}{H:Hp}{μ:List Addr}{B:Addr->Prop} (T:List Q4) (hT:∀ q∈T,Rep K H μ B q.2.1 q.2.2.1/\RelV q.2.2.1 q.2.2.2):RS K H μ B (fD T).1 (fD T).2 (fV T)/\KV (fV T) (fU T):=by
 have go:∀ (T:List Q4) (a:List Str×List D) (l:List (Key×V)) (u:List (Key×Value)),(∀ q∈T,Rep K H μ B q.2.1 q.2.2.1/\RelV q.2.2.1 q.2.2.2)->RS K H μ B a.1 a.2 l->KV l u ->
   RS K H μ B (T.foldl (fun a q=>Iy a.1 a.2 q.1 q.2.1) a).1 (T.foldl (fun a q=>Iy a.1 a.2 q.1 q.2.1) a).2 (T.foldl (fun l q=>T4 l (.inr q.1) q.2.2.1) l)/\KV (T.foldl (fun l q=>T4 l (.inr q.1) q.2.2.1) l) (T.foldl (fun l q=>stored l (.inr q.1) q.2.2.2) u):=by
  intro T
  induction T with
  |nil=>intro a l u _ h1 h2;exact⟨h1,h2⟩
  |cons q T ih =>
   intro a l u hT h1 h2
   have hq:=hT q (Aqy ..)
   exact ih _ _ _ (fun q hq=>hT q (Aqr _ hq)) (h1.put q.1 hq.1) (KV.put h2 (.inr q.1) hq.2)
 exact go T ([],[]) [] [] hT ⟨rfl,.nil⟩ .nil
section
variable {X:Cx}{pins:List (Addr×Obj)}{σ:St}{H:Hp}{s:Shared}{μ:List Addr}{B:Addr->Prop}
theorem Va (I:Inv X pins σ H s):∀ {ds:List D}{xs:List V}{its:List Value}{ps:List (Str×D)},Reps X.K H μ B ds xs->Vals xs its->Gw ds=some ps ->
  ∃ T:List Q4,ps=T.map (fun q=>(q.1,q.2.1))/\T.length=its.length/\(∀ q∈T,Rep X.K H μ B q.2.1 q.2.2.1/\RelV q.2.2.1 q.2.2.2) /\
   ∀ (i:Nat) (v:Value),its[i]?=some v->∃ (q:Q4) (a:Addr) (o:Obj) (c t:Nat),T[i]?=some q/\v=.ref a/\s.heap.get? a=some o/\o.cls=.type "tuple"/\o.data=.seq #[.str q.1 t,q.2.2.2] c:=by
 intro ds
 induction ds with
 |nil=>intro xs its ps r rv h;cases r;cases rv;cases h;exact⟨[],rfl,rfl,(fun _ h=>absurd h (by simp)),fun i v h=>absurd h (by simp)⟩
 |cons d ds ih =>
  intro xs its ps r rv h
  cases r with
  |cons r rs =>
  cases rv with
  |cons rv1 rvs =>
  match d,r,h with
  |.tup [.str k,w],r,h =>
   obtain⟨ps',h1,h2⟩:=bind_some h
   cases h2
   obtain⟨T,e1,e2,e3,e4⟩:=ih rs rvs h1
   cases r with
   |@tup _ a zs hq rs' =>
    obtain⟨its',rz,⟨o,ho,hc,n,hd⟩,_⟩:=I.tuple hq
    cases rs' with
    |cons ra rs' =>
    cases rs' with
    |@cons _ vb _ _ rb rs' =>
    cases rs'
    cases ra
    cases rz with
    |cons ra1 rz =>
    cases rz with
    |@cons _ ub _ _ rb1 rz =>
    cases rz
    obtain⟨t,rfl⟩:=ra1
    cases rv1
    refine⟨(k,w,vb,ub)::T,by rw[Aqs,<- e1],by rw[Ara,Ara,e2],fun q hq=>?_,fun i v hv=>?_⟩
    ·rcases List.mem_cons.mp hq with rfl|hq
     ·exact⟨rb,rb1⟩
     ·exact e3 q hq
    ·cases i with
     |zero=>simp at hv;subst hv;exact⟨_,a,o,n,t,rfl,rfl,ho,hc,hd⟩
     |succ i =>
      rw[Aro] at hv
      obtain⟨q,a',o',c',t',h1,h2⟩:=e4 i v hv
      exact⟨q,a',o',c',t',by rw[Aro];exact h1,h2⟩
theorem Aa5 (hr:Room k X.A):Jl X (.type "dict") J3:=by
 intro pins s σ H μ m xs z vs us Q I S rx rv e q
 match xs,e with
 |[.tup ds],e =>
  obtain⟨ps,h1,h2⟩:=bind_some e
  cases h2
  obtain⟨v,rfl,r⟩:=rx.one
  obtain⟨u,rfl,ru⟩:=M1 rv
  cases r with
  |@tup _ t zs hq rs =>
  cases ru
  obtain⟨its,rz,⟨o,ho,hc,n,hd,hdn⟩,hz⟩:=I.tupleD hq
  obtain⟨T,e1,e2,e3,e4⟩:=Va I rs rz h1
  have ep:Np ps=fD T:=by rw[e1];unfold Np fD;rw[List.foldl_map]
  obtain⟨f1,f2⟩:=Anx T e3
  have hline:sizeLine=16777216:=Ar8
  have lz:=rz.length
  have hb:∀ b ob,s.heap.get? b=some ob->b < s.heap.objs.size:=fun b ob e=>Aqp e
  refine TX.dict_tuple (C:=fun h=>∀ b ob,s.heap.get? b=some ob->h.get? b=some ob) (Dn:=fun i h=>h.DictOf (Dt X.prog X.w) s.heap.objs.size (fU (T.take i))) hr.hd ho hc hd hdn (fun Ia hI=>⟨fun i v h hi hv hC=>?_,fun h h' hC hk b ob e=>?_,fun i h h' hD hk=>?_⟩) (fun h hk=>hk) (fun h hg=>?_) (fun h' tk hk hD=>?_)
  ·obtain⟨q,a,o',c,t',q1,q2,q3,q4,q5⟩:=e4 i v (by simpa using hv)
   refine⟨a,o',c,_,_,q2,hC _ _ q3,q4,q5,fun s' Q' E' hs hD hQ=>?_⟩
   have et:T.take (i+1)=T.take i++[q]:=by rw[List.take_add_one,q1];rfl
   have hl:=Adn (T.take i)
   have hl2:=List.length_take_le i T
   have hl3:its.toArray.size=its.length:=by simp
   rw[<- hs] at hD
   refine wpAny_dictSet_pairs (knd:=Dt X.prog X.w) (k:=.inr q.1) (hsz:=by lia) (Ds q.1 t') hD fun h' hd' hs'=>?_
   refine hQ h' _ (As9 _) hs' ?_
   rw[et,Afk]
   exact hd'
  ·refine hk b ob (Aq2 (hb b ob e)) ?_ (hC b ob e)
   intro hm
   rw[List.mem_singleton.mp hm] at e
   exact absurd (Nat.lt_trans hI (hb _ _ e)) (Arj _)
  ·obtain⟨od,es,ep,h0,r⟩:=hD
   exact⟨od,es,ep,hk _ _ (by simp;exact Aq2 hI) h0,r⟩
  ·refine⟨_,_,_,hg,⟨rfl,rfl,rfl⟩,rfl,?_,?_,?_⟩
   ·intro e he;simp at he
   ·exact .nil
   ·exact List.nodup_nil
  ·have I1:Inv X pins σ H { s with heap:=h',toks:=tk }:=I.kept hk
   have eT:T.take its.toArray.size=T:=List.take_of_length_le (by simp[e2])
   rw[eT] at hD
   have hn:H s.heap.objs.size=none:=I.fresh
   have lf:(fV T).length=(fU T).length:=Paired.length f2
   have hl:=Adn T
   have I2:Inv X pins σ (upd H s.heap.objs.size (.dK (fV T))) { s with heap:=h',toks:=tk }:=I.laid (a:=s.heap.objs.size) (o:=.dK (fV T)) (t':=tk) hk (Aqo _) ⟨by lia,beq_eq_false_iff_ne.mpr (Asr (Aq2 (X2 I))),fU T,f2,hD⟩
   refine⟨.ref s.heap.objs.size,_,I2,rfl,q _ _ (Bd hn) ?_⟩
   obtain⟨g1,g2⟩:=f1
   rw[ep]
   exact .dks (.inl Be) (S.nnone hn) g1 (g2.same (Bd hn))
theorem Yp:OpM X (compareOp .NotIn) Pd:=by
 intro pins s σ H μ m x y z v u v' u' Q I S rx ry r1 r2 e q
 obtain⟨kv,h3,h⟩:=bind_some e
 cases rx with
 |str k ok =>
  cases h
  obtain⟨ad,kvs,rfl,hd,rs⟩:=L8 S ry (by rw[h3])
  obtain⟨t,rfl⟩:=r1
  cases r2
  obtain⟨z1,hm,us,rel,dd⟩:=Xm I hd
  refine wpAny_notIn_of (knd:=Dt X.prog X.w) (k:=.inr k) (Ds k t) hm dd.mapOf ?_
  have q3:=Za (KV.val rel (.inr k))
  have q5:(Ae3 kvs (.inr k)).isSome=decide (k∈kv.1):=by
   rw[<- rs.any k]
   unfold Ae3
   rw[Option.isSome_map,Asf,List.find?_isSome,List.any_eq_true]
  rw[<- q3,q5]
  exact⟨.bl _,H,I.tok _,rfl,q _ H (Same.refl H) (.bl _)⟩
 |_=>exact Aj h
end
noncomputable def Lc:List D->Option (List Str)
 |[]=>some []
 |.str x::ds=>(Lc ds).bind fun r=>some (x::r)
 |_=>none
def J4:List D->MH->Option (List D):=fun xs m=>match xs with
 |[d]=>(sqL m d).bind fun ds=>(Lc ds).bind fun ts=>if ts.length < 64 then some ((TX.sortT ts).map .str) else none
 |_=>none
theorem Ajk {X:Cx}{pins:List (Addr×Obj)}{σ:St}{H:Hp}{s:Shared} (I:Inv X pins σ H s) (d':Drawn):Inv X pins σ H { s with drawn:=d' }:=⟨I.ok,I.os,I.bare,I.base,I.loc,I.cell,I.free,I.freeC,I.pin,I.hok,I.len⟩
theorem Uj {K:W.Frag}{H:Hp}{μ:List Addr}{B:Addr->Prop}:∀ {ds:List D}{vs:List V}{us:List Value}{ts:List Str},Reps K H μ B ds vs->Vals vs us->Lc ds=some ts->StrsAre us ts/\(∀ x∈ts,PyData.strOk x=true)
 |_,_,_,_,.nil,.nil,h=>by cases h;exact⟨.nil,fun _ h=>absurd h (by simp)⟩
 |_,_,_,_,.cons r rs,.cons ru rv,h=>by
  cases r with
  |str x ok =>
   obtain⟨r',h1,h2⟩:=bind_some h
   cases h2
   obtain⟨t,rfl⟩:=ru
   obtain⟨i1,i2⟩:=Uj rs rv h1
   refine⟨.cons x t i1,fun y hy=>?_⟩
   rcases List.mem_cons.mp hy with rfl|hy
   ·exact ok
   ·exact i2 y hy
  |_=>exact Aj h
theorem Ot {K:W.Frag}{H:Hp}{μ:List Addr}{B:Addr->Prop}:∀ {us:List Value}{ts:List Str},StrsAre us ts->(∀ x∈ts,PyData.strOk x=true)->∃ vs,Vals vs us/\Reps K H μ B (ts.map .str) vs
 |_,_,.nil,_=>⟨[],.nil,.nil⟩
 |_,_,.cons x t r,ok=>by
  obtain⟨vs,h1,h2⟩:=Ot (K:=K) (H:=H) (μ:=μ) (B:=B) r fun y hy=>ok y (Aqr _ hy)
  exact⟨.str x::vs,.cons ⟨t,rfl⟩ h1,.cons (.str x (ok x (Aqy ..))) h2⟩
def Ais (P:Program) (w:World) (a:Addr) (ts:List Str):HO:=.ext fun h=>TX.SetT P w h a (TX.metT ts)
section
variable {X:Cx}{e:Expr}{pos p p2 pos2:Pos}{k:Nat}{g:FL}
inductive tSet (X:Cx) (g:FL) (σ:St) (H:Hp) (Q:VK):Prop
 |mk (env:A2) (μ:List Addr) (m:MH) (d:D) (ds:List D) (ts:List Str) (S:Sim X.K H μ m) (E:EnvRep X.K H μ σ env) (h:g env m=some [d]) (h1:sqL m d=some ds) (h2:Lc ds=some ts) (hz:ts.length < 64) (q:∀ a H',(∀ x∈ts,PyData.strOk x=true)->Same H H'->H a=none->H' a=some (Ais X.prog X.w a ts)->Q (.ref a) H')
theorem Ak4 (hr:Room k X.A) (hg:Gl X "set") (hm:X.mg "set"=none) (hv:bootBuiltins "set"=some (.type "set")) (ha:PL X [e] g) (he:starEach [e] X.env=(false,eval e X.env)::starEach [] X.env):PE X (.Call (.Name "set" p) [e] [] pos) (tSet X g):=by
 intro pins s σ H Q I ⟨env,μ,m,d,ds,ts,S,E,h,h1,h2,hz,q⟩
 refine Asj (Ip I hg hm hv ?_ (by decide) (by decide))
 refine PyProof.Rows.callWith_type1 (thn (ha pos pins s σ H (fun vs H1=>Same H H1/\Reps X.K H1 μ (·∈μ) [d] vs) I ⟨env,μ,m,[d],S,E,h,fun v H1 s1 r1=>⟨s1,r1⟩⟩) fun us s1 ⟨vs,H1,I1,r1,s1',rx⟩=>?_) he rfl
 obtain⟨v,rfl,r⟩:=rx.one
 obtain⟨u,rfl,ru⟩:=M1 r1
 obtain⟨a,xs,rfl,hq,rs⟩:=Pp (S.same s1') r h1
 cases ru
 obtain⟨its,rv,pl,hz'⟩:=I1.list hq
 obtain⟨st,okt⟩:=Uj rs rv h2
 have hl:its.length=ts.length:=st.length
 refine TX.set_list (items:=its.toArray) hr.hd pl.isList (by simpa using st) (by rw[Aqq];unfold scanBound;lia) fun h' tk hS hk=>?_
 have kp:∀ b o,s1.heap.get? b=some o->h'.get? b=some o:=fun b o e=>hk b o (Aqp e) e
 refine⟨.ref s1.heap.objs.size,upd H1 s1.heap.objs.size (Ais X.prog X.w s1.heap.objs.size ts),I1.laid (t':=tk) kp (Aqo _) ⟨hS,let ⟨o,_,_,_,ho,_⟩:=hS;⟨o,ho⟩,fun h1 h2 x e=>x.at' e⟩,rfl,q _ _ okt (s1'.trans (Bd I1.fresh)) (s1'.free I1.fresh) Be⟩
theorem Vc (hr:Room k X.A) (hg:Gl X "sorted") (hm:X.mg "sorted"=none) (hg2:Gl X "set") (hm2:X.mg "set"=none) (ha:PL X [e] g) (he:starEach [e] X.env=(false,eval e X.env)::starEach [] X.env)
  (he2:starEach [.Call (.Name "set" p2) [e] [] pos2] X.env=(false,eval (.Call (.Name "set" p2) [e] [] pos2) X.env)::starEach [] X.env):PF X (.Call (.Name "sorted" p) [.Call (.Name "set" p2) [e] [] pos2] [] pos) (Dm J4 g):=by
 intro pins s σ H Q I ⟨env,μ,m,out,S,E,h,q⟩
 obtain⟨xs,h1,h⟩:=bind_some h
 match xs,h1,h with
 |[d],h1,h =>
  obtain⟨ds,h2,h⟩:=bind_some h
  obtain⟨ts,h3,h⟩:=bind_some h
  split at h
  ·rename_i hz
   cases h
   refine Asj (Ip I hg hm boot_sorted ?_ (by decide) (by decide))
   refine PyProof.Rows.callWith_builtin1 (thn ((Mn (Ak4 (p:=p2) (pos:=pos2) hr hg2 hm2 (by decide +kernel) ha he) Ys he2) pos pins s σ H (fun vs H1=>∃ a,vs=[.ref a]/\(∀ x∈ts,PyData.strOk x=true)/\Same H H1/\H a=none/\H1 a=some (Ais X.prog X.w a ts)) I ⟨env,μ,m,d,ds,ts,S,E,h1,h2,h3,hz,fun a H' ok s1 hn hx=>⟨a,rfl,ok,s1,hn,hx⟩⟩) fun us s1 ⟨vs,H1,I1,r1,a,hvs,okt,s1',hn,hx⟩=>?_) he2 rfl
   subst hvs
   obtain⟨u,rfl,ru⟩:=M1 r1
   cases ru
   obtain⟨hS,_⟩:=(show ObjOk X.prog X.w X.K H1 s1.heap a (Ais X.prog X.w a ts) from I1.hok a _ hx)
   refine TX.sorted_set hr.hd hS hz fun ha' h' tk d' out e k1 k2 hg' ho=>?_
   have I2:Inv X pins σ H1 { s1 with heap:=ha',drawn:=d' }:=Ajk (I1.kept (t':=s1.toks) k1) d'
   obtain⟨ys,rv,rr⟩:=Ot (K:=X.K) (H:=H1) (μ:=μ) (B:=(·∈μ)) ho fun x hx=>okt x (TX.sortT_mem.mp hx)
   have hl:ys.length=out.length:=rv.length
   have hl2:out.length=(TX.sortT ts).length:=ho.length
   have hl3:=TX.sortT_len ts
   have hline:sizeLine=16777216:=Ar8
   have hn1:H1 ha'.objs.size=none:=I2.fresh
   refine⟨.ref ha'.objs.size,upd H1 ha'.objs.size (.lst ys),I2.laid (a:=ha'.objs.size) (o:=.lst ys) (t':=tk) k2 (Aqo _) ⟨by lia,out,e,rv,hg'⟩,rfl,q _ _ _ (s1'.trans (Bd hn1)) (s1'.free hn1) Be (rr.fresh hn1)⟩
  ·exact Aj h
 |[],_,h=>exact Aj h
 |_::_::_,_,h=>exact Aj h
end
section
variable {X:Cx}{a b e:Expr}{pos p p2 pos2:Pos}{k:Nat}{g:FL}{f h:FE}
theorem Acr (hr:Room k X.A) (hm:X.mg "sorted"=none) (hm2:X.mg "set"=none) (ha:QL X [e] g) (hg:Gl X "sorted":=by unfold Gl;kernel_rfl) (hg2:Gl X "set":=by unfold Gl;kernel_rfl) (he':B5 e=true:=by rfl):QF X (.Call (.Name "sorted" p) [.Call (.Name "set" p2) [e] [] pos2] [] pos) (Dm J4 g) :=
 ⟨Vc hr hg hm hg2 hm2 ha.out (Aq he') (Aq rfl)⟩
theorem T5 (hr:Room k X.A) (hm:X.mg "dict"=none) (ha:QL X [e] g) (hg:Gl X "dict":=by unfold Gl;kernel_rfl) (he':B5 e=true:=by rfl):QD X (.Call (.Name "dict" p) [e] [] pos) (Ay J3 g):=⟨Iv (Aa5 hr) hg hm (by decide +kernel) ha.out (by decide) (by decide) (Aq he') rfl⟩
theorem Pj (ha:QD X a f) (hb:QD X b h) (hs':Aoh b=true:=by rfl):QD X (.Subscript a b pos) (f2 Pb f h):=⟨Agy ha.out hb.out (Tb hs')⟩
end
section
variable {X:Cx}{e e':Expr}{pos p:Pos}{g:FL}
noncomputable def Abz:List D->MH->Option D:=fun xs _=>match xs with
 |[.int i,.int j]=>some (.int (if j > i then j else i))
 |_=>none
theorem Afd (hc:X.calm=true):Jl X (.builtin "max") Abz:=by
 intro pins s σ H μ m xs z vs us Q I S rx rv e q
 match xs,e with
 |[.int i,.int j],e =>
  cases e
  obtain⟨v,w,rfl,r1,r2⟩:=rx.two
  cases r1
  cases r2
  exact Xd hc pins s σ H _ us Q I rv ⟨i,j,rfl,q _ H (Same.refl H) (.int _)⟩
theorem Ahs (hc:X.calm=true) (hm:X.mg "max"=none) (ha:QL X [e,e'] g) (hg:Gl X "max":=by unfold Gl;kernel_rfl) (he':B5 e=true:=by rfl) (he2:B5 e'=true:=by rfl):QD X (.Call (.Name "max" p) [e,e'] [] pos) (Ay Abz g):=⟨Hs (Afd hc) hg hm (by decide +kernel) ha.out (by decide) (by decide) (Aq he') (by rw[Aq he2];rfl)⟩
end
section
variable {X:Cx}{a e:Expr}{apos cpos:Pos}
end
noncomputable def Alv (i:Nat) (f:FE):FS:=fun env m=>(f env m).bind fun d=>match d with
 |.ref n=>(match m[n]? with
  |some (.lst ds)=>(ds[ds.length - 1]?).bind fun x=>some (.nx (env.set i (some x)) (m.set n (.lst ds.dropLast)))
  |_=>none)
 |_=>none
theorem Reps.dropLast {K:W.Frag}{H:Hp}{μ:List Addr}{B:Addr->Prop}{ds:List D}{vs:List V} (r:Reps K H μ B ds vs):Reps K H μ B ds.dropLast vs.dropLast:=by
 rw[List.dropLast_eq_take,List.dropLast_eq_take,r.length]
 exact r.take _
section
variable {X:Cx}{a b c e:Expr}{es:List Expr}{pos p p' apos cpos dp:Pos}{x:Str}{i:Nat}
theorem Ahg {f:FE} (hN:X.N.Nodup) (hi:X.N[i]?=some x) (hx:Loc X.env.scope x) (hf:PD X a f) (hbase:attributeBase a "pop" X.env (eval a X.env)=eval a X.env) (hline:(apos.endLine == cpos.line)=true)
  (hs:swapsWith (.Call (.Attribute a "pop" apos) [] [] cpos) (some (.Name x p')) pos.line X.env=pure false) (hl:X.fn x=true\/X.env.scope.names.lookup x=some .local) :
  PSD X (.Assign [.Name x p'] (.Call (.Attribute a "pop" apos) [] [] cpos) pos) (Alv i f):=PS.imp (T3 hN hi hx (Ak0 F.plainAttrs_list F.slot_list_pop F.type_list_pop Ajt hf hbase hline) hs hl) fun D σ H ⟨env,μ,m,ob,S,E,h,q⟩=>by
 obtain⟨d,h1,h⟩:=bind_some h
 refine⟨env,μ,m,d,S,E,h1,fun v H1 s1 r1=>?_⟩
 cases r1 with
 |@ref n a e =>
  simp only at h
  cases q':m[n]? with
  |none=>simp[q'] at h
  |some mo =>
   simp only[q'] at h
   cases mo with
   |dcs _ _=>cases h
   |dct _ _=>cases h
   |lst ds =>
    simp only at h
    obtain⟨y,h3,h⟩:=bind_some h
    cases h
    have S1:=S.same s1
    obtain⟨xs,e1,rs⟩:=S1.obj n a _ e q'
    obtain⟨w,hw,rw'⟩:=rs.get h3
    rw[rs.length] at hw
    obtain⟨st,S3,up⟩:=S1.write e q' rs.dropLast
    exact⟨.inl ⟨rfl,xs,SqL.of e1⟩,a,xs,w,rfl,rfl,e1,hw,q _ _ μ ((Step.of_same s1).trans st fun c hc=>s1.free hc) S3 (((E.same s1).step S1 st).set i (up rw'))⟩
 |_=>exact Aj h
theorem Alo {f:FE} (hN:X.N.Nodup) (hf:QD X a f) (hi:X.N[i]?=some x:=by kernel_rfl) (hx:Loc X.env.scope x:=by exact Asy (by kernel_rfl)) (hbase':Tu a=true:=by rfl) (hline:(apos.endLine == cpos.line)=true:=by kernel_rfl) (hs':Ml (.Call (.Attribute a "pop" apos) [] [] cpos)=true:=by rfl) (hl:X.fn x=true\/X.env.scope.names.lookup x=some .local:=by exact Asy (by kernel_rfl)) :
  QS X (.Assign [.Name x p'] (.Call (.Attribute a "pop" apos) [] [] cpos) pos) (Alv i f):=⟨Ahg hN hi hx hf.out (E9 hbase') hline (Gi hs') hl⟩
end
theorem Sim.writeS {K:W.Frag}{H:Hp}{μ:List Addr}{m:MH}{n:Nat}{a:Addr}{o0:MObj}{ks:List Str}{vs:List D}{kvs:List (Key×V)} (S:Sim K H μ m) (h1:μ[n]?=some a) (h2:m[n]?=some o0) (e:ks.map Sum.inr=kvs.map (·.1)) (r:Reps K H μ (·∈μ) vs (kvs.map (·.2))) :
  Step H μ (upd H a (.dK kvs)) μ/\Sim K (upd H a (.dK kvs)) μ (m.set n (.dcs ks vs)):=by
 have ha:a∈μ:=Aq4 h1
 have st:Step H μ (upd H a (.dK kvs)) μ:=⟨⟨[],by simp,by simp⟩,fun b o e hb=>by rw[A0 fun z=>hb (by rw[z];exact ha)];exact e⟩
 have nl:n < m.length:=(List.getElem?_eq_some_iff.mp h2).1
 refine⟨st,⟨S.nd,by simp[S.len],fun j b o h3 h4=>?_⟩⟩
 by_cases hj:j=n
 ·subst hj
  rw[h1] at h3
  cases h3
  rw[Ar1 nl] at h4
  cases h4
  exact⟨kvs,Be,e,r.step S st⟩
 ·rw[Asl (Asr hj)] at h4
  have q:=S.obj j b o h3 h4
  have hb:b≠a:=fun z=>hj (by
   subst z
   exact (List.getElem_inj S.nd).mp ((List.getElem?_eq_some_iff.mp h3).2.trans (List.getElem?_eq_some_iff.mp h1).2.symm))
  cases o with
  |lst fs=>obtain⟨zs,q1,q2⟩:=q;exact⟨zs,by rw[A0 hb];exact q1,q2.step S st⟩
  |dct ks vs=>obtain⟨zs,q1,q2,q3⟩:=q;exact⟨zs,by rw[A0 hb];exact q1,q2,q3.step S st⟩
  |dcs ks vs=>obtain⟨zs,q1,q2,q3⟩:=q;exact⟨zs,by rw[A0 hb];exact q1,q2,q3.step S st⟩
theorem Sim.pushS {K:W.Frag}{H:Hp}{μ:List Addr}{m:MH}{a:Addr} (S:Sim K H μ m) (hn:H a=none) :
  Step H μ (upd H a (.dK [])) (μ++[a])/\Sim K (upd H a (.dK [])) (μ++[a]) (m++[.dcs [] []]):=by
 have s:Same H (upd H a (.dK [])):=Bd hn
 have st:Step H μ (upd H a (.dK [])) (μ++[a]):=⟨⟨[a],rfl,fun b hb=>by rw[show b=a by simpa using hb];exact hn⟩,fun b o e _=>s b o e⟩
 have na:a∉μ:=S.nnone hn
 refine⟨st,?_,?_,fun n b o h1 h2=>?_⟩
 ·rw[List.nodup_append]
  exact⟨S.nd,by simp,fun b hb c hc z=>na (by rw[<- show c=a by simpa using hc,<- z];exact hb)⟩
 ·simp[S.len]
 ·by_cases hl:n < μ.length
  ·rw[Aq3 hl] at h1
   rw[Aq3 (by rw[<- S.len];exact hl)] at h2
   have q:=S.obj n b o h1 h2
   cases o with
   |lst es=>obtain⟨ys,q1,q2⟩:=q;exact⟨ys,s _ _ q1,q2.step S st⟩
   |dct ks vs=>obtain⟨ys,q1,q2,q3⟩:=q;exact⟨ys,s _ _ q1,q2,q3.step S st⟩
   |dcs ks vs=>obtain⟨ys,q1,q2,q3⟩:=q;exact⟨ys,s _ _ q1,q2,q3.step S st⟩
  ·have e:n=μ.length:=by
    have:=(List.getElem?_eq_some_iff.mp h1).1
    rw[Aqv,Arm] at this
    lia
   subst e
   rw[Are (Aqo _)] at h1
   rw[S.len,Are (Aqo _)] at h2
   simp at h1 h2
   subst h1
   subst h2
   exact⟨[],Be,rfl,.nil⟩
noncomputable def Oj (i:Nat):FS:=fun env m=>some (.nx (env.set i (some (.ref m.length))) (m++[.dcs [] []]))
def G3 (f fo fk:FE):FS:=fun env m=>(f env m).bind fun d=>(fo env m).bind fun o=>(fk env m).bind fun k=>match o with
 |.ref n=>(match m[n]? with
  |some (.dcs ks vs)=>(match k with
   |.str t=>if ks.length < 1000000 then some (.nx env (m.set n (.dcs (Iy ks vs t d).1 (Iy ks vs t d).2))) else none
   |_=>none)
  |_=>none)
 |_=>none
def Aby:List D->MH->Option D:=fun xs m=>match xs with
 |[d]=>(Up m d).bind fun kv=>if kv.1.length<=1000000 then some (.int (kv.1.length:Nat)) else none
 |_=>none
section
variable {X:Cx}{a b c e:Expr}{es:List Expr}{pos p p' dp:Pos}{x:Str}{i:Nat}{g:FL}
theorem Abc {P:Program}{w:World}{K:W.Frag}{H:Hp} (h:Heap) (hb:sysModules < h.objs.size):ObjOk P w K H (h.push { cls:=.type "dict",data:=.dict #[] }) h.objs.size (.dK []) :=
 ⟨Arl _,beq_eq_false_iff_ne.mpr (Asr (Aq2 hb)),[],.nil,Heap.DictOf.new h⟩
theorem Ab3:PE X (.Dict [] [] pos) (fun _ H Q=>∀ p,H p=none->Q (.ref p) (upd H p (.dK []))):=fun pins s σ H Q I h =>
 wpAny_Dict_empty ⟨.ref s.heap.objs.size,_,I.laid (a:=s.heap.objs.size) (o:=.dK []) (t':=s.toks) (fun _ _ q=>Aqn _ q) (Aqo _) (Abc s.heap (X2 I)),rfl,h _ (I.hok.fresh (Aqo _))⟩
theorem Yx (hN:X.N.Nodup) (hi:X.N[i]?=some x) (hx:Loc X.env.scope x) (hs:swapsWith (.Dict [] [] dp) (some (.Name x p')) pos.line X.env=pure false) (hf:X.fn x=true\/X.env.scope.names.lookup x=some .local) :
  PSD X (.Assign [.Name x p'] (.Dict [] [] dp) pos) (Oj i):=PS.imp (T3 hN hi hx Ab3 hs hf) fun D σ H ⟨env,μ,m,o,S,E,h,q⟩=>by
 cases h
 intro a hn
 obtain⟨st,S'⟩:=S.pushS hn
 exact q _ _ _ st S' ((E.step S st).set i (Mv S.len))
theorem T7 (hN:X.N.Nodup) (hi:X.N[i]?=some x:=by kernel_rfl) (hx:Loc X.env.scope x:=by exact Asy (by kernel_rfl)) (hs':Ml (.Dict [] [] dp)=true:=by rfl) (hf:X.fn x=true\/X.env.scope.names.lookup x=some .local:=by exact Asy (by kernel_rfl)) :
  QS X (.Assign [.Name x p'] (.Dict [] [] dp) pos) (Oj i):=⟨Yx hN hi hx (Gi hs') hf⟩
def Ao7:Ame:=fun o i v H Q=>∃ ad kvs t,o=.ref ad/\i=.str t/\H ad=some (.dK kvs)/\kvs.length < sizeLine/\Q (upd H ad (.dK (T4 kvs (.inr t) v)))
theorem Zh:Apl X Ao7:=by
 intro pins s σ H o i v ov iv u Q I r1 r2 r3 h
 obtain⟨ad,kvs,t,rfl,rfl,hH,hl,q⟩:=h
 cases r1
 obtain⟨tk,rfl⟩:=r2
 obtain⟨z,hd,us,rel,dd⟩:=Xm I (.inl hH)
 have hz:us.length<=sizeLine:=by rw[<- Paired.length rel];exact z
 have hl':(T4 kvs (.inr t) v).length<=sizeLine:=by have:=Acl kvs (.inr t) v;lia
 refine wpAny_setItem_pairs (knd:=Dt X.prog X.w) (k:=.inr t) (hsz:=hz) (Ds t tk) dd fun h' dd' hs=>?_
 obtain⟨o',es,ep,hq,rest⟩:=id dd'
 refine⟨_,I.write (x:=ad) (e:=ad) (o:=.dK (T4 kvs (.inr t) v)) (by rw[hH];exact Atk) (.inl rfl) (fun b u hb e=>(hs.2 b hb).trans e) ⟨o',hq⟩ (show ObjOk X.prog X.w X.K (upd H ad (.dK (T4 kvs (.inr t) v))) h' ad (.dK (T4 kvs (.inr t) v)) from ⟨hl',hd,_,KV.put rel (.inr t) r3,dd'⟩),q⟩
theorem Yy {f fo fi:FE} (he:PD X e f) (ho:PD X a fo) (hi:PD X b fi)
  (ha:∀ v,assign (.Subscript a b p) X.env v=(do
   let ov <- holding [v] (eval a X.env)
   let iv <- holding [v,ov] (eval b X.env)
   standAt p
   holding [v,ov,iv] (setItem ov iv v)
   release [v,ov,iv] [])) (hs:swapsWithSole [.Subscript a b p] e pos.line X.env=pure false) (hw:swappedStores [.Subscript a b p] e X.env=pure none) (h1:(assignEach [.Subscript a b p] X.env).map (·.2)=[assign (.Subscript a b p) X.env]) :
  PSD X (.Assign [.Subscript a b p] e pos) (G3 f fo fi):=PS.imp (Ad8 he (Ala ho hi Zh ha) hs hw h1) fun D σ H ⟨env,μ,m,ob,S,E,h,q⟩=>by
 obtain⟨d,h1,h⟩:=bind_some h
 obtain⟨o,h2,h⟩:=bind_some h
 obtain⟨i,h3,h⟩:=bind_some h
 refine⟨env,μ,m,d,S,E,h1,fun v H1 s1 r1=>⟨env,μ,m,o,S.same s1,E.same s1,h2,fun u H2 s2 r2=>⟨env,μ,m,i,S.same (s1.trans s2),E.same (s1.trans s2),h3,fun w H3 s3 r3=>?_⟩⟩⟩
 have s':=(s1.trans s2).trans s3
 have r2':=r2.same s3
 cases r2' with
 |@ref n a e =>
  simp only at h
  cases q':m[n]? with
  |none=>simp[q'] at h
  |some mo =>
   simp only[q'] at h
   cases mo with
   |lst _=>cases h
   |dct _ _=>cases h
   |dcs ks vs =>
    simp only at h
    cases r3 with
    |str t ok =>
     simp only at h
     split at h
     ·rename_i hk
      cases h
      obtain⟨kvs,e1,e2,e3⟩:=(S.same s').obj n a _ e q'
      have rv:=(r1.same s2).same s3
      have hl:kvs.length < sizeLine:=by
       have l1:=Asc List.length e2
       rw[Aqw,Aqw] at l1
       have hz:=big (n:=1000000) (Aqo _)
       lia
      refine⟨a,kvs,t,rfl,rfl,e1,hl,?_⟩
      obtain⟨p1,p2⟩:=(RS.mk e2 e3).put t rv
      obtain⟨st,S3⟩:=(S.same s').writeS e q' p1 p2
      exact q σ _ μ ((Step.of_same s').trans st fun c hc=>s'.free hc) S3 ((E.same s').step (S.same s') st)
     ·exact Aj h
    |_=>exact Aj h
 |_=>exact Aj h
theorem Mr {f fo fi:FE} (he:QD X e f) (ho:QD X a fo) (hi:QD X b fi) (ha:∀ v,assign (.Subscript a b p) X.env v=(do
   let ov <- holding [v] (eval a X.env)
   let iv <- holding [v,ov] (eval b X.env)
   standAt p
   holding [v,ov,iv] (setItem ov iv v)
   release [v,ov,iv] []):=by intro _;rfl) (hs':Ml e=true:=by rfl) (hw:swappedStores [.Subscript a b p] e X.env=pure none:=by kernel_rfl) (h1:(assignEach [.Subscript a b p] X.env).map (·.2)=[assign (.Subscript a b p) X.env]:=by kernel_rfl) :
  QS X (.Assign [.Subscript a b p] e pos) (G3 f fo fi):=⟨Yy he.out ho.out hi.out ha (Ui hs') hw h1⟩
theorem Afc:Jl X (.builtin "len") Aby:=by
 intro pins s σ H μ m xs z vs us Q I S rx rv e q
 match xs,e with
 |[d],e =>
  obtain⟨⟨ks,ws⟩,h1,h⟩:=bind_some e
  split at h
  ·rename_i hk
   cases h
   obtain⟨v,rfl,r⟩:=rx.one
   obtain⟨u,rfl,ru⟩:=M1 rv
   obtain⟨a,kvs,rfl,hd,rs⟩:=L8 S r h1
   cases ru
   obtain⟨z,hm,us,rel,dd⟩:=Xm I hd
   obtain⟨e1,_⟩:=rs
   have l1:ks.length=kvs.length:=by have:=Asc List.length e1;simpa using this
   have l2:kvs.length=us.length:=Paired.length rel
   refine call_len_dict hm dd (by have hk:ks.length<=1000000:=hk;lia) ?_
   exact⟨.int (us.length:Nat),H,I.tok _,⟨_,rfl⟩,by rw[<- l2,<- l1];exact q _ H (Same.refl H) (.int _)⟩
  ·exact Aj h
theorem Ahr (hm:X.mg "len"=none) (ha:QL X [e] g) (hg:Gl X "len":=by unfold Gl;kernel_rfl) (he':B5 e=true:=by rfl):QD X (.Call (.Name "len" p) [e] [] pos) (Ay Aby g):=⟨Hs Afc hg hm (by decide +kernel) ha.out (by decide) (by decide) (Aq he') rfl⟩
end
noncomputable section
open Classical
def W {α:Type} (x:Option α) (Q:α->Prop):Prop:=∃ a,x=some a/\Q a
theorem W.out {d:α} (h:W x (fun a=>a=d)):x=some d:=by obtain⟨a,h1,h2⟩:=h;rw[h1,h2]
theorem W.imp {α:Type}{x:Option α}{P Q:α->Prop} (h:W x P) (i:∀ a,P a->Q a):W x Q:=by obtain⟨a,h1,h2⟩:=h;exact⟨a,h1,i a h2⟩
theorem Ac:W (some a) Q=Q a:=by
 apply propext;constructor
 ·rintro ⟨b,h,q⟩;cases h;exact q
 ·exact fun q=>⟨a,rfl,q⟩
theorem Bs:W none Q=False:=by
 apply propext;constructor
 ·rintro ⟨b,h,q⟩;exact Aj h
 ·exact False.elim
theorem W_bind:W (x.bind f) Q=W x (fun a=>W (f a) Q):=by
 cases x with
 |none=>rw[Bs];exact Bs
 |some a=>rw[Ac];rfl
theorem G8 [Decidable c]:W (if c then some x else none) Q=(c/\Q x):=by
 by_cases h:c
 ·rw[Aqx h,Ac];simp[h]
 ·rw[Aq0 h,Bs];simp[h]
noncomputable def Ane (Q:D->Prop):Out->Prop
 |.rt d m=>W (B4 m d) Q
 |.nx _ _=>Q .non
 |_=>False
theorem Ma {d:D}:Ane Q (.rt d m)=W (B4 m d) Q:=rfl
theorem L9:Ane Q (.nx e m)=Q .non:=rfl
theorem A1:W (Dp n g ds) Q=W (g (ds.map some++List.replicate (n - ds.length) none) []) (Ane Q):=by
 unfold Dp
 rw[W_bind]
 congr 1
 funext o
 cases o<;>first|rfl|exact Ac|exact Bs
noncomputable def Alw (g:FS) (Q:Out->Prop):Out->Prop
 |.nx e m=>W (g e m) Q
 |o=>Q o
theorem My:Alw g Q (.nx e m)=W (g e m) Q:=rfl
theorem Mz:Alw g Q (.rt e m)=Q (.rt e m):=rfl
theorem Mw:Alw g Q (.bk e m)=Q (.bk e m):=rfl
theorem Mx:Alw g Q (.ct e m)=Q (.ct e m):=rfl
theorem Nb:W (Ba f g env m) Q=W (f env m) (Alw g Q):=by
 unfold Ba
 rw[W_bind]
 congr 1
 funext o
 cases o<;>first|rfl|exact Ac
theorem Rk:W (Eb env m) Q=Q (.nx env m):=Ac
theorem Rm:W (Cv f env m) Q=W (f env m) fun d=>Q (.rt d m):=by
 unfold Cv;rw[W_bind];congr 1;funext d;exact Ac
theorem Lq:W (Po f env m) Q=W (f env m) fun ds=>Q (.rt (.ref m.length) (m++[.lst ds])):=by
 unfold Po;rw[W_bind];congr 1;funext d;exact Ac
def cK (p q:Prop) (b:Bool):Prop:=(b=true->p)/\(b=false->q)
theorem Vq:cK p q true=p:=by unfold cK;simp
theorem Xc:cK p q false=q:=by unfold cK;simp
theorem cK.mk {p q:Prop}{b:Bool} (h1:b=true->p) (h2:b=false->q):cK p q b:=⟨h1,h2⟩
theorem cK.dec [Decidable c] (h1:c->p) (h2:¬ c->q):cK p q (decide c):=⟨fun h=>h1 (Arq h),fun h=>h2 (of_decide_eq_false h)⟩
theorem cK.ndec [Decidable c] (h1:¬ c->p) (h2:c->q):cK p q (!decide c):=⟨fun h=>h1 (by simpa using h),fun h=>h2 (by simpa using h)⟩
theorem Gk:W (if b=true then x else y) Q=cK (W x Q) (W y Q) b:=by
 cases b
 ·rw[Xc];rfl
 ·rw[Vq];rfl
theorem Aal {t:FB}:W (sIf t f g env m) Q=W (t env m) (cK (W (f env m) Q) (W (g env m) Q)):=by
 unfold sIf;rw[W_bind];congr 1;funext c;exact Gk
theorem Aix {d:D}:W (fC d env m) Q=Q d:=Ac
theorem Aiw:W (f2 o f g env m) Q=W (f env m) fun x=>W (g env m) fun y=>W (o x y m) Q:=by
 unfold f2;rw[W_bind];congr 1;funext d;exact W_bind
theorem Amo:W (f1 o f env m) Q=W (f env m) fun x=>W (o x m) Q:=W_bind
theorem Gm:W (Ak env m) Q=Q []:=Ac
theorem Dr:W (Aa f g env m) Q=W (f env m) fun x=>W (g env m) fun xs=>Q (x::xs):=by
 unfold Aa;rw[W_bind];congr 1;funext d;rw[W_bind];congr 1;funext e;exact Ac
theorem Ek:W (Ay o g env m) Q=W (g env m) fun xs=>W (o xs m) Q:=W_bind
theorem Et:W (Dm o g env m) Q=W (g env m) fun xs=>W (o xs m) Q:=W_bind
theorem P0:W (Cq g env m) Q=W (g env m) fun ds=>Q (.lst ds):=by
 unfold Cq;rw[W_bind];congr 1;funext d;exact Ac
theorem P5:W (B0 g env m) Q=W (g env m) fun ds=>ds.length<=1000000/\Q (.tup ds):=by
 unfold B0;rw[W_bind];congr 1;funext d;exact G8
theorem G7:W (Bz g env m) Q=W (g env m) fun ds=>ds.length<=1000000/\Q ds:=by
 unfold Bz;rw[W_bind];congr 1;funext d;exact G8
theorem E8:W (A4 f env m) Q=W (f env m) fun d=>W (asB d) Q:=W_bind
theorem Zy:W (asB (.bl b)) Q=Q b:=Ac
theorem M9:W (O2 f env m) Q=W (f env m) fun d=>W (Ac2 m d) Q:=W_bind
theorem Rr:W (Ac2 m (.bl b)) Q=Q b:=Ac
theorem Rv:W (Ac2 m (.tup ds)) Q=Q (!ds.isEmpty):=Ac
theorem Rt:W (Ac2 m (.lst ds)) Q=Q (!ds.isEmpty):=Ac
theorem Px:W (Vs f g env m) Q=W (f env m) (cK (W (g env m) Q) (Q false)):=by
 unfold Vs;rw[W_bind];congr 1;funext c;rw[Gk,Ac]
theorem Z8:W (fOr f g env m) Q=W (f env m) (cK (Q true) (W (g env m) Q)):=by
 unfold fOr;rw[W_bind];congr 1;funext c;rw[Gk,Ac]
theorem P1:W (Abe f env m) Q=W (f env m) fun b=>Q (!b):=by
 unfold Abe;rw[W_bind];congr 1;funext c;exact Ac
theorem Lj:W (Ut f g env m) Q=W (f env m) fun d=>W (asB d) (cK (W (g env m) Q) (Q (.bl false))):=by
 unfold Ut;rw[W_bind,E8];congr 1;funext c;congr 1;funext c;rw[Gk,Ac]
theorem P2:W (Ajj f g env m) Q=W (f env m) fun d=>W (asB d) (cK (Q (.bl true)) (W (g env m) Q)):=by
 unfold Ajj;rw[W_bind,E8];congr 1;funext c;congr 1;funext c;rw[Gk,Ac]
theorem Lm:W (Xp f env m) Q=W (f env m) fun d=>W (Ac2 m d) fun b=>Q (.bl (!b)):=by
 unfold Xp;rw[W_bind,M9];congr 1;funext c;congr 1;funext c;exact Ac
theorem Z6 {t:FB}:W (fIf t f g env m) Q=W (t env m) (cK (W (f env m) Q) (W (g env m) Q)):=by
 unfold fIf;rw[W_bind];congr 1;funext c;exact Gk
theorem Z9 {l h:FO}:W (fSl f l h env m) Q=W (f env m) fun x=>W (l env m) fun lo=>W (h env m) fun hi=>W (oSl x lo hi) Q:=by
 unfold fSl
 rw[W_bind];congr 1;funext x
 rw[W_bind];congr 1;funext y
 rw[W_bind]
theorem Z7:W (fNo env m) Q=Q none:=Ac
theorem Ln:W (C2 f env m) Q=W (f env m) fun d=>W (asI d) fun i=>Q (some i):=by
 unfold C2
 rw[W_bind];congr 1;funext x
 rw[W_bind];congr 1;funext y
 exact Ac
theorem Zz:W (asI (.int i)) Q=Q i:=Ac
theorem Jq {z:List D}{lo hi:Option Int}{Q:D->Prop}:W (oSl (.tup z) lo hi) Q=Q (.tup (Ef z lo hi)):=Ac
def slK (lo hi:Option Int) (m:MH) (x:D) (Q:List D->Prop):Prop:=W (match x with
 |.tup _=>none
 |x=>(sq m x).bind fun ds=>some (Ef ds lo hi)) Q
theorem P4 {l h:FO}:W (Zv f l h env m) Q=W (f env m) fun x=>W (l env m) fun lo=>W (h env m) fun hi=>slK lo hi m x Q:=by
 unfold Zv slK
 rw[W_bind];congr 1;funext x
 rw[W_bind];congr 1;funext y
 rw[W_bind]<;>congr 1
theorem Acx {lo hi:Option Int}{m:MH}{ds:List D}{Q:List D->Prop}:slK lo hi m (.lst ds) Q=Q (Ef ds lo hi):=Ac
theorem Ub {lo hi:Option Int}{m:MH}{ds:List D}{Q:List D->Prop}:slK lo hi m (.kl ds) Q=Q (Ef ds lo hi):=Ac
theorem Py:W (Adl f g env m) Q=W (f env m) fun x=>W (g env m) fun y=>W (sqL m x) fun xs=>W (sqL m y) fun ys=>xs.length+ys.length<=1000000/\Q (xs++ys):=by
 unfold Adl
 rw[W_bind];congr 1;funext x
 rw[W_bind];congr 1;funext y
 rw[W_bind];congr 1;funext z
 rw[W_bind];congr 1;funext k
 exact G8
theorem Pz:W (Adm U f env m) Q=W (f env m) fun d=>W (tyD m d) fun T=>W (X5 T U) fun b=>Q (.bl b):=by
 unfold Adm
 rw[W_bind];congr 1;funext x
 rw[W_bind];congr 1;funext y
 rw[W_bind];congr 1;funext z
 exact Ac
theorem Na:W (M4 env m) Q=Q true:=Ac
theorem Ll {cap:List Nat}{t:FB}:W (Bq cap k fw g t fe env m) Q=W (fw env m) fun w=>(w.chk m/\w.all.length<=1000000)/\W (Gb g t fe m (Vr cap k env) w.all) Q:=by
 unfold Bq
 rw[W_bind];congr 1;funext w
 by_cases h:w.chk m/\w.all.length<=1000000
 ·rw[Aqx h];apply propext;exact⟨fun q=>⟨h,q⟩,fun q=>q.2⟩
 ·rw[Aq0 h,Bs];apply propext;exact⟨False.elim,fun q=>h q.1⟩
theorem Cm {t:FB}:W (Gb g t fe m env []) Q=Q []:=Ac
theorem Cj {t:FB}{d:D}:W (Gb g t fe m env (d::ds)) Q=W (g d env) fun env1=>W (t env1 m) (cK (W (fe env1 m) fun y=>W (Gb g t fe m env ds) fun ys=>Q (y::ys)) (W (Gb g t fe m env ds) Q)):=by
 rw[Gb,W_bind];congr 1;funext e
 rw[W_bind];congr 1;funext ok
 rw[Gk,W_bind]
 congr 1
 congr 1;funext y
 rw[W_bind];congr 1;funext z
 exact Ac
theorem Pt:W (Ej (.int i) (.int j) m) Q=Q (.int (i+j)):=Ac
theorem Pu:W (Ej (.tup i) (.tup j) m) Q=(i.length+j.length<=1000000/\Q (.tup (i++j))):=G8
theorem Rq:W (Anh (.int i) (.int j) m) Q=Q (.int (i - j)):=Ac
theorem Rf:W (Mj (.int i) (.int j) m) Q=(((-(2 ^ 64) < i/\i < 2 ^ 64)\/(-(2 ^ 64) < j/\j < 2 ^ 64))/\Q (.int (i * j))):=G8
theorem Pw:W (Yh (.int i) (.int j) m) Q=((0 < j/\j < 1073741824)/\Q (.int (i / j))):=G8
theorem Re:W (Tt (.int i) (.int j) m) Q=(0 < j/\Q (.int (i % j))):=G8
theorem Aai:W (oLt (.int i) (.int j) m) Q=Q (.bl (decide (i < j))):=by
 rw[show oLt (.int i) (.int j) m=some (.bl (decide (i < j))) by rfl,Ac]
theorem Aac:W (oGt (.int i) (.int j) m) Q=Q (.bl (decide (j < i))):=Ac
theorem Amn:W (oEq x y m) Q=W (Ci m x) fun x'=>W (Ci m y) fun y'=>dep x'<=60/\Q (.bl (deq x' y')):=by
 unfold oEq eqO
 rw[W_bind,W_bind];congr 1;funext x'
 rw[W_bind];congr 1;funext y'
 rw[G8,Ac]
theorem Amv:W (oNe x y m) Q=W (Ci m x) fun x'=>W (Ci m y) fun y'=>dep x'<=60/\Q (.bl (!deq x' y')):=by
 unfold oNe eqO
 rw[W_bind,W_bind];congr 1;funext x'
 rw[W_bind];congr 1;funext y'
 rw[G8,Ac]
theorem Ee:W (oIx (.tup z) (.int i) m) Q=W (atI z i) Q:=rfl
theorem Aag:W (oIx (.lst z) (.int i) m) Q=W (atI z i) Q:=rfl
theorem Aaf:W (oIx (.kl z) (.int i) m) Q=W (atI z i) Q:=rfl
theorem Ra:W (Jk [.tup z] m) Q=Q (.int z.length):=Ac
theorem P9:W (Jk [.lst z] m) Q=Q (.int z.length):=Ac
theorem P7:W (Jk [.kl z] m) Q=Q (.int z.length):=Ac
theorem Ro:W (sqL m (.lst z)) Q=Q z:=Ac
theorem Aae:W (oIn x (.tup z) m) Q=W (Ci m x) fun x'=>W (Ci m (.tup z)) fun y'=>W (sq [] y') fun ds=>dep x'<=50/\Q (.bl (ds.any fun d=>deq d x')):=by
 unfold oIn inO;rw[W_bind];simp only
 rw[W_bind];congr 1;funext x';rw[W_bind];congr 1;funext z;rw[W_bind];congr 1;funext z;rw[G8,Ac]
theorem Aad:W (oIn x (.lst z) m) Q=W (Ci m x) fun x'=>W (Ci m (.lst z)) fun y'=>W (sq [] y') fun ds=>dep x'<=50/\Q (.bl (ds.any fun d=>deq d x')):=by
 unfold oIn inO;rw[W_bind];simp only
 rw[W_bind];congr 1;funext x';rw[W_bind];congr 1;funext z;rw[W_bind];congr 1;funext z;rw[G8,Ac]
theorem Dq:W (L3 n fn ds m) Q=W (Da m ds) fun ds'=>ds'.length=n/\W (fn ds') Q:=by
 unfold L3
 rw[W_bind];congr 1;funext z
 by_cases h:z.length=n
 ·rw[Aqx h];simp[h]
 ·rw[Aq0 h,Bs];simp[h]
theorem B9:W (Da m []) Q=Q []:=Ac
theorem B8 {d:D}:W (Da m (d::ds)) Q=W (Ci m d) fun d'=>W (Da m ds) fun ds'=>Q (d'::ds'):=by
 rw[Da,W_bind];congr 1;funext z;rw[W_bind];congr 1;funext z;exact Ac
theorem Lr:W (Ci m (.bl b)) Q=Q (.bl b):=Ac
theorem Lu:W (Ci m (.int b)) Q=Q (.int b):=Ac
theorem Lx:W (Ci m (.str b)) Q=Q (.str b):=Ac
theorem Lw:W (Ci m (.lst b)) Q=(A7 b=true/\Q (.lst b)):=G8
theorem Lv:W (Ci m (.kl b)) Q=(A7 b=true/\Q (.kl b)):=G8
theorem Aam:W (tyD m (.bl b)) Q=Q "bool":=Ac
theorem Aan:W (tyD m (.int b)) Q=Q "int":=Ac
theorem Aao:W (tyD m (.str b)) Q=Q "str":=Ac
theorem C4:W (X5 "bool" "bool") Q=Q true:=by rw[show X5 "bool" "bool"=some true by decide,Ac]
theorem D3:W (X5 "int" "str") Q=Q false:=by rw[show X5 "int" "str"=some false by decide,Ac]
theorem D4:W (X5 "str" "str") Q=Q true:=by rw[show X5 "str" "str"=some true by decide,Ac]
theorem Aav:W (B4 m (.bl b)) Q=Q (.bl b):=by rw[B4,Ac]
theorem Aax:W (B4 m (.int b)) Q=Q (.int b):=by rw[B4,Ac]
theorem Aay:W (B4 m (.str b)) Q=Q (.str b):=by rw[B4,Ac]
theorem Ry:W (Dg m []) Q=Q []:=by rw[Dg,Ac]
theorem Rx {d:D}:W (Dg m (d::ds)) Q=W (B4 m d) fun e=>W (Dg m ds) fun es=>Q (e::es):=by
 rw[Dg,W_bind];congr 1;funext z;rw[W_bind];congr 1;funext z;exact Ac
def Amd (m:MH) (d:D) (Q:Wk->Prop):Prop:=W (match d with
 |.str z=>some ⟨J9 z,Cb⟩
 |.tup ds=>some ⟨ds,Cb⟩
 |.lst ds=>some ⟨ds,Cb⟩
 |.kl ds=>some ⟨ds,Cb⟩
 |.ref n=>(match m[n]? with
  |some (.lst ds)=>some ⟨ds,fun m'=>m'[n]?=some (.lst ds)⟩
  |_=>none)
 |_=>none) Q
theorem Rw:W (Ed f env m) Q=W (f env m) fun d=>Amd m d Q:=W_bind
theorem Anl:Amd m (.tup z) Q=Q ⟨z,Cb⟩:=Ac
theorem Anj:Amd m (.lst z) Q=Q ⟨z,Cb⟩:=Ac
theorem Ank:Amd m (.ref n) Q=W (sq m (.ref n)) fun ds=>Q ⟨ds,fun m'=>m'[n]?=some (.lst ds)⟩:=by
 unfold Amd sq
 simp only
 cases m[n]? with
 |none=>rw[Bs,Bs]
 |some o=>cases o with
  |lst ds=>rw[Ac,Ac]
  |dct ds=>rw[Bs,Bs]
  |dcs ks ds=>rw[Bs,Bs]
def Apu (ds:List D) (Q:Wk->Prop):Prop:=W (match ds with
 |[.int j]=>if -(2 ^ 62)<=j/\j < 2 ^ 62 then some ⟨D1 0 j.toNat,Cb⟩ else none
 |_=>none) Q
theorem Ly:W (Jh g env m) Q=W (g env m) fun ds=>Apu ds Q:=W_bind
theorem Acu:Apu [.int j] Q=((-(2 ^ 62)<=j/\j < 2 ^ 62)/\Q ⟨D1 0 j.toNat,Cb⟩):=G8
theorem Ri:W (J6 f g b env m) Q=W (f env m) fun w=>W (Jj w.chk g b w.all env m) Q:=W_bind
theorem Aab:W (Jj chk g b [] e m) Q=(chk m/\Q (.nx e m)):=by rw[Jj];exact G8
def Vj (chk:MH->Prop) (g:FG) (b:FS) (ds:List D) (Q:Out->Prop):Out->Prop
 |.nx e m=>W (Jj chk g b ds e m) Q
 |.ct e m=>W (Jj chk g b ds e m) Q
 |.bk e m=>Q (.nx e m)
 |.rt d m=>Q (.rt d m)
theorem Hv:Vj chk g b ds Q (.nx e m)=W (Jj chk g b ds e m) Q:=rfl
theorem Hu:Vj chk g b ds Q (.ct e m)=W (Jj chk g b ds e m) Q:=rfl
theorem Ht:Vj chk g b ds Q (.bk e m)=Q (.nx e m):=rfl
theorem Hw:Vj chk g b ds Q (.rt e m)=Q (.rt e m):=rfl
theorem V0 {d:D}:W (Jj chk g b (d::ds) e m) Q=(chk m/\W (g d e) fun e1=>W (b e1 m) (Vj chk g b ds Q)):=by
 rw[Jj]
 by_cases h:chk m
 ·rw[Aqx h,W_bind]
  apply propext
  have k:∀ e1,W ((b e1 m).bind fun o=>match o with
   |.nx env2 m2=>Jj chk g b ds env2 m2
   |.ct env2 m2=>Jj chk g b ds env2 m2
   |.bk env2 m2=>some (.nx env2 m2)
   |.rt d m2=>some (.rt d m2)) Q=W (b e1 m) (Vj chk g b ds Q):=by
   intro e1
   rw[W_bind]
   congr 1
   funext o
   cases o<;>first|rfl|exact Ac
  exact⟨fun q=>⟨h,q.imp fun e1 q=>(k e1) ▸ q⟩,fun q=>q.2.imp fun e1 q=>(k e1) ▸ q⟩
 ·rw[Aq0 h,Bs];simp[h]
theorem D5:Cb m=True:=rfl
theorem Ai2 {d:D}{l:A2}:W (Ai 0 (some d::l) m) Q=Q d:=Ac
theorem Amg {d:D}{l:A2}:W (Ao 0 d (y::l)) Q=Q (some d::l):=Ac
theorem Ai3 {d:D}{l:A2}:W (Ai 1 (x0::some d::l) m) Q=Q d:=Ac
theorem Amw {l:A2}:W (Br 1 f (x0::y::l) m) Q=W (f (x0::y::l) m) fun d=>Q (.nx (x0::some d::l) m):=by unfold Br;rw[W_bind];congr 1;funext d;exact Ac
theorem Amp {l:A2}:W (Gg 1 f (x0::y::l) m) Q=W (f (x0::y::l) m) fun ds=>Q (.nx (x0::some (.ref m.length)::l) (m++[.lst ds])):=by unfold Gg;rw[W_bind];congr 1;funext d;exact Ac
theorem Amh {d:D}{l:A2}:W (Ao 1 d (x0::y::l)) Q=Q (x0::some d::l):=Ac
theorem Ai4 {d:D}{l:A2}:W (Ai 2 (x0::x1::some d::l) m) Q=Q d:=Ac
theorem Amx {l:A2}:W (Br 2 f (x0::x1::y::l) m) Q=W (f (x0::x1::y::l) m) fun d=>Q (.nx (x0::x1::some d::l) m):=by unfold Br;rw[W_bind];congr 1;funext d;exact Ac
theorem Amq {l:A2}:W (Gg 2 f (x0::x1::y::l) m) Q=W (f (x0::x1::y::l) m) fun ds=>Q (.nx (x0::x1::some (.ref m.length)::l) (m++[.lst ds])):=by unfold Gg;rw[W_bind];congr 1;funext d;exact Ac
theorem Aiv {d:D}{l:A2}:W (Ao 2 d (x0::x1::y::l)) Q=Q (x0::x1::some d::l):=Ac
theorem Ai5 {d:D}{l:A2}:W (Ai 3 (x0::x1::x2::some d::l) m) Q=Q d:=Ac
theorem Amy {l:A2}:W (Br 3 f (x0::x1::x2::y::l) m) Q=W (f (x0::x1::x2::y::l) m) fun d=>Q (.nx (x0::x1::x2::some d::l) m):=by unfold Br;rw[W_bind];congr 1;funext d;exact Ac
theorem Amr {l:A2}:W (Gg 3 f (x0::x1::x2::y::l) m) Q=W (f (x0::x1::x2::y::l) m) fun ds=>Q (.nx (x0::x1::x2::some (.ref m.length)::l) (m++[.lst ds])):=by unfold Gg;rw[W_bind];congr 1;funext d;exact Ac
theorem Ami {d:D}{l:A2}:W (Ao 3 d (x0::x1::x2::y::l)) Q=Q (x0::x1::x2::some d::l):=Ac
theorem Am5 {d:D}{l:A2}:W (Ai 4 (x0::x1::x2::x3::some d::l) m) Q=Q d:=Ac
theorem Amz {l:A2}:W (Br 4 f (x0::x1::x2::x3::y::l) m) Q=W (f (x0::x1::x2::x3::y::l) m) fun d=>Q (.nx (x0::x1::x2::x3::some d::l) m):=by unfold Br;rw[W_bind];congr 1;funext d;exact Ac
theorem Ams {l:A2}:W (Gg 4 f (x0::x1::x2::x3::y::l) m) Q=W (f (x0::x1::x2::x3::y::l) m) fun ds=>Q (.nx (x0::x1::x2::x3::some (.ref m.length)::l) (m++[.lst ds])):=by unfold Gg;rw[W_bind];congr 1;funext d;exact Ac
theorem Amj {d:D}{l:A2}:W (Ao 4 d (x0::x1::x2::x3::y::l)) Q=Q (x0::x1::x2::x3::some d::l):=Ac
theorem Am6 {d:D}{l:A2}:W (Ai 5 (x0::x1::x2::x3::x4::some d::l) m) Q=Q d:=Ac
theorem Am0 {l:A2}:W (Br 5 f (x0::x1::x2::x3::x4::y::l) m) Q=W (f (x0::x1::x2::x3::x4::y::l) m) fun d=>Q (.nx (x0::x1::x2::x3::x4::some d::l) m):=by unfold Br;rw[W_bind];congr 1;funext d;exact Ac
theorem Amt {l:A2}:W (Gg 5 f (x0::x1::x2::x3::x4::y::l) m) Q=W (f (x0::x1::x2::x3::x4::y::l) m) fun ds=>Q (.nx (x0::x1::x2::x3::x4::some (.ref m.length)::l) (m++[.lst ds])):=by unfold Gg;rw[W_bind];congr 1;funext d;exact Ac
theorem Amk {d:D}{l:A2}:W (Ao 5 d (x0::x1::x2::x3::x4::y::l)) Q=Q (x0::x1::x2::x3::x4::some d::l):=Ac
theorem Am7 {d:D}{l:A2}:W (Ai 6 (x0::x1::x2::x3::x4::x5::some d::l) m) Q=Q d:=Ac
theorem Am1 {l:A2}:W (Br 6 f (x0::x1::x2::x3::x4::x5::y::l) m) Q=W (f (x0::x1::x2::x3::x4::x5::y::l) m) fun d=>Q (.nx (x0::x1::x2::x3::x4::x5::some d::l) m):=by unfold Br;rw[W_bind];congr 1;funext d;exact Ac
theorem Aml {d:D}{l:A2}:W (Ao 6 d (x0::x1::x2::x3::x4::x5::y::l)) Q=Q (x0::x1::x2::x3::x4::x5::some d::l):=Ac
theorem Am8 {d:D}{l:A2}:W (Ai 7 (x0::x1::x2::x3::x4::x5::x6::some d::l) m) Q=Q d:=Ac
theorem Am2 {l:A2}:W (Br 7 f (x0::x1::x2::x3::x4::x5::x6::y::l) m) Q=W (f (x0::x1::x2::x3::x4::x5::x6::y::l) m) fun d=>Q (.nx (x0::x1::x2::x3::x4::x5::x6::some d::l) m):=by unfold Br;rw[W_bind];congr 1;funext d;exact Ac
theorem Am9 {d:D}{l:A2}:W (Ai 8 (x0::x1::x2::x3::x4::x5::x6::x7::some d::l) m) Q=Q d:=Ac
theorem Am3 {l:A2}:W (Br 8 f (x0::x1::x2::x3::x4::x5::x6::x7::y::l) m) Q=W (f (x0::x1::x2::x3::x4::x5::x6::x7::y::l) m) fun d=>Q (.nx (x0::x1::x2::x3::x4::x5::x6::x7::some d::l) m):=by unfold Br;rw[W_bind];congr 1;funext d;exact Ac
theorem Amu {l:A2}:W (Gg 8 f (x0::x1::x2::x3::x4::x5::x6::x7::y::l) m) Q=W (f (x0::x1::x2::x3::x4::x5::x6::x7::y::l) m) fun ds=>Q (.nx (x0::x1::x2::x3::x4::x5::x6::x7::some (.ref m.length)::l) (m++[.lst ds])):=by unfold Gg;rw[W_bind];congr 1;funext d;exact Ac
theorem Ana {d:D}{l:A2}:W (Ai 9 (x0::x1::x2::x3::x4::x5::x6::x7::x8::some d::l) m) Q=Q d:=Ac
theorem Am4 {l:A2}:W (Br 9 f (x0::x1::x2::x3::x4::x5::x6::x7::x8::y::l) m) Q=W (f (x0::x1::x2::x3::x4::x5::x6::x7::x8::y::l) m) fun d=>Q (.nx (x0::x1::x2::x3::x4::x5::x6::x7::x8::some d::l) m):=by unfold Br;rw[W_bind];congr 1;funext d;exact Ac
theorem Amm {d:D}{l:A2}:W (Ao 9 d (x0::x1::x2::x3::x4::x5::x6::x7::x8::y::l)) Q=Q (x0::x1::x2::x3::x4::x5::x6::x7::x8::some d::l):=Ac
theorem Aap {d:D}{l:A2}:W (Ai 10 (x0::x1::x2::x3::x4::x5::x6::x7::x8::x9::some d::l) m) Q=Q d:=Ac
theorem Z0 {d:D}{l:A2}:W (Ao 10 d (x0::x1::x2::x3::x4::x5::x6::x7::x8::x9::y::l)) Q=Q (x0::x1::x2::x3::x4::x5::x6::x7::x8::x9::some d::l):=Ac
theorem Aaq {d:D}{l:A2}:W (Ai 11 (x0::x1::x2::x3::x4::x5::x6::x7::x8::x9::x10::some d::l) m) Q=Q d:=Ac
theorem Aak {l:A2}:W (Br 11 f (x0::x1::x2::x3::x4::x5::x6::x7::x8::x9::x10::y::l) m) Q=W (f (x0::x1::x2::x3::x4::x5::x6::x7::x8::x9::x10::y::l) m) fun d=>Q (.nx (x0::x1::x2::x3::x4::x5::x6::x7::x8::x9::x10::some d::l) m):=by unfold Br;rw[W_bind];congr 1;funext d;exact Ac
theorem Z1 {d:D}{l:A2}:W (Ao 11 d (x0::x1::x2::x3::x4::x5::x6::x7::x8::x9::x10::y::l)) Q=Q (x0::x1::x2::x3::x4::x5::x6::x7::x8::x9::x10::some d::l):=Ac
end
theorem Bu:deq (.int i) (.int j)=decide (i=j):=by
 unfold deq pyD
 rw[show PyData.eqv (.int i) (.int j)=(i == j) by simp[PyData.eqv]]
 by_cases h:i=j<;>simp[h]
theorem Cs:deq (.str i) (.str j)=decide (i=j):=by
 unfold deq pyD
 rw[show PyData.eqv (.str i) (.str j)=(i == j) by simp[PyData.eqv]]
 by_cases h:i=j<;>simp[h]
theorem Nn:deq (.bl i) (.bl j)=decide (i=j):=by
 cases i<;>cases j<;>decide
theorem Bt:dep (.int i)=0:=by simp[dep]
theorem Cz:dep (.str i)=0:=by simp[dep]
theorem R4:dep (.bl i)=0:=by simp[dep]
theorem Ic:dep .non=0:=by simp[dep]
theorem D7 (ns:List Int):A7 (ns.map D.int)=true:=by
 induction ns with
 |nil=>rw[Ar9,A7]
 |cons n ns ih=>rw[Aqs,A7,ih,show By (D.int n)=true by simp[By]];rfl
theorem M7 (h0:0<=i) (h1:i < xs.length) (q:∀ d,xs[i.toNat]?=some d->d∈xs->Q d):W (atI xs i) Q:=by
 unfold atI ixN
 rw[Aqx h0,Aqx h1]
 have hi:i.toNat < xs.length:=by lia
 refine⟨xs[i.toNat],?_,q _ (Aqu hi) (Ar4 hi)⟩
 exact Aqu hi
theorem Ail:(⟨#[c]⟩:Str).length=1:=rfl
theorem Ha:Vr [] k env=List.replicate k none:=rfl
theorem Eu {cap:List Nat}:Vr (i::cap) k env=(env[i]?).bind id::Vr cap k env:=rfl
theorem Bg {α:Type}{g:FG}{fe:FE}{m:MH}{env:A2}{h:α->D} (F:α->D) {xs:List α}{Q:List D->Prop} (k:∀ x∈xs,W (g (h x) env) fun e1=>W (fe e1 m) fun y=>y=F x) (q:Q (xs.map F)):W (Gb g M4 fe m env (xs.map h)) Q:=by
 induction xs generalizing Q with
 |nil=>rw[Ar9,Cm];exact q
 |cons d ds ih =>
  rw[Aqs,Cj]
  refine (k d (Aqy ..)).imp fun e1 h1=>?_
  rw[Na,Vq]
  refine h1.imp fun y hy=>?_
  subst hy
  exact ih (fun e he=>k e (Aqr _ he)) q
noncomputable section
open Classical
theorem Ow:W (sq m (.tup ds)) Q=Q ds:=Ac
theorem Rn:W (sq m (.lst ds)) Q=Q ds:=Ac
theorem Rp:W (sqL m (.ref n)) Q=W (sq m (.ref n)) Q:=rfl
def Anf (o:List D->List D->Option (List D)) (d:D) (g:FL) (env:A2) (m:MH) (Q:Out->Prop):Prop:=W (match d with
 |.ref n=>(g env m).bind fun es=>(match m[n]? with
  |some (.lst ds)=>(o ds es).bind fun fs=>some (.nx env (m.set n (.lst fs)))
  |_=>none)
 |_=>none) Q
theorem Rj:W (Pn o f g env m) Q=W (f env m) fun d=>Anf o d g env m Q:=by
 unfold Pn Anf
 rw[W_bind]<;>congr 1
theorem Tp:Anf o (.ref n) g env m Q=W (g env m) fun es=>W (sq m (.ref n)) fun ds=>W (o ds es) fun fs=>Q (.nx env (m.set n (.lst fs))):=by
 unfold Anf sq
 simp only
 rw[W_bind];congr 1;funext es
 cases m[n]? with
 |none=>rw[Bs,Bs]
 |some o=>cases o with
  |lst ds=>simp only;rw[Ac,W_bind];congr 1;funext j;exact Ac
  |dct ds=>rw[Bs,Bs]
  |dcs ks ds=>rw[Bs,Bs]
theorem Rg {d:D}:W (Vu ds [d]) Q=(ds.length < 1000000/\Q (ds++[d])):=G8
theorem G9 {d:D}:W (C5 [d] m) Q=W (sq m d) fun ds=>Q (.tup ds):=W_bind.trans (by congr 1;funext ds;exact Ac)
theorem Rh:W (Ain f g env m) Q=W (f env m) fun d=>W (g d env) fun e=>Q (.nx e m):=by
 unfold Ain
 rw[W_bind];congr 1;funext x
 rw[W_bind];congr 1;funext y
 exact Ac
theorem M8:W (G5 n g (.tup ds) env) Q=(ds.length=n/\W (g ds env) Q):=by
 unfold G5
 simp only
 by_cases h:ds.length=n
 ·rw[Aqx h];simp[h]
 ·rw[Aq0 h,Bs];simp[h]
theorem Li {d:D}:W (B1 g h (d::ds) env) Q=W (g d env) fun e=>W (h ds e) Q:=W_bind
theorem Pv:W (Nm [] env) Q=Q env:=Ac
def Ao9 (xs:List D) (y:D) (Q:List D->Prop):Prop:=W (match y with
 |.int i=>if 0<=i/\i < 2 ^ 62/\xs.length * i.toNat<=1000000 then some (E4 xs i.toNat) else none
 |_=>none) Q
theorem P3:W (Aik g f env m) Q=W (g env m) fun xs=>W (f env m) fun y=>Ao9 xs y Q:=by
 unfold Aik Ao9
 rw[W_bind];congr 1;funext x
 rw[W_bind]<;>congr 1
theorem T9:Ao9 xs (.int i) Q=((0<=i/\i < 2 ^ 62/\xs.length * i.toNat<=1000000)/\Q (E4 xs i.toNat)):=G8
theorem Rb:W (Yi [.int i,.int j] m) Q=Q (.int (if j < i then j else i)):=Ac
theorem Aah:W (Aim x y m) Q=W (Ci m x) fun x'=>W (Ci m y) fun y'=>(dep x'<=30/\dep y'<=30)/\W (ltD x' y') fun k=>Q (.bl k):=by
 unfold Aim
 rw[W_bind];congr 1;funext x'
 rw[W_bind];congr 1;funext y'
 by_cases h:dep x'<=30/\dep y'<=30
 ·rw[Aqx h,W_bind]
  apply propext
  have e:(fun k=>W (some (D.bl k)) Q)=fun k=>Q (.bl k):=by funext k;exact Ac
  rw[e]
  exact⟨fun q=>⟨h,q⟩,fun q=>q.2⟩
 ·rw[Aq0 h,Bs];apply propext;exact⟨False.elim,fun q=>h q.1⟩
theorem Ru:W (Ac2 m (.ref n)) Q=W (sq m (.ref n)) fun ds=>Q (!ds.isEmpty):=W_bind.trans (by congr 1;funext ds;exact Ac)
theorem Nc:W (sq (.lst ds::m) (.ref 0)) Q=Q ds:=Ac
theorem Ap1 {n:Nat}{ds:List D}{m:MH}{Q:D->Prop} (h:m[n]?=some (.lst ds)):W (B4 m (.ref n)) Q=cK (Q (.lst ds)) (W (xpL m ds) fun es=>Q (.lst es)) (Av ds):=by
 rw[B4,h]
 show W (if _ then _ else _) Q=_
 rw[Gk,Ac,W_bind]
 congr 2;funext es;exact Ac
theorem Aaz:W (B4 (.lst ds::m) (.ref 0)) Q=cK (Q (.lst ds)) (W (xpL (.lst ds::m) ds) fun es=>Q (.lst es)) (Av ds):=Ap1 rfl
theorem Nf:W (sq (o0::.lst ds::m) (.ref 1)) Q=Q ds:=Ac
end
theorem W.eq (h:W x fun d=>d=a):W x Q=Q a:=by rw[h.out,Ac]
mutual
theorem Ld:∀ {d:D},Bj d=true->B4 m d=some d
 |.non,_=>by rw[B4]
 |.bl _,_=>by rw[B4]
 |.int _,_=>by rw[B4]
 |.str _,_=>by rw[B4]
 |.tup ds,h=>by rw[Bj] at h;rw[B4,Ji h];rfl
 |.lst _,h=>by simp[Bj] at h
 |.kl _,h=>by simp[Bj] at h
 |.ref _,h=>by simp[Bj] at h
theorem Ji:∀ {ds:List D},Av ds=true->Dg m ds=some ds
 |[],_=>by rw[Dg]
 |d::ds,h=>by
  rw[Av,Aq1] at h
  rw[Dg,Ld h.1,Ji h.2];rfl
end
mutual
theorem J2:∀ {d:D},Bj d=true->By d=true
 |.non,_=>by simp[By]
 |.bl _,_=>by simp[By]
 |.int _,_=>by simp[By]
 |.str _,_=>by simp[By]
 |.tup ds,h=>by rw[Bj] at h;rw[By];exact Bi h
 |.lst _,h=>by simp[Bj] at h
 |.kl _,h=>by simp[Bj] at h
 |.ref _,h=>by simp[Bj] at h
theorem Bi:∀ {ds:List D},Av ds=true->A7 ds=true
 |[],_=>by rw[A7]
 |d::ds,h=>by
  rw[Av,Aq1] at h
  rw[A7,J2 h.1,Bi h.2];rfl
end
theorem Jg {d:D} (h:Bj d=true):Ci m d=some d:=by
 have h2:=J2 h
 cases d<;>first|(simp[Bj] at h;done)|(unfold Ci;simp only;rw[Aqx h2])
theorem Aaw {d:D} (h:Bj d=true):W (B4 m d) Q=Q d:=by rw[Ld h,Ac]
theorem Ls {d:D} (h:Bj d=true):W (Ci m d) Q=Q d:=by rw[Jg h,Ac]
theorem Du:Bj .non=true:=by simp[Bj]
theorem A6:Bj (.int b)=true:=by simp[Bj]
theorem Bh:Bj (.str b)=true:=by simp[Bj]
theorem A3:Bj (.tup ds)=Av ds:=by rw[Bj]
theorem A9:Av []=true:=by rw[Av]
theorem Am {d:D}:Av (d::ds)=(Bj d&&Av ds):=by rw[Av]
theorem Df:∀ {ds:List D},Av ds=true ↔ ∀ d∈ds,Bj d=true
 |[]=>by simp[Av]
 |d::ds=>by rw[Av,Aq1,Df];simp
theorem Bx:Av (ds++es)=(Av ds&&Av es):=by
 rw[Asf,Aq1,Df,Df,Df]
 constructor
 ·exact fun h=>⟨fun d hd=>h d (Aq8 _ hd),fun d hd=>h d (Aq5 _ hd)⟩
 ·rintro ⟨h1,h2⟩ d hd
  rcases List.mem_append.mp hd with hd|hd
  ·exact h1 d hd
  ·exact h2 d hd
theorem Ab {α:Type}{f:α->D}{xs:List α} (h:∀ x,Bj (f x)=true):Av (xs.map f)=true:=by
 rw[Df];intro d hd;obtain⟨x,_,rfl⟩:=List.mem_map.mp hd;exact h x
theorem Em:deq (.tup []) (.tup [])=true:=by simp[deq,pyD,Iz,PyData.eqv,PyData.eqvAll]
theorem Ck:deq (.tup (x::xs)) (.tup (y::ys))=(deq x y&&deq (.tup xs) (.tup ys)):=by
 simp[deq,pyD,Iz,PyData.eqv,PyData.eqvAll]
theorem Ajf:deq (.tup []) (.tup (x::xs))=false:=by simp[deq,pyD,Iz,PyData.eqv,PyData.eqvAll]
theorem Adg:deq (.tup (x::xs)) (.tup [])=false:=by simp[deq,pyD,Iz,PyData.eqv,PyData.eqvAll]
theorem Aa9:deq (.lst []) (.lst [])=true:=by simp[deq,pyD,Iz,PyData.eqv,PyData.eqvAll]
theorem Xj:deq (.lst (x::xs)) (.lst (y::ys))=(deq x y&&deq (.lst xs) (.lst ys)):=by
 simp[deq,pyD,Iz,PyData.eqv,PyData.eqvAll]
theorem Afj:deq (.lst []) (.lst (x::xs))=false:=by simp[deq,pyD,Iz,PyData.eqv,PyData.eqvAll]
theorem Afi:deq (.lst (x::xs)) (.lst [])=false:=by simp[deq,pyD,Iz,PyData.eqv,PyData.eqvAll]
theorem Aje {t:Str}:deq (.int i) (.str t)=false:=by simp[deq,pyD,PyData.eqv]
theorem Ajg {t:Str}:deq (.str t) (.int i)=false:=by simp[deq,pyD,PyData.eqv]
theorem L6 [DecidableEq α] (h:∀ x y,deq (f x) (f y)=decide (x=y)):∀ xs ys:List α,deq (.tup (xs.map f)) (.tup (ys.map f))=decide (xs=ys)
 |[],[]=>by simp[Em]
 |[],y::ys=>by simp[Ajf]
 |x::xs,[]=>by simp[Adg]
 |x::xs,y::ys=>by
  rw[Aqs,Aqs,Ck,h,L6 h xs ys]
  by_cases e1:x=y<;>by_cases e2:xs=ys<;>simp[e1,e2]
theorem R6 [DecidableEq α] (h:∀ x y,deq (f x) (f y)=decide (x=y)):∀ xs ys:List α,deq (.lst (xs.map f)) (.lst (ys.map f))=decide (xs=ys)
 |[],[]=>by simp[Aa9]
 |[],y::ys=>by simp[Afj]
 |x::xs,[]=>by simp[Afi]
 |x::xs,y::ys=>by
  rw[Aqs,Aqs,Xj,h,R6 h xs ys]
  by_cases e1:x=y<;>by_cases e2:xs=ys<;>simp[e1,e2]
theorem Cr:dep (.tup ds)=E2 ds+1:=by rw[dep]
theorem Cd {n:Nat}:∀ {ds:List D},(∀ d∈ds,dep d<=n)->E2 ds<=n
 |[],_=>by rw[E2];exact Arl _
 |d::ds,h=>by
  rw[E2]
  have h1:=h d (Aqy ..)
  have h2:=Cd (n:=n) (ds:=ds) fun e he=>h e (Aqr _ he)
  lia
noncomputable def X9 {α:Type} (I:List α->A2->MH->Prop) (xs:List α) (Q:Out->Prop):Out->Prop
 |.nx e m=>I xs e m
 |.ct e m=>I xs e m
 |.bk e m=>Q (.nx e m)
 |.rt d m=>Q (.rt d m)
theorem Hk:X9 I xs Q (.nx e m)=I xs e m:=rfl
theorem Hj:X9 I xs Q (.ct e m)=I xs e m:=rfl
theorem Hi:X9 I xs Q (.bk e m)=Q (.nx e m):=rfl
theorem Hl {d:D}:X9 I xs Q (.rt d m)=Q (.rt d m):=rfl
theorem De {α:Type}{h:α->D}{chk:MH->Prop}{g:FG}{b:FS}{Q:Out->Prop} (I:List α->A2->MH->Prop) (hs:∀ x xs e m,I (x::xs) e m->chk m/\W (g (h x) e) fun e1=>W (b e1 m) (X9 I xs Q)) (he:∀ e m,I [] e m->chk m/\Q (.nx e m)) :
  ∀ {xs:List α}{e:A2}{m:MH},I xs e m->W (Jj chk g b (xs.map h) e m) Q
 |[],e,m,hi=>by
  rw[Ar9,Aab];exact he e m hi
 |x::xs,e,m,hi=>by
  rw[Aqs,V0]
  obtain⟨h1,h2⟩:=hs x xs e m hi
  refine⟨h1,h2.imp fun e1 h3=>h3.imp fun o ho=>?_⟩
  cases o with
  |nx e m=>exact De I hs he ho
  |ct e m=>exact De I hs he ho
  |bk e m=>exact ho
  |rt d m=>exact ho
noncomputable def U6 (I:Nat->A2->MH->Prop) (k:Nat) (Q:Out->Prop):Out->Prop
 |.nx e m=>I k e m
 |.ct e m=>I k e m
 |.bk e m=>Q (.nx e m)
 |.rt d m=>Q (.rt d m)
theorem Hg:U6 I k Q (.nx e m)=I k e m:=rfl
theorem Hf:U6 I k Q (.ct e m)=I k e m:=rfl
theorem He:U6 I k Q (.bk e m)=Q (.nx e m):=rfl
theorem Hh {d:D}:U6 I k Q (.rt d m)=Q (.rt d m):=rfl
theorem Aiy (I:Nat->A2->MH->Prop) (hs:∀ (k:Nat) e m,k < n->I k e m->chk m/\W (g (h k) e) fun e1=>W (b e1 m) (U6 I (k+1) Q)) (he:∀ e m,I n e m->chk m/\Q (.nx e m)) (h0:I 0 e m):W (Jj chk g b ((List.range n).map h) e m) Q:=by
 refine De (h:=h) (fun xs e m=>∃ k,k<=n/\xs=(List.range n).drop k/\I k e m) ?_ ?_ ⟨0,Arl _,rfl,h0⟩
 ·rintro x xs e m ⟨k,hk,hx,hi⟩
  have hk2:k < n:=by
   rcases Nat.lt_or_ge k n with h|h
   ·exact h
   ·rw[List.drop_eq_nil_of_le (by simpa using h)] at hx;cases hx
  rw[Asn (by simpa using hk2),List.getElem_range] at hx
  obtain⟨e1,e2⟩:=List.cons.inj hx
  rw[e1,e2]
  obtain⟨h1,h2⟩:=hs k e m hk2 hi
  refine⟨h1,h2.imp fun e1 h3=>h3.imp fun o ho=>?_⟩
  cases o with
  |nx e m=>exact⟨k+1,hk2,rfl,ho⟩
  |ct e m=>exact⟨k+1,hk2,rfl,ho⟩
  |bk e m=>exact ho
  |rt d m=>exact ho
 ·rintro e m ⟨k,hk,hx,hi⟩
  have:k=n:=by
   have:=Asc List.length hx
   simp at this;lia
  subst this
  exact he e m hi
theorem Hy {lo:Int}{n:Nat}{chk:MH->Prop}{g:FG}{b:FS}{Q:Out->Prop}{e:A2}{m:MH} (I:Nat->A2->MH->Prop) (hs:∀ (k:Nat) e m,k < n->I k e m->chk m/\W (g (.int (lo+k)) e) fun e1=>W (b e1 m) (U6 I (k+1) Q)) (he:∀ e m,I n e m->chk m/\Q (.nx e m)) (h0:I 0 e m):W (Jj chk g b (D1 lo n) e m) Q:=Aiy I hs he h0
theorem Mu:D1 0 3=[.int 0,.int 1,.int 2]:=rfl
theorem Lh {l:List α}:W (atI (x::l) 0) Q=Q x:=by
 rw[show atI (x::l) 0=some x by unfold atI ixN;rw[Aqx (by decide),Aqx (by simp<;>lia)];rfl,Ac]
theorem M6 {l:List α}:W (atI (x::y::l) 1) Q=Q y:=by
 rw[show atI (x::y::l) 1=some y by unfold atI ixN;rw[Aqx (by decide),Aqx (by simp<;>lia)];rfl,Ac]
theorem Ul {l:List α}:W (atI (x::y::z::l) 2) Q=Q z:=by
 rw[show atI (x::y::z::l) 2=some z by unfold atI ixN;rw[Aqx (by decide),Aqx (by simp<;>lia)];rfl,Ac]
theorem Vx {l:List α}:W (atI (x::y::z::w::l) 3) Q=Q w:=by
 rw[show atI (x::y::z::w::l) 3=some w by unfold atI ixN;rw[Aqx (by decide),Aqx (by simp<;>lia)];rfl,Ac]
theorem Dh {α β:Type}{f:α->β}{xs:List α}{k:Nat} (h:k < xs.length) {Q:β->Prop}:W (atI (xs.map f) (k:Int)) Q=Q (f xs[k]):=by
 rw[show atI (xs.map f) (k:Int)=some (f xs[k]) by unfold atI ixN;rw[Aqx (by lia),Aqx (by simp;lia)];simp[h],Ac]
theorem Ani {n d:Nat}:HT.sIx n d none=d:=rfl
theorem Anc:Ef [x,y,z,w] none (some 3)=[x,y,z]:=rfl
inductive Mark where
 |n (i:Int)
 |s (t:Str)
 deriving DecidableEq
structure Mk where
 a:Int
 b:Int
 c:Int
 ms:List Mark
 deriving DecidableEq
noncomputable def Mark.d:Mark->D
 |.n i=>.int i
 |.s t=>.str t
def Mk.d (x:Mk):D:=.tup [.int x.a,.int x.b,.int x.c,.tup (x.ms.map Mark.d)]
noncomputable def Mark.lt:Mark->Mark->Bool
 |.n i,.n j=>decide (i < j)
 |.n _,.s _=>true
 |.s _,.n _=>false
 |.s t,.s u=>decide (t.cps.toList < u.cps.toList)
def mlt:List Mark->List Mark->Bool
 |[],[]=>false
 |[],_::_=>true
 |_::_,[]=>false
 |x::xs,y::ys=>if x=y then mlt xs ys else x.lt y
def Mk.older (x y:Mk):Bool :=
 if x.a≠y.a then decide (x.a < y.a) else if x.b≠y.b then decide (x.b < y.b) else if x.c≠y.c then decide (x.c < y.c) else
 if x.ms=[]\/y.ms=[] then decide (x.ms≠[]/\y.ms=[]) else mlt x.ms y.ms
theorem Mark.deq (x y:Mark):deq x.d y.d=decide (x=y):=by
 cases x<;>cases y<;>simp[Mark.d,Bu,Cs,Aje,Ajg]
theorem Mk.deq (x y:Mk):L2.ML.deq x.d y.d=decide (x=y):=by
 unfold Mk.d
 rw[Ck,Ck,Ck,Ck,Em,Bu,Bu,Bu,L6 Mark.deq]
 obtain⟨a,b,c,ms⟩:=x
 obtain⟨a',b',c',ms'⟩:=y
 by_cases h1:a=a'<;>by_cases h2:b=b'<;>by_cases h3:c=c'<;>by_cases h4:ms=ms'<;>simp[h1,h2,h3,h4]
theorem Mark.pure (x:Mark):Bj x.d=true:=by cases x<;>simp[Mark.d,Bj]
theorem Mk.pure (x:Mk):Bj x.d=true:=by
 unfold Mk.d
 rw[A3,Am,Am,Am,Am,A6,A6,A6,A3,Ab Mark.pure,A9];rfl
theorem Mark.dep (x:Mark):dep x.d=0:=by cases x<;>simp[Mark.d,Bt,Cz]
theorem Mk.dep (x:Mk):L2.ML.dep x.d<=2:=by
 unfold Mk.d
 rw[Cr]
 have h:E2 (x.ms.map Mark.d)<=0:=Cd fun d hd=>by
  obtain⟨m,_,rfl⟩:=List.mem_map.mp hd
  rw[Mark.dep];exact Aqo _
 have:E2 [D.int x.a,D.int x.b,D.int x.c,D.tup (x.ms.map Mark.d)]<=1:=Cd fun d hd=>by
  simp only[Ark,Aq7,or_false] at hd
  rcases hd with rfl|rfl|rfl|rfl
  ·rw[Bt];lia
  ·rw[Bt];lia
  ·rw[Bt];lia
  ·rw[Cr];lia
 lia
theorem Di (xs:List Mark):Av (xs.map Mark.d)=true:=Ab Mark.pure
theorem Ew (l:List Mark):(L2.ML.dep (.tup (l.map Mark.d))<=60)=True:=by
 have h:E2 (l.map Mark.d)<=0:=Cd fun d hd=>by
  obtain⟨m,_,rfl⟩:=List.mem_map.mp hd
  rw[Mark.dep];exact Aqo _
 rw[Cr];simp;lia
theorem Tg (x:Mk):(L2.ML.dep x.d<=60)=True:=by have:=Mk.dep x;simp;lia
theorem L7 (l:List Mark):L2.ML.deq (.tup (l.map Mark.d)) (.tup [])=decide (l=[]):=by cases l<;>simp[Em,Adg]
theorem Th {x:Mk}{m:MH}{Q:D->Prop}:W (oIx x.d (.int 0) m) Q=Q (.int x.a):=by unfold Mk.d;rw[Ee,Lh]
theorem Ti {x:Mk}{m:MH}{Q:D->Prop}:W (oIx x.d (.int 1) m) Q=Q (.int x.b):=by unfold Mk.d;rw[Ee,M6]
theorem Tj {x:Mk}{m:MH}{Q:D->Prop}:W (oIx x.d (.int 2) m) Q=Q (.int x.c):=by unfold Mk.d;rw[Ee,Ul]
theorem Tn {x:Mk}{m:MH}{Q:D->Prop}:W (oIx x.d (.int 3) m) Q=Q (.tup (x.ms.map Mark.d)):=by unfold Mk.d;rw[Ee,Vx]
noncomputable def Mark.rk:Mark->D
 |.n i=>.tup [.int 0,.int i,.str (Str.ofString "")]
 |.s t=>.tup [.int 1,.int 0,.str t]
def Mk.rk (x:Mk):D:=.tup [.int x.a,.int x.b,.int x.c,.int (if x.ms=[] then 1 else 0),.tup (x.ms.map Mark.rk)]
theorem Mark.rk_deq (x y:Mark):L2.ML.deq x.rk y.rk=decide (x=y):=by
 cases x<;>cases y<;>simp[Mark.rk,Ck,Em,Bu,Cs,As3]
theorem Iq:ltD (.int i) (.int j)=some (decide (i < j)):=by rw[ltD]
theorem Mg:ltD (.tup xs) (.tup ys)=Gq xs ys:=by rw[ltD]
theorem Mark.rk_lt (x y:Mark) (h:x≠y):ltD x.rk y.rk=some (x.lt y):=by
 cases x with
 |n i=>cases y with
  |n j =>
   have hij:i≠j:=fun e=>h (by rw[e])
   simp[Mark.rk,Mark.lt,ltD,Gq,Bu,hij]
  |s t=>simp[Mark.rk,Mark.lt,ltD,Gq,Bu]
 |s t=>cases y with
  |n j=>simp[Mark.rk,Mark.lt,ltD,Gq,Bu]
  |s u =>
   have hij:t≠u:=fun e=>h (by rw[e])
   simp[Mark.rk,Mark.lt,ltD,Gq,Bu,Cs,hij]
theorem Aee:∀ xs ys:List Mark,Gq (xs.map Mark.rk) (ys.map Mark.rk)=some (mlt xs ys)
 |[],[]=>by simp[Gq,mlt]
 |[],y::ys=>by simp[Gq,mlt]
 |x::xs,[]=>by simp[Gq,mlt]
 |x::xs,y::ys=>by
  rw[Aqs,Aqs,Gq,Mark.rk_deq,mlt]
  by_cases e:x=y
  ·rw[Aqx (by simpa using e),Aqx e];exact Aee xs ys
  ·rw[Aq0 (by simpa using e),Aq0 e];exact Mark.rk_lt x y e
theorem Mi:∀ xs:List Mark,mlt xs xs=false
 |[]=>rfl
 |x::xs=>by rw[mlt,Aqx rfl];exact Mi xs
theorem Mk.rk_lt (x y:Mk):ltD x.rk y.rk=some (x.older y):=by
 obtain⟨a,b,c,ms⟩:=x
 obtain⟨a',b',c',ms'⟩:=y
 unfold Mk.rk Mk.older
 simp only
 rw[Mg,Gq,Bu]
 by_cases h1:a=a'
 ·subst h1
  rw[Aqx (by simp),Gq,Bu,Aq0 (show ¬ (a≠a) by simp)]
  by_cases h2:b=b'
  ·subst h2
   rw[Aqx (by simp),Gq,Bu,Aq0 (show ¬ (b≠b) by simp)]
   by_cases h3:c=c'
   ·subst h3
    rw[Aqx (by simp),Gq,Bu,Aq0 (show ¬ (c≠c) by simp)]
    by_cases h4:ms=[]
    ·subst h4
     by_cases h5:ms'=[]
     ·subst h5
      simp[Gq,Em]
     ·simp[h5,Iq]
    ·by_cases h5:ms'=[]
     ·subst h5
      simp[h4,Iq]
     ·rw[Aq0 (show ¬ (ms=[]\/ms'=[]) by rw[not_or];exact⟨h4,h5⟩),Aqx (by simp[h4,h5]),Gq,L6 Mark.rk_deq]
      by_cases h6:ms=ms'
      ·subst h6;rw[Aqx (by simp),Gq,Mi]
      ·rw[Aq0 (by simpa using h6),Mg];exact Aee _ _
   ·rw[Aq0 (by simpa using h3),Aqx (show c≠c' from h3),Iq]
  ·rw[Aq0 (by simpa using h2),Aqx (show b≠b' from h2),Iq]
 ·rw[Aq0 (by simpa using h1),Aqx (show a≠a' from h1),Iq]
theorem Mark.rk_pure (x:Mark):Bj x.rk=true:=by cases x<;>simp[Mark.rk,Bj,Av]
theorem Mk.rk_pure (x:Mk):Bj x.rk=true:=by
 unfold Mk.rk
 rw[A3,Am,Am,Am,Am,Am,A6,A6,A6,A6,A3,Ab Mark.rk_pure,A9];rfl
theorem Mark.rk_dep (x:Mark):L2.ML.dep x.rk<=1:=by
 cases x<;>(unfold Mark.rk;rw[Cr];simp[E2,Bt,Cz])
theorem Mk.rk_dep (x:Mk):L2.ML.dep x.rk<=3:=by
 unfold Mk.rk
 rw[Cr]
 have h:E2 (x.ms.map Mark.rk)<=1:=Cd fun d hd=>by
  obtain⟨m,_,rfl⟩:=List.mem_map.mp hd
  exact Mark.rk_dep m
 have:E2 [D.int x.a,D.int x.b,D.int x.c,D.int (if x.ms=[] then 1 else 0),D.tup (x.ms.map Mark.rk)]<=2:=Cd fun d hd=>by
  simp only[Ark,Aq7,or_false] at hd
  rcases hd with rfl|rfl|rfl|rfl|rfl
  ·rw[Bt];lia
  ·rw[Bt];lia
  ·rw[Bt];lia
  ·rw[Bt];lia
  ·rw[Cr];lia
 lia
theorem U5 (l r:List Nat) (h:l≠r):decide (l < r)=!decide (r < l):=by
 by_cases h1:l < r
 ·have h2:¬ r < l:=List.lt_asymm h1
  simp[h1,h2]
 ·have h2:r < l:=by
   rcases Classical.em (r < l) with h3|h3
   ·exact h3
   ·exact absurd (List.le_antisymm (List.not_lt.mp h3) (List.not_lt.mp h1)) h
  simp[h1,h2]
theorem Pr {t u:Str} (h:t.cps.toList=u.cps.toList):t=u:=by
 obtain⟨⟨a⟩⟩:=t
 obtain⟨⟨b⟩⟩:=u
 simp at h
 rw[h]
theorem Mark.self (x:Mark):x.lt x=false:=by
 cases x with
 |n i=>simp[Mark.lt]
 |s t=>simp[Mark.lt,List.lt_irrefl]
theorem Mark.tri {x y:Mark} (h:x≠y):x.lt y=!y.lt x:=by
 cases x with
 |n i=>cases y with
  |n j =>
   have:i≠j:=fun e=>h (by rw[e])
   simp only[Mark.lt]
   by_cases h1:i < j
   ·simp[h1,show ¬ j < i by lia]
   ·simp[h1,show j < i by lia]
  |s t=>rfl
 |s t=>cases y with
  |n j=>rfl
  |s u=>exact U5 _ _ fun e=>h (by rw[Pr e])
theorem Mark.trans {x y z:Mark} (h1:x.lt y=true) (h2:y.lt z=true):x.lt z=true:=by
 cases x with
 |n i=>cases y with
  |n j=>cases z with
   |n k=>simp[Mark.lt] at *;lia
   |s t=>rfl
  |s t=>cases z with
   |n k=>exact C8 h2
   |s u=>rfl
 |s t=>cases y with
  |n j=>exact C8 h1
  |s u=>cases z with
   |n k=>exact C8 h2
   |s v=>simp[Mark.lt] at *;exact List.lt_trans h1 h2
theorem Yd:∀ {xs ys:List Mark},xs≠ys->mlt xs ys=!mlt ys xs
 |[],[],h=>absurd rfl h
 |[],_::_,_=>rfl
 |_::_,[],_=>rfl
 |x::xs,y::ys,h=>by
  rw[mlt,mlt]
  by_cases e:x=y
  ·subst e
   rw[Aqx rfl,Aqx rfl]
   exact Yd fun z=>h (by rw[z])
  ·rw[Aq0 e,Aq0 fun z=>e z.symm]
   exact Mark.tri e
theorem N7:∀ {xs ys zs:List Mark},mlt xs ys=true->mlt ys zs=true->mlt xs zs=true
 |[],[],_,h,_=>by exact C8 h
 |[],_::_,[],_,h=>by exact C8 h
 |[],_::_,_::_,_,_=>rfl
 |_::_,[],_,h,_=>by exact C8 h
 |_::_,_::_,[],_,h=>by exact C8 h
 |x::xs,y::ys,z::zs,h1,h2=>by
  rw[mlt] at h1 h2 ⊢
  by_cases e1:x=y
  ·subst e1
   rw[Aqx rfl] at h1
   by_cases e2:x=z
   ·rw[Aqx e2] at h2 ⊢
    exact N7 h1 h2
   ·rw[Aq0 e2] at h2 ⊢
    exact h2
  ·rw[Aq0 e1] at h1
   by_cases e2:y=z
   ·subst e2
    rw[Aq0 e1]
    exact h1
   ·rw[Aq0 e2] at h2
    have h3:=Mark.trans h1 h2
    by_cases e3:x=z
    ·subst e3
     rw[Mark.self] at h3
     exact C8 h3
    ·rw[Aq0 e3];exact h3
theorem Agi:mlt xs []=false:=by cases xs<;>rfl
theorem U7 (x:Mk):x.older x=false:=by
 unfold Mk.older
 rw[Aq0 (by simp),Aq0 (by simp),Aq0 (by simp)]
 split
 ·simp
 ·exact Mi _
theorem Ex {x y:Mk}:x.older y=true ↔ x.a < y.a\/x.a=y.a/\(x.b < y.b\/x.b=y.b/\(x.c < y.c\/x.c=y.c/\(x.ms≠[]/\(y.ms=[]\/mlt x.ms y.ms=true)))):=by
 obtain⟨a,b,c,ms⟩:=x
 obtain⟨a',b',c',ms'⟩:=y
 unfold Mk.older
 simp only
 by_cases h1:a=a'
 ·subst h1
  rw[Aq0 (by simp)]
  by_cases h2:b=b'
  ·subst h2
   rw[Aq0 (by simp)]
   by_cases h3:c=c'
   ·subst h3
    rw[Aq0 (by simp)]
    simp only[Int.lt_irrefl,false_or,true_and]
    by_cases h4:ms=[]\/ms'=[]
    ·rw[Aqx h4,Ash]
     constructor
     ·exact fun h=>⟨h.1,.inl h.2⟩
     ·rintro ⟨h5,h6⟩
      exact⟨h5,h4.resolve_left h5⟩
    ·rw[Aq0 h4]
     rw[not_or] at h4
     exact⟨fun h=>⟨h4.1,.inr h⟩,fun h=>h.2.resolve_left h4.2⟩
   ·rw[Aqx (by simpa using h3)]
    simp[h3]
  ·rw[Aqx (by simpa using h2)]
   simp[h2]
 ·rw[Aqx (by simpa using h1)]
  simp[h1]
theorem C0 {x y z:Mk} (h1:x.older y=true) (h2:y.older z=true):x.older z=true:=by
 rw[Ex] at *
 rcases h1 with h1|⟨ha,h1|⟨hb,h1|⟨hc,hm,h1⟩⟩⟩
 ·rcases h2 with h2|⟨ha',_⟩
  ·exact .inl (by lia)
  ·exact .inl (by lia)
 ·rcases h2 with h2|⟨ha',h2|⟨hb',_⟩⟩
  ·exact .inl (by lia)
  ·exact .inr ⟨by lia,.inl (by lia)⟩
  ·exact .inr ⟨by lia,.inl (by lia)⟩
 ·rcases h2 with h2|⟨ha',h2|⟨hb',h2|⟨hc',_⟩⟩⟩
  ·exact .inl (by lia)
  ·exact .inr ⟨by lia,.inl (by lia)⟩
  ·exact .inr ⟨by lia,.inr ⟨by lia,.inl (by lia)⟩⟩
  ·exact .inr ⟨by lia,.inr ⟨by lia,.inl (by lia)⟩⟩
 ·rcases h2 with h2|⟨ha',h2|⟨hb',h2|⟨hc',hm',h2⟩⟩⟩
  ·exact .inl (by lia)
  ·exact .inr ⟨by lia,.inl (by lia)⟩
  ·exact .inr ⟨by lia,.inr ⟨by lia,.inl (by lia)⟩⟩
  ·refine .inr ⟨by lia,.inr ⟨by lia,.inr ⟨by lia,hm,?_⟩⟩⟩
   rcases h1 with h1|h1
   ·exact absurd h1 hm'
   ·rcases h2 with h2|h2
    ·exact .inl h2
    ·exact .inr (N7 h1 h2)
theorem Pe {x y:Mk} (h:x.older y=true):y.older x=false:=by
 cases e:y.older x with
 |false=>rfl
 |true =>
  have h2:=C0 h e
  rw[U7] at h2
  exact C8 h2
theorem Yn {x y:Mk} (h:x≠y):x.older y=!y.older x:=by
 cases e:y.older x with
 |true=>exact Pe e
 |false =>
  show x.older y=true
  have e':¬ y.older x=true:=by rw[e];decide
  rw[Ex] at e' ⊢
  by_cases ha:x.a=y.a
  ·by_cases hb:x.b=y.b
   ·by_cases hc:x.c=y.c
    ·have hm:x.ms≠y.ms:=fun z=>h (by cases x;cases y;simp at *;exact⟨ha,hb,hc,z⟩)
     refine .inr ⟨ha,.inr ⟨hb,.inr ⟨hc,?_⟩⟩⟩
     have e2:¬ (y.ms≠[]/\(x.ms=[]\/mlt y.ms x.ms=true)):=fun z=>e' (.inr ⟨ha.symm,.inr ⟨hb.symm,.inr ⟨hc.symm,z⟩⟩⟩)
     by_cases h4:y.ms=[]
     ·exact⟨fun z=>hm (by rw[z,h4]),.inl h4⟩
     ·have e3:¬ (x.ms=[]\/mlt y.ms x.ms=true):=fun z=>e2 ⟨h4,z⟩
      rw[not_or] at e3
      refine⟨e3.1,.inr ?_⟩
      rw[Yd hm]
      cases q:mlt y.ms x.ms with
      |true=>exact absurd q e3.2
      |false=>rfl
    ·rcases Int.lt_or_gt_of_ne hc with h5|h5
     ·exact .inr ⟨ha,.inr ⟨hb,.inl h5⟩⟩
     ·exact absurd (.inr ⟨ha.symm,.inr ⟨hb.symm,.inl h5⟩⟩) e'
   ·rcases Int.lt_or_gt_of_ne hb with h5|h5
    ·exact .inr ⟨ha,.inl h5⟩
    ·exact absurd (.inr ⟨ha.symm,.inl h5⟩) e'
  ·rcases Int.lt_or_gt_of_ne ha with h5|h5
   ·exact .inl h5
   ·exact absurd (.inl h5) e'
noncomputable def Mk.next (x:Mk):Mk:=if x.ms=[] then ⟨x.a,x.b,x.c+1,[.n 0]⟩ else ⟨x.a,x.b,x.c,x.ms++[.n 0]⟩
noncomputable def Mark.pos:Mark->Prop
 |.n i=>0<=i
 |.s _=>True
theorem Age {m:Mark} (h:m.pos):m.lt (.n 0)=false:=by
 cases m with
 |n i=>simp only[Mark.pos] at h;simp[Mark.lt];exact h
 |s t=>rfl
theorem To:∀ xs:List Mark,mlt xs (xs++[.n 0])=true
 |[]=>rfl
 |x::xs=>by rw[Ar5,mlt,Aqx rfl];exact To xs
theorem Abv (hp:∀ m∈xs,m.pos) (h:mlt xs [.n 0]=true):xs=[]:=by
 cases xs with
 |nil=>rfl
 |cons x xs =>
  rw[mlt] at h
  by_cases e:x=.n 0
  ·rw[Aqx e,Agi] at h;exact C8 h
  ·rw[Aq0 e,Age (hp x (Aqy ..))] at h;exact C8 h
theorem J5 (x:Mk):x.older x.next=true:=by
 rw[Ex]
 unfold Mk.next
 by_cases h:x.ms=[]
 ·rw[Aqx h];exact .inr ⟨rfl,.inr ⟨rfl,.inl (by show x.c < x.c+1;lia)⟩⟩
 ·rw[Aq0 h];exact .inr ⟨rfl,.inr ⟨rfl,.inr ⟨rfl,h,.inr (To _)⟩⟩⟩
def Aog (Q:List D->Prop) (d:D):Prop:=∃ es,d=.lst es/\Av es=true/\Q es
theorem Tf (h:Av es=true):Aog Q (.lst es)=Q es:=by
 apply propext
 constructor
 ·rintro ⟨fs,e,_,q⟩;cases e;exact q
 ·exact fun q=>⟨es,rfl,h,q⟩
theorem Hx:W (Jm n fn ds m) Q=W (Da m ds) fun ds'=>ds'.length=n/\W (fn ds') (Aog Q):=by
 unfold Jm
 rw[W_bind,Dq]
 congr 1;funext ds'
 apply propext
 refine⟨fun⟨h1,h2⟩=>⟨h1,h2.imp fun d h=>?_⟩,fun⟨h1,h2⟩=>⟨h1,h2.imp fun d h=>?_⟩⟩
 ·cases d with
  |lst es =>
   simp only at h
   rw[G8] at h
   exact⟨es,rfl,h.1,h.2⟩
  |_=>rw[Bs] at h;exact h.elim
 ·obtain⟨es,rfl,h1,h2⟩:=h
  simp only
  rw[G8]
  exact⟨h1,h2⟩
def Ya (I:Nat->A2->MH->Prop) (k:Nat) (Q:Out->Prop):Out->Prop
 |.nx e m=>∃ j,j < k/\I j e m
 |.ct e m=>∃ j,j < k/\I j e m
 |.bk e m=>Q (.nx e m)
 |.rt d m=>Q (.rt d m)
theorem Ho:Ya I k Q (.nx e m)=∃ j,j < k/\I j e m:=rfl
theorem Hn:Ya I k Q (.ct e m)=∃ j,j < k/\I j e m:=rfl
theorem Hm:Ya I k Q (.bk e m)=Q (.nx e m):=rfl
theorem Hq {d:D}:Ya I k Q (.rt d m)=Q (.rt d m):=rfl
theorem Lz (I:Nat->A2->MH->Prop) (hs:∀ k e m,I k e m->W (c e m) (cK (W (b e m) (Ya I k Q)) (Q (.nx e m)))):∀ {n k:Nat}{e:A2}{m:MH},k < n->I k e m->W (D2 c b n e m) Q
 |0,_,_,_,h,_=>absurd h (Nat.not_lt_zero _)
 |n+1,k,e,m,h,hi=>by
  rw[D2,W_bind]
  refine (hs k e m hi).imp fun t ht=>?_
  cases t with
  |false=>rw[Xc] at ht;rw[Aq0 (by decide),Ac];exact ht
  |true =>
   rw[Vq] at ht
   rw[Aqx rfl,W_bind]
   refine ht.imp fun o ho=>?_
   cases o with
   |nx e m=>obtain⟨j,hj,hi⟩:=ho;exact Lz I hs (by lia) hi
   |ct e m=>obtain⟨j,hj,hi⟩:=ho;exact Lz I hs (by lia) hi
   |bk e m=>simp only;rw[Ac];exact ho
   |rt d m=>simp only;rw[Ac];exact ho
theorem Ib {α β:Type}{f:α->β}{xs:List α}{lo hi:Option Int}:Ef (xs.map f) lo hi=(Ef xs lo hi).map f:=by
 unfold Ef;rw[Aqw,List.map_take,List.map_drop]
theorem Afg {α:Type}{xs:List α}{lo hi:Option Int}{x:α} (h:x∈Ef xs lo hi):x∈xs:=by
 unfold Ef at h;exact List.mem_of_mem_drop (List.mem_of_mem_take h)
theorem Xi {α:Type}{xs:List α}{lo hi:Option Int}:(Ef xs lo hi).length<=xs.length:=by
 unfold Ef;rw[Asb,As5];lia
theorem N9 {z:Mk} (ha:0<=z.a) (hb:0<=z.b) (hc:0<=z.c) (hm:∀ m∈z.ms,m.pos):z.older ⟨0,0,0,[.n 0]⟩=false:=by
 cases h:z.older ⟨0,0,0,[.n 0]⟩ with
 |false=>rfl
 |true =>
  rw[Ex] at h
  simp only at h
  rcases h with h|⟨_,h|⟨_,h|⟨_,h,h2|h2⟩⟩⟩
  ·lia
  ·lia
  ·lia
  ·cases h2
  ·exact absurd (Abv hm h2) h
def oD:Option Mk->D
 |none=>.non
 |some h=>h.d
abbrev Pc:=Mk×Option Mk
def pD (p:Pc):D:=.tup [p.1.d,oD p.2]
theorem Iu (o:Option Mk):Bj (oD o)=true:=by
 cases o with
 |none=>exact Du
 |some x=>exact x.pure
theorem Gf (p:Pc):Bj (pD p)=true:=by unfold pD;rw[A3,Am,Am,A9,p.1.pure,Iu];rfl
theorem D9 (ps:List Pc):Av (ps.map pD)=true:=Ab Gf
theorem Ajw (o:Option Mk):dep (oD o)<=2:=by
 cases o with
 |none=>show dep .non<=2;rw[Ic];lia
 |some x=>exact x.dep
theorem Akj (p:Pc):dep (pD p)<=3:=by
 unfold pD
 rw[Cr]
 have:E2 [p.1.d,oD p.2]<=2:=Cd fun d hd=>by
  simp only[Ark,Aq7,or_false] at hd
  rcases hd with rfl|rfl
  ·exact p.1.dep
  ·exact Ajw p.2
 lia
theorem Agu (ps:List Pc):dep (.tup (ps.map pD))<=4:=by
 rw[Cr]
 have:E2 (ps.map pD)<=3:=Cd fun d hd=>by
  obtain⟨p,_,rfl⟩:=List.mem_map.mp hd
  exact Akj p
 lia
theorem Tx:W (oIx (pD p) (.int 0) m) Q=Q p.1.d:=by unfold pD;rw[Ee,Lh]
theorem Tz:W (oIx (pD p) (.int 1) m) Q=Q (oD p.2):=by unfold pD;rw[Ee,M6]
theorem T1:W (G5 2 g (pD p) env) Q=W (g [p.1.d,oD p.2] env) Q:=by
 unfold pD;rw[M8];simp
theorem Ts:W (Adx (oD o) m) Q=Q (.bl o.isNone):=by cases o<;>exact Ac
def inP (m:Mk) (p:Pc):Bool:=!m.older p.1&&match p.2 with|none=>true|some h=>m.older h
open Classical
noncomputable section
theorem P6:W (Agl [.bl b] m) Q=Q (.int (if b then 1 else 0)):=Ac
end
end ML
end L2
end S_ML36
section S_MM7
namespace L2
namespace ML
open PySem
theorem mp1 {a:D}{l:A2}:List.map some [a]++l=some a::l:=rfl
theorem mp2 {a b:D}{l:A2}:List.map some [a,b]++l=some a::some b::l:=rfl
theorem mp3 {a b c:D}{l:A2}:List.map some [a,b,c]++l=some a::some b::some c::l:=rfl
theorem ln1 {a:D}:[a].length=1:=rfl
theorem ln2 {a b:D}:[a,b].length=2:=rfl
theorem ln3 {a b c:D}:[a,b,c].length=3:=rfl
theorem Aa2 {p q:Prop}{b:Bool} (h:b=true):cK p q b=p:=by rw[h,Vq]
theorem Aa1 {p q:Prop}{b:Bool} (h:b=false):cK p q b=q:=by rw[h,Xc]
theorem Aaa:W (fVI i k env m) Q=W (Ai i env m) fun d=>W (oIx d (.int k) m) Q:=by unfold fVI;simp only[Aiw,Aix]
theorem Aar {d:D}:W (fVI 0 k (some d::e) m) Q=W (oIx d (.int k) m) Q:=by rw[Aaa,Ai2]
theorem Aas {d:D}:W (fVI 1 k (x::some d::e) m) Q=W (oIx d (.int k) m) Q:=by rw[Aaa,Ai3]
theorem Aat {d:D}:W (fVI 2 k (x::y::some d::e) m) Q=W (oIx d (.int k) m) Q:=by rw[Aaa,Ai4]
theorem Aau {d:D}:W (fVI 3 k (x::y::z::some d::e) m) Q=W (oIx d (.int k) m) Q:=by rw[Aaa,Ai5]
theorem Z2:W (fC1 fn a env m) Q=W (a env m) fun x=>W (Ci m x) fun x'=>W (fn [x']) Q:=by unfold fC1;simp only[Ek,Dr,Gm,Dq,B8,B9,Ara,Arz,Nat.reduceAdd,true_and]
theorem Z3:W (fC2 fn a b env m) Q=W (a env m) fun x=>W (b env m) fun y=>W (Ci m x) fun x'=>W (Ci m y) fun y'=>W (fn [x',y']) Q:=by unfold fC2;simp only[Ek,Dr,Gm,Dq,B8,B9,Ara,Arz,Nat.reduceAdd,true_and]
theorem Z4:W (fC3 fn a b c env m) Q=W (a env m) fun x=>W (b env m) fun y=>W (c env m) fun z=>W (Ci m x) fun x'=>W (Ci m y) fun y'=>W (Ci m z) fun z'=>W (fn [x',y',z']) Q:=by unfold fC3;simp only[Ek,Dr,Gm,Dq,B8,B9,Ara,Arz,Nat.reduceAdd,true_and]
theorem Z5:W (fF3 fn a b c env m) Q=W (a env m) fun x=>W (b env m) fun y=>W (c env m) fun z=>W (Ci m x) fun x'=>W (Ci m y) fun y'=>W (Ci m z) fun z'=>W (fn [x',y',z']) (Aog Q):=by unfold fF3;simp only[Et,Dr,Gm,Hx,B8,B9,Ara,Arz,Nat.reduceAdd,true_and]
end ML
end L2
end S_MM7
section S_MM8
namespace L2
namespace ML
open PySem
variable {m:MH}
theorem Ae4 {n:Nat}{fn:List D->Option D}{ds:List D}{Q:D->Prop}:W (Jr n fn ds m) Q=W (Cw m ds) fun ds'=>ds'.length=n/\W (fn ds') Q:=by
 unfold Jr
 rw[W_bind];congr 1;funext z
 by_cases h:z.length=n
 ·rw[Aqx h];simp[h]
 ·rw[Aq0 h,Bs];simp[h]
theorem V7 {Q:List D->Prop}:W (Cw m []) Q=Q []:=Ac
theorem V6 {d:D}{ds:List D}{Q:List D->Prop}:W (Cw m (d::ds)) Q=W (M3 m d) fun d'=>W (Cw m ds) fun ds'=>Q (d'::ds'):=by
 rw[Cw,W_bind];congr 1;funext x;rw[W_bind];congr 1;funext y;exact Ac
theorem Afa {ds:List D}{Q:D->Prop}:W (M3 m (.tup ds)) Q=W (Ci m (.tup ds)) Q:=rfl
theorem Ae9 {ks:List Str}{vs:List D}{Q:D->Prop}:W (M3 m (.dks ks vs)) Q=(A7 vs=true/\Q (.dks ks vs)):=G8
theorem Ap0 {n:Nat}{Q:D->Prop}:W (M3 m (.ref n)) Q=W (Ci m (.ref n)) Q:=rfl
theorem Ae6 {x:Str}{ks:List Str}{vs:List D}{Q:D->Prop}:W (Ang (.str x) (.dks ks vs) m) Q=Q (.bl (decide (x∈ks))):=Ac
theorem V2 {x:Str}{ks:List Str}{vs:List D}{Q:D->Prop}:W (Pb (.dks ks vs) (.str x) m) Q=W (Vt ks vs x) Q:=rfl
theorem Ae5 {ds:List D}{Q:D->Prop}:W (J3 [.tup ds] m) Q=W (Gw ds) fun ps=>Q (.dks (Np ps).1 (Np ps).2):=by
 show W ((Gw ds).bind _) Q=_
 rw[W_bind];congr 1;funext ps;exact Ac
theorem V3 {i j:Int}{Q:D->Prop}:W (Abz [.int i,.int j] m) Q=Q (.int (if j > i then j else i)):=Ac
theorem Ae8 {α:Type} (f:α->Str) {xs:List α}{Q:List D->Prop} (hl:xs.length < 64) (q:Q ((TX.sortT (xs.map f)).map .str)):W (J4 [.lst (xs.map fun x=>.str (f x))] m) Q:=by
 have e:Lc (xs.map fun x=>D.str (f x))=some (xs.map f):=by
  clear hl q
  induction xs with
  |nil=>rfl
  |cons x xs ih=>rw[Aqs,Lc,ih];rfl
 have e2:J4 [.lst (xs.map fun x=>D.str (f x))] m=some ((TX.sortT (xs.map f)).map .str):=by
  unfold J4
  simp only
  rw[show sqL m (D.lst (xs.map fun x=>D.str (f x)))=some (xs.map fun x=>D.str (f x)) from rfl,Ar2,e,Ar2,Aqx (by simpa using hl)]
 rw[e2,Ac]
 exact q
theorem Abb {α:Type} (k:α->Str) (v:α->D) {xs:List α} (h:(xs.map k).Nodup):Np (xs.map fun x=>(k x,v x))=(xs.map k,xs.map v):=by
 have go:∀ (ys xs:List α),((xs++ys).map k).Nodup->(ys.map fun x=>(k x,v x)).foldl (fun a p=>Iy a.1 a.2 p.1 p.2) (xs.map k,xs.map v)=((xs++ys).map k,(xs++ys).map v):=by
  intro ys
  induction ys with
  |nil=>intro xs _;simp
  |cons y ys ih =>
   intro xs h
   have hy:k y∉xs.map k:=fun hm=>by
    rw[Ary,List.nodup_append] at h
    exact h.2.2 _ hm _ (by simp) rfl
   have e:Iy (xs.map k) (xs.map v) (k y) (v y)=((xs++[y]).map k,(xs++[y]).map v):=by
    unfold Iy;rw[Aq0 hy];simp
   rw[Aqs,List.foldl_cons]
   show (ys.map fun x=>(k x,v x)).foldl _ (Iy (xs.map k) (xs.map v) (k y) (v y))=_
   rw[e,ih (xs++[y]) (by simpa using h)]
   simp
 have:=go xs [] (by simpa using h)
 simpa [Np] using this
theorem Vb {α:Type} (k:α->Str) (v:α->D) (xs:List α):Gw (xs.map fun x=>.tup [.str (k x),v x])=some (xs.map fun x=>(k x,v x)):=by
 induction xs with
 |nil=>rfl
 |cons x xs ih=>rw[Aqs,Gw,ih];rfl
theorem R8 {α:Type} (k:α->Str) (v:α->D) (xs:List α) (t:Str):Vt (xs.map k) (xs.map v) t=(xs.find? fun x=>k x=t).map v:=by
 induction xs with
 |nil=>rfl
 |cons x xs ih =>
  rw[Aqs,Aqs,Vt,Ar0]
  by_cases h:k x=t
  ·simp[h]
  ·simp[h,ih]
theorem Abt {α:Type} (k:α->Str) (xs:List α) (t:Str):decide (t∈xs.map k)=(xs.find? fun x=>k x=t).isSome:=by
 rw[Asf,Ash,List.find?_isSome,List.mem_map]
 simp
end ML
end L2
end S_MM8
section S_MS1
namespace L2
namespace ML
open PyProof.Rows PySem.W
section
variable {O:KeyOrd} (key:Nat->O.α)
end
section
variable {O:KeyOrd}{key:Nat->O.α}{n:Nat}{c:Nat->Nat->Option Bool}{p:Array Nat}
end
end ML
end L2
end S_MS1
section S_MP1
namespace L2
namespace ML
open PySem PySem.Spec PyProof.Rows
structure Pos (z:Mk):Prop where
 a:0<=z.a
 b:0<=z.b
 c:0<=z.c
 ms:∀ m∈z.ms,m.pos
abbrev old0:Mk:=⟨0,0,0,[.n 0]⟩
end ML
end L2
end S_MP1
section S_MM9
namespace L2
namespace ML
open PySem
variable {m:MH}{env:A2}
theorem Lp {i:Nat}{Q:Out->Prop}:W (Oj i env m) Q=Q (.nx (env.set i (some (.ref m.length))) (m++[.dcs [] []])):=Ac
theorem Ai0 {i:Nat}{f:FE}{Q:Out->Prop}:W (Alv i f env m) Q=W (f env m) fun d=>W (match d with
 |.ref n=>(match m[n]? with
  |some (.lst ds)=>(ds[ds.length - 1]?).bind fun x=>some (.nx (env.set i (some x)) (m.set n (.lst ds.dropLast)))
  |_=>none)
 |_=>none) Q:=W_bind
theorem Aiz {i:Nat}{o0:MObj}{ds:List D}{Q:Out->Prop}:W (Alv i (Ai 5) [e0,e1,e2,e3,e4,some (.ref 1),e6] [o0,.lst ds]) Q=W (ds[ds.length - 1]?) fun x=>Q (.nx ([e0,e1,e2,e3,e4,some (.ref 1),e6].set i (some x)) [o0,.lst ds.dropLast]):=by
 rw[Ai0]
 show W (some (D.ref 1)) _=_
 rw[Ac]
 show W ((ds[ds.length - 1]?).bind _) Q=_
 rw[W_bind];congr 1;funext x;exact Ac
theorem Ai1 {f fo fk:FE}{Q:Out->Prop}:W (G3 f fo fk env m) Q=W (f env m) fun d=>W (fo env m) fun o=>W (fk env m) fun k=>W (match o with
 |.ref n=>(match m[n]? with
  |some (.dcs ks vs)=>(match k with
   |.str t=>if ks.length < 1000000 then some (.nx env (m.set n (.dcs (Iy ks vs t d).1 (Iy ks vs t d).2))) else none
   |_=>none)
  |_=>none)
 |_=>none:Option Out) Q:=by
 unfold G3
 rw[W_bind];congr 1;funext d
 rw[W_bind];congr 1;funext o
 exact W_bind
theorem V4 {f fo fk:FE}{d:D}{n:Nat}{t:Str}{ks:List Str}{vs:List D}{Q:Out->Prop} (h1:f env m=some d) (h2:fo env m=some (.ref n)) (h3:fk env m=some (.str t)) (h4:m[n]?=some (.dcs ks vs)) :
  W (G3 f fo fk env m) Q=(ks.length < 1000000/\Q (.nx env (m.set n (.dcs (Iy ks vs t d).1 (Iy ks vs t d).2)))):=by
 rw[Ai1,h1,Ac,h2,Ac,h3,Ac]
 simp only[h4]
 exact G8
theorem Adb {x:Str}{ks:List Str}{vs:List D}{r:MH}{Q:D->Prop}:W (Pd (.str x) (.ref 0) (.dcs ks vs::r)) Q=Q (.bl (!decide (x∈ks))):=Ac
theorem Ada {ks:List Str}{vs:List D}{Q:D->Prop}:W (Aby [.dks ks vs] m) Q=(ks.length<=1000000/\Q (.int (ks.length:Nat))):=G8
theorem Ac9 {x:Str}{ks:List Str}{vs:List D}{r:MH}{Q:D->Prop}:W (Pb (.ref 0) (.str x) (.dcs ks vs::r)) Q=W (Vt ks vs x) Q:=rfl
theorem Ai6 {ks:List Str}{vs:List D}{r:MH}{Q:D->Prop}:W (B4 (.dcs ks vs::r) (.ref 0)) Q=(Av vs=true/\Q (.dks ks vs)):=by rw[B4];exact G8
end ML
end L2
end S_MM9
section S_K43a
namespace K43a
open PySem L2 L2.ML
noncomputable section
noncomputable def top (i:Nat):Stmt:=PySem.Challenge.pw_stretchbook_k43_sound_and_tidy.main.body.getD i (.Pass ⟨0,0,0,0⟩)
abbrev Al1:Stmt:=top 1
abbrev Aez:Stmt:=top 2
abbrev Al2:Stmt:=top 3
abbrev Al8:Stmt:=top 5
abbrev Al3:Stmt:=top 7
abbrev Alz:Stmt:=top 9
abbrev Aeg:Stmt:=top 10
abbrev Aem:Stmt:=top 11
abbrev Al4:Stmt:=top 12
abbrev Aeh:Stmt:=top 13
abbrev Aei:Stmt:=top 14
abbrev Aeu:Stmt:=top 16
abbrev Aen:Stmt:=top 17
abbrev Aev:Stmt:=top 18
abbrev Aew:Stmt:=top 19
abbrev Ae0:Stmt:=top 20
abbrev Aeo:Stmt:=top 21
abbrev Al0:Stmt:=top 22
abbrev Aep:Stmt:=top 23
abbrev Aeq:Stmt:=top 24
abbrev Aer:Stmt:=top 25
abbrev Aes:Stmt:=top 26
abbrev Aex:Stmt:=top 27
abbrev Aet:Stmt:=top 28
abbrev Aey:Stmt:=top 29
abbrev Aej:Stmt:=top 30
abbrev Al5:Stmt:=top 31
abbrev Aek:Stmt:=top 32
abbrev Al6:Stmt:=top 33
abbrev Al7:Stmt:=top 34
abbrev Ael:Stmt:=top 35
abbrev Oo:Stmt:=top 36
def An2:FS:=(Ba (sIf (O2 (Adm "str" (Ai 0))) (Cv (B0 (Aa (fC (.int 1)) (Aa (fC (.int 0)) (Aa (Ai 0) Ak))))) Eb) (Cv (B0 (Aa (fC (.int 0)) (Aa (Ai 0) (Aa (fC (.str (Str.ofString ""))) Ak))))))
def Xs:List D->Option D:=Dp 1 An2
def Af6:FS:=(Ba (Br 1 (fVI 0 3)) (Ba (Br 2 (fIf (O2 (Ai 1)) (fC (.int 0)) (fC (.int 1)))) (Cv (B0 (Aa (fVI 0 0) (Aa (fVI 0 1) (Aa (fVI 0 2) (Aa (Ai 2) (Aa (Ay C5 (Aa (Cq (Bq [] 1 (Ed (Ai 1)) (Ao 0) M4 (fC1 Xs (Ai 0)))) Ak)) Ak)))))))))
def Jx:List D->Option D:=Dp 3 Af6
def An3:FS:=(Cv (f2 Aim (fC1 Jx (Ai 0)) (fC1 Jx (Ai 1))))
def Uu:List D->Option D:=Dp 2 An3
def An9:FS:=(Ba (Br 2 (fC (.int 0))) (Ba (Br 3 (Ay Jk (Aa (Ai 1) Ak))) (Ba (D2 (A4 (f2 oLt (Ai 2) (Ai 3))) (Ba (Br 4 (f2 Yh (f2 Ej (Ai 2) (Ai 3)) (fC (.int 2)))) (sIf (O2 (fC2 Uu (Ai 0) (f2 oIx (f2 oIx (Ai 1) (Ai 4)) (fC (.int 0))))) (Br 3 (Ai 4)) (Br 2 (f2 Ej (Ai 4) (fC (.int 1)))))) 1000) (Ba (sIf (A4 (f2 oEq (Ai 2) (fC (.int 0)))) (Cv (fC (.bl false))) Eb) (Ba (Br 5 (f2 oIx (f2 oIx (Ai 1) (f2 Anh (Ai 2) (fC (.int 1)))) (fC (.int 1)))) (Cv (Ajj (f1 Adx (Ai 5)) (fC2 Uu (Ai 0) (Ai 5)))))))))
def Xx:List D->Option D:=Dp 6 An9
def An4:FS:=(Ba (J6 (Ed (Ai 0)) (Ao 3) (sIf (A4 (f2 oEq (fSl (Ai 3) fNo (C2 (fC (.int 2)))) (B0 (Aa (Ai 1) (Aa (Ai 2) Ak))))) (Cv (fVI 3 2)) Eb)) (Cv (B0 Ak)))
def Uv:List D->Option D:=Dp 4 An4
def An0:FS:=(Ba (Gg 3 (Bq [] 2 (Ed (Ai 1)) (G5 2 (B1 (Ao 0) (B1 (Ao 1) Nm))) M4 (B0 (Aa (fC (.str (Str.ofString ""))) (Aa (Ai 0) (Aa (Ai 1) Ak)))))) (Ba (J6 (Ed (Ai 2)) (G5 2 (B1 (Ao 4) (B1 (Ao 5) Nm))) (Pn Agk (Ai 3) (Aa (Cq (Bq [4] 2 (Ed (fC3 Uv (Ai 0) (Ai 4) (Ai 5))) (G5 2 (B1 (Ao 1) (B1 (Ao 2) Nm))) M4 (B0 (Aa (Ai 0) (Aa (Ai 1) (Aa (Ai 2) Ak)))))) Ak))) (Cv (Ai 3))))
def Xq:List D->Option D:=Dp 6 An0
def Afn:FS:=(Cv (Ut (f2 Ang (fVI 0 1) (Ai 1)) (fC2 Xx (f2 Pb (Ai 1) (fVI 0 1)) (fVI 0 2))))
def Nt:List D->Option D:=Dp 2 Afn
def Aft:FS:=(Ba (Br 3 (Ay J3 (Aa (Ai 2) Ak))) (Po (Bq [3] 1 (Ed (Cq (fF3 Xq (Ai 0) (Ai 1) (Ai 2)))) (Ao 1) (Abe (O2 (Ay (Jr 2 Nt) (Aa (Ai 1) (Aa (Ai 0) Ak))))) (Ai 1))))
def Ny:List D->Option D:=Dp 4 Aft
def An5:FS:=(Cv (Xp (Cq (fF3 Ny (Ai 0) (Ai 1) (Ai 2)))))
def Xt:List D->Option D:=Dp 3 An5
def Afo:FS:=(Ba (Br 3 (Ay J3 (Aa (Ai 2) Ak))) (Ba (Oj 4) (Ba (Gg 5 (Bq [] 2 (Ed (Ai 1)) (G5 2 (B1 (Ao 0) (B1 (Ao 1) Nm))) M4 (Ai 0))) (Ba (D2 (O2 (Ai 5)) (Ba (Alv 6 (Ai 5)) (sIf (Vs (A4 (f2 Ang (Ai 6) (Ai 3))) (A4 (f2 Pd (Ai 6) (Ai 4)))) (Ba (G3 (fC (.bl true)) (Ai 4) (Ai 6)) (Pn Agk (Ai 5) (Aa (Cq (Bq [] 1 (Ed (fC3 Uv (Ai 0) (Ai 6) (f2 Pb (Ai 3) (Ai 6)))) (Ao 0) M4 (fVI 0 0))) Ak))) Eb)) 1000) (Cv (Ai 4))))))
def Nu:List D->Option D:=Dp 7 Afo
def Afp:FS:=(Cv (f2 oEq (Ay Aby (Aa (fC3 Nu (Ai 0) (Ai 1) (Ai 2)) Ak)) (Ay Jk (Aa (Ai 2) Ak))))
def Nv:List D->Option D:=Dp 3 Afp
def Af1:FS:=(Ba (sIf (A4 (f2 oEq (Ay Jk (Aa (Ai 0) Ak)) (fC (.int 0)))) (Cv (f2 Mj (fC (.int 7919)) (Ai 1))) Eb) (Cv (f2 Ej (f2 oIx (Ai 0) (f2 Tt (Ai 1) (Ay Jk (Aa (Ai 0) Ak)))) (f2 Mj (fC (.int 7919)) (f2 Yh (Ai 1) (Ay Jk (Aa (Ai 0) Ak)))))))
def Ii:List D->Option D:=Dp 2 Af1
def Afu:FS:=(Ba (Gg 2 (Bz Ak)) (Ba (Br 3 (f2 Yh (Ai 0) (fC (.int 2)))) (Ba (J6 (Jh (Aa (Ay Jk (Aa (Ai 1) Ak)) Ak)) (Ao 4) (Ba (Br 5 (f2 Tt (f2 Mj (f2 Ej (f2 Tt (Ai 0) (fC (.int 1000003))) (fC (.int 1))) (f2 Ej (fC (.int 48271)) (f2 Mj (fC (.int 31)) (Ai 4)))) (fC (.int 2147483629)))) (Ba (Br 5 (f2 Tt (f2 Mj (f2 Ej (f2 Ej (Ai 5) (f2 Mj (f2 Mj (fC (.int 7919)) (Ai 4)) (Ai 4))) (fC (.int 11))) (fC (.int 69621))) (fC (.int 999983)))) (Ba (sIf (A4 (f2 oEq (f2 Tt (Ai 0) (fC (.int 2))) (fC (.int 0)))) (Br 5 (Ai 3)) Eb) (Ba (Pn Vu (Ai 2) (Aa (f2 Tt (Ai 5) (f2 oIx (Ai 1) (Ai 4))) Ak)) (Br 3 (f2 Yh (Ai 3) (f2 oIx (Ai 1) (Ai 4))))))))) (Cv (Ai 2)))))
def Gn:List D->Option D:=Dp 6 Afu
def Af2:FS:=(Ba (Br 1 (Cq (Bz (Aa (fC (.int 0)) (Aa (fC (.int 1)) (Aa (fC (.int 10)) (Aa (fC (.str (Str.ofString "a"))) (Aa (fC (.str (Str.ofString "ab"))) (Aa (fC (.str (Str.ofString "b"))) (Aa (fC (.str (Str.ofString "zz"))) Ak)))))))))) (Ba (Br 2 (f2 oIx (Cq (Bz (Aa (fC (.int 0)) (Aa (fC (.int 0)) (Aa (fC (.int 1)) (Aa (fC (.int 2)) Ak)))))) (fVI 0 3))) (Ba (Br 3 (f2 Ej (fVI 0 0) (f2 Mj (fC (.int 8)) (Ay Agl (Aa (Ut (f2 oEq (fVI 0 3) (fC (.int 0))) (f2 oGt (fVI 0 4) (fC (.int 3)))) Ak))))) (Cv (B0 (Aa (Ai 3) (Aa (fVI 0 1) (Aa (fVI 0 2) (Aa (Ay C5 (Aa (Cq (Zv (Cq (Bz (Aa (f2 oIx (Ai 1) (fVI 0 4)) (Aa (f2 oIx (Ai 1) (fVI 0 5)) Ak)))) fNo (C2 (Ai 2)))) Ak)) Ak)))))))))
def Jw:List D->Option D:=Dp 4 Af2
def Af3:FS:=(Ba (sIf (A4 (f2 oEq (fVI 0 3) (B0 Ak))) (Cv (B0 (Aa (fVI 0 0) (Aa (fVI 0 1) (Aa (f2 Ej (fVI 0 2) (fC (.int 1))) (Aa (B0 (Aa (fC (.int 0)) Ak)) Ak)))))) Eb) (Cv (f2 Ej (fSl (Ai 0) fNo (C2 (fC (.int 3)))) (B0 (Aa (f2 Ej (fVI 0 3) (B0 (Aa (fC (.int 0)) Ak))) Ak)))))
def Ij:List D->Option D:=Dp 1 Af3
def Af7:FS:=(Ba (Gg 1 (Bz Ak)) (Ba (J6 (Ed (fVI 0 3)) (Ao 2) (sIf (O2 (Adm "str" (Ai 2))) (Pn Vu (Ai 1) (Aa (B0 (Aa (fC (.int 1)) (Aa (fC (.int 0)) (Aa (Ai 2) Ak)))) Ak)) (Pn Vu (Ai 1) (Aa (B0 (Aa (fC (.int 0)) (Aa (Ai 2) (Aa (fC (.str (Str.ofString ""))) Ak)))) Ak)))) (Cv (B0 (Aa (fVI 0 0) (Aa (fVI 0 1) (Aa (fVI 0 2) (Aa (Ay Agl (Aa (f2 oEq (fVI 0 3) (B0 Ak)) Ak)) (Aa (Ai 1) Ak)))))))))
def Gp:List D->Option D:=Dp 3 Af7
def Afv:FS:=(Ba (sIf (A4 (f2 oGt (fVI 0 0) (fC (.int 0)))) (Cv (B0 (Aa (f2 Ej (fVI 0 0) (fC (.int 1))) (Aa (fC (.int 0)) (Aa (fC (.int 0)) (Aa (B0 (Aa (fC (.int 0)) Ak)) Ak)))))) Eb) (Ba (sIf (A4 (f2 oGt (fVI 0 1) (fC (.int 0)))) (Cv (B0 (Aa (fC (.int 0)) (Aa (f2 Ej (fVI 0 1) (fC (.int 1))) (Aa (fC (.int 0)) (Aa (B0 (Aa (fC (.int 0)) Ak)) Ak)))))) Eb) (Cv (B0 (Aa (fC (.int 0)) (Aa (fC (.int 0)) (Aa (f2 Ej (fVI 0 2) (fC (.int 1))) (Aa (B0 (Aa (fC (.int 0)) Ak)) Ak))))))))
def Nz:List D->Option D:=Dp 1 Afv
def An1:FS:=(Ba (Br 2 (B0 (Aa (fC (.int 0)) (Aa (fC (.int 0)) (Aa (fC (.int 0)) (Aa (B0 (Aa (fC (.int 0)) Ak)) Ak)))))) (Ba (sIf (A4 (f2 oEq (Ai 0) (fC (.int 0)))) (Cv (B0 (Aa (B0 (Aa (Ai 1) (Aa (fC .non) Ak))) Ak))) Eb) (Ba (sIf (A4 (f2 oEq (Ai 0) (fC (.int 1)))) (Cv (B0 (Aa (B0 (Aa (Ai 1) (Aa (fC1 Nz (Ai 1)) Ak))) Ak))) Eb) (Ba (sIf (A4 (f2 oEq (Ai 0) (fC (.int 2)))) (Cv (B0 (Aa (B0 (Aa (Ai 1) (Aa (B0 (Aa (fVI 1 0) (Aa (f2 Ej (fVI 1 1) (fC (.int 1))) (Aa (fC (.int 0)) (Aa (B0 (Aa (fC (.int 0)) Ak)) Ak))))) Ak))) Ak))) Eb) (Ba (sIf (A4 (f2 oEq (Ai 0) (fC (.int 3)))) (Cv (B0 (Aa (B0 (Aa (Ai 1) (Aa (fC1 Ij (Ai 1)) Ak))) Ak))) Eb) (Ba (sIf (A4 (f2 oEq (Ai 0) (fC (.int 4)))) (Cv (B0 (Aa (B0 (Aa (Ai 2) (Aa (fC .non) Ak))) Ak))) Eb) (Ba (sIf (Vs (A4 (f2 oEq (Ai 0) (fC (.int 5)))) (A4 (f2 oNe (Ai 1) (Ai 2)))) (Cv (B0 (Aa (B0 (Aa (Ai 2) (Aa (Ai 1) Ak))) (Aa (B0 (Aa (fC1 Ij (Ai 1)) (Aa (fC .non) Ak))) Ak)))) Eb) (Cv (B0 (Aa (B0 (Aa (Ai 2) (Aa (fC1 Ij (Ai 1)) Ak))) Ak))))))))))
def Xr:List D->Option D:=Dp 3 An1
def Afw:FS:=(Cv (f2 oIx (Cq (Bz (Aa (fC (.str (Str.ofString "a"))) (Aa (fC (.str (Str.ofString "ab"))) (Aa (fC (.str (Str.ofString "abc"))) (Aa (fC (.str (Str.ofString "b"))) (Aa (fC (.str (Str.ofString "part"))) (Aa (fC (.str (Str.ofString "need"))) (Aa (fC (.str (Str.ofString "zz"))) (Aa (fC (.str (Str.ofString "abcdefgh"))) Ak)))))))))) (Ai 0)))
def Ju:List D->Option D:=Dp 1 Afw
def Afx:FS:=(Ba (Gg 2 (Bz Ak)) (Ba (J6 (Jh (Aa (f2 Yh (Ay Jk (Aa (Ai 1) Ak)) (fC (.int 8))) Ak)) (Ao 3) (Ba (Br 4 (fC1 Ju (f2 oIx (Ai 1) (f2 Mj (fC (.int 8)) (Ai 3))))) (sIf (Vs (A4 (f2 oNe (Ai 4) (Ai 0))) (A4 (f2 Gs (Ai 4) (Cq (Bq [] 1 (Ed (Ai 2)) (Ao 0) M4 (fVI 0 0)))))) (Pn Vu (Ai 2) (Aa (B0 (Aa (Ai 4) (Aa (fC2 Xr (f2 oIx (Ai 1) (f2 Ej (f2 Mj (fC (.int 8)) (Ai 3)) (fC (.int 1)))) (fC1 Jw (Cq (Zv (Ai 1) (C2 (f2 Ej (f2 Mj (fC (.int 8)) (Ai 3)) (fC (.int 2)))) (C2 (f2 Ej (f2 Mj (fC (.int 8)) (Ai 3)) (fC (.int 8)))))))) Ak))) Ak)) Eb))) (Cv (Ay C5 (Aa (Ai 2) Ak)))))
def Jv:List D->Option D:=Dp 5 Afx
def Afy:FS:=(Ba (Br 1 (Cq (Dm (Jm 2 Gn) (Aa (Ai 0) (Aa (Cq (Adl (Cq (Bz (Aa (fC (.int 8)) (Aa (fC (.int 3)) (Aa (fC (.int 3)) (Aa (fC (.int 4)) (Aa (fC (.int 4)) (Aa (fC (.int 7)) (Aa (fC (.int 7)) (Aa (fC (.int 4)) Ak)))))))))) (Cq (Aik (Bz (Aa (fC (.int 8)) (Aa (fC (.int 7)) (Aa (fC (.int 3)) (Aa (fC (.int 3)) (Aa (fC (.int 4)) (Aa (fC (.int 4)) (Aa (fC (.int 7)) (Aa (fC (.int 7)) Ak))))))))) (fC (.int 3)))))) Ak))))) (Ba (Br 2 (fC1 Ju (fVI 1 0))) (Cv (B0 (Aa (Ai 2) (Aa (fC1 Jw (Cq (Zv (Ai 1) (C2 (fC (.int 1))) (C2 (fC (.int 7)))))) (Aa (fC2 Jv (Ai 2) (Cq (Zv (Ai 1) (C2 (fC (.int 8))) (C2 (f2 Ej (fC (.int 8)) (f2 Mj (fC (.int 8)) (fVI 1 7))))))) Ak)))))))
def N0:List D->Option D:=Dp 3 Afy
def Gj:FS:=(Ba (Gg 4 (Bz Ak)) (Ba (J6 (Jh (Aa (Ai 3) Ak)) (Ao 5) (Ba (Br 6 (fC1 N0 (fC2 Ii (Ai 0) (f2 Ej (Ai 1) (Ai 5))))) (sIf (A4 (f2 Gs (fSl (Ai 6) fNo (C2 (fC (.int 2)))) (Cq (Bq [] 1 (Ed (Ai 4)) (Ao 0) M4 (fSl (Ai 0) fNo (C2 (fC (.int 2)))))))) (Pn Vu (Ai 4) (Aa (Ai 6) Ak)) Eb))) (Cv (Ay C5 (Aa (Ai 4) Ak)))))
def Afz:FS:=(Ba (Br 2 (Cq (Dm (Jm 2 Gn) (Aa (fC2 Ii (Ai 0) (fC (.int 0))) (Aa (Cq (Bz (Aa (fC (.int 16)) (Aa (fC (.int 10)) Ak)))) Ak))))) (Ba (Br 3 (fVI 2 1)) (Ba (sIf (A4 (f2 oEq (fVI 2 0) (fC (.int 3)))) (Br 3 (fC (.int 40))) Eb) Gj)))
def N1:List D->Option D:=Dp 7 Afz
def Af4:FS:=(Ba (J6 (Ed (Ai 1)) (G5 2 (B1 (Ao 2) (B1 (Ao 3) Nm))) (sIf (Vs (Abe (A4 (f2 Aim (fC1 Gp (Ai 0)) (fC1 Gp (Ai 2))))) (fOr (A4 (f1 Adx (Ai 3))) (A4 (f2 Aim (fC1 Gp (Ai 0)) (fC1 Gp (Ai 3)))))) (Cv (fC (.bl true))) Eb)) (Cv (fC (.bl false))))
def N3:List D->Option D:=Dp 4 Af4
def Af0:FS:=(Ba (Br 1 (Cq (Dm (Jm 2 Gn) (Aa (Ai 0) (Aa (Cq (Adl (Cq (Bz (Aa (fC (.int 5)) Ak))) (Cq (Aik (Bz (Aa (fC (.int 8)) (Aa (fC (.int 7)) (Aa (fC (.int 3)) (Aa (fC (.int 3)) (Aa (fC (.int 4)) (Aa (fC (.int 4)) (Aa (fC (.int 7)) (Aa (fC (.int 7)) Ak))))))))) (fC (.int 4)))))) Ak))))) (Cv (fC2 Jv (fC (.str (Str.ofString ""))) (Cq (Zv (Ai 1) (C2 (fC (.int 1))) (C2 (f2 Ej (fC (.int 1)) (f2 Mj (fC (.int 8)) (fVI 1 0)))))))))
def N2:List D->Option D:=Dp 2 Af0
def Af5:FS:=(Ba (Br 2 (Cq (Dm (Jm 2 Gn) (Aa (Ai 0) (Aa (Cq (Aik (Bz (Aa (fC (.int 4)) (Aa (fC (.int 12)) Ak))) (fC (.int 8)))) Ak))))) (Ba (Br 3 (Cq (Dm J4 (Aa (Cq (Bq [] 1 (Ed (Ai 1)) (Ao 0) M4 (fVI 0 0))) Ak)))) (Ba (Gg 4 (Bz Ak)) (Ba (J6 (Jh (Aa (Ay Jk (Aa (Ai 3) Ak)) Ak)) (Ao 5) (Ba (Br 6 (Cq (Bq [3,5] 1 (Ed (Ai 1)) (Ao 2) (A4 (f2 oEq (fVI 2 0) (f2 oIx (Ai 0) (Ai 1)))) (fVI 2 1)))) (sIf (A4 (f2 oLt (f2 oIx (Ai 2) (f2 Mj (fC (.int 2)) (Ai 5))) (fC (.int 3)))) (Pn Vu (Ai 4) (Aa (B0 (Aa (f2 oIx (Ai 3) (Ai 5)) (Aa (f2 oIx (Ai 6) (f2 Tt (f2 oIx (Ai 2) (f2 Ej (f2 Mj (fC (.int 2)) (Ai 5)) (fC (.int 1)))) (Ay Jk (Aa (Ai 6) Ak)))) Ak))) Ak)) Eb))) (Cv (Ay C5 (Aa (Ai 4) Ak)))))))
def N4:List D->Option D:=Dp 7 Af5
def Afq:FS:=(Ba (J6 (Ed (Ai 1)) (G5 2 (B1 (Ao 2) (B1 (Ao 3) Nm))) (sIf (A4 (f2 oEq (Ai 2) (fVI 0 0))) (Cv (fC2 N3 (Ai 3) (fVI 0 1))) Eb)) (Cv (fC (.bl false))))
def Ih:List D->Option D:=Dp 4 Afq
def An6:FS:=(Ba (Gg 3 (Bq [] 1 (Ed (Ai 1)) (Ao 0) M4 (B0 (Aa (fC (.str (Str.ofString ""))) (Aa (fVI 0 0) (Aa (fVI 0 1) Ak)))))) (Ba (J6 (Ed (Ai 2)) (G5 2 (B1 (Ao 4) (B1 (Ao 5) Nm))) (J6 (Ed (Ai 0)) (Ao 6) (sIf (A4 (f2 oEq (fSl (Ai 6) fNo (C2 (fC (.int 2)))) (B0 (Aa (Ai 4) (Aa (Ai 5) Ak))))) (Gg 3 (Adl (Ai 3) (Cq (Bq [4] 1 (Ed (f2 oIx (Ai 6) (fC (.int 2)))) (Ao 1) M4 (B0 (Aa (Ai 0) (Aa (fVI 1 0) (Aa (fVI 1 1) Ak)))))))) Eb))) (Cv (Ai 3))))
def Xu:List D->Option D:=Dp 7 An6
def Afr:FS:=(Po (Bq [2] 1 (Ed (Cq (fF3 Xu (Ai 0) (Ai 1) (Ai 2)))) (Ao 1) (Abe (O2 (fC2 Ih (fSl (Ai 1) (C2 (fC (.int 1))) fNo) (Ai 0)))) (Ai 1)))
def Nw:List D->Option D:=Dp 3 Afr
def An7:FS:=(Ba (Gg 3 (Bz Ak)) (Ba (J6 (Ed (Ai 0)) (G5 3 (B1 (Ao 4) (B1 (Ao 5) (B1 (Ao 6) Nm)))) (Ba (sIf (A4 (f2 oIn (B0 (Aa (Ai 4) (Aa (Ai 5) Ak))) (Ai 2))) (Br 6 (Ay C5 (Aa (Cq (Bq [2] 1 (Ed (Ai 6)) (Ao 1) (O2 (fC2 Ih (Ai 1) (Ai 0))) (Ai 1))) Ak))) Eb) (Pn Vu (Ai 3) (Aa (B0 (Aa (Ai 4) (Aa (Ai 5) (Aa (Ai 6) Ak)))) Ak)))) (Cv (B0 (Aa (Ay C5 (Aa (Ai 3) Ak)) (Aa (Ay C5 (Aa (Cq (Bq [2] 1 (Ed (Ai 1)) (Ao 1) (O2 (fC2 Ih (Ai 1) (Ai 0))) (Ai 1))) Ak)) Ak))))))
def Xv:List D->Option D:=Dp 7 An7
def An8:FS:=(Ba (Br 3 (Cq (Bq [1] 1 (Ed (Ai 2)) (Ao 1) (A4 (f2 oIn (fVI 1 0) (Cq (Bq [] 1 (Ed (Ai 0)) (Ao 0) M4 (fVI 0 0))))) (Ai 1)))) (Ba (J6 (Jh (Aa (Ay Jk (Aa (Ai 2) Ak)) Ak)) (Ao 4) (J6 (Ed (Ai 0)) (Ao 5) (sIf (A4 (f2 oIn (fSl (Ai 5) fNo (C2 (fC (.int 2)))) (Ai 3))) (Ba (Br 6 (Cq (Bq [] 1 (Ed (f2 oIx (Ai 5) (fC (.int 2)))) (Ao 0) M4 (fVI 0 0)))) (Br 3 (Cq (Adl (Ai 3) (Cq (Bq [6,3] 1 (Ed (Ai 2)) (Ao 2) (Vs (A4 (f2 oIn (fVI 2 0) (Ai 0))) (A4 (f2 Gs (Ai 2) (Ai 1)))) (Ai 2))))))) Eb))) (Po (Bq [3] 1 (Ed (Ai 2)) (Ao 1) (A4 (f2 oIn (Ai 1) (Ai 0))) (Ai 1)))))
def Xw:List D->Option D:=Dp 7 An8
def Afs:FS:=(Ba (Br 3 (B0 (Aa (fC (.int 0)) (Aa (fC (.int 0)) (Aa (fC (.int 0)) (Aa (B0 (Aa (fC (.int 0)) Ak)) Ak)))))) (Ba (Br 4 (Cq (Bq [] 1 (Ed (Ai 1)) (Ao 0) M4 (fVI 0 0)))) (Ba (Oj 5) (Ba (J6 (Jh (Aa (Ay Jk (Aa (Ai 4) Ak)) Ak)) (Ao 6) (Ba (Br 7 (fIf (A4 (f2 oLt (f2 Ej (Ai 6) (fC (.int 1))) (Ay Jk (Aa (Ai 4) Ak)))) (f2 oIx (Ai 4) (f2 Ej (Ai 6) (fC (.int 1)))) (f2 oIx (Ai 4) (Ay Yi (Aa (Ai 2) (Aa (Ai 6) Ak)))))) (Ba (G3 (B0 Ak) (Ai 5) (f2 oIx (Ai 4) (Ai 6))) (sIf (Vs (A4 (f2 oNe (Ai 7) (f2 oIx (Ai 4) (Ai 6)))) (A4 (f2 oNe (f2 Ej (Ai 6) (fC (.int 1))) (Ai 2)))) (G3 (B0 (Aa (B0 (Aa (Ai 7) (Aa (B0 (Aa (B0 (Aa (Ai 3) (Aa (fC .non) Ak))) Ak)) Ak))) Ak)) (Ai 5) (f2 oIx (Ai 4) (Ai 6))) Eb)))) (Ba (Gg 8 (Bz Ak)) (Ba (J6 (Ed (Ai 0)) (G5 3 (B1 (Ao 9) (B1 (Ao 10) (B1 (Ao 11) Nm)))) (Ba (sIf (A4 (f2 oIn (B0 (Aa (Ai 9) (Aa (Ai 10) Ak))) (Ai 1))) (Br 11 (f2 Pb (Ai 5) (Ai 9))) Eb) (Pn Vu (Ai 8) (Aa (B0 (Aa (Ai 9) (Aa (Ai 10) (Aa (Ai 11) Ak)))) Ak)))) (Cv (B0 (Aa (Ay C5 (Aa (Ai 8) Ak)) (Aa (Ay C5 (Aa (Cq (Bq [4,3] 1 (Jh (Aa (Ay Yi (Aa (Ai 2) (Aa (fC (.int 1)) Ak))) Ak)) (Ao 2) M4 (B0 (Aa (f2 oIx (Ai 0) (Ai 2)) (Aa (B0 (Aa (B0 (Aa (Ai 1) (Aa (fC .non) Ak))) Ak)) Ak))))) Ak)) Ak))))))))))
def Nx:List D->Option D:=Dp 12 Afs
def Afm:FS:=(Ba (Br 1 (fC2 N1 (Ai 0) (fC (.int 1)))) (Ba (J6 (Jh (Aa (Ay Abz (Aa (fC (.int 2)) (Aa (Ay Jk (Aa (Cq (Zv (Ai 0) (C2 (fC (.int 41))) (C2 (fC (.int 61))))) Ak)) Ak))) Ak)) (Ao 2) (Ba (Br 3 (fC2 Ii (Ai 0) (f2 Ej (fC (.int 41)) (Ai 2)))) (Ba (Br 4 (fC1 N2 (f2 Yh (Ai 3) (fC (.int 3))))) (Ba (Br 5 (fC2 N4 (f2 Yh (Ai 3) (fC (.int 5))) (Ai 1))) (Ba (Br 6 (Ai 1)) (Ba (sIf (A4 (f2 oEq (f2 Tt (Ai 3) (fC (.int 2))) (fC (.int 0)))) (Ain (fC3 Xv (Ai 1) (Ai 4) (Ai 5)) (G5 2 (B1 (Ao 6) (B1 (Ao 4) Nm)))) Eb) (Ba (sIf (Vs (A4 (f2 oEq (f2 Tt (Ai 3) (fC (.int 5))) (fC (.int 1)))) (A4 (f2 oGt (Ay Jk (Aa (Ai 5) Ak)) (fC (.int 0))))) (Ain (fC3 Nx (Ai 1) (Ai 5) (f2 Tt (f2 Yh (Ai 3) (fC (.int 5))) (f2 Ej (Ay Jk (Aa (Ai 5) Ak)) (fC (.int 1))))) (G5 2 (B1 (Ao 6) (B1 (Ao 4) Nm)))) Eb) (Ba (Br 7 (Cq (fF3 Xw (Ai 6) (Ai 4) (Ai 5)))) (Ba (sIf (A4 (f2 oEq (f2 Tt (Ai 3) (fC (.int 3))) (fC (.int 0)))) (Br 5 (Ay C5 (Aa (Ai 7) Ak))) Eb) (Ba (Br 8 (fC3 Xt (Ai 6) (Ai 4) (Ai 5))) (Ba (Br 9 (fC3 Nv (Ai 6) (Ai 4) (Ai 5))) (Ba (sIf (fOr (Abe (O2 (Adm "bool" (Ai 8)))) (A4 (f2 oNe (Ai 8) (f2 oEq (Cq (fF3 Nw (Ai 6) (Ai 4) (Ai 5))) (Cq (Bz Ak)))))) (Cv (fC (.bl false))) Eb) (sIf (fOr (Abe (O2 (Adm "bool" (Ai 9)))) (A4 (f2 oNe (Ai 9) (f2 oEq (Ay Jk (Aa (Ai 7) Ak)) (Ay Jk (Aa (Ai 5) Ak)))))) (Cv (fC (.bl false))) Eb))))))))))))) (Cv (fC (.bl true)))))
def Ig:List D->Option D:=Dp 10 Afm
theorem sc_law:FnScope ["_law_script","_law_shelf_here","_law_k","_law_cell_here","_law_wants_here","_law_book_here","_law_entries","_law_reached_here","_law_sound","_law_tidy"] ["_law_script"] (A5 Oo):=⟨rfl,rfl,rfl,by decide +kernel,rfl,by decide +kernel,by decide +kernel⟩
structure Blt (mg:Str->Option Value):Prop where
 b_bool:mg "bool"=none
 b_dict:mg "dict"=none
 b_int:mg "int"=none
 b_isinstance:mg "isinstance"=none
 b_len:mg "len"=none
 b_max:mg "max"=none
 b_min:mg "min"=none
 b_range:mg "range"=none
 b_set:mg "set"=none
 b_sorted:mg "sorted"=none
 b_str:mg "str"=none
 b_tuple:mg "tuple"=none
structure Txt (K:W.Frag) (mg:Str->Option Value):Prop where
 h_z2:FD K mg "mark_rank" Al1 ["mark"]
 h_z29:FD K mg "rank" Aez ["make"]
 h_z3:FD K mg "is_older" Al2 ["one","other"]
 h_z9:FD K mg "lies_in" Al8 ["make","span"]
 h_z4:FD K mg "needs_of" Al3 ["shelf","name","make"]
 h_z0:FD K mg "needs_at_work" Alz ["shelf","wants","book"]
 h_z10:FD K mg "is_kept" Aeg ["need","taken"]
 h_z16:FD K mg "broken" Aem ["shelf","wants","book"]
 h_z5:FD K mg "is_sound" Al4 ["shelf","wants","book"]
 h_z11:FD K mg "reached" Aeh ["shelf","wants","book"]
 h_z12:FD K mg "is_tidy" Aei ["shelf","wants","book"]
 h_z24:FD K mg "_law_cell" Aeu ["_law_script","_law_k"]
 h_z17:FD K mg "_law_draws" Aen ["_law_cell_here","_law_sizes"]
 h_z25:FD K mg "_law_make" Aev ["_law_ds"]
 h_z26:FD K mg "_law_next" Aew ["_law_make_here"]
 h_z30:FD K mg "_law_key" Ae0 ["_law_make_here"]
 h_z18:FD K mg "_law_great" Aeo ["_law_make_here"]
 h_z1:FD K mg "_law_need_span" Al0 ["_law_way","_law_make_here"]
 h_z19:FD K mg "_law_title" Aep ["_law_k"]
 h_z20:FD K mg "_law_needs" Aeq ["_law_owner","_law_ds"]
 h_z21:FD K mg "_law_entry" Aer ["_law_cell_here"]
 h_z22:FD K mg "_law_shelf" Aes ["_law_script","_law_first"]
 h_z27:FD K mg "_law_lies" Aex ["_law_make_here","_law_span"]
 h_z23:FD K mg "_law_wants" Aet ["_law_cell_here"]
 h_z28:FD K mg "_law_book" Aey ["_law_cell_here","_law_shelf_here"]
 h_z13:FD K mg "_law_is_met" Aej ["_law_need","_law_book_here"]
 h_z6:FD K mg "_law_at_work" Al5 ["_law_shelf_here","_law_wants_here","_law_book_here"]
 h_z14:FD K mg "_law_broken" Aek ["_law_shelf_here","_law_wants_here","_law_book_here"]
 h_z7:FD K mg "_law_sounded" Al6 ["_law_shelf_here","_law_wants_here","_law_book_here"]
 h_z8:FD K mg "_law_reached" Al7 ["_law_shelf_here","_law_wants_here","_law_book_here"]
 h_z15:FD K mg "_law_ringed" Ael ["_law_shelf_here","_law_book_here","_law_split"]
section
variable {P:Program}{w:World}{K:W.Frag}{mg:Str->Option Value}{base:Heap} (T:Txt K mg ) (B:Blt mg)
include T B
theorem Aok:Cl P w K mg base 1 "mark_rank" 1 Xs :=
 B7 ["mark"] T.h_z2 An2 Xs fun _ _ _ _ _ _ _ hr nd=>(Af (B3 (Dw (T6 (Ah 0) B.b_isinstance B.b_str (by decide +kernel))) (Al (Ap (As (Ag Ad (Ag Ad (Ag (Ah 0) Ae)))))) Bc) (Al (Ap (As (Ag Ad (Ag (Ah 0) (Ag Od Ae)))))))
theorem Ad2:Cl P w K mg base 2 "rank" 1 Jx :=
 B7 ["make","marks","without_marks"] T.h_z29 Af6 Jx fun _ _ _ _ _ _ _ hr nd=>(Af (Aw nd (An (Ah 0) Ad)) (Af (Aw nd (App (Dw (Ah 1)) Ad Ad)) (Al (Ap (As (Ag (An (Ah 0) Ad) (Ag (An (Ah 0) Ad) (Ag (An (Ah 0) Ad) (Ag (Ah 2) (Ag (Cg B.b_tuple (Ag (C3 (Bo [] ["mark"] rfl (B6 (Ah 1)) (Cc 0) (fun _ _ _ _ _ _=>(Ct (show (["mark"]:List Str).Nodup by decide))) (fun _ _ _ _ _ _=>C6) (fun _ _ _ _ _ _=>(q_c (Aok T B) hr (Ag (Ah 0) Ae))))) Ae)) Ae))))))))))
theorem Akb:Cl P w K mg base 3 "is_older" 2 Uu :=
 B7 ["one","other"] T.h_z3 An3 Uu fun _ _ _ _ _ _ _ hr nd=>(Al (Ap (Gx (Yo hr) (q_c (Ad2 T B) hr (Ag (Ah 0) Ae)) (q_c (Ad2 T B) hr (Ag (Ah 1) Ae)))))
theorem Aop:Cl P w K mg base 4 "lies_in" 2 Xx :=
 B7 ["make","span","first","behind","middle","high"] T.h_z9 An9 Xx fun _ _ _ _ _ _ _ hr nd=>(Af (Aw nd Ad) (Af (Aw nd (Co B.b_len (Ag (Ah 1) Ae))) (Af (T8 _ Aq6 (Ar (Agn) (Ah 2) (Ah 3)) (Af (Aw nd (Au Gv (Au Bl (Ah 2) (Ah 3)) Ad)) (Al (B3 (Dw (q_c (Akb T B) hr (Ag (Ah 0) (Ag (An (An (Ah 1) (Ah 4)) Ad) Ae)))) (Al (Aw nd (Ah 4))) (Al (Aw nd (Au Bl (Ah 4) Ad))))))) (Af (B3 (Ar (C1 hr) (Ah 2) Ad) (Al (Ap Aea)) Bc) (Af (Aw nd (An (An (Ah 1) (Au Akd (Ah 2) Ad)) Ad)) (Al (Ap (Ap9 (Ao4 (Ah 5)) (Ahv (q_c (Akb T B) hr (Ag (Ah 0) (Ag (Ah 5) Ae))))))))))))
theorem Akc:Cl P w K mg base 1 "needs_of" 3 Uv :=
 B7 ["shelf","name","make","entry"] T.h_z4 An4 Uv fun _ _ _ _ _ _ _ hr nd=>(Af (Cp Aq6 rfl (B6 (Ah 0)) (Gy nd) (Al (B3 (Ar (C1 hr) (Ahx (Ah 3) Dz (Bp Ad)) (As (Ag (Ah 1) (Ag (Ah 2) Ae)))) (Al (Ap (An (Ah 3) Ad))) Bc))) (Al (Ap (As Ae))))
theorem Aoi:Cl P w K mg base 2 "needs_at_work" 3 Xq :=
 B7 ["shelf","wants","book","needs","by","make"] T.h_z0 An0 Xq fun _ _ _ _ _ _ _ hr nd=>(Af (Mq [] ["name","span"] nd rfl (B6 (Ah 1)) (Afh 0 1 (by decide)) (fun _ _ _ _ _ _=>(Dy rfl (A8 (Ct (show (["name","span"]:List Str).Nodup by decide)) (A8 (Ct (show (["name","span"]:List Str).Nodup by decide)) Dx)))) (fun _ _ _ _ _ _=>C6) (fun _ _ _ _ _ _=>(As (Ag Od (Ag (Ah 0) (Ag (Ah 1) Ae)))))) (Af (Cp Aq6 rfl (B6 (Ah 2)) (Dy rfl (A8 (Ahu nd) (A8 (Gy nd) Dx))) (Al (Aed (Ah 3) (Ag (C3 (Bo [4] ["by","name","span"] rfl (B6 (q_c (Akc T B) hr (Ag (Ah 0) (Ag (B2 4) (Ag (Ah 5) Ae))))) (Afh 1 2 (by decide)) (fun _ _ _ _ _ _=>(Dy rfl (A8 (Ct (show (["by","name","span"]:List Str).Nodup by decide)) (A8 (Ct (show (["by","name","span"]:List Str).Nodup by decide)) Dx)))) (fun _ _ _ _ _ _=>C6) (fun _ _ _ _ _ _=>(As (Ag (B2 0) (Ag (Ah 1) (Ag (Ah 2) Ae))))))) Ae)))) (Al (Ap (Ah 3)))))
theorem Ajz:Cl P w K mg base 5 "is_kept" 2 Nt :=
 B7 ["need","taken"] T.h_z10 Afn Nt fun _ _ _ _ _ _ _ hr nd=>(Al (Ap (Alm (Gx Ad3 (An (Ah 0) Ad) (Ah 1)) (Ahv (q_c (Aop T B) hr (Ag (Pj (Ah 1) (An (Ah 0) Ad)) (Ag (An (Ah 0) Ad) Ae)))))))
theorem Aj4:Cl P w K mg base 6 "broken" 3 Ny :=
 B7 ["shelf","wants","book","taken"] T.h_z16 Aft Ny fun _ _ _ _ _ _ _ hr nd=>(Af (Ms nd (T5 hr B.b_dict (Ag (Ah 2) Ae))) (Al (Pk (Bo [3] ["taken","need"] rfl (B6 (C3 (Aco (Aoi T B) hr (Ag (Ah 0) (Ag (Ah 1) (Ag (Ah 2) Ae)))))) (Cc 1) (fun _ _ _ _ _ _=>(Ct (show (["taken","need"]:List Str).Nodup by decide))) (fun _ _ _ _ _ _=>(G1 (Oc (Dw (Ap8 (Ajz T B) hr (Ag (Ah 1) (Ag (B2 0) Ae))))))) (fun _ _ _ _ _ _=>(Ah 1))))))
theorem Aol:Cl P w K mg base 7 "is_sound" 3 Xt :=
 B7 ["shelf","wants","book"] T.h_z5 An5 Xt fun _ _ _ _ _ _ _ hr nd=>(Al (Ap (Ao5 (C3 (Aco (Aj4 T B) hr (Ag (Ah 0) (Ag (Ah 1) (Ag (Ah 2) Ae))))))))
theorem Aj0:Cl P w K mg base 2 "reached" 3 Nu :=
 B7 ["shelf","wants","book","taken","names","left","name"] T.h_z11 Afo Nu fun _ _ _ _ _ _ _ hr nd=>(Af (Aw nd (T5 hr B.b_dict (Ag (Ah 2) Ae))) (Af (T7 nd) (Af (Mq [] ["name","span"] nd rfl (B6 (Ah 1)) (Afh 0 1 (by decide)) (fun _ _ _ _ _ _=>(Dy rfl (A8 (Ct (show (["name","span"]:List Str).Nodup by decide)) (A8 (Ct (show (["name","span"]:List Str).Nodup by decide)) Dx)))) (fun _ _ _ _ _ _=>C6) (fun _ _ _ _ _ _=>(Ah 0))) (Af (T8 _ Aq6 (Dw (Ah 5)) (Af (Alo nd (Ah 5)) (Al (B3 (C9 (I0 (Ar Ad3 (Ah 6) (Ah 3)) (Er (Ar Yp (Ah 6) (Ah 4))))) (Af (Mr Aea (Ah 4) (Ah 6)) (Al (Aed (Ah 5) (Ag (C3 (Bo [] ["need"] rfl (B6 (q_c (Akc T B) hr (Ag (Ah 0) (Ag (Ah 6) (Ag (Pj (Ah 3) (Ah 6)) Ae))))) (Cc 0) (fun _ _ _ _ _ _=>(Ct (show (["need"]:List Str).Nodup by decide))) (fun _ _ _ _ _ _=>C6) (fun _ _ _ _ _ _=>(An (Ah 0) Ad)))) Ae)))) Bc)))) (Al (Ap (Ah 4)))))))
theorem Aj1:Cl P w K mg base 3 "is_tidy" 3 Nv :=
 B7 ["shelf","wants","book"] T.h_z12 Afp Nv fun _ _ _ _ _ _ _ hr nd=>(Al (Ap (Gx (C1 hr) (Ahr B.b_len (Ag (q_c (Aj0 T B) hr (Ag (Ah 0) (Ag (Ah 1) (Ag (Ah 2) Ae)))) Ae)) (Co B.b_len (Ag (Ah 2) Ae)))))
theorem Yl:Cl P w K mg base 1 "_law_cell" 2 Ii :=
 B7 ["_law_script","_law_k"] T.h_z24 Af1 Ii fun _ _ _ _ _ _ _ hr nd=>(Af (B3 (Ar (C1 hr) (Co B.b_len (Ag (Ah 0) Ae)) Ad) (Al (Ap (Au Cu Ad (Ah 1)))) Bc) (Al (Ap (Au Bl (An (Ah 0) (Au Dv (Ah 1) (Co B.b_len (Ag (Ah 0) Ae)))) (Au Cu Ad (Au Gv (Ah 1) (Co B.b_len (Ag (Ah 0) Ae))))))))
theorem Tv:Cl P w K mg base 1 "_law_draws" 2 Gn :=
 B7 ["_law_cell_here","_law_sizes","_law_found","_law_digits","_law_k","_law_mixed"] T.h_z17 Afu Gn fun _ _ _ _ _ _ _ hr nd=>(Af (G0 nd (Do Ae)) (Af (Aw nd (Au Gv (Ah 0) Ad)) (Af (Cp Aq6 rfl (Oe B.b_range (Ag (Co B.b_len (Ag (Ah 1) Ae)) Ae)) (Gy nd) (Af (Aw nd (Au Dv (Au Cu (Au Bl (Au Dv (Ah 0) Ad) Ad) (Au Bl Ad (Au Cu Ad (Ah 4)))) Ad)) (Af (Aw nd (Au Dv (Au Cu (Au Bl (Au Bl (Ah 5) (Au Cu (Au Cu Ad (Ah 4)) (Ah 4))) Ad) Ad) Ad)) (Af (B3 (Ar (C1 hr) (Au Dv (Ah 0) Ad) Ad) (Al (Aw nd (Ah 3))) Bc) (Af (Gz (Ah 2) (Ag (Au Dv (Ah 5) (An (Ah 1) (Ah 4))) Ae)) (Al (Aw nd (Au Gv (Ah 3) (An (Ah 1) (Ah 4)))))))))) (Al (Ap (Ah 2))))))
theorem Ad1:Cl P w K mg base 1 "_law_make" 1 Jw :=
 B7 ["_law_ds","_law_marks","_law_many","_law_great_here"] T.h_z25 Af2 Jw fun _ _ _ _ _ _ _ hr nd=>(Af (Aw nd (C3 (Do (Ag Ad (Ag Ad (Ag Ad (Ag Od (Ag Od (Ag Od (Ag Od Ae)))))))))) (Af (Aw nd (An (C3 (Do (Ag Ad (Ag Ad (Ag Ad (Ag Ad Ae)))))) (An (Ah 0) Ad))) (Af (Aw nd (Au Bl (An (Ah 0) Ad) (Au Cu Ad (Aeb B.b_int (Ag (Alm (Gx (C1 hr) (An (Ah 0) Ad) Ad) (Ahv (Gx Ab0 (An (Ah 0) Ad) Ad))) Ae))))) (Al (Ap (As (Ag (Ah 3) (Ag (An (Ah 0) Ad) (Ag (An (Ah 0) Ad) (Ag (Cg B.b_tuple (Ag (C3 (Vg (C3 (Do (Ag (An (Ah 1) (An (Ah 0) Ad)) (Ag (An (Ah 1) (An (Ah 0) Ad)) Ae)))) Dz (Bp (Ah 2)))) Ae)) Ae))))))))))
theorem Ym:Cl P w K mg base 1 "_law_next" 1 Ij :=
 B7 ["_law_make_here"] T.h_z26 Af3 Ij fun _ _ _ _ _ _ _ hr nd=>(Af (B3 (Ar (C1 hr) (An (Ah 0) Ad) (As Ae)) (Al (Ap (As (Ag (An (Ah 0) Ad) (Ag (An (Ah 0) Ad) (Ag (Au Bl (An (Ah 0) Ad) Ad) (Ag (As (Ag Ad Ae)) Ae))))))) Bc) (Al (Ap (Au Bl (Ahx (Ah 0) Dz (Bp Ad)) (As (Ag (Au Bl (An (Ah 0) Ad) (As (Ag Ad Ae))) Ae))))))
theorem Tw:Cl P w K mg base 1 "_law_key" 1 Gp :=
 B7 ["_law_make_here","_law_marks","_law_mark"] T.h_z30 Af7 Gp fun _ _ _ _ _ _ _ hr nd=>(Af (G0 nd (Do Ae)) (Af (Cp Aq6 rfl (B6 (An (Ah 0) Ad)) (Gy nd) (Al (B3 (Dw (T6 (Ah 2) B.b_isinstance B.b_str (by decide +kernel))) (Al (Gz (Ah 1) (Ag (As (Ag Ad (Ag Ad (Ag (Ah 2) Ae)))) Ae))) (Al (Gz (Ah 1) (Ag (As (Ag Ad (Ag (Ah 2) (Ag Od Ae)))) Ae)))))) (Al (Ap (As (Ag (An (Ah 0) Ad) (Ag (An (Ah 0) Ad) (Ag (An (Ah 0) Ad) (Ag (Aeb B.b_int (Ag (Gx (C1 hr) (An (Ah 0) Ad) (As Ae)) Ae)) (Ag (Ah 1) Ae))))))))))
theorem Aj5:Cl P w K mg base 1 "_law_great" 1 Nz :=
 B7 ["_law_make_here"] T.h_z18 Afv Nz fun _ _ _ _ _ _ _ hr nd=>(Af (B3 (Ar Ab0 (An (Ah 0) Ad) Ad) (Al (Ap (As (Ag (Au Bl (An (Ah 0) Ad) Ad) (Ag Ad (Ag Ad (Ag (As (Ag Ad Ae)) Ae))))))) Bc) (Af (B3 (Ar Ab0 (An (Ah 0) Ad) Ad) (Al (Ap (As (Ag Ad (Ag (Au Bl (An (Ah 0) Ad) Ad) (Ag Ad (Ag (As (Ag Ad Ae)) Ae))))))) Bc) (Al (Ap (As (Ag Ad (Ag Ad (Ag (Au Bl (An (Ah 0) Ad) Ad) (Ag (As (Ag Ad Ae)) Ae)))))))))
theorem Aoj:Cl P w K mg base 2 "_law_need_span" 2 Xr :=
 B7 ["_law_way","_law_make_here","_law_oldest"] T.h_z1 An1 Xr fun _ _ _ _ _ _ _ hr nd=>(Af (Aw nd (As (Ag Ad (Ag Ad (Ag Ad (Ag (As (Ag Ad Ae)) Ae)))))) (Af (B3 (Ar (C1 hr) (Ah 0) Ad) (Al (Ap (As (Ag (As (Ag (Ah 1) (Ag Y5 Ae))) Ae)))) Bc) (Af (B3 (Ar (C1 hr) (Ah 0) Ad) (Al (Ap (As (Ag (As (Ag (Ah 1) (Ag (q_c (Aj5 T B) hr (Ag (Ah 1) Ae)) Ae))) Ae)))) Bc) (Af (B3 (Ar (C1 hr) (Ah 0) Ad) (Al (Ap (As (Ag (As (Ag (Ah 1) (Ag (As (Ag (An (Ah 1) Ad) (Ag (Au Bl (An (Ah 1) Ad) Ad) (Ag Ad (Ag (As (Ag Ad Ae)) Ae))))) Ae))) Ae)))) Bc) (Af (B3 (Ar (C1 hr) (Ah 0) Ad) (Al (Ap (As (Ag (As (Ag (Ah 1) (Ag (q_c (Ym T B) hr (Ag (Ah 1) Ae)) Ae))) Ae)))) Bc) (Af (B3 (Ar (C1 hr) (Ah 0) Ad) (Al (Ap (As (Ag (As (Ag (Ah 2) (Ag Y5 Ae))) Ae)))) Bc) (Af (B3 (C9 (I0 (Ar (C1 hr) (Ah 0) Ad) (Er (Ar (U9 hr) (Ah 1) (Ah 2))))) (Al (Ap (As (Ag (As (Ag (Ah 2) (Ag (Ah 1) Ae))) (Ag (As (Ag (q_c (Ym T B) hr (Ag (Ah 1) Ae)) (Ag Y5 Ae))) Ae))))) Bc) (Al (Ap (As (Ag (As (Ag (Ah 2) (Ag (q_c (Ym T B) hr (Ag (Ah 1) Ae)) Ae))) Ae)))))))))))
theorem Adz:Cl P w K mg base 1 "_law_title" 1 Ju :=
 B7 ["_law_k"] T.h_z19 Afw Ju fun _ _ _ _ _ _ _ hr nd=>(Al (Ap (An (C3 (Do (Ag Od (Ag Od (Ag Od (Ag Od (Ag Od (Ag Od (Ag Od (Ag Od Ae)))))))))) (Ah 0))))
theorem Ad0:Cl P w K mg base 3 "_law_needs" 2 Jv :=
 B7 ["_law_owner","_law_ds","_law_needs_here","_law_j","_law_other"] T.h_z20 Afx Jv fun _ _ _ _ _ _ _ hr nd=>(Af (G0 nd (Do Ae)) (Af (Cp Aq6 rfl (Oe B.b_range (Ag (Au Gv (Co B.b_len (Ag (Ah 1) Ae)) Ad) Ae)) (Gy nd) (Af (Aw nd (q_c (Adz T B) hr (Ag (An (Ah 1) (Au Cu Ad (Ah 3))) Ae))) (Al (B3 (C9 (I0 (Ar (U9 hr) (Ah 4) (Ah 0)) (Er (Ar (Mm hr) (Ah 4) (C3 (Bo [] ["_law_need"] rfl (B6 (Ah 2)) (Cc 0) (fun _ _ _ _ _ _=>(Ct (show (["_law_need"]:List Str).Nodup by decide))) (fun _ _ _ _ _ _=>C6) (fun _ _ _ _ _ _=>(An (Ah 0) Ad)))))))) (Al (Gz (Ah 2) (Ag (As (Ag (Ah 4) (Ag (q_c (Aoj T B) hr (Ag (An (Ah 1) (Au Bl (Au Cu Ad (Ah 3)) Ad)) (Ag (q_c (Ad1 T B) hr (Ag (C3 (Vg (Ah 1) (Bp (Au Bl (Au Cu Ad (Ah 3)) Ad)) (Bp (Au Bl (Au Cu Ad (Ah 3)) Ad)))) Ae)) Ae))) Ae))) Ae))) Bc)))) (Al (Ap (Cg B.b_tuple (Ag (Ah 2) Ae))))))
theorem Aj6:Cl P w K mg base 4 "_law_entry" 1 N0 :=
 B7 ["_law_cell_here","_law_ds","_law_name"] T.h_z21 Afy N0 fun _ _ _ _ _ _ _ hr nd=>(Af (Aw nd (C3 (Aco (Tv T B) hr (Ag (Ah 0) (Ag (C3 (Acp (C3 (Do (Ag Ad (Ag Ad (Ag Ad (Ag Ad (Ag Ad (Ag Ad (Ag Ad (Ag Ad Ae)))))))))) (C3 (Ahw (Do (Ag Ad (Ag Ad (Ag Ad (Ag Ad (Ag Ad (Ag Ad (Ag Ad (Ag Ad Ae))))))))))))) Ae))))) (Af (Aw nd (q_c (Adz T B) hr (Ag (An (Ah 1) Ad) Ae))) (Al (Ap (As (Ag (Ah 2) (Ag (q_c (Ad1 T B) hr (Ag (C3 (Vg (Ah 1) (Bp Ad) (Bp Ad))) Ae)) (Ag (q_c (Ad0 T B) hr (Ag (Ah 2) (Ag (C3 (Vg (Ah 1) (Bp Ad) (Bp (Au Bl Ad (Au Cu Ad (An (Ah 1) Ad)))))) Ae))) Ae))))))))
theorem Aj7:Cl P w K mg base 5 "_law_shelf" 2 N1 :=
 B7 ["_law_script","_law_first","_law_ds","_law_many","_law_shelf_here","_law_k","_law_entry_here"] T.h_z22 Afz N1 fun _ _ _ _ _ _ _ hr nd=>(Af (Aw nd (C3 (Aco (Tv T B) hr (Ag (q_c (Yl T B) hr (Ag (Ah 0) (Ag Ad Ae))) (Ag (C3 (Do (Ag Ad (Ag Ad Ae)))) Ae))))) (Af (Aw nd (An (Ah 2) Ad)) (Af (B3 (Ar (C1 hr) (An (Ah 2) Ad) Ad) (Al (Aw nd Ad)) Bc) (Af (G0 nd (Do Ae)) (Af (Cp Aq6 rfl (Oe B.b_range (Ag (Ah 3) Ae)) (Gy nd) (Af (Aw nd (q_c (Aj6 T B) hr (Ag (q_c (Yl T B) hr (Ag (Ah 0) (Ag (Au Bl (Ah 1) (Ah 5)) Ae))) Ae))) (Al (B3 (Ar (Mm hr) (Ahx (Ah 6) Dz (Bp Ad)) (C3 (Bo [] ["_law_one"] rfl (B6 (Ah 4)) (Cc 0) (fun _ _ _ _ _ _=>(Ct (show (["_law_one"]:List Str).Nodup by decide))) (fun _ _ _ _ _ _=>C6) (fun _ _ _ _ _ _=>(Ahx (Ah 0) Dz (Bp Ad)))))) (Al (Gz (Ah 4) (Ag (Ah 6) Ae))) Bc)))) (Al (Ap (Cg B.b_tuple (Ag (Ah 4) Ae)))))))))
theorem Aj9:Cl P w K mg base 2 "_law_lies" 2 N3 :=
 B7 ["_law_make_here","_law_span","_law_low","_law_high"] T.h_z27 Af4 N3 fun _ _ _ _ _ _ _ hr nd=>(Af (Cp Aq6 rfl (B6 (Ah 1)) (Dy rfl (A8 (Gy nd) (A8 (Gy nd) Dx))) (Al (B3 (C9 (I0 (Oc (Ar (Yo hr) (q_c (Tw T B) hr (Ag (Ah 0) Ae)) (q_c (Tw T B) hr (Ag (Ah 2) Ae)))) (Er (C9 (Ahy (Aln (Ah 3)) (Y6 (Ar (Yo hr) (q_c (Tw T B) hr (Ag (Ah 0) Ae)) (q_c (Tw T B) hr (Ag (Ah 3) Ae))))))))) (Al (Ap Aea)) Bc))) (Al (Ap Aea)))
theorem Aj8:Cl P w K mg base 4 "_law_wants" 1 N2 :=
 B7 ["_law_cell_here","_law_ds"] T.h_z23 Af0 N2 fun _ _ _ _ _ _ _ hr nd=>(Af (Aw nd (C3 (Aco (Tv T B) hr (Ag (Ah 0) (Ag (C3 (Acp (C3 (Do (Ag Ad Ae))) (C3 (Ahw (Do (Ag Ad (Ag Ad (Ag Ad (Ag Ad (Ag Ad (Ag Ad (Ag Ad (Ag Ad Ae))))))))))))) Ae))))) (Al (Ap (q_c (Ad0 T B) hr (Ag Od (Ag (C3 (Vg (Ah 1) (Bp Ad) (Bp (Au Bl Ad (Au Cu Ad (An (Ah 1) Ad)))))) Ae))))))
theorem Aka:Cl P w K mg base 2 "_law_book" 2 N4 :=
 B7 ["_law_cell_here","_law_shelf_here","_law_ds","_law_names","_law_book_here","_law_k","_law_makes"] T.h_z28 Af5 N4 fun _ _ _ _ _ _ _ hr nd=>(Af (Aw nd (C3 (Aco (Tv T B) hr (Ag (Ah 0) (Ag (C3 (Ahw (Do (Ag Ad (Ag Ad Ae))))) Ae))))) (Af (Ms nd (C3 (Acr hr B.b_sorted B.b_set (Ag (C3 (Bo [] ["_law_entry_here"] rfl (B6 (Ah 1)) (Cc 0) (fun _ _ _ _ _ _=>(Ct (show (["_law_entry_here"]:List Str).Nodup by decide))) (fun _ _ _ _ _ _=>C6) (fun _ _ _ _ _ _=>(An (Ah 0) Ad)))) Ae)))) (Af (G0 nd (Do Ae)) (Af (Cp Aq6 rfl (Oe B.b_range (Ag (Co B.b_len (Ag (B2 3) Ae)) Ae)) (Ahu nd) (Af (Acn [3,5] ["_law_names","_law_k","_law_entry_here"] nd rfl (B6 (Ah 1)) (Cc 2) (fun _ _ _ _ _ _=>(Ct (show (["_law_names","_law_k","_law_entry_here"]:List Str).Nodup by decide))) (fun _ _ _ _ _ _=>(G1 (Ar (C1 hr) (An (Ah 2) Ad) (An (B2 0) (B2 1))))) (fun _ _ _ _ _ _=>(An (Ah 2) Ad))) (Al (B3 (Ar (Agn) (An (Ah 2) (Au Cu Ad (B2 5))) Ad) (Al (Gz (Ah 4) (Ag (As (Ag (An (B2 3) (B2 5)) (Ag (An (Ah 6) (Au Dv (An (Ah 2) (Au Bl (Au Cu Ad (B2 5)) Ad)) (Co B.b_len (Ag (Ah 6) Ae)))) Ae))) Ae))) Bc)))) (Al (Ap (Cg B.b_tuple (Ag (Ah 4) Ae))))))))
theorem Yk:Cl P w K mg base 3 "_law_is_met" 2 Ih :=
 B7 ["_law_need","_law_book_here","_law_name","_law_make_here"] T.h_z13 Afq Ih fun _ _ _ _ _ _ _ hr nd=>(Af (Cp Aq6 rfl (B6 (Ah 1)) (Dy rfl (A8 (Gy nd) (A8 (Gy nd) Dx))) (Al (B3 (Ar (C1 hr) (Ah 2) (An (Ah 0) Ad)) (Al (Ap (q_c (Aj9 T B) hr (Ag (Ah 3) (Ag (An (Ah 0) Ad) Ae))))) Bc))) (Al (Ap Aea)))
theorem Aom:Cl P w K mg base 1 "_law_at_work" 3 Xu :=
 B7 ["_law_shelf_here","_law_wants_here","_law_book_here","_law_found","_law_by","_law_make_here","_law_entry_here"] T.h_z6 An6 Xu fun _ _ _ _ _ _ _ hr nd=>(Af (Mq [] ["_law_need"] nd rfl (B6 (Ah 1)) (Cc 0) (fun _ _ _ _ _ _=>(Ct (show (["_law_need"]:List Str).Nodup by decide))) (fun _ _ _ _ _ _=>C6) (fun _ _ _ _ _ _=>(As (Ag Od (Ag (An (Ah 0) Ad) (Ag (An (Ah 0) Ad) Ae)))))) (Af (Cp Aq6 rfl (B6 (Ah 2)) (Dy rfl (A8 (Ahu nd) (A8 (Gy nd) Dx))) (Al (Cp Aq6 rfl (B6 (Ah 0)) (Gy nd) (Al (B3 (Ar (C1 hr) (Ahx (Ah 6) Dz (Bp Ad)) (As (Ag (B2 4) (Ag (Ah 5) Ae)))) (Al (G0 nd (Acp (Ah 3) (C3 (Bo [4] ["_law_by","_law_need"] rfl (B6 (An (Ah 6) Ad)) (Cc 1) (fun _ _ _ _ _ _=>(Ct (show (["_law_by","_law_need"]:List Str).Nodup by decide))) (fun _ _ _ _ _ _=>C6) (fun _ _ _ _ _ _=>(As (Ag (B2 0) (Ag (An (Ah 1) Ad) (Ag (An (Ah 1) Ad) Ae)))))))))) Bc))))) (Al (Ap (Ah 3)))))
theorem Aj2:Cl P w K mg base 4 "_law_broken" 3 Nw :=
 B7 ["_law_shelf_here","_law_wants_here","_law_book_here"] T.h_z14 Afr Nw fun _ _ _ _ _ _ _ hr nd=>(Al (Pk (Bo [2] ["_law_book_here","_law_one"] rfl (B6 (C3 (Aco (Aom T B) hr (Ag (Ah 0) (Ag (Ah 1) (Ag (B2 2) Ae)))))) (Cc 1) (fun _ _ _ _ _ _=>(Ct (show (["_law_book_here","_law_one"]:List Str).Nodup by decide))) (fun _ _ _ _ _ _=>(G1 (Oc (Dw (q_c (Yk T B) hr (Ag (Ahx (Ah 1) (Bp Ad) Dz) (Ag (B2 0) Ae))))))) (fun _ _ _ _ _ _=>(Ah 1)))))
theorem Aon:Cl P w K mg base 4 "_law_sounded" 3 Xv :=
 B7 ["_law_shelf_here","_law_wants_here","_law_book_here","_law_entries","_law_name","_law_make_here","_law_needs_here"] T.h_z7 An7 Xv fun _ _ _ _ _ _ _ hr nd=>(Af (G0 nd (Do Ae)) (Af (Cp Aq6 rfl (B6 (Ah 0)) (Dy rfl (A8 (Gy nd) (A8 (Gy nd) (A8 (Gy nd) Dx)))) (Af (B3 (Ar (U8 hr) (As (Ag (Ah 4) (Ag (Ah 5) Ae))) (B2 2)) (Al (Aw nd (Cg B.b_tuple (Ag (C3 (Bo [2] ["_law_book_here","_law_need"] rfl (B6 (Ah 6)) (Cc 1) (fun _ _ _ _ _ _=>(Ct (show (["_law_book_here","_law_need"]:List Str).Nodup by decide))) (fun _ _ _ _ _ _=>(G1 (Dw (q_c (Yk T B) hr (Ag (Ah 1) (Ag (B2 0) Ae)))))) (fun _ _ _ _ _ _=>(Ah 1)))) Ae)))) Bc) (Al (Gz (Ah 3) (Ag (As (Ag (Ah 4) (Ag (Ah 5) (Ag (Ah 6) Ae)))) Ae))))) (Al (Ap (As (Ag (Cg B.b_tuple (Ag (Ah 3) Ae)) (Ag (Cg B.b_tuple (Ag (C3 (Bo [2] ["_law_book_here","_law_need"] rfl (B6 (Ah 1)) (Cc 1) (fun _ _ _ _ _ _=>(Ct (show (["_law_book_here","_law_need"]:List Str).Nodup by decide))) (fun _ _ _ _ _ _=>(G1 (Dw (q_c (Yk T B) hr (Ag (Ah 1) (Ag (B2 0) Ae)))))) (fun _ _ _ _ _ _=>(Ah 1)))) Ae)) Ae)))))))
theorem Aoo:Cl P w K mg base 1 "_law_reached" 3 Xw :=
 B7 ["_law_shelf_here","_law_wants_here","_law_book_here","_law_found","_law_k","_law_entry_here","_law_names"] T.h_z8 An8 Xw fun _ _ _ _ _ _ _ hr nd=>(Af (Mt nd (C3 (Bo [1] ["_law_wants_here","_law_one"] rfl (B6 (Ah 2)) (Cc 1) (fun _ _ _ _ _ _=>(Ct (show (["_law_wants_here","_law_one"]:List Str).Nodup by decide))) (fun _ _ _ _ _ _=>(G1 (Ar (U8 hr) (An (Ah 1) Ad) (C3 (Bo [] ["_law_want"] rfl (B6 (B2 0)) (Cc 0) (fun _ _ _ _ _ _=>(Ct (show (["_law_want"]:List Str).Nodup by decide))) (fun _ _ _ _ _ _=>C6) (fun _ _ _ _ _ _=>(An (Ah 0) Ad))))))) (fun _ _ _ _ _ _=>(Ah 1))))) (Af (Cp Aq6 rfl (Oe B.b_range (Ag (Co B.b_len (Ag (Ah 2) Ae)) Ae)) (Gy nd) (Al (Cp Aq6 rfl (B6 (Ah 0)) (Gy nd) (Al (B3 (Ar (U8 hr) (Ahx (Ah 5) Dz (Bp Ad)) (B2 3)) (Af (Mt nd (C3 (Bo [] ["_law_need"] rfl (B6 (An (Ah 5) Ad)) (Cc 0) (fun _ _ _ _ _ _=>(Ct (show (["_law_need"]:List Str).Nodup by decide))) (fun _ _ _ _ _ _=>C6) (fun _ _ _ _ _ _=>(An (Ah 0) Ad))))) (Al (Ms nd (C3 (Acp (B2 3) (C3 (Bo [6,3] ["_law_names","_law_found","_law_one"] rfl (B6 (Ah 2)) (Cc 2) (fun _ _ _ _ _ _=>(Ct (show (["_law_names","_law_found","_law_one"]:List Str).Nodup by decide))) (fun _ _ _ _ _ _=>(G1 (C9 (I0 (Ar (U8 hr) (An (Ah 2) Ad) (B2 0)) (Er (Ar (Mm hr) (Ah 2) (B2 1))))))) (fun _ _ _ _ _ _=>(Ah 2))))))))) Bc))))) (Al (Pk (Bo [3] ["_law_found","_law_one"] rfl (B6 (Ah 2)) (Cc 1) (fun _ _ _ _ _ _=>(Ct (show (["_law_found","_law_one"]:List Str).Nodup by decide))) (fun _ _ _ _ _ _=>(G1 (Ar (U8 hr) (Ah 1) (B2 0)))) (fun _ _ _ _ _ _=>(Ah 1)))))))
theorem Aj3:Cl P w K mg base 1 "_law_ringed" 3 Nx :=
 B7 ["_law_shelf_here","_law_book_here","_law_split","_law_oldest","_law_names","_law_needs_here","_law_k","_law_other","_law_entries","_law_name","_law_make_here","_law_own"] T.h_z15 Afs Nx fun _ _ _ _ _ _ _ hr nd=>(Af (Ms nd (As (Ag Ad (Ag Ad (Ag Ad (Ag (As (Ag Ad Ae)) Ae)))))) (Af (Mt nd (C3 (Bo [] ["_law_one"] rfl (B6 (Ah 1)) (Cc 0) (fun _ _ _ _ _ _=>(Ct (show (["_law_one"]:List Str).Nodup by decide))) (fun _ _ _ _ _ _=>C6) (fun _ _ _ _ _ _=>(An (Ah 0) Ad))))) (Af (T7 nd) (Af (Cp Aq6 rfl (Oe B.b_range (Ag (Co B.b_len (Ag (B2 4) Ae)) Ae)) (Gy nd) (Af (Aw nd (App (Ar (Agn) (Au Bl (Ah 6) Ad) (Co B.b_len (Ag (B2 4) Ae))) (An (B2 4) (Au Bl (Ah 6) Ad)) (An (B2 4) (Y4 rfl B.b_min (Ag (Ah 2) (Ag (Ah 6) Ae)))))) (Af (Mr (As Ae) (Ah 5) (An (B2 4) (Ah 6))) (Al (B3 (C9 (I0 (Ar (U9 hr) (Ah 7) (An (B2 4) (Ah 6))) (Er (Ar (U9 hr) (Au Bl (Ah 6) Ad) (Ah 2))))) (Al (Mr (As (Ag (As (Ag (Ah 7) (Ag (As (Ag (As (Ag (B2 3) (Ag Y5 Ae))) Ae)) Ae))) Ae)) (Ah 5) (An (B2 4) (Ah 6)))) Bc))))) (Af (G0 nd (Do Ae)) (Af (Cp Aq6 rfl (B6 (Ah 0)) (Dy rfl (A8 (Gy nd) (A8 (Gy nd) (A8 (Gy nd) Dx)))) (Af (B3 (Ar (U8 hr) (As (Ag (Ah 9) (Ag (Ah 10) Ae))) (Ah 1)) (Al (Aw nd (Pj (Ah 5) (Ah 9)))) Bc) (Al (Gz (Ah 8) (Ag (As (Ag (Ah 9) (Ag (Ah 10) (Ag (Ah 11) Ae)))) Ae))))) (Al (Ap (As (Ag (Cg B.b_tuple (Ag (Ah 8) Ae)) (Ag (Cg B.b_tuple (Ag (C3 (Bo [4,3] ["_law_names","_law_oldest","_law_k"] rfl (Oe B.b_range (Ag (Y4 rfl B.b_min (Ag (Ah 2) (Ag Ad Ae))) Ae)) (Cc 2) (fun _ _ _ _ _ _=>(Ct (show (["_law_names","_law_oldest","_law_k"]:List Str).Nodup by decide))) (fun _ _ _ _ _ _=>C6) (fun _ _ _ _ _ _=>(As (Ag (An (B2 0) (Ah 2)) (Ag (As (Ag (As (Ag (B2 1) (Ag Y5 Ae))) Ae)) Ae)))))) Ae)) Ae)))))))))))
theorem Ajy {a:Addr}{fd:FuncData} (F:Fun K "law" "law" Oo a fd):FnOk P w K mg base CX0 8 a fd ["_law_script"] (spP K 1 Ig) :=
 Apo F sc_law Afm Ig rfl rfl fun cdv A outer s H E hr=>(Af (Aw sc_law.nd (q_c (Aj7 T B) hr (Ag (Ah 0) (Ag Ad Ae)))) (Af (Cp Aq6 rfl (Oe B.b_range (Ag (Ahs rfl B.b_max (Ag Ad (Ag (Co B.b_len (Ag (C3 (Vg (Ah 0) (Bp Ad) (Bp Ad))) Ae)) Ae))) Ae)) (Gy sc_law.nd) (Af (Aw sc_law.nd (q_c (Yl T B) hr (Ag (Ah 0) (Ag (Au Bl Ad (Ah 2)) Ae)))) (Af (Aw sc_law.nd (q_c (Aj8 T B) hr (Ag (Au Gv (Ah 3) Ad) Ae))) (Af (Aw sc_law.nd (q_c (Aka T B) hr (Ag (Au Gv (Ah 3) Ad) (Ag (Ah 1) Ae)))) (Af (Aw sc_law.nd (Ah 1)) (Af (B3 (Ar (C1 hr) (Au Dv (Ah 3) Ad) Ad) (Al (Aec (q_c (Aon T B) hr (Ag (Ah 1) (Ag (Ah 4) (Ag (Ah 5) Ae)))) (Dy rfl (A8 (Gy sc_law.nd) (A8 (Gy sc_law.nd) Dx))))) Bc) (Af (B3 (C9 (I0 (Ar (C1 hr) (Au Dv (Ah 3) Ad) Ad) (Er (Ar Ab0 (Co B.b_len (Ag (Ah 5) Ae)) Ad)))) (Al (Aec (q_c (Aj3 T B) hr (Ag (Ah 1) (Ag (Ah 5) (Ag (Au Dv (Au Gv (Ah 3) Ad) (Au Bl (Co B.b_len (Ag (Ah 5) Ae)) Ad)) Ae)))) (Dy rfl (A8 (Gy sc_law.nd) (A8 (Gy sc_law.nd) Dx))))) Bc) (Af (Aw sc_law.nd (C3 (Aco (Aoo T B) hr (Ag (Ah 6) (Ag (Ah 4) (Ag (Ah 5) Ae)))))) (Af (B3 (Ar (C1 hr) (Au Dv (Ah 3) Ad) Ad) (Al (Aw sc_law.nd (Cg B.b_tuple (Ag (Ah 7) Ae)))) Bc) (Af (Aw sc_law.nd (q_c (Aol T B) hr (Ag (Ah 6) (Ag (Ah 4) (Ag (Ah 5) Ae))))) (Af (Aw sc_law.nd (q_c (Aj1 T B) hr (Ag (Ah 6) (Ag (Ah 4) (Ag (Ah 5) Ae))))) (Af (B3 (C9 (Ahy (Oc (Dw (T6 (Ah 8) B.b_isinstance B.b_bool (by decide +kernel)))) (Y6 (Ar (U9 hr) (Ah 8) (Gx (C1 hr) (C3 (Aco (Aj2 T B) hr (Ag (Ah 6) (Ag (Ah 4) (Ag (Ah 5) Ae))))) (C3 (Do Ae))))))) (Al (Ap Aea)) Bc) (Al (B3 (C9 (Ahy (Oc (Dw (T6 (Ah 9) B.b_isinstance B.b_bool (by decide +kernel)))) (Y6 (Ar (U9 hr) (Ah 9) (Gx (C1 hr) (Co B.b_len (Ag (Ah 7) Ae)) (Co B.b_len (Ag (Ah 5) Ae))))))) (Al (Ap Aea)) Bc)))))))))))))) (Al (Ap Aea))))
end
end
end K43a
end S_K43a
section S_UA
namespace K43a
open PySem L2 L2.ML
set_option hygiene false in
local macro_rules|`(tactic| simp_arith[$a,*])=>`(tactic| ((try dsimp only[mp1,mp2,mp3,ln1,ln2,ln3,List.replicate,Nat.reduceAdd,Nat.reduceSub]);simp only[↓Aa2,↓Aa1,↓Aar,↓Aas,↓Aat,↓Aau,↓Z2,↓Z3,↓Z4,↓Z5,↓Ma,↓L9,↓A1,↓My,↓Mz,↓Mw,↓Mx,↓Nb,↓Rk,↓Rm,↓Lq,↓Vq,↓Xc,↓Aal,↓Aix,↓Aiw,↓Amo,↓Gm,↓Dr,↓Ek,↓Et,↓P0,↓P5,↓G7,↓E8,↓Zy,↓M9,↓Rr,↓Rv,↓Rt,↓Px,↓Z8,↓P1,↓Lj,↓P2,↓Lm,↓Z6,↓Z9,↓Z7,↓Ln,↓Zz,↓Jq,↓P4,↓Acx,↓Ub,↓Py,↓Pz,↓Na,↓Ll,↓Cm,↓Cj,↓Pt,↓Pu,↓Rq,↓Rf,↓Pw,↓Re,↓Aai,↓Aac,↓Amn,↓Amv,↓Ee,↓Aag,↓Aaf,↓Ra,↓P9,↓P7,↓Ro,↓Aae,↓Aad,↓Dq,↓B9,↓B8,↓Lr,↓Lu,↓Lx,↓Lw,↓Lv,↓Aam,↓Aan,↓Aao,↓C4,↓D3,↓D4,↓Aav,↓Aax,↓Aay,↓Ry,↓Rx,↓Rw,↓Anl,↓Anj,↓Ank,↓Ly,↓Acu,↓Ri,↓Hv,↓Hu,↓Ht,↓Hw,↓D5,↓Ai2,↓Amg,↓Ai3,↓Amw,↓Amp,↓Amh,↓Ai4,↓Amx,↓Amq,↓Aiv,↓Ai5,↓Amy,↓Amr,↓Ami,↓Am5,↓Amz,↓Ams,↓Amj,↓Am6,↓Am0,↓Amt,↓Amk,↓Am7,↓Am1,↓Aml,↓Am8,↓Am2,↓Am9,↓Am3,↓Amu,↓Ana,↓Am4,↓Amm,↓Aap,↓Z0,↓Aaq,↓Aak,↓Z1,Asi,Asz,Vq,Xc,↓Ow,↓Rn,↓Rp,↓Rj,↓Tp,↓Rg,↓G9,↓Rh,↓M8,↓Li,↓Pv,↓P3,↓T9,↓Rb,↓Aah,↓Ru,↓Nc,↓Nf,Ara,Arz,Aqw,Ata,Ar5,Aqs,Ar9,List.replicate,Atf,Atg,Nat.reduceAdd,Nat.reduceSub,Nat.zero_add,true_and,Bu,Cs,Nn,Bt,Cz,R4,Ic,D7,decide_true,decide_false,Ha,Eu,Asw,Aro,Ar2,_root_.id,Nc,Nf,Aaw,Ls,Du,A6,Bh,A3,A9,Am,Bx,Bool.and_self,Bool.and_true,Bool.true_and,Mk.pure,Mark.pure,Di,↓Lh,↓M6,↓Ul,↓Vx,Anc,↓Hk,↓Hj,↓Hi,↓Hl,Int.reduceEq,Int.reduceLT,Int.reduceLE,Int.reduceAdd,Int.reduceSub,Int.reduceMul,Int.reduceToNat,Int.reducePow,Int.reduceNeg,Int.reduceMod,Int.reduceDiv,Nat.reduceLeDiff,Nat.reduceMul,Nat.reduceEqDiff,Nat.reducePow,Nat.reduceLT,and_true,and_self,true_or,or_true,Aqo,Int.le_refl,Arl,↓Hg,↓Hf,↓He,↓Hh,Mu,Arp,Ath,Ew,Tg,L7,Mark.deq,Mk.deq,Int.zero_add,↓Th,↓Ti,↓Tj,↓Tn,Arx,List.any_nil,Asa,List.all_nil,Bool.false_or,Bool.true_or,As8,Atj,↓Hx,↓Ho,↓Hn,↓Hm,↓Hq,Tf,Iu,Gf,D9,↓Tx,↓Tz,↓T1,↓Ts,Atc,Atb,Ast,Asd,Ib,bne_self_eq_false,↓Aaz,↓P6,$a,*]))
set_option hygiene false in
local macro_rules|`(tactic| array_get_dec)=>`(tactic| try simp_arith[true_and])
theorem Oy (ns:List Int) (hl:ns.length<=63) (k:Int) (hk:0<=k) (hk2:k < 100000):W (Ii [.kl (ns.map .int),.int k]) fun d=>∃ c,d=.int c:=by
 unfold Ii Af1
 rw[A1]
 array_get_dec
 refine cK.dec (fun h=>⟨_,rfl⟩) fun h=>?_
 have hm:=Int.emod_nonneg k (b:=(ns.length:Int)) (by lia)
 have hm2:=Int.emod_lt_of_pos k (b:=(ns.length:Int)) (by lia)
 refine⟨by lia,M7 hm (by simpa using hm2) fun d _ hd=>?_⟩
 obtain⟨c,_,rfl⟩:=List.mem_map.mp hd
 array_get_dec
 exact⟨⟨by lia,by lia⟩,_,rfl⟩
def InR (vs sz:List Int):Prop:=vs.length=sz.length/\∀ (i:Nat) (v z:Int),vs[i]?=some v->sz[i]?=some z->0<=v/\v < z
theorem Hc (c:Int) (sz:List Int) (hn:sz.length<=60) (hp:∀ z∈sz,0 < z/\z < 1000):W (Gn [.int c,.lst (sz.map .int)]) fun d=>∃ vs:List Int,d=.lst (vs.map .int)/\InR vs sz:=by
 unfold Gn Afu
 rw[A1]
 array_get_dec
 refine⟨⟨by lia,by lia⟩,Hy (fun k e m=>∃ (vs:List Int) (g:Int) (u v:Option D),m=[.lst (vs.map .int)]/\e=[some (.int c),some (.lst (sz.map .int)),some (.ref 0),some (.int g),u,v]/\vs.length=k/\∀ (i:Nat) (v z:Int),vs[i]?=some v->sz[i]?=some z->0<=v/\v < z) ?_ ?_ ⟨[],_,_,_,rfl,rfl,rfl,fun i v z h=>by cases h⟩⟩
 ·rintro k e m hk ⟨vs,g,u,v,rfl,rfl,hv,hr⟩
  refine⟨trivial,?_⟩
  have hk':k < sz.length:=by simpa using hk
  have hz:=hp _ (Ar4 hk')
  have b1:=Int.emod_nonneg c (b:=1000003) (by decide)
  have b2:=Int.emod_lt_of_pos c (b:=1000003) (by decide)
  have app:∀ (w g':Int) {u v:Option D},0<=w->w < sz[k]->vs.length < 1000000/\∃ (vs_1:List Int) (g:Int) (u_1 v_1:Option D),[MObj.lst (vs.map D.int++[D.int w])]=[MObj.lst (vs_1.map D.int)]/\[some (D.int c),some (D.lst (sz.map D.int)),some (D.ref 0),some (D.int g'),u,v]=[some (D.int c),some (D.lst (sz.map D.int)),some (D.ref 0),some (D.int g),u_1,v_1]/\vs_1.length=k+1/\∀ (i:Nat) (v z:Int),vs_1[i]?=some v->sz[i]?=some z->0<=v/\v < z:=fun w g' u v h1 h2=>by
   refine⟨by lia,vs++[w],g',u,v,by simp,rfl,by simp[hv],fun i x z hx hz=>?_⟩
   by_cases hi:i < vs.length
   ·rw[Aq3 hi] at hx
    exact hr i x z hx hz
   ·have hi2:=(List.getElem?_eq_some_iff.mp hx).1
    rw[Aqv,Arm] at hi2
    have e:i=vs.length:=by lia
    subst e
    rw[Are (Aqo _)] at hx
    simp at hx
    subst hx
    rw[hv,Aqu hk'] at hz
    cases hz
    exact⟨h1,h2⟩
  simp_arith[Dh hk']
  refine⟨.inl ⟨by lia,by lia⟩,.inr ⟨by lia,by lia⟩,cK.dec (fun _=>⟨hz.1,?_⟩) fun _=>⟨hz.1,?_⟩⟩
  ·obtain⟨a1,a2⟩:=app (g % sz[k]) (g / sz[k]) (Int.emod_nonneg _ (by lia)) (Int.emod_lt_of_pos _ hz.1)
   exact⟨a1,⟨hz.1,by lia⟩,a2⟩
  ·obtain⟨a1,a2⟩:=app _ (g / sz[k]) (Int.emod_nonneg _ (by lia)) (Int.emod_lt_of_pos _ hz.1)
   exact⟨a1,⟨hz.1,by lia⟩,a2⟩
 ·rintro e m ⟨vs,g,u,v,rfl,rfl,hv,hr⟩
  refine⟨trivial,?_⟩
  simp_arith[Ab fun _=>A6]
  exact⟨vs,rfl,by lia,hr⟩
theorem Ait {α:Type}{x y z w v:α}{l:List α}{Q:α->Prop}:W (atI (x::y::z::w::v::l) 4) Q=Q v:=by
 rw[show atI (x::y::z::w::v::l) 4=some v by unfold atI ixN;rw[Aqx (by decide),Aqx (by simp<;>lia)];rfl,Ac]
theorem Aiu {α:Type}{x y z w v u:α}{l:List α}{Q:α->Prop}:W (atI (x::y::z::w::v::u::l) 5) Q=Q u:=by
 rw[show atI (x::y::z::w::v::u::l) 5=some u by unfold atI ixN;rw[Aqx (by decide),Aqx (by simp<;>lia)];rfl,Ac]
theorem six {vs:List Int} (h:InR vs [3,3,4,4,7,7]):∃ a b c d e f:Int,vs=[a,b,c,d,e,f]/\(0<=d/\d < 4)/\(0<=e/\e < 7)/\(0<=f/\f < 7)/\0<=a/\0<=b/\0<=c:=by
 obtain⟨hl,h⟩:=h
 match vs,hl with
 |[a,b,c,d,e,f],_=>exact⟨a,b,c,d,e,f,rfl,h 3 d 4 rfl rfl,h 4 e 7 rfl rfl,h 5 f 7 rfl rfl,(h 0 a 3 rfl rfl).1,(h 1 b 3 rfl rfl).1,(h 2 c 4 rfl rfl).1⟩
theorem Ajs {d:D} (h:d∈[D.int 0,D.int 1,D.int 10,D.str (Str.ofString "a"),D.str (Str.ofString "ab"),D.str (Str.ofString "b"),D.str (Str.ofString "zz")]):∃ m:Mark,d=m.d/\m.pos:=by
 simp only[Ark,Aq7,or_false] at h
 rcases h with rfl|rfl|rfl|rfl|rfl|rfl|rfl
 ·exact⟨.n 0,rfl,by simp[Mark.pos]⟩
 ·exact⟨.n 1,rfl,by simp[Mark.pos]⟩
 ·exact⟨.n 10,rfl,by simp[Mark.pos]⟩
 ·exact⟨.s _,rfl,trivial⟩
 ·exact⟨.s _,rfl,trivial⟩
 ·exact⟨.s _,rfl,trivial⟩
 ·exact⟨.s _,rfl,trivial⟩
theorem Te (vs:List Int) (h:InR vs [3,3,4,4,7,7]):W (Jw [.lst (vs.map .int)]) fun d=>∃ y:Mk,d=y.d/\y.ms.length<=2/\Pos y:=by
 obtain⟨a,b,c,g,e,f,rfl,hg,he,hf,pa,pb,pc⟩:=six h
 unfold Jw Af2
 rw[A1]
 simp_arith[Ait,Aiu]
 refine M7 hg.1 (by simpa using hg.2) fun d _ hd=>?_
 obtain⟨n,rfl⟩:∃ n:Int,d=.int n:=by
  simp only[Ark,Aq7,or_false] at hd
  rcases hd with rfl|rfl|rfl|rfl<;>exact⟨_,rfl⟩
 have fin:∀ t:Int,0<=t->W (atI [D.int 0,D.int 1,D.int 10,D.str (Str.ofString "a"),D.str (Str.ofString "ab"),D.str (Str.ofString "b"),D.str (Str.ofString "zz")] e) fun x=>W (atI [D.int 0,D.int 1,D.int 10,D.str (Str.ofString "a"),D.str (Str.ofString "ab"),D.str (Str.ofString "b"),D.str (Str.ofString "zz")] f) fun x_1=>W (B4 [] (D.tup [D.int t,D.int b,D.int c,D.tup (Ef [x,x_1] none (some n))])) fun d=>∃ y:Mk,d=y.d/\y.ms.length<=2/\Pos y:=fun t ht=>by
  refine M7 he.1 (by simpa using he.2) fun d1 _ hd1=>M7 hf.1 (by simpa using hf.2) fun d2 _ hd2=>?_
  obtain⟨m1,rfl,q1⟩:=Ajs hd1
  obtain⟨m2,rfl,q2⟩:=Ajs hd2
  have ec:Ef [m1.d,m2.d] none (some n)=(Ef [m1,m2] none (some n)).map Mark.d:=Ib (xs:=[m1,m2]) (f:=Mark.d)
  rw[ec]
  array_get_dec
  exact⟨⟨t,b,c,Ef [m1,m2] none (some n)⟩,rfl,Xi (xs:=[m1,m2]),ht,pb,pc,fun m hm=>by
   have:=Afg hm
   simp only[Ark,Aq7,or_false] at this
   rcases this with rfl|rfl
   ·exact q1
   ·exact q2⟩
 simp_arith[Ait,Aiu]
 exact cK.dec (fun _=>fin _ (by split<;>lia)) fun _=>fin _ (by lia)
theorem Abr (x:Mk) (hx:x.ms.length<=1000) {Q:D->Prop}:W (Ij [x.d]) Q=Q x.next.d:=W.eq <| by
 unfold Ij Af3
 rw[A1]
 unfold Mk.d
 array_get_dec
 refine cK.dec (fun h=>?_) fun h=>⟨by lia,?_⟩
 ·unfold Mk.next;rw[Aqx h];rfl
 ·unfold Mk.next;rw[Aq0 h];simp;rfl
def Zi (p:Pc):Prop:=p.1.ms.length<=1000/\∀ h,p.2=some h->h.ms.length<=1000
def Vw (ps:List Pc):Prop:=ps.Pairwise fun p q=>p.1.older q.1=true/\∃ h,p.2=some h/\h.older q.1=true
structure Sp (ps:List Pc):Prop where
 ok:Vw ps
 sm:∀ p∈ps,Zi p
 len:ps.length<=2
theorem Abw (x:Mk):x.next.ms.length<=x.ms.length+1:=by
 unfold Mk.next;split<;>simp
theorem sp1 {x:Mk} (hx:x.ms.length<=100):Sp [(x,none)]:=⟨Asu ..,fun p hp=>by rw[List.mem_singleton.mp hp];exact⟨by show x.ms.length<=_;lia,fun h e=>nomatch e⟩,by simp⟩
theorem sp2 {x y:Mk} (hx:x.ms.length<=100) (hy:y.ms.length<=200):Sp [(x,some y)]:=⟨Asu ..,fun p hp=>by rw[List.mem_singleton.mp hp];exact⟨by show x.ms.length<=_;lia,fun h e=>by cases e;lia⟩,by simp⟩
theorem Abj (x:Mk):W (Nz [x.d]) fun d=>∃ y:Mk,d=y.d/\y.ms.length<=1:=by
 unfold Nz Afv
 rw[A1]
 array_get_dec
 exact cK.dec (fun _=>⟨⟨x.a+1,0,0,[.n 0]⟩,rfl,by simp⟩) fun _=>cK.dec (fun _=>⟨⟨0,x.b+1,0,[.n 0]⟩,rfl,by simp⟩) fun _=>⟨⟨0,0,x.c+1,[.n 0]⟩,rfl,by simp⟩
theorem N8 (w:Int) (x:Mk) (hx:x.ms.length<=100) (px:Pos x):W (Xr [.int w,x.d]) fun d=>∃ ps:List Pc,d=.tup (ps.map pD)/\Sp ps:=by
 unfold Xr An1
 rw[A1]
 have nl:=Abw x
 simp_arith[Abr x (by lia)]
 refine cK.dec (fun _=>⟨[(x,none)],rfl,sp1 hx⟩) fun _=>cK.dec (fun _=>(Abj x).imp fun d ⟨y,e,hy⟩=>?_) fun _=>cK.dec (fun _=>⟨[(x,some ⟨x.a,x.b+1,0,[.n 0]⟩)],rfl,sp2 hx (by simp)⟩) fun _=>cK.dec (fun _=>⟨[(x,some x.next)],rfl,sp2 hx (by lia)⟩) fun _=>cK.dec (fun _=>⟨[(⟨0,0,0,[.n 0]⟩,none)],rfl,sp1 (by simp)⟩) fun _=>cK.dec (fun _=>?_) fun _=>⟨[(⟨0,0,0,[.n 0]⟩,some x.next)],rfl,sp2 (by simp) (by lia)⟩
 ·subst e
  array_get_dec
  exact⟨[(x,some y)],rfl,sp2 hx (by lia)⟩
 ·have eo:deq x.d (.tup [.int 0,.int 0,.int 0,.tup [.int 0]])=decide (x=old0):=Mk.deq x old0
  refine cK.mk (fun h=>⟨[(⟨0,0,0,[.n 0]⟩,some x),(x.next,none)],rfl,?_⟩) fun _=>⟨[(⟨0,0,0,[.n 0]⟩,some x.next)],rfl,sp2 (by simp) (by lia)⟩
  have hne:x≠old0:=fun z=>by subst z;rw[eo] at h;simp at h
  have ho:old0.older x=true:=by rw[Yn (fun z=>hne z.symm),N9 px.a px.b px.c px.ms];rfl
  refine⟨List.pairwise_cons.mpr ⟨fun q hq=>?_,Asu ..⟩,fun p hp=>?_,by simp⟩
  ·rw[List.mem_singleton.mp hq]
   exact⟨C0 ho (J5 x),x,rfl,J5 x⟩
  ·simp only[Ark,Aq7,or_false] at hp
   rcases hp with rfl|rfl
   ·exact⟨by simp,fun h e=>by cases e;lia⟩
   ·exact⟨by show x.next.ms.length<=_;lia,fun h e=>nomatch e⟩
noncomputable def titles:List Str:=[Str.ofString "a",Str.ofString "ab",Str.ofString "abc",Str.ofString "b",Str.ofString "part",Str.ofString "need",Str.ofString "zz",Str.ofString "abcdefgh"]
theorem Uk (k:Int) (h0:0<=k) (h1:k < 8):W (Ju [.int k]) fun d=>∃ t:Str,d=.str t/\t∈titles:=by
 unfold Ju Afw
 rw[A1]
 array_get_dec
 refine M7 h0 (by simpa using h1) fun d _ hd=>?_
 simp only[Ark,Aq7,or_false] at hd
 rcases hd with rfl|rfl|rfl|rfl|rfl|rfl|rfl|rfl<;>array_get_dec<;>exact⟨_,rfl,by simp[titles]⟩
abbrev Nd:=Str×List Pc
def nD (n:Nd):D:=.tup [.str n.1,.tup (n.2.map pD)]
theorem Bn (n:Nd):Bj (nD n)=true:=by
 unfold nD
 rw[A3,Am,Am,A9,Bh,A3,D9];rfl
theorem Lf {vs sz:List Int} (h:InR vs sz) (lo hi:Option Int):InR (Ef vs lo hi) (Ef sz lo hi):=by
 obtain⟨hl,h⟩:=h
 unfold Ef
 rw[hl]
 refine⟨by rw[Asb,Asb,As5,As5,hl],fun i v z hv hz=>?_⟩
 have h1:=(List.getElem?_eq_some_iff.mp hv).1
 rw[Asb] at h1
 rw[List.getElem?_take_of_lt (by lia),List.getElem?_drop] at hv hz
 exact h _ v z hv hz
theorem Lo {x:D} (hx:Bj x=true) (hd:dep x<=50) {z:List D} (hz:A7 z=true) {m:MH}{Q:D->Prop}:W (Gs x (.lst z) m) Q=Q (.bl !(z.any fun d=>deq d x)):=by
 have e1:Ci m x=some x:=Jg hx
 have e2:Ci m (.lst z)=some (.lst z):=by
  unfold Ci
  simp only
  rw[Aqx (by rw[By];exact hz)]
 have e:Gs x (.lst z) m=some (.bl !(z.any fun d=>deq d x)):=by
  unfold Gs inO
  simp only[e1,e2,Ar2]
  rw[show sq [] (D.lst z)=some z from rfl]
  simp only[Ar2]
  rw[Aqx hd]
  rfl
 rw[e,Ac]
theorem Aaj {t:Str}{z:List D} (hz:A7 z=true) {m:MH}{Q:D->Prop}:W (Gs (.str t) (.lst z) m) Q=Q (.bl !(z.any fun d=>deq d (.str t))):=Lo Bh (by rw[Cz];lia) hz
abbrev P8:List Int:=[8,7,3,3,4,4,7,7]
theorem Aor {n k:Nat} (hn:n<=4) (hk:k < n):(E4 P8 n)[8 * k]?=some 8/\(E4 P8 n)[8 * k+1]?=some 7/\Ef (E4 P8 n) (some ((8 * k+2:Nat):Int)) (some ((8 * k+8:Nat):Int))=[3,3,4,4,7,7]:=by
 have:(n=1/\k=0)\/(n=2/\k=0)\/(n=2/\k=1)\/(n=3/\k=0)\/(n=3/\k=1)\/(n=3/\k=2)\/(n=4/\k=0)\/(n=4/\k=1)\/(n=4/\k=2)\/(n=4/\k=3):=by lia
 rcases this with ⟨rfl,rfl⟩|⟨rfl,rfl⟩|⟨rfl,rfl⟩|⟨rfl,rfl⟩|⟨rfl,rfl⟩|⟨rfl,rfl⟩|⟨rfl,rfl⟩|⟨rfl,rfl⟩|⟨rfl,rfl⟩|⟨rfl,rfl⟩<;>decide
theorem Tq (ow:Str) (vs:List Int) (n:Nat) (hn:n<=4) (h:InR vs (E4 P8 n)):W (Jv [.str ow,.lst (vs.map .int)]) fun d=>∃ ns:List Nd,d=.tup (ns.map nD)/\(∀ n∈ns,Sp n.2)/\ns.length<=4:=by
 have hlen:vs.length=8 * n:=by rw[h.1,Ja];rfl
 unfold Jv Afx
 rw[A1]
 array_get_dec
 refine⟨⟨by lia,by lia⟩,Hy (fun k e m=>∃ (ns:List Nd) (u v:Option D),m=[.lst (ns.map nD)]/\e=[some (.str ow),some (.lst (vs.map .int)),some (.ref 0),u,v]/\ns.length<=k/\∀ n∈ns,Sp n.2) ?_ ?_ ⟨[],_,_,rfl,rfl,Aqo _,fun _ h=>absurd h (by simp)⟩⟩
 ·rintro k e m hk ⟨ns,u,v,rfl,rfl,hns,hsp⟩
  refine⟨trivial,?_⟩
  have hk':k < n:=by lia
  obtain⟨p0,p1,p2⟩:=Aor hn hk'
  have i0:8 * k < vs.length:=by lia
  have i1:8 * k+1 < vs.length:=by lia
  have b0:=h.2 (8 * k) vs[8 * k] 8 (Aqu i0) p0
  have e0:(8:Int) * (k:Int)=((8 * k:Nat):Int):=by lia
  have e1:((8 * k:Nat):Int)+1=((8 * k+1:Nat):Int):=by lia
  have e2:((8 * k:Nat):Int)+2=((8 * k+2:Nat):Int):=by lia
  have e8:((8 * k:Nat):Int)+8=((8 * k+8:Nat):Int):=by lia
  simp_arith[e0,e1,e2,e8,Dh i0,Dh i1]
  refine (Uk _ b0.1 b0.2).imp fun d ⟨t,e,ht⟩=>?_
  subst e
  simp_arith[e0,e1,e2,e8,Dh i0,Dh i1]
  have stay:∃ (ns_1:List Nd) (u v:Option D),[MObj.lst (ns.map nD)]=[MObj.lst (ns_1.map nD)]/\[some (D.str ow),some (D.lst (vs.map D.int)),some (D.ref 0),some (D.int k),some (D.str t)]=[some (D.str ow),some (D.lst (vs.map D.int)),some (D.ref 0),u,v]/\ns_1.length<=k+1/\∀ n∈ns_1,Sp n.2:=⟨ns,_,_,rfl,rfl,by lia,hsp⟩
  refine cK.mk (fun _=>⟨by lia,Bg (fun n=>.str n.1) (fun n hn=>?_) ?_⟩) fun _=>stay
  ·unfold nD
   array_get_dec
  rw[Aaj (Bi (Ab fun _=>Bh))]
  array_get_dec
  refine cK.mk (fun _=>(Te _ (by rw[<- p2];exact Lf h _ _)).imp fun d ⟨y,e,hy,py⟩=>?_) fun _=>stay
  subst e
  array_get_dec
  refine (N8 _ y (by lia) py).imp fun d ⟨ps,e,hps⟩=>?_
  subst e
  refine⟨by lia,ns++[(t,ps)],_,_,by simp[nD],rfl,by simp;lia,fun n hn=>?_⟩
  rcases List.mem_append.mp hn with h|h
  ·exact hsp n h
  ·rw[List.mem_singleton.mp h];exact hps
 ·rintro e m ⟨ns,u,v,rfl,rfl,hns,hsp⟩
  refine⟨trivial,?_⟩
  simp_arith[Ab Bn]
  exact⟨ns,rfl,hsp,by lia⟩
structure En where
 nm:Str
 mv:Mk
 nd:List Nd
structure EnOk (e:En):Prop where
 nm:e.nm∈titles
 ms:e.mv.ms.length<=2
 pos:Pos e.mv
 sp:∀ n∈e.nd,Sp n.2
 len:e.nd.length<=4
def kD (e:En):D:=.tup [.str e.nm,e.mv.d]
def eD (e:En):D:=.tup [.str e.nm,e.mv.d,.tup (e.nd.map nD)]
theorem Im (e:En):Bj (kD e)=true:=by
 unfold kD
 rw[A3,Am,Am,A9,Bh,e.mv.pure];rfl
theorem Bv (e:En):Bj (eD e)=true:=by
 unfold eD
 rw[A3,Am,Am,Am,A9,Bh,e.mv.pure,A3,Ab Bn];rfl
theorem Tc (e:En):dep (kD e)<=3:=by
 unfold kD
 rw[Cr]
 have:E2 [D.str e.nm,e.mv.d]<=2:=Cd fun d hd=>by
  simp only[Ark,Aq7,or_false] at hd
  rcases hd with rfl|rfl
  ·rw[Cz];lia
  ·exact e.mv.dep
 lia
theorem Adr (a b:En):deq (kD a) (kD b)=decide (a.nm=b.nm/\a.mv=b.mv):=by
 unfold kD
 rw[Ck,Ck,Em,Cs,Mk.deq]
 by_cases h1:a.nm=b.nm<;>by_cases h2:a.mv=b.mv<;>simp[h1,h2]
theorem Ap3 {α:Type}{x y z:α}:Ef [x,y,z] none (some 2)=[x,y]:=rfl
abbrev Z32:List Int:=[8,3,3,4,4,7,7,4]++E4 P8 3
theorem Zs {m:Int} (h0:0<=m) (h1:m < 4):Ef Z32 (some 8) (some (8+8 * m))=E4 P8 m.toNat:=by
 have:m=0\/m=1\/m=2\/m=3:=by lia
 rcases this with rfl|rfl|rfl|rfl<;>decide
theorem Abd (c:Int):W (N0 [.int c]) fun d=>∃ e:En,d=eD e/\EnOk e:=by
 unfold N0 Afy
 rw[A1]
 array_get_dec
 refine⟨by decide,by decide,?_⟩
 refine (Hc c Z32 (by decide) (by decide)).imp fun d ⟨vs,e,hv⟩=>?_
 subst e
 have hlen:vs.length=32:=hv.1
 have i0:0 < vs.length:=by lia
 have i7:7 < vs.length:=by lia
 have b0:=hv.2 0 vs[0] 8 (Aqu i0) rfl
 have b7:=hv.2 7 vs[7] 4 (Aqu i7) rfl
 have c0:(0:Int)=((0:Nat):Int):=rfl
 have w0:∀ {Q:D->Prop},W (atI (vs.map D.int) 0) Q=Q (.int vs[0]):=Dh (k:=0) i0
 have w7:∀ {Q:D->Prop},W (atI (vs.map D.int) 7) Q=Q (.int vs[7]):=Dh (k:=7) i7
 simp_arith[w0,w7,Ab fun _=>A6]
 refine (Uk _ b0.1 b0.2).imp fun d ⟨t,e,ht⟩=>?_
 subst e
 refine (Te _ (by have:=Lf hv (some 1) (some 7);rwa [show Ef Z32 (some 1) (some 7)=[3,3,4,4,7,7] by decide] at this)).imp fun d ⟨y,e,hy,py⟩=>?_
 subst e
 array_get_dec
 refine (Tq t _ vs[7].toNat (by lia) (by rw[<- Zs b7.1 b7.2];exact Lf hv _ _)).imp fun d ⟨ns,e,hsp,hln⟩=>?_
 subst e
 simp_arith[Ab Bn]
 exact⟨⟨t,y,ns⟩,rfl,ht,hy,py,hsp,hln⟩
def Dst (a b:En):Prop:=¬ (a.nm=b.nm/\a.mv=b.mv)
structure Sh (es:List En):Prop where
 ok:∀ e∈es,EnOk e
 len:es.length<=40
 dst:es.Pairwise Dst
theorem Xo {e:En}{Q:D->Prop}:W (oSl (eD e) none (some 2)) Q=Q (kD e):=by
 unfold eD kD
 rw[Jq,Ap3]
theorem J8 (ns:List Int) (hl:ns.length<=63) (f:Int) (hf:0<=f) (hf2:f < 1000) (n:Int) (h0:0<=n) (h1:n<=40) (vd:Option D):W (Gj [some (.kl (ns.map .int)),some (.int f),vd,some (.int n),none,none,none] []) (Ane fun d=>∃ es:List En,d=.tup (es.map eD)/\Sh es):=by
 unfold Gj
 array_get_dec
 refine⟨⟨by lia,by lia⟩,Hy (fun k e m=>∃ (es:List En) (u v:Option D),m=[.lst (es.map eD)]/\e=[some (.kl (ns.map .int)),some (.int f),vd,some (.int n),some (.ref 0),u,v]/\(∀ e∈es,EnOk e)/\es.length<=k/\es.Pairwise Dst) ?_ ?_ ⟨[],_,_,rfl,rfl,(fun _ h=>nomatch h),Aqo _,.nil⟩⟩
 ·rintro k e m hk ⟨es,u,v,rfl,rfl,h1,h2,h3⟩
  refine⟨trivial,?_⟩
  array_get_dec
  refine (Oy ns hl _ (by lia) (by lia)).imp fun d ⟨c2,e⟩=>?_
  subst e
  array_get_dec
  refine (Abd c2).imp fun d ⟨en,e,hen⟩=>?_
  subst e
  simp_arith[Xo]
  refine⟨by lia,Bg kD (fun e he=>?_) ?_⟩
  ·simp_arith[Xo]
  rw[Lo (Im en) (by have:=Tc en;lia) (Bi (Ab Im))]
  array_get_dec
  refine cK.mk (fun h=>⟨by lia,es++[en],_,_,by simp,rfl,fun e he=>?_,by simp;lia,?_⟩) fun _=>⟨es,_,_,rfl,rfl,h1,by lia,h3⟩
  ·rcases List.mem_append.mp he with h'|h'
   ·exact h1 e h'
   ·rw[List.mem_singleton.mp h'];exact hen
  ·refine List.pairwise_append.mpr ⟨h3,Asu ..,fun a ha b hb=>?_⟩
   rw[List.mem_singleton.mp hb]
   intro hab
   have h':((es.map kD).any fun d=>deq d (kD en))=false:=by simpa using h
   have:=List.any_eq_false.mp h' (kD a) (List.mem_map.mpr ⟨a,ha,rfl⟩)
   rw[Adr,Art hab] at this
   exact this rfl
 ·rintro e m ⟨es,u,v,rfl,rfl,h1,h2,h3⟩
  refine⟨trivial,?_⟩
  simp_arith[Ab Bv]
  exact⟨es,rfl,h1,by lia,h3⟩
theorem Acw (ns:List Int) (hl:ns.length<=63) (f:Int) (hf:0<=f) (hf2:f < 1000):W (N1 [.kl (ns.map .int),.int f]) fun d=>∃ es:List En,d=.tup (es.map eD)/\Sh es:=by
 unfold N1 Afz
 rw[A1]
 array_get_dec
 refine (Oy ns hl 0 (by decide) (by decide)).imp fun d ⟨c,e⟩=>?_
 subst e
 array_get_dec
 refine⟨by simp[A7,By],(Hc c [16,10] (by decide) (by decide)).imp fun d ⟨vs,e,hv⟩=>?_⟩
 subst e
 have hlen:vs.length=2:=hv.1
 have i0:0 < vs.length:=by lia
 have i1:1 < vs.length:=by lia
 have b1:=hv.2 1 vs[1] 10 (Aqu i1) rfl
 have w0:∀ {Q:D->Prop},W (atI (vs.map D.int) 0) Q=Q (.int vs[0]):=Dh (k:=0) i0
 have w1:∀ {Q:D->Prop},W (atI (vs.map D.int) 1) Q=Q (.int vs[1]):=Dh (k:=1) i1
 simp_arith[w0,w1,Ab fun _=>A6]
 exact cK.dec (fun _=>J8 ns hl f hf hf2 40 (by decide) (by decide) _) fun _=>J8 ns hl f hf hf2 vs[1] (by lia) (by lia) _
theorem Gr (m:Mark) {Q:D->Prop}:W (Xs [m.d]) Q=Q m.rk:=W.eq <| by
 unfold Xs An2
 rw[A1]
 cases m<;>simp only[Mark.d]<;>array_get_dec<;>rfl
theorem Y9 (x:Mk) (h:x.ms.length<=1000) {Q:D->Prop}:W (Jx [x.d]) Q=Q x.rk:=W.eq <| by
 unfold Jx Af6
 rw[A1]
 unfold Mk.d
 array_get_dec
 refine cK.mk (fun h1=>⟨by lia,Bg Mark.rk (fun m hm=>?_) ?_⟩) fun h1=>⟨by lia,Bg Mark.rk (fun m hm=>?_) ?_⟩
 ·simp_arith[Gr]
 ·simp_arith[Ab Mark.rk_pure]
  unfold Mk.rk
  rw[Aq0]
  intro h;rw[h] at h1;simp at h1
 ·simp_arith[Gr]
 ·simp_arith[Ab Mark.rk_pure]
  unfold Mk.rk
  rw[Aqx]
  simpa using h1
theorem Il (x y:Mk) (hx:x.ms.length<=1000) (hy:y.ms.length<=1000) {Q:D->Prop}:W (Uu [x.d,y.d]) Q=Q (.bl (x.older y)):=W.eq <| by
 unfold Uu An3
 rw[A1]
 have d1:=Mk.rk_dep x
 have d2:=Mk.rk_dep y
 simp_arith[Y9 x hx,Y9 y hy,Mk.rk_pure,Mk.rk_lt,Ac]
 lia
theorem R9 {m l:Mk}:inP m (l,none)=!m.older l:=by simp[inP]
theorem Ta {m l h:Mk}:inP m (l,some h)=(!m.older l&&m.older h):=by simp[inP]
theorem Aa0 {m:Mk}{ps:List Pc} (h:∀ (i:Nat) (p:Pc),ps[i]?=some p->m.older p.1=true):ps.any (inP m)=false:=by
 rw[List.any_eq_false]
 intro p hp
 obtain⟨i,hi⟩:=As6 hp
 unfold inP
 rw[h i p hi];simp
theorem Ai7 {m:Mk}{ps:List Pc}{n:Nat} (hn:n < ps.length) (ho:Vw ps) (h1:m.older ps[n].1=false) (h2:∀ (i:Nat) (p:Pc),n < i->ps[i]?=some p->m.older p.1=true):ps.any (inP m)=inP m ps[n]:=by
 rw[Asf,List.any_eq_true]
 constructor
 ·rintro ⟨p,hp,h⟩
  obtain⟨i,hi⟩:=As6 hp
  obtain⟨hl,he⟩:=List.getElem?_eq_some_iff.mp hi
  rcases Nat.lt_trichotomy i n with h3|h3|h3
  ·obtain⟨_,z,hz,h4⟩:=List.pairwise_iff_getElem.mp ho i n hl hn h3
   rw[he] at hz
   unfold inP at h
   rw[hz,Aq1] at h
   have h5:=C0 h.2 h4
   rw[h1] at h5;cases h5
  ·subst h3;rw[he];exact h
  ·unfold inP at h
   rw[h2 i p h3 hi] at h;simp at h
 ·exact fun h=>⟨_,Ar4 hn,h⟩
theorem Agd (m:Mk) (ps:List Pc) (hm:m.ms.length<=1000) (hp:∀ p∈ps,Zi p) (hl:ps.length<=900) (ho:Vw ps) {Q:D->Prop}:W (Xx [m.d,.tup (ps.map pD)]) Q=Q (.bl (ps.any (inP m))):=W.eq <| by
 unfold Xx An9
 rw[A1]
 array_get_dec
 refine Lz (fun k e w=>∃ (f b:Nat) (u v:Option D),k=b - f/\f<=b/\b<=ps.length/\w=[]/\e=[some m.d,some (.tup (ps.map pD)),some (.int f),some (.int b),u,v]/\(∀ (i:Nat) (p:Pc),i < f->ps[i]?=some p->m.older p.1=false)/\∀ (i:Nat) (p:Pc),b<=i->ps[i]?=some p->m.older p.1=true) ?_ (k:=ps.length) (by lia) ⟨0,ps.length,_,_,rfl,Arl _,Aqo _,rfl,rfl,fun i p h=>absurd h (Nat.not_lt_zero _),fun i p h e=>by rw[Ar6 h] at e;cases e⟩
 rintro k e w ⟨f,b,u,v,rfl,hfb,hbl,rfl,rfl,h1,h2⟩
 array_get_dec
 refine cK.dec (fun h3=>?_) fun h3=>?_
 ·have h3:f < b:=by lia
  have hmid:(f+b) / 2 < ps.length:=by lia
  have e2:((f:Int)+b) / 2=(((f+b) / 2:Nat):Int):=by lia
  have hs:=hp _ (Ar4 hmid)
  simp_arith[e2,Dh hmid,Il m ps[(f+b) / 2].1 hm hs.1]
  refine cK.mk (fun h4=>⟨_,?_,f,(f+b) / 2,_,_,rfl,by lia,by lia,rfl,h1,fun i p hi hq=>?_⟩) fun h4=>⟨_,?_,(f+b) / 2+1,b,_,_,rfl,by lia,hbl,rfl,fun i p hi hq=>?_,h2⟩
  ·lia
  ·obtain⟨hl',he⟩:=List.getElem?_eq_some_iff.mp hq
   rcases Nat.eq_or_lt_of_le hi with h5|h5
   ·subst h5;rw[<- he];exact h4
   ·have h6:=(List.pairwise_iff_getElem.mp ho _ i hmid hl' h5).1
    rw[he] at h6
    exact C0 h4 h6
  ·lia
  ·obtain⟨hl',he⟩:=List.getElem?_eq_some_iff.mp hq
   rcases Nat.lt_succ_iff_lt_or_eq.mp hi with h5|h5
   ·have h6:=(List.pairwise_iff_getElem.mp ho i _ hl' hmid h5).1
    rw[he] at h6
    cases h7:m.older p.1 with
    |false=>rfl
    |true=>have h8:=C0 h7 h6;rw[h4] at h8;cases h8
   ·subst h5;rw[<- he];exact h4
 ·have hfe:f=b:=by lia
  subst hfe
  array_get_dec
  refine cK.dec (fun h5=>?_) fun h5=>?_
  ·have h5:f=0:=by lia
   subst h5
   rw[Aa0 fun i p hq=>h2 i p (Arl _) hq]
  ·have hf:f - 1 < ps.length:=by lia
   have e3:(f:Int) - 1=((f - 1:Nat):Int):=by lia
   have h6:m.older ps[f - 1].1=false:=h1 (f - 1) _ (by lia) (Aqu hf)
   have h7:=Ai7 hf ho h6 fun i p hi hq=>h2 i p (by lia) hq
   have hs:=hp _ (Ar4 hf)
   simp_arith[e3,Dh hf]
   rw[h7]
   generalize ps[f - 1]=q at h6 hs
   obtain⟨l,h⟩:=q
   cases h with
   |none =>
    simp_arith[R9,h6]
   |some h =>
    have e2:=@Il m h hm (hs.2 h rfl)
    simp_arith[Ta,h6]
    simp only[oD]
    simp_arith[e2]
def rk2 (x:Mk):D:=.tup [.int x.a,.int x.b,.int x.c,.int (if x.ms=[] then 1 else 0),.lst (x.ms.map Mark.rk)]
theorem Zd (x y:Mk):ltD (rk2 x) (rk2 y)=some (x.older y):=by
 have h1:deq (.lst (x.ms.map Mark.rk)) (.lst (y.ms.map Mark.rk))=deq (.tup (x.ms.map Mark.rk)) (.tup (y.ms.map Mark.rk)):=by rw[R6 Mark.rk_deq,L6 Mark.rk_deq]
 have h2:ltD (.lst (x.ms.map Mark.rk)) (.lst (y.ms.map Mark.rk))=ltD (.tup (x.ms.map Mark.rk)) (.tup (y.ms.map Mark.rk)):=by rw[ltD,ltD]
 rw[<- Mk.rk_lt]
 unfold rk2 Mk.rk
 rw[Mg,Mg]
 simp only[Gq,h1,h2]
theorem Ant {ds:List D}{m:MH}{Q:D->Prop}:W (B4 m (.tup ds)) Q=W (Dg m ds) fun es=>Q (.tup es):=by
 rw[B4,W_bind];congr 1;funext es;exact Ac
theorem Jz (x:Mk) (hx:x.ms.length<=1000) {Q:D->Prop}:W (Gp [x.d]) Q=Q (rk2 x):=W.eq <| by
 unfold Gp Af7
 rw[A1]
 array_get_dec
 refine De (fun rest e m=>∃ dn v,dn++rest=x.ms/\m=[.lst (dn.map Mark.rk)]/\e=[some x.d,some (.ref 0),v]) ?_ ?_ ⟨[],_,rfl,rfl,rfl⟩
 ·rintro w rest e m ⟨dn,v,hd,rfl,rfl⟩
  refine⟨trivial,?_⟩
  have ld:dn.length < x.ms.length:=by rw[<- hd];simp
  cases w with
  |n i =>
   simp only[Mark.d]
   array_get_dec
   exact⟨by lia,dn++[.n i],_,by rw[<- hd];simp,by simp[Mark.rk],rfl⟩
  |s t =>
   simp only[Mark.d]
   array_get_dec
   exact⟨by lia,dn++[.s t],_,by rw[<- hd];simp,by simp[Mark.rk],rfl⟩
 ·rintro e m ⟨dn,v,hd,rfl,rfl⟩
  refine⟨trivial,?_⟩
  rw[Arc] at hd
  subst hd
  array_get_dec
  rw[Ant]
  simp_arith[Ab Mark.rk_pure]
  unfold rk2
  by_cases h:x.ms=[]<;>simp[h]
theorem Ze (x:Mk):By (rk2 x)=true:=by
 unfold rk2
 have:A7 (x.ms.map Mark.rk)=true:=Bi (Ab Mark.rk_pure)
 simp[By,A7,this]
theorem Pm (x:Mk):dep (rk2 x)<=3:=by
 unfold rk2
 rw[Cr]
 have h1:E2 (x.ms.map Mark.rk)<=1:=Cd fun d hd=>by
  obtain⟨m,_,rfl⟩:=List.mem_map.mp hd
  exact Mark.rk_dep m
 have:E2 [D.int x.a,D.int x.b,D.int x.c,D.int (if x.ms=[] then 1 else 0),D.lst (x.ms.map Mark.rk)]<=2:=Cd fun d hd=>by
  simp only[Ark,Aq7,or_false] at hd
  rcases hd with rfl|rfl|rfl|rfl|rfl
  ·rw[Bt];lia
  ·rw[Bt];lia
  ·rw[Bt];lia
  ·rw[Bt];lia
  ·rw[dep];lia
 lia
theorem Ae7 {x:Mk}{m:MH}{Q:D->Prop}:W (Ci m (rk2 x)) Q=Q (rk2 x):=by
 have e:Ci m (rk2 x)=some (rk2 x):=by
  have h:=Ze x
  unfold rk2 at h ⊢
  unfold Ci
  simp only
  rw[Aqx h]
 rw[e,Ac]
theorem Abq (m:Mk) (ps:List Pc) (hm:m.ms.length<=1000) (hp:∀ p∈ps,Zi p) {Q:D->Prop}:W (N3 [m.d,.tup (ps.map pD)]) Q=Q (.bl (ps.any (inP m))):=W.eq <| by
 unfold N3 Af4
 rw[A1]
 array_get_dec
 refine De (fun rest e w=>w=[]/\(∀ p∈rest,Zi p)/\rest.any (inP m)=ps.any (inP m)/\∃ v w,e=[some m.d,some (.tup (ps.map pD)),v,w]) ?_ ?_ ⟨rfl,hp,rfl,_,_,rfl⟩
 ·rintro ⟨l,h⟩ rest e w ⟨rfl,hs,ha,v,w,rfl⟩
  refine⟨trivial,?_⟩
  have s1:=hs _ (Aqy ..)
  have s2:∀ p∈rest,Zi p:=fun p hp=>hs p (Aqr _ hp)
  rw[Arx] at ha
  have d1:=Pm m
  have d2:=Pm l
  have yes:inP m (l,h)=true->D.bl true=D.bl (ps.any (inP m)):=fun z=>by rw[<- ha,z];rfl
  have no:inP m (l,h)=false->rest.any (inP m)=ps.any (inP m):=fun z=>by rw[<- ha,z];rfl
  cases h with
  |none =>
   simp_arith[Jz m hm,Jz l s1.1,Ae7,Zd,Ac]
   rw[R9] at yes no
   refine⟨by lia,?_⟩
   exact cK.mk (fun z=>yes z) fun z=>⟨s2,no z,_,_,rfl⟩
  |some h =>
   have d3:=Pm h
   simp_arith[Jz m hm,Jz l s1.1,Ae7,Zd,Ac]
   simp only[oD]
   simp_arith[Jz m hm,Jz h (s1.2 h rfl),Ae7,Zd,Ac]
   rw[Ta] at yes no
   refine⟨by lia,cK.mk (fun z=>⟨by lia,cK.mk (fun z'=>yes (by rw[z,z'];rfl)) fun z'=>⟨s2,no (by rw[z,z'];rfl),_,_,rfl⟩⟩) fun z=>⟨s2,no (by rw[z];rfl),_,_,rfl⟩⟩
 ·rintro e w ⟨rfl,hs,ha,v,w,rfl⟩
  refine⟨trivial,?_⟩
  array_get_dec
  rw[<- ha];rfl
end K43a
end S_UA
section S_UC
namespace K43a
open PySem L2 L2.ML
set_option hygiene false in
local macro_rules|`(tactic| simp_arith[$a,*])=>`(tactic| ((try dsimp only[mp1,mp2,mp3,ln1,ln2,ln3,List.replicate,Nat.reduceAdd,Nat.reduceSub]);simp only[↓Aa2,↓Aa1,↓Aar,↓Aas,↓Aat,↓Aau,↓Z2,↓Z3,↓Z4,↓Z5,↓Ma,↓L9,↓A1,↓My,↓Mz,↓Mw,↓Mx,↓Nb,↓Rk,↓Rm,↓Lq,↓Vq,↓Xc,↓Aal,↓Aix,↓Aiw,↓Amo,↓Gm,↓Dr,↓Ek,↓Et,↓P0,↓P5,↓G7,↓E8,↓Zy,↓M9,↓Rr,↓Rv,↓Rt,↓Px,↓Z8,↓P1,↓Lj,↓P2,↓Lm,↓Z6,↓Z9,↓Z7,↓Ln,↓Zz,↓Jq,↓P4,↓Acx,↓Ub,↓Py,↓Pz,↓Na,↓Ll,↓Cm,↓Cj,↓Pt,↓Pu,↓Rq,↓Rf,↓Pw,↓Re,↓Aai,↓Aac,↓Amn,↓Amv,↓Ee,↓Aag,↓Aaf,↓Ra,↓P9,↓P7,↓Ro,↓Aae,↓Aad,↓Dq,↓B9,↓B8,↓Lr,↓Lu,↓Lx,↓Lw,↓Lv,↓Aam,↓Aan,↓Aao,↓C4,↓D3,↓D4,↓Aav,↓Aax,↓Aay,↓Ry,↓Rx,↓Rw,↓Anl,↓Anj,↓Ank,↓Ly,↓Acu,↓Ri,↓Hv,↓Hu,↓Ht,↓Hw,↓D5,↓Ai2,↓Amg,↓Ai3,↓Amw,↓Amp,↓Amh,↓Ai4,↓Amx,↓Amq,↓Aiv,↓Ai5,↓Amy,↓Amr,↓Ami,↓Am5,↓Amz,↓Ams,↓Amj,↓Am6,↓Am0,↓Amt,↓Amk,↓Am7,↓Am1,↓Aml,↓Am8,↓Am2,↓Am9,↓Am3,↓Amu,↓Ana,↓Am4,↓Amm,↓Aap,↓Z0,↓Aaq,↓Aak,↓Z1,Asi,Asz,Vq,Xc,↓Ow,↓Rn,↓Rp,↓Rj,↓Tp,↓Rg,↓G9,↓Rh,↓M8,↓Li,↓Pv,↓P3,↓T9,↓Rb,↓Aah,↓Ru,↓Nc,↓Nf,Ara,Arz,Aqw,Ata,Ar5,Aqs,Ar9,List.replicate,Atf,Atg,Nat.reduceAdd,Nat.reduceSub,Nat.zero_add,true_and,Bu,Cs,Nn,Bt,Cz,R4,Ic,D7,decide_true,decide_false,Ha,Eu,Asw,Aro,Ar2,_root_.id,Nc,Nf,Aaw,Ls,Du,A6,Bh,A3,A9,Am,Bx,Bool.and_self,Bool.and_true,Bool.true_and,Mk.pure,Mark.pure,Di,↓Lh,↓M6,↓Ul,↓Vx,Anc,↓Hk,↓Hj,↓Hi,↓Hl,Int.reduceEq,Int.reduceLT,Int.reduceLE,Int.reduceAdd,Int.reduceSub,Int.reduceMul,Int.reduceToNat,Int.reducePow,Int.reduceNeg,Int.reduceMod,Int.reduceDiv,Nat.reduceLeDiff,Nat.reduceMul,Nat.reduceEqDiff,Nat.reducePow,Nat.reduceLT,and_true,and_self,true_or,or_true,Aqo,Int.le_refl,Arl,↓Hg,↓Hf,↓He,↓Hh,Mu,Arp,Ath,Ew,Tg,L7,Mark.deq,Mk.deq,Int.zero_add,↓Th,↓Ti,↓Tj,↓Tn,Arx,List.any_nil,Asa,List.all_nil,Bool.false_or,Bool.true_or,As8,Atj,↓Hx,↓Ho,↓Hn,↓Hm,↓Hq,Tf,Iu,Gf,D9,↓Tx,↓Tz,↓T1,↓Ts,Atc,Atb,Ast,Asd,Ib,bne_self_eq_false,↓Aaz,↓P6,↓Ae4,↓V7,↓V6,↓Afa,↓Ae9,↓Ae6,↓V2,↓V3,$a,*]))
set_option hygiene false in
local macro_rules|`(tactic| array_get_dec)=>`(tactic| try simp_arith[true_and])
theorem Ca {α:Type}{g:FG}{t:FB}{fe:FE}{m:MH}{env:A2}{h:α->D} (p:α->Bool) (F:α->D):∀ {xs:List α}{Q:List D->Prop},(∀ x∈xs,W (g (h x) env) fun e1=>W (t e1 m) fun ok=>ok=p x/\(ok=true->W (fe e1 m) fun y=>y=F x))->Q ((xs.filter p).map F)->W (Gb g t fe m env (xs.map h)) Q
 |[],Q,_,q=>by rw[Ar9,Cm];exact q
 |x::xs,Q,k,q=>by
  rw[Aqs,Cj]
  refine (k x (Aqy ..)).imp fun e1 h1=>h1.imp fun ok h2=>?_
  obtain⟨h2,h3⟩:=h2
  have ih:=fun {Q:List D->Prop}=>Ca (g:=g) (t:=t) (fe:=fe) (m:=m) (env:=env) (h:=h) p F (xs:=xs) (Q:=Q) fun e he=>k e (Aqr _ he)
  constructor
  ·intro hk
   refine (h3 hk).imp fun y hy=>?_
   subst hy
   refine ih ?_
   rw[List.filter_cons,Aqx (h2 ▸ hk),Aqs] at q
   exact q
  ·intro hk
   refine ih ?_
   rw[List.filter_cons,Aq0 (by rw[<- h2,hk];decide)] at q
   exact q
theorem Adi {e:En}{m:MH}{Q:D->Prop}:W (oIx (eD e) (.int 0) m) Q=Q (.str e.nm):=by unfold eD;rw[Ee,Lh]
theorem Ajh {e:En}{m:MH}{Q:D->Prop}:W (oIx (eD e) (.int 1) m) Q=Q e.mv.d:=by unfold eD;rw[Ee,M6]
theorem Xn {e:En}{m:MH}{Q:D->Prop}:W (oIx (eD e) (.int 2) m) Q=Q (.tup (e.nd.map nD)):=by unfold eD;rw[Ee,Ul]
theorem Adh (e:En) (t:Str) (x:Mk):deq (kD e) (.tup [.str t,x.d])=decide (e.nm=t/\e.mv=x):=Adr e ⟨t,x,[]⟩
noncomputable def isE (t:Str) (x:Mk) (e:En):Bool:=decide (e.nm=t/\e.mv=x)
def G6 (es:List En) (t:Str) (x:Mk):List Nd:=((es.find? (isE t x)).map En.nd).getD []
theorem Ir (es:List En) (t:Str) (x:Mk) {Q:D->Prop}:W (Uv [.tup (es.map eD),.str t,x.d]) Q=Q (.tup ((G6 es t x).map nD)):=W.eq <| by
 unfold Uv An4
 rw[A1]
 array_get_dec
 refine De (fun rest e m=>m=[]/\rest.find? (isE t x)=es.find? (isE t x)/\∃ v,e=[some (.tup (es.map eD)),some (.str t),some x.d,v]) ?_ ?_ ⟨rfl,rfl,_,rfl⟩
 ·rintro r rest e m ⟨rfl,h1,v,rfl⟩
  refine⟨trivial,?_⟩
  simp_arith[Xo,Xn,Im,Adh]
  rw[Ar0] at h1
  refine⟨by have:=Tc r;lia,cK.dec (fun h=>?_) fun h=>?_⟩
  ·have hb:isE t x r=true:=Art h
   rw[hb] at h1
   simp_arith[Ab Bn]
   unfold G6
   rw[<- h1];rfl
  ·have hb:isE t x r=false:=Arh h
   rw[hb] at h1
   exact⟨h1,_,rfl⟩
 ·rintro e m ⟨rfl,h1,v,rfl⟩
  refine⟨trivial,?_⟩
  array_get_dec
  unfold G6
  rw[<- h1];rfl
abbrev Bk:=Str×Mk
def bD (b:Bk):D:=.tup [.str b.1,b.2.d]
theorem Bb (b:Bk):Bj (bD b)=true:=by unfold bD;rw[A3,Am,Am,A9,Bh,b.2.pure];rfl
abbrev Wn:=Str×Nd
def wD (n:Wn):D:=.tup [.str n.1,.str n.2.1,.tup (n.2.2.map pD)]
theorem Dc (n:Wn):Bj (wD n)=true:=by
 unfold wD
 rw[A3,Am,Am,Am,A9,Bh,Bh,A3,D9];rfl
def atw (es:List En) (ws:List Nd) (bk:List Bk):List Wn:=ws.map (fun n=>(Str.ofString "",n))++bk.flatMap fun b=>(G6 es b.1 b.2).map fun n=>(b.1,n)
theorem Hr (es:List En) (h:Sh es) (t:Str) (x:Mk):(G6 es t x).length<=4:=by
 unfold G6
 cases e:es.find? (isE t x) with
 |none=>simp
 |some r=>exact (h.ok r (List.mem_of_find?_eq_some e)).len
theorem H0 (es:List En) (h:Sh es) (ws:List Nd) (hw:ws.length<=4) (bk:List Bk):(atw es ws bk).length<=4+4 * bk.length:=by
 unfold atw
 rw[Aqv,Aqw]
 have:(bk.flatMap fun b=>(G6 es b.1 b.2).map fun n=>(b.1,n)).length<=4 * bk.length:=by
  induction bk with
  |nil=>simp
  |cons b bk ih=>rw[List.flatMap_cons,Aqv,Aqw,Ara];have:=Hr es h b.1 b.2;lia
 lia
theorem Vz {ds zs:List D}{Q:List D->Prop}:W (Agk ds [.lst zs]) Q=(ds.length+zs.length<=1000000/\Q (ds++zs)):=G8
theorem Uo (es:List En) (h:Sh es) (ws:List Nd) (hw:ws.length<=4) (bk:List Bk) (hb:bk.length<=40) {Q:D->Prop}:W (Xq [.tup (es.map eD),.tup (ws.map nD),.tup (bk.map bD)]) Q=Q (.lst ((atw es ws bk).map wD)):=W.eq <| by
 unfold Xq An0
 rw[A1]
 array_get_dec
 refine⟨by lia,Bg (fun n=>wD (Str.ofString "",n)) (fun n hn=>?_) ?_⟩
 ·unfold nD
  array_get_dec
  rfl
 array_get_dec
 have hat:=H0 es h ws hw bk
 refine De (fun rest e m=>∃ (dn:List Bk) (u v:Option D),dn++rest=bk/\m=[.lst ((atw es ws dn).map wD)]/\e=[some (.tup (es.map eD)),some (.tup (ws.map nD)),some (.tup (bk.map bD)),some (.ref 0),u,v]) ?_ ?_ ⟨[],none,none,rfl,by simp[atw],rfl⟩
 ·rintro ⟨t,x⟩ rest e m ⟨dn,u,v,hd,rfl,rfl⟩
  refine⟨trivial,?_⟩
  unfold bD
  have hl:=Hr es h t x
  have hd2:=H0 es h ws hw dn
  have ld:dn.length<=bk.length:=by rw[<- hd];simp
  simp_arith[Ab Bv,Ir,Vz]
  refine⟨by lia,Bg (fun n=>wD (t,n)) (fun n hn=>?_) ?_⟩
  ·unfold nD
   array_get_dec
   rfl
  simp_arith[Vz]
  refine⟨by lia,dn++[(t,x)],_,_,by rw[<- hd];simp,?_,rfl⟩
  simp[atw,List.flatMap_append]
 ·rintro e m ⟨dn,u,v,hd,rfl,rfl⟩
  rw[Arc] at hd
  subst hd
  refine⟨trivial,?_⟩
  simp_arith[Ab Dc]
noncomputable def tkn (bk:List Bk) (t:Str):Option Mk:=(bk.find? fun b=>b.1=t).map (·.2)
def kept (bk:List Bk) (n:Nd):Bool:=match tkn bk n.1 with
 |some x=>n.2.any (inP x)
 |none=>false
structure BkOk (bk:List Bk):Prop where
 nd:(bk.map (·.1)).Nodup
 sm:∀ b∈bk,b.2.ms.length<=1000
 len:bk.length<=40
theorem Yg (bk:List Bk):A7 (bk.map fun b=>b.2.d)=true:=Bi (Ab fun b=>b.2.pure)
theorem Uz (bk:List Bk) (hb:BkOk bk) (n:Wn) (hn:Sp n.2.2) {Q:D->Prop}:W (Nt [wD n,.dks (bk.map (·.1)) (bk.map fun b=>b.2.d)]) Q=Q (.bl (kept bk n.2)):=W.eq <| by
 unfold Nt Afn wD
 rw[A1]
 have e1:decide (n.2.1∈bk.map (·.1))=(bk.find? fun b=>b.1=n.2.1).isSome:=Abt (fun b:Bk=>b.1) bk n.2.1
 have e2:Vt (bk.map (·.1)) (bk.map fun b=>b.2.d) n.2.1=(bk.find? fun b=>b.1=n.2.1).map fun b=>b.2.d:=R8 (fun b:Bk=>b.1) (fun b=>b.2.d) bk n.2.1
 simp_arith[e1,e2]
 cases q:bk.find? fun b=>b.1=n.2.1 with
 |none =>
  have k:kept bk n.2=false:=by unfold kept tkn;rw[q];rfl
  simp only[Ast,Option.map_none]
  simp_arith[k]
 |some b =>
  have hm:b∈bk:=List.mem_of_find?_eq_some q
  have k:kept bk n.2=n.2.2.any (inP b.2):=by unfold kept tkn;rw[q];rfl
  simp only[Asd,Option.map_some]
  have hl:=hn.len
  simp_arith[Ac,Agd b.2 n.2.2 (hb.sm b hm) hn.sm (by lia) hn.ok,k]
def brk (es:List En) (ws:List Nd) (bk:List Bk):List Wn:=(atw es ws bk).filter fun n=>!kept bk n.2
theorem Adc {es:List En} (h:Sh es) {ws:List Nd} (hw:∀ n∈ws,Sp n.2) {bk:List Bk}{n:Wn} (hn:n∈atw es ws bk):Sp n.2.2:=by
 unfold atw at hn
 rcases List.mem_append.mp hn with hn|hn
 ·obtain⟨z,hz,rfl⟩:=List.mem_map.mp hn
  exact hw z hz
 ·obtain⟨b,_,hn⟩:=List.mem_flatMap.mp hn
  obtain⟨z,hz,rfl⟩:=List.mem_map.mp hn
  unfold G6 at hz
  cases e:es.find? (isE b.1 b.2) with
  |none=>rw[e] at hz;simp at hz
  |some r =>
   rw[e] at hz
   exact (h.ok r (List.mem_of_find?_eq_some e)).sp z hz
structure WtOk (ws:List Nd):Prop where
 sp:∀ n∈ws,Sp n.2
 len:ws.length<=4
theorem Vy {bk:List Bk} (hb:(bk.map (·.1)).Nodup) {m:MH}{Q:D->Prop}:W (J3 [.tup (bk.map bD)] m) Q=Q (.dks (bk.map (·.1)) (bk.map fun b=>b.2.d)):=by
 have e:Gw (bk.map bD)=some (bk.map fun b=>(b.1,b.2.d)):=Vb (fun b:Bk=>b.1) (fun b:Bk=>b.2.d) bk
 rw[Ae5,e,Ac,Abb (fun b:Bk=>b.1) (fun b:Bk=>b.2.d) hb]
theorem Ans {n:Wn}{m:MH}{Q:D->Prop}:W (M3 m (wD n)) Q=Q (wD n):=by
 have e:M3 m (wD n)=some (wD n):=by show Ci m (wD n)=_;exact Jg (Dc n)
 rw[e,Ac]
theorem Xb (es:List En) (h:Sh es) (ws:List Nd) (hw:WtOk ws) (bk:List Bk) (hb:BkOk bk) {Q:D->Prop}:W (Ny [.tup (es.map eD),.tup (ws.map nD),.tup (bk.map bD)]) Q=Q (.lst ((brk es ws bk).map wD)):=W.eq <| by
 unfold Ny Aft
 rw[A1]
 have hl:=H0 es h ws hw.len bk
 have hbl:=hb.len
 simp_arith[Vy hb.nd,Ab Bv,Ab Bn,Ab Bb,Uo es h ws hw.len bk hbl,Ab Dc]
 refine⟨by lia,Ca (fun n=>!kept bk n.2) wD (fun n hn=>?_) ?_⟩
 ·simp_arith[Ans,Yg,Uz bk hb n (Adc h hw.sp hn)]
  exact fun _=>trivial
 ·simp_arith[Ab Dc]
  rfl
theorem Dj {α:Type} [DecidableEq α]:∀ {l m:List α},l.Nodup->(∀ x∈l,x∈m)->l.length<=m.length
 |[],_,_,_=>Arl _
 |x::l,m,h,hs=>by
  obtain⟨h1,h2⟩:=List.nodup_cons.mp h
  have hx:=hs x (Aqy ..)
  have ih:=Dj (l:=l) (m:=m.erase x) h2 fun y hy=>(List.mem_erase_of_ne (fun e=>h1 (by rw[<- e];exact hy))).mpr (hs y (Aqr _ hy))
  rw[List.length_erase_of_mem hx] at ih
  have:=List.length_pos_of_mem hx
  rw[Ara]
  lia
abbrev Z33:List Int:=[5]++E4 P8 4
theorem Zt {m:Int} (h0:0<=m) (h1:m < 5):Ef Z33 (some 1) (some (1+8 * m))=E4 P8 m.toNat:=by
 have:m=0\/m=1\/m=2\/m=3\/m=4:=by lia
 rcases this with rfl|rfl|rfl|rfl|rfl<;>decide
theorem Ac6 (c:Int):W (N2 [.int c]) fun d=>∃ ws:List Nd,d=.tup (ws.map nD)/\WtOk ws:=by
 unfold N2 Af0
 rw[A1]
 array_get_dec
 refine⟨by decide,by decide,?_⟩
 refine (Hc c Z33 (by decide) (by decide)).imp fun d ⟨vs,e,hv⟩=>?_
 subst e
 have hlen:vs.length=33:=hv.1
 have i0:0 < vs.length:=by lia
 have b0:=hv.2 0 vs[0] 5 (Aqu i0) rfl
 have w0:∀ {Q:D->Prop},W (atI (vs.map D.int) 0) Q=Q (.int vs[0]):=Dh (k:=0) i0
 have hz:=Zt b0.1 b0.2
 simp_arith[w0,Ab fun _=>A6]
 refine (Tq (Str.ofString "") _ vs[0].toNat (by lia) (by rw[<- hz];exact Lf hv _ _)).imp fun d ⟨ns,e,hsp,hln⟩=>?_
 subst e
 simp_arith[Ab Bn]
 exact⟨ns,rfl,hsp,hln⟩
noncomputable def sel (es:List En) (t:Str):List Mk:=(es.filter fun e=>decide (e.nm=t)).map En.mv
theorem Ah1 {es:List En}{t:Str}{x:Mk} (h:x∈sel es t):∃ e∈es,e.nm=t/\e.mv=x:=by
 unfold sel at h
 obtain⟨e,he,rfl⟩:=List.mem_map.mp h
 have:=List.mem_filter.mp he
 exact⟨e,this.1,by simpa using this.2,rfl⟩
theorem Ah0 (es:List En) (t:Str):(sel es t).length<=es.length:=by
 unfold sel
 rw[Aqw]
 exact List.length_filter_le ..
structure BkOf (es:List En) (bk:List Bk):Prop where
 nd:(bk.map (·.1)).Nodup
 of:∀ b∈bk,∃ e∈es,e.nm=b.1/\e.mv=b.2
theorem BkOf.ok {es:List En} (h:Sh es) {bk:List Bk} (b:BkOf es bk):BkOk bk where
 nd:=b.nd
 sm:=fun x hx=>by obtain⟨e,he,_,h2⟩:=b.of x hx;have:=(h.ok e he).ms;rw[<- h2];lia
 len:=by
  have:(bk.map (·.1)).length<=titles.length:=Dj b.nd fun t ht=>by
   obtain⟨x,hx,rfl⟩:=List.mem_map.mp ht
   obtain⟨e,he,h1,_⟩:=b.of x hx
   rw[<- h1];exact (h.ok e he).nm
  rw[Aqw] at this
  have e8:titles.length=8:=rfl
  lia
theorem Alp {k:Nat} (hk:k < 8):(E4 [(4:Int),12] 8)[2 * k]?=some 4/\(E4 [(4:Int),12] 8)[2 * k+1]?=some 12:=by
 have:k=0\/k=1\/k=2\/k=3\/k=4\/k=5\/k=6\/k=7:=by lia
 rcases this with rfl|rfl|rfl|rfl|rfl|rfl|rfl|rfl<;>decide
theorem Afb (c:Int) (es:List En) (h:Sh es):W (N4 [.int c,.tup (es.map eD)]) fun d=>∃ bk:List Bk,d=.tup (bk.map bD)/\BkOf es bk:=by
 unfold N4 Af5
 rw[A1]
 array_get_dec
 refine⟨by decide,?_⟩
 refine (Hc c (E4 [4,12] 8) (by decide) (by decide)).imp fun d ⟨vs,e,hv⟩=>?_
 subst e
 have hlen:vs.length=16:=hv.1
 have h40:=h.len
 simp_arith[Ab fun _=>A6]
 refine⟨by lia,Bg (fun e=>.str e.nm) (fun e he=>?_) ?_⟩
 ·simp_arith[Adi]
 refine Ae8 En.nm (by lia) ?_
 generalize hT:TX.sortT (es.map En.nm)=ts
 have hnd:ts.Nodup:=by rw[<- hT];exact TX.sortT_nd _
 have hmm:∀ t∈ts,∃ e∈es,e.nm=t:=fun t ht=>by
  rw[<- hT] at ht
  exact List.mem_map.mp (TX.sortT_mem.mp ht)
 have hl8:ts.length<=8:=Dj (m:=titles) hnd fun t ht=>by
  obtain⟨e,he,rfl⟩:=hmm t ht
  exact (h.ok e he).nm
 array_get_dec
 refine⟨⟨by lia,by lia⟩,Hy (fun k e m=>∃ (bk:List Bk) (u v:Option D),m=[.lst (bk.map bD)]/\e=[some (.int c),some (.tup (es.map eD)),some (.lst (vs.map .int)),some (.lst (ts.map .str)),some (.ref 0),u,v]/\(bk.map (·.1)).Sublist (ts.take k)/\bk.length<=k/\∀ b∈bk,∃ e∈es,e.nm=b.1/\e.mv=b.2) ?_ ?_ ⟨[],_,_,rfl,rfl,List.nil_sublist _,Aqo _,fun _ h=>absurd h (by simp)⟩⟩
 ·rintro k e m hk ⟨bk,u,v,rfl,rfl,h1,h2,h3⟩
  refine⟨trivial,?_⟩
  have hk':k < ts.length:=by simpa using hk
  have hk8:k < 8:=by lia
  obtain⟨p0,p1⟩:=Alp hk8
  have i0:2 * k < vs.length:=by lia
  have i1:2 * k+1 < vs.length:=by lia
  have e0:(2:Int) * (k:Int)=((2 * k:Nat):Int):=by lia
  have e1:((2 * k:Nat):Int)+1=((2 * k+1:Nat):Int):=by lia
  have b1:=hv.2 (2 * k+1) vs[2 * k+1] 12 (Aqu i1) p1
  have hs:=Ah0 es ts[k]
  obtain⟨e9,he9,hn9⟩:=hmm ts[k] (Ar4 hk')
  have hpos:0 < (sel es ts[k]).length:=by
   refine List.length_pos_of_mem (a:=e9.mv) ?_
   unfold sel
   exact List.mem_map.mpr ⟨e9,List.mem_filter.mpr ⟨he9,by simpa using hn9⟩,rfl⟩
  array_get_dec
  refine⟨by lia,Ca (fun e=>decide (e.nm=ts[k])) (fun e=>e.mv.d) (fun e he=>?_) ?_⟩
  ·simp_arith[Adi,Ajh,Dh hk']
   exact fun _=>trivial
  rw[show ((es.filter fun e=>decide (e.nm=ts[k])).map fun e=>e.mv.d)=(sel es ts[k]).map Mk.d by unfold sel;rw[As2];rfl]
  simp_arith[e0,e1,Dh i0,Dh i1,Dh hk']
  have stay:∀ u v:Option D,∃ (bk_1:List Bk) (u_1 v_1:Option D),[MObj.lst (bk.map bD)]=[MObj.lst (bk_1.map bD)]/\[some (D.int c),some (D.tup (es.map eD)),some (D.lst (vs.map D.int)),some (D.lst (ts.map D.str)),some (D.ref 0),u,v]=[some (D.int c),some (D.tup (es.map eD)),some (D.lst (vs.map D.int)),some (D.lst (ts.map D.str)),some (D.ref 0),u_1,v_1]/\(bk_1.map (·.1)).Sublist (ts.take (k+1))/\bk_1.length<=k+1/\∀ b∈bk_1,∃ e∈es,e.nm=b.1/\e.mv=b.2:=fun u v=>⟨bk,u,v,rfl,rfl,h1.trans (List.take_sublist_take_left (As9 k)),by lia,h3⟩
  refine cK.dec (fun _=>?_) fun _=>stay _ _
  have m0:=Int.emod_nonneg vs[2 * k+1] (b:=((sel es ts[k]).length:Int)) (by lia)
  have m1:=Int.emod_lt_of_pos vs[2 * k+1] (b:=((sel es ts[k]).length:Int)) (by lia)
  refine⟨by lia,M7 m0 (by simpa using m1) fun d _ hd=>?_⟩
  obtain⟨x,hx,rfl⟩:=List.mem_map.mp hd
  obtain⟨e',he',n1,n2⟩:=Ah1 hx
  array_get_dec
  refine⟨by lia,bk++[(ts[k],x)],_,_,by simp[bD],rfl,?_,by simp;lia,fun b hb=>?_⟩
  ·rw[Ary,List.take_add_one,Aqu hk']
   exact h1.append (List.Sublist.refl _)
  ·rcases List.mem_append.mp hb with hb|hb
   ·exact h3 b hb
   ·rw[List.mem_singleton.mp hb];exact⟨e',he',n1,n2⟩
 ·rintro e m ⟨bk,u,v,rfl,rfl,h1,h2,h3⟩
  refine⟨trivial,?_⟩
  simp_arith[Ab Bb]
  exact⟨bk,rfl,(h1.trans (List.take_sublist _ _)).nodup hnd,h3⟩
theorem sqA {M r:MH}{a:List D}{Q:List D->Prop}:W (sq (M++.lst a::r) (.ref M.length)) Q=Q a:=by
 have e:(M++MObj.lst a::r)[M.length]?=some (.lst a):=by simp
 have e2:sq (M++MObj.lst a::r) (.ref M.length)=some a:=by unfold sq;simp only[e]
 rw[e2,Ac]
theorem xpA {M:MH}{a:List D} (h:Av a=true) {Q:D->Prop}:W (B4 (M++[.lst a]) (.ref M.length)) Q=Q (.lst a):=by
 have e:(M++[MObj.lst a])[M.length]?=some (.lst a):=by simp
 have e2:B4 (M++[MObj.lst a]) (.ref M.length)=some (.lst a):=by rw[B4];simp only[e,h,if_true]
 rw[e2,Ac]
theorem J1 {n:Nd}{m:MH}{Q:D->Prop}:W (oIx (nD n) (.int 0) m) Q=Q (.str n.1):=by unfold nD;rw[Ee,Lh]
theorem Yf {n:Nd}{m:MH}{Q:D->Prop}:W (oIx (nD n) (.int 1) m) Q=Q (.tup (n.2.map pD)):=by unfold nD;rw[Ee,M6]
theorem Apj {n:Wn}{Q:D->Prop}:W (oSl (wD n) (some 1) none) Q=Q (nD n.2):=by
 unfold wD nD
 rw[Jq]
 rfl
theorem O5 (bk:List Bk) (hb:BkOk bk) (n:Nd) (hn:Sp n.2) {Q:D->Prop}:W (Ih [nD n,.tup (bk.map bD)]) Q=Q (.bl (kept bk n)):=W.eq <| by
 unfold Ih Afq
 rw[A1]
 array_get_dec
 refine De (fun rest e m=>m=[]/\(∀ b∈rest,b∈bk)/\(rest.find? fun b=>b.1=n.1)=(bk.find? fun b=>b.1=n.1)/\∃ u v,e=[some (nD n),some (.tup (bk.map bD)),u,v]) ?_ ?_ ⟨rfl,fun _ h=>h,rfl,_,_,rfl⟩
 ·rintro ⟨t,x⟩ rest e m ⟨rfl,h0,h1,u,v,rfl⟩
  refine⟨trivial,?_⟩
  have hx:=hb.sm (t,x) (h0 _ (Aqy ..))
  rw[Ar0] at h1
  unfold bD
  simp_arith[J1,Yf,Ab Gf,Abq x n.2 hx hn.sm]
  refine cK.dec (fun h=>?_) fun h=>?_
  ·simp only[h,decide_true] at h1
   unfold kept tkn
   rw[<- h1];rfl
  ·simp only[h,decide_false] at h1
   exact⟨fun b hb=>h0 b (Aqr _ hb),h1,_,_,rfl⟩
 ·rintro e m ⟨rfl,h0,h1,u,v,rfl⟩
  refine⟨trivial,?_⟩
  array_get_dec
  unfold kept tkn
  rw[<- h1];rfl
theorem Yq {es:List En} (hd:es.Pairwise Dst) (t:Str) (x:Mk):(es.filter (isE t x)).flatMap (fun e=>e.nd.map fun n=>(t,n))=(G6 es t x).map fun n=>(t,n):=by
 induction es with
 |nil=>rfl
 |cons e es ih =>
  obtain⟨h1,h2⟩:=List.pairwise_cons.mp hd
  rw[List.filter_cons]
  unfold G6
  rw[Ar0]
  cases q:isE t x e with
  |false=>exact ih h2
  |true =>
   have he:e.nm=t/\e.mv=x:=Arq q
   have:es.filter (isE t x)=[]:=List.filter_eq_nil_iff.mpr fun r hr hq=>by
    have hr':r.nm=t/\r.mv=x:=Arq hq
    exact h1 r hr ⟨he.1.trans hr'.1.symm,he.2.trans hr'.2.symm⟩
   simp[this]
theorem R7 {t:Str}{x:Mk}:∀ {pre:List En},(∀ e∈pre,e.nd.length<=4)->((pre.filter (isE t x)).flatMap fun e=>e.nd.map fun n=>(t,n)).length<=4 * pre.length
 |[],_=>by simp
 |e::pre,h=>by
  have ih:=R7 (t:=t) (x:=x) (pre:=pre) fun r hr=>h r (Aqr _ hr)
  have he:=h e (Aqy ..)
  rw[List.filter_cons,Ara]
  split
  ·rw[List.flatMap_cons,Aqv,Aqw];lia
  ·lia
theorem O4 (es:List En) (h:Sh es) (ws:List Nd) (hw:ws.length<=4) (bk:List Bk) (hb:bk.length<=40) {Q:D->Prop}:W (Xu [.tup (es.map eD),.tup (ws.map nD),.tup (bk.map bD)]) Q=Q (.lst ((atw es ws bk).map wD)):=W.eq <| by
 unfold Xu An6
 rw[A1]
 have h40:=h.len
 array_get_dec
 refine⟨by lia,Bg (fun n=>wD (Str.ofString "",n)) (fun n hn=>?_) ?_⟩
 ·simp_arith[J1,Yf]
  rfl
 array_get_dec
 refine De (fun rest e m=>∃ (M:MH) (dn:List Bk) (u v w:Option D),dn++rest=bk/\m=M++[.lst ((atw es ws dn).map wD)]/\e=[some (.tup (es.map eD)),some (.tup (ws.map nD)),some (.tup (bk.map bD)),some (.ref M.length),u,v,w]) ?_ ?_ ⟨[],[],none,none,none,rfl,by simp[atw],rfl⟩
 ·rintro ⟨t,x⟩ rest e m ⟨M,dn,u,v,w,hd,rfl,rfl⟩
  refine⟨trivial,?_⟩
  unfold bD
  have hl:=Hr es h t x
  have hd2:=H0 es h ws hw dn
  have ld:dn.length<=bk.length:=by rw[<- hd];simp
  array_get_dec
  refine De (fun rest' e m=>∃ (M:MH) (pre:List En) (w:Option D),pre++rest'=es/\m=M++[.lst ((atw es ws dn++(pre.filter (isE t x)).flatMap fun e=>e.nd.map fun n=>(t,n)).map wD)]/\e=[some (.tup (es.map eD)),some (.tup (ws.map nD)),some (.tup (bk.map bD)),some (.ref M.length),some (.str t),some x.d,w]) ?_ ?_ ⟨M,[],_,rfl,by simp,rfl⟩
  ·rintro r rest' e m ⟨M,pre,w,hp,rfl,rfl⟩
   refine⟨trivial,?_⟩
   have hr:r∈es:=by rw[<- hp];simp
   have hrl:=(h.ok r hr).len
   simp_arith[Xo,Xn,Im,Adh,sqA]
   refine⟨by have:=Tc r;lia,cK.dec (fun hq=>?_) fun hq=>?_⟩
   ·refine⟨by lia,Bg (fun n=>wD (t,n)) (fun n hn=>?_) ?_⟩
    ·simp_arith[J1,Yf]
     rfl
    simp_arith[sqA]
    have hpl:((pre.filter (isE t x)).flatMap fun e=>e.nd.map fun n=>(t,n)).length<=4 * pre.length:=R7 fun e he=>(h.ok e (by rw[<- hp];exact Aq8 _ he)).len
    have hpe:pre.length<=es.length:=by rw[<- hp];simp
    refine⟨by rw[Aqv];lia,M++[_],pre++[r],_,by rw[<- hp];simp,?_,rfl⟩
    have hf:isE t x r=true:=Art hq
    simp[List.filter_append,hf]
   ·refine⟨M,pre++[r],_,by rw[<- hp];simp,?_,rfl⟩
    have hf:isE t x r=false:=Arh hq
    simp[List.filter_append,hf]
  ·rintro e m ⟨M,pre,w,hp,rfl,rfl⟩
   rw[Arc] at hp
   subst hp
   refine⟨trivial,?_⟩
   array_get_dec
   refine⟨M,dn++[(t,x)],_,_,_,by rw[<- hd];simp,?_,rfl⟩
   rw[Yq h.dst]
   simp[atw,List.flatMap_append]
 ·rintro e m ⟨M,dn,u,v,w,hd,rfl,rfl⟩
  rw[Arc] at hd
  subst hd
  refine⟨trivial,?_⟩
  simp_arith[xpA (Ab Dc)]
theorem U4 (es:List En) (h:Sh es) (ws:List Nd) (hw:WtOk ws) (bk:List Bk) (hb:BkOk bk) {Q:D->Prop}:W (Nw [.tup (es.map eD),.tup (ws.map nD),.tup (bk.map bD)]) Q=Q (.lst ((brk es ws bk).map wD)):=W.eq <| by
 unfold Nw Afr
 rw[A1]
 have hl:=H0 es h ws hw.len bk
 have hbl:=hb.len
 simp_arith[Ab Bv,Ab Bn,Ab Bb,O4 es h ws hw.len bk hbl,Ab Dc]
 refine⟨by lia,Ca (fun n=>!kept bk n.2) wD (fun n hn=>?_) ?_⟩
 ·simp_arith[Apj,Bn,Ab Bb,O5 bk hb n.2 (Adc h hw.sp hn)]
  exact fun _=>trivial
 ·simp_arith[Ab Dc]
  rfl
theorem Ac0 (es:List En) (h:Sh es) (ws:List Nd) (hw:WtOk ws) (bk:List Bk) (hb:BkOk bk) {Q:D->Prop}:W (Xt [.tup (es.map eD),.tup (ws.map nD),.tup (bk.map bD)]) Q=Q (.bl (brk es ws bk).isEmpty):=W.eq <| by
 unfold Xt An5
 rw[A1]
 simp_arith[Ab Bv,Ab Bn,Ab Bb,Xb es h ws hw bk hb,Ab Dc]
 rw[Bool.not_not]
 cases brk es ws bk<;>rfl
theorem Aba {ds:List D}:deq (.lst ds) (.lst [])=ds.isEmpty:=by cases ds<;>rfl
theorem Amc (n:Wn):dep (wD n)<=5:=by
 unfold wD
 rw[Cr]
 have:E2 [D.str n.1,.str n.2.1,.tup (n.2.2.map pD)]<=4:=Cd fun d hd=>by
  simp only[Ark,Aq7,or_false] at hd
  rcases hd with rfl|rfl|rfl
  ·rw[Cz];lia
  ·rw[Cz];lia
  ·exact Agu n.2.2
 lia
theorem Anv (xs:List Wn):(dep (.lst (xs.map wD))<=60)=True:=by
 have h:E2 (xs.map wD)<=5:=Cd fun d hd=>by
  obtain⟨x,_,rfl⟩:=List.mem_map.mp hd
  exact Amc x
 rw[dep]
 simp
 lia
theorem Ade (x y:Bk):deq (bD x) (bD y)=decide (x=y):=by
 unfold bD
 rw[Ck,Ck,Em,Cs,Mk.deq]
 by_cases h1:x.1=y.1<;>by_cases h2:x.2=y.2<;>simp[h1,h2,Prod.ext_iff]
theorem Rz (b:Bk):dep (bD b)<=3:=by
 unfold bD
 rw[Cr]
 have:E2 [D.str b.1,b.2.d]<=2:=Cd fun d hd=>by
  simp only[Ark,Aq7,or_false] at hd
  rcases hd with rfl|rfl
  ·rw[Cz];lia
  ·exact b.2.dep
 lia
def snE (bk:List Bk) (e:En):En:=if (e.nm,e.mv)∈bk then ⟨e.nm,e.mv,e.nd.filter (kept bk)⟩ else e
theorem Uc (bk:List Bk) (e:En):(snE bk e).nm=e.nm:=by unfold snE;split<;>rfl
theorem On (bk:List Bk) (e:En):(snE bk e).mv=e.mv:=by unfold snE;split<;>rfl
theorem Zj (bk:List Bk) (e:En):(snE bk e).nd.Sublist e.nd:=by
 unfold snE
 split
 ·exact List.filter_sublist
 ·exact List.Sublist.refl _
theorem Alx {bk:List Bk}{e:En} (h:EnOk e):EnOk (snE bk e) where
 nm:=by rw[Uc];exact h.nm
 ms:=by rw[On];exact h.ms
 pos:=by rw[On];exact h.pos
 sp:=fun n hn=>h.sp n ((Zj bk e).subset hn)
 len:=by have:=(Zj bk e).length_le;have:=h.len;lia
theorem Apd {es:List En} (h:Sh es) (bk:List Bk):Sh (es.map (snE bk)) where
 ok:=fun e he=>by obtain⟨r,hr,rfl⟩:=List.mem_map.mp he;exact Alx (h.ok r hr)
 len:=by rw[Aqw];exact h.len
 dst:=by
  rw[List.pairwise_map]
  exact h.dst.imp fun {a b} hab=>by unfold Dst at hab ⊢;rw[Uc,Uc,On,On];exact hab
theorem Apc {es:List En}{bk:List Bk} (b:BkOf es bk):BkOf (es.map (snE bk)) bk where
 nd:=b.nd
 of:=fun x hx=>by
  obtain⟨e,he,h1,h2⟩:=b.of x hx
  exact⟨_,List.mem_map.mpr ⟨e,he,rfl⟩,by rw[Uc];exact h1,by rw[On];exact h2⟩
theorem inB {bk:List Bk}{t:Str}{x:Mk}:((bk.map bD).any fun d=>deq d (.tup [.str t,x.d]))=decide ((t,x)∈bk):=by
 rw[Asf,List.any_eq_true,Ash]
 constructor
 ·rintro ⟨d,hd,h⟩
  obtain⟨b,hb,rfl⟩:=List.mem_map.mp hd
  have h:deq (bD b) (bD (t,x))=true:=h
  rw[Ade] at h
  rw[<- Arq h];exact hb
 ·exact fun h=>⟨bD (t,x),List.mem_map.mpr ⟨_,h,rfl⟩,by show deq (bD (t,x)) (bD (t,x))=true;rw[Ade];simp⟩
theorem Ow {m:MH}{ds:List D}{Q:List D->Prop}:W (sq m (.tup ds)) Q=Q ds:=Ac
theorem Vi (es:List En) (h:Sh es) (ws:List Nd) (hw:WtOk ws) (bk:List Bk) (hb:BkOf es bk) {Q:D->Prop}:W (Xv [.tup (es.map eD),.tup (ws.map nD),.tup (bk.map bD)]) Q=Q (.tup [.tup ((es.map (snE bk)).map eD),.tup ((ws.filter (kept bk)).map nD)]):=W.eq <| by
 unfold Xv An7
 rw[A1]
 have hbo:=hb.ok h
 have h40:=h.len
 have hw4:=hw.len
 array_get_dec
 refine De (fun rest e m=>∃ (dn:List En) (u v w:Option D),dn++rest=es/\m=[.lst ((dn.map (snE bk)).map eD)]/\e=[some (.tup (es.map eD)),some (.tup (ws.map nD)),some (.tup (bk.map bD)),some (.ref 0),u,v,w]) ?_ ?_ ⟨[],none,none,none,rfl,rfl,rfl⟩
 ·rintro r rest e m ⟨dn,u,v,w,hd,rfl,rfl⟩
  refine⟨trivial,?_⟩
  have hr:r∈es:=by rw[<- hd];simp
  have ld:dn.length < es.length:=by rw[<- hd];simp
  have hro:=h.ok r hr
  have hrl:=hro.len
  have er:eD r=D.tup [D.str r.nm,r.mv.d,.tup (r.nd.map nD)]:=rfl
  simp_arith[er,Ab Bb,Ow,inB]
  refine⟨by have:=Rz (r.nm,r.mv);exact Arf this (by decide),cK.dec (fun hq=>?_) fun hq=>?_⟩
  ·refine⟨by lia,Ca (kept bk) nD (fun n hn=>?_) ?_⟩
   ·simp_arith[Bn,Ab Bb,O5 bk hbo n (hro.sp n hn)]
    exact fun _=>trivial
   refine⟨by lia,dn++[r],_,_,_,by rw[<- hd];simp,?_,rfl⟩
   simp[snE,hq,eD]
  ·refine⟨by lia,dn++[r],_,_,_,by rw[<- hd];simp,?_,rfl⟩
   simp[snE,hq,eD]
 ·rintro e m ⟨dn,u,v,w,hd,rfl,rfl⟩
  rw[Arc] at hd
  subst hd
  refine⟨trivial,?_⟩
  array_get_dec
  refine⟨by lia,Ca (kept bk) nD (fun n hn=>?_) ?_⟩
  ·simp_arith[Bn,Ab Bb,O5 bk hbo n (hw.sp n hn)]
   exact fun _=>trivial
  simp_arith[Ab Bv,Ab Bn]
theorem Zr {ws:List Nd} (h:WtOk ws) (p:Nd->Bool):WtOk (ws.filter p):=⟨fun n hn=>h.sp n (List.mem_filter.mp hn).1,by have:=List.length_filter_le p ws;have:=h.len;lia⟩
end K43a
end S_UC
section S_UG
namespace K43a
open PySem L2 L2.ML
set_option hygiene false in
local macro_rules|`(tactic| simp_arith[$a,*])=>`(tactic| ((try dsimp only[mp1,mp2,mp3,ln1,ln2,ln3,List.replicate,Nat.reduceAdd,Nat.reduceSub]);simp only[↓Aa2,↓Aa1,↓Aar,↓Aas,↓Aat,↓Aau,↓Z2,↓Z3,↓Z4,↓Z5,↓Ma,↓L9,↓A1,↓My,↓Mz,↓Mw,↓Mx,↓Nb,↓Rk,↓Rm,↓Lq,↓Vq,↓Xc,↓Aal,↓Aix,↓Aiw,↓Amo,↓Gm,↓Dr,↓Ek,↓Et,↓P0,↓P5,↓G7,↓E8,↓Zy,↓M9,↓Rr,↓Rv,↓Rt,↓Px,↓Z8,↓P1,↓Lj,↓P2,↓Lm,↓Z6,↓Z9,↓Z7,↓Ln,↓Zz,↓Jq,↓P4,↓Acx,↓Ub,↓Py,↓Pz,↓Na,↓Ll,↓Cm,↓Cj,↓Pt,↓Pu,↓Rq,↓Rf,↓Pw,↓Re,↓Aai,↓Aac,↓Amn,↓Amv,↓Ee,↓Aag,↓Aaf,↓Ra,↓P9,↓P7,↓Ro,↓Aae,↓Aad,↓Dq,↓B9,↓B8,↓Lr,↓Lu,↓Lx,↓Lw,↓Lv,↓Aam,↓Aan,↓Aao,↓C4,↓D3,↓D4,↓Aav,↓Aax,↓Aay,↓Ry,↓Rx,↓Rw,↓Anl,↓Anj,↓Ank,↓Ly,↓Acu,↓Ri,↓Hv,↓Hu,↓Ht,↓Hw,↓D5,↓Ai2,↓Amg,↓Ai3,↓Amw,↓Amp,↓Amh,↓Ai4,↓Amx,↓Amq,↓Aiv,↓Ai5,↓Amy,↓Amr,↓Ami,↓Am5,↓Amz,↓Ams,↓Amj,↓Am6,↓Am0,↓Amt,↓Amk,↓Am7,↓Am1,↓Aml,↓Am8,↓Am2,↓Am9,↓Am3,↓Amu,↓Ana,↓Am4,↓Amm,↓Aap,↓Z0,↓Aaq,↓Aak,↓Z1,Asi,Asz,Vq,Xc,↓Ow,↓Rn,↓Rp,↓Rj,↓Tp,↓Rg,↓G9,↓Rh,↓M8,↓Li,↓Pv,↓P3,↓T9,↓Rb,↓Aah,↓Ru,↓Nc,↓Nf,Ara,Arz,Aqw,Ata,Ar5,Aqs,Ar9,List.replicate,Atf,Atg,Nat.reduceAdd,Nat.reduceSub,Nat.zero_add,true_and,Bu,Cs,Nn,Bt,Cz,R4,Ic,D7,decide_true,decide_false,Ha,Eu,Asw,Aro,Ar2,_root_.id,Nc,Nf,Aaw,Ls,Du,A6,Bh,A3,A9,Am,Bx,Bool.and_self,Bool.and_true,Bool.true_and,Mk.pure,Mark.pure,Di,↓Lh,↓M6,↓Ul,↓Vx,Anc,↓Hk,↓Hj,↓Hi,↓Hl,Int.reduceEq,Int.reduceLT,Int.reduceLE,Int.reduceAdd,Int.reduceSub,Int.reduceMul,Int.reduceToNat,Int.reducePow,Int.reduceNeg,Int.reduceMod,Int.reduceDiv,Nat.reduceLeDiff,Nat.reduceMul,Nat.reduceEqDiff,Nat.reducePow,Nat.reduceLT,and_true,and_self,true_or,or_true,Aqo,Int.le_refl,Arl,↓Hg,↓Hf,↓He,↓Hh,Mu,Arp,Ath,Ew,Tg,L7,Mark.deq,Mk.deq,Int.zero_add,↓Th,↓Ti,↓Tj,↓Tn,Arx,List.any_nil,Asa,List.all_nil,Bool.false_or,Bool.true_or,As8,Atj,↓Hx,↓Ho,↓Hn,↓Hm,↓Hq,Tf,Iu,Gf,D9,↓Tx,↓Tz,↓T1,↓Ts,Atc,Atb,Ast,Asd,Ib,bne_self_eq_false,↓Aaz,↓P6,↓Lp,↓Aiz,↓Adb,↓Ada,↓Ac9,↓Ai6,↓Ae4,↓V7,↓V6,↓Afa,↓Ae9,↓Ae6,↓V2,↓V3,$a,*]))
set_option hygiene false in
local macro_rules|`(tactic| array_get_dec)=>`(tactic| try simp_arith[true_and])
theorem Zm {bk:List Bk} (hn:(bk.map (·.1)).Nodup) {t:Str}{x:Mk} (h:(t,x)∈bk):bk.find? (fun b=>b.1=t)=some (t,x):=by
 induction bk with
 |nil=>exact nomatch h
 |cons b bk ih =>
  rw[Aqs,List.nodup_cons] at hn
  rw[Ar0]
  rcases List.mem_cons.mp h with e|h
  ·rw[<- e];simp
  ·have:b.1≠t:=fun z=>hn.1 (List.mem_map.mpr ⟨(t,x),h,z.symm⟩)
   simp[this,ih hn.2 h]
noncomputable def nms (l:List Nd):List Str:=l.map (·.1)
inductive Rc (es:List En) (ws:List Nd) (bk:List Bk):Bk->Prop
 |base {b:Bk} (h:b∈bk) (w:b.1∈nms ws):Rc es ws bk b
 |step {b c:Bk} (r:Rc es ws bk b) (h:c∈bk) (w:c.1∈nms (G6 es b.1 b.2)):Rc es ws bk c
theorem Rc.mem {es:List En}{ws:List Nd}{bk:List Bk}{b:Bk} (h:Rc es ws bk b):b∈bk:=by
 cases h with
 |base h _=>exact h
 |step _ h _=>exact h
def Jst (es:List En) (ws:List Nd) (bk:List Bk) (t:Str):Prop:=t∈nms ws\/∃ b,Rc es ws bk b/\t∈nms (G6 es b.1 b.2)
theorem Jst.rc {es:List En}{ws:List Nd}{bk:List Bk}{t:Str}{x:Mk} (j:Jst es ws bk t) (h:(t,x)∈bk):Rc es ws bk (t,x):=by
 rcases j with j|⟨b,r,j⟩
 ·exact .base h j
 ·exact .step r h j
structure Dfs (es:List En) (ws:List Nd) (bk:List Bk) (ks left:List Str):Prop where
 nd:ks.Nodup
 ok:∀ t∈ks,∃ x,Rc es ws bk (t,x)
 jst:∀ t∈left,Jst es ws bk t
 wts:∀ t∈nms ws,t∈bk.map (·.1)->t∈left\/t∈ks
 nds:∀ b∈bk,b.1∈ks->∀ t∈nms (G6 es b.1 b.2),t∈bk.map (·.1)->t∈left\/t∈ks
theorem Dfs.len {es:List En}{ws:List Nd}{bk:List Bk}{ks left:List Str} (d:Dfs es ws bk ks left):ks.length<=bk.length:=by
 have:=Dj (m:=bk.map (·.1)) d.nd fun t ht=>by obtain⟨x,r⟩:=d.ok t ht;exact List.mem_map.mpr ⟨_,r.mem,rfl⟩
 simpa using this
theorem Dfs.all {es:List En}{ws:List Nd}{bk:List Bk}{ks:List Str} (d:Dfs es ws bk ks []) {b:Bk} (r:Rc es ws bk b):b.1∈ks:=by
 induction r with
 |base h w=>exact (d.wts _ w (List.mem_map.mpr ⟨_,h,rfl⟩)).resolve_left (by simp)
 |step r h w ih=>exact (d.nds _ r.mem ih _ w (List.mem_map.mpr ⟨_,h,rfl⟩)).resolve_left (by simp)
theorem Mh {l:List Str}{t x:Str} (hx:l[l.length - 1]?=some x) (h:t∈l):t∈l.dropLast\/t=x:=by
 have hne:l≠[]:=fun z=>by subst z;simp at h
 rw[<- List.dropLast_concat_getLast hne] at h
 rcases List.mem_append.mp h with h|h
 ·exact .inl h
 ·refine .inr ?_
  rw[List.mem_singleton.mp h]
  have:l[l.length - 1]?=some (l.getLast hne):=by rw[List.getLast_eq_getElem,Aqu]
  rw[this] at hx
  exact Arn hx
theorem Dfs.drop {es:List En}{ws:List Nd}{bk:List Bk}{ks left:List Str}{x:Str} (d:Dfs es ws bk ks left) (hx:left[left.length - 1]?=some x) (hn:x∉bk.map (·.1)\/x∈ks):Dfs es ws bk ks left.dropLast where
 nd:=d.nd
 ok:=d.ok
 jst:=fun t ht=>d.jst t ((List.dropLast_sublist _).subset ht)
 wts:=fun t ht hm=>by
  rcases d.wts t ht hm with h|h
  ·rcases Mh hx h with h|rfl
   ·exact .inl h
   ·exact .inr (hn.resolve_left fun z=>z hm)
  ·exact .inr h
 nds:=fun b hb hk t ht hm=>by
  rcases d.nds b hb hk t ht hm with h|h
  ·rcases Mh hx h with h|rfl
   ·exact .inl h
   ·exact .inr (hn.resolve_left fun z=>z hm)
  ·exact .inr h
theorem Dfs.add {es:List En}{ws:List Nd}{bk:List Bk}{ks left:List Str}{x:Str}{y:Mk} (d:Dfs es ws bk ks left) (hb:(bk.map (·.1)).Nodup) (hx:left[left.length - 1]?=some x) (hm:(x,y)∈bk) (hk:x∉ks):Dfs es ws bk (ks++[x]) (left.dropLast++nms (G6 es x y)):=by
 have hr:Rc es ws bk (x,y):=(d.jst x (Aq4 hx)).rc hm
 have up:∀ t,t∈left\/t∈ks->t∈left.dropLast++nms (G6 es x y)\/t∈ks++[x]:=fun t h=>by
  rcases h with h|h
  ·rcases Mh hx h with h|rfl
   ·exact .inl (Aq8 _ h)
   ·exact .inr (by simp)
  ·exact .inr (Aq8 _ h)
 refine⟨?_,fun t ht=>?_,fun t ht=>?_,fun t ht hm=>up t (d.wts t ht hm),fun b hb' hk' t ht hm'=>?_⟩
 ·rw[List.nodup_append]
  exact⟨d.nd,by simp,fun a ha c hc e=>hk (by rw[List.mem_singleton.mp hc] at e;rw[<- e];exact ha)⟩
 ·rcases List.mem_append.mp ht with h|h
  ·exact d.ok t h
  ·rw[List.mem_singleton.mp h];exact⟨y,hr⟩
 ·rcases List.mem_append.mp ht with h|h
  ·exact d.jst t ((List.dropLast_sublist _).subset h)
  ·exact .inr ⟨(x,y),hr,h⟩
 ·rcases List.mem_append.mp hk' with h|h
  ·exact up t (d.nds b hb' h t ht hm')
  ·have e:b.1=x:=List.mem_singleton.mp h
   have e2:=Zm hb hb'
   have e3:=Zm hb hm
   rw[e] at e2
   rw[e3] at e2
   have e4:y=b.2:=Asc Prod.snd (Arn e2)
   rw[e,<- e4] at ht
   exact .inl (Aq5 _ ht)
theorem Ack {ks:List Str}{vs:List D}{t:Str}{d:D} (h:t∉ks):Iy ks vs t d=(ks++[t],vs++[d]):=by unfold Iy;rw[Aq0 h]
theorem Bx (a b:List D):Av (a++b)=(Av a&&Av b):=by
 induction a with
 |nil=>rw[A9];rfl
 |cons d a ih=>rw[Ar5,Am,Am,ih,Bool.and_assoc]
theorem Vh (es:List En) (h:Sh es) (ws:List Nd) (hw:WtOk ws) (bk:List Bk) (hb:BkOf es bk):W (Nu [.tup (es.map eD),.tup (ws.map nD),.tup (bk.map bD)]) fun d=>∃ (ks:List Str) (vs:List D),d=.dks ks vs/\Dfs es ws bk ks []:=by
 unfold Nu Afo
 rw[A1]
 have hbl:=(hb.ok h).len
 have hw4:=hw.len
 simp_arith[Vy hb.nd,Lp]
 refine⟨by lia,Bg (fun n=>.str n.1) (fun n hn=>?_) ?_⟩
 ·unfold nD
  array_get_dec
 array_get_dec
 have dfs0:Dfs es ws bk [] (nms ws):=⟨List.nodup_nil,(fun _ h=>absurd h (by simp)),(fun t ht=>.inl ht),(fun t ht _=>.inl ht),(fun _ _ h=>absurd h (by simp))⟩
 have e0:(ws.map fun n=>D.str n.1)=(nms ws).map .str:=by unfold nms;rw[As2];rfl
 have ln:(nms ws).length<=4:=by unfold nms;rw[Aqw];exact hw4
 rw[e0]
 refine Lz (fun k e m=>∃ (ks left:List Str) (vs:List D) (u:Option D),Dfs es ws bk ks left/\Av vs=true/\k=left.length+5 * (bk.length - ks.length)/\k<=204/\m=[.dcs ks vs,.lst (left.map .str)]/\e=[some (.tup (es.map eD)),some (.tup (ws.map nD)),some (.tup (bk.map bD)),some (.dks (bk.map (·.1)) (bk.map fun b=>b.2.d)),some (.ref 0),some (.ref 1),u]) ?_ (k:=(nms ws).length+5 * (bk.length - 0)) (by lia) ⟨[],nms ws,[],none,dfs0,rfl,rfl,by simp;lia,rfl,rfl⟩
 rintro k e m ⟨ks,left,vs,u,d,hv,rfl,h204,rfl,rfl⟩
 have lk:=d.len
 cases hc:left with
 |nil =>
  subst hc
  simp_arith[Ar9,List.isEmpty_nil,Asi,Asz,hv]
  exact⟨ks,vs,rfl,d⟩
 |cons l0 lr =>
  rw[<- hc]
  have hpos:0 < left.length:=by rw[hc];simp
  obtain⟨x,hx⟩:∃ x,left[left.length - 1]?=some x:=⟨left[left.length - 1],Aqu (by lia)⟩
  have ex:(left.map D.str)[left.length - 1]?=some (.str x):=by rw[Aq9,hx];rfl
  have ee:(left.map D.str).isEmpty=false:=by rw[hc];rfl
  have ldl:left.dropLast.length=left.length - 1:=List.length_dropLast
  simp_arith[ee,Asz,ex,Ac,<- List.map_dropLast]
  have stay:(x∉bk.map (·.1)\/x∈ks)->∃ j,j < left.length+5 * (bk.length - ks.length)/\∃ (ks_1 left_1:List Str) (vs_1:List D) (u:Option D),Dfs es ws bk ks_1 left_1/\Av vs_1=true/\j=left_1.length+5 * (bk.length - ks_1.length)/\j<=204/\[MObj.dcs ks vs,MObj.lst (left.dropLast.map D.str)]=[MObj.dcs ks_1 vs_1,MObj.lst (left_1.map D.str)]/\[some (D.tup (es.map eD)),some (D.tup (ws.map nD)),some (D.tup (bk.map bD)),some (D.dks (bk.map fun x=>x.1) (bk.map fun b=>b.2.d)),some (D.ref 0),some (D.ref 1),some (D.str x)]=[some (D.tup (es.map eD)),some (D.tup (ws.map nD)),some (D.tup (bk.map bD)),some (D.dks (bk.map fun x=>x.1) (bk.map fun b=>b.2.d)),some (D.ref 0),some (D.ref 1),u]:=fun hn=>⟨_,by lia,ks,left.dropLast,vs,_,d.drop hx hn,hv,rfl,by lia,rfl,rfl⟩
  refine cK.dec (fun hm=>cK.ndec (fun hk=>?_) fun hk=>stay (.inr hk)) fun hm=>stay (.inl hm)
  obtain⟨⟨x',y⟩,hb1,hb2⟩:=List.mem_map.mp hm
  have hb2:x'=x:=hb2
  subst hb2
  have e2:Vt (bk.map (·.1)) (bk.map fun b=>b.2.d) x'=some y.d:=by rw[R8 (fun b:Bk=>b.1) (fun b=>b.2.d) bk x',Zm hb.nd hb1];rfl
  have hln:=Hr es h x' y
  rw[V4 rfl rfl rfl rfl,Ack hk]
  refine⟨by lia,?_⟩
  simp_arith[Ab Bv,e2,Ac,Ir,Vz]
  refine⟨by lia,Bg (fun n=>.str n.1) (fun n hn=>?_) ?_⟩
  ·simp_arith[J1]
  have e3:((G6 es x' y).map fun n=>D.str n.1)=(nms (G6 es x' y)).map .str:=by unfold nms;rw[As2];rfl
  have ln3:(nms (G6 es x' y)).length=(G6 es x' y).length:=by unfold nms;rw[Aqw]
  have dd:=d.add hb.nd hx hb1 hk
  have ld:=dd.len
  rw[Aqv,Arm] at ld
  rw[e3]
  refine⟨by rw[Aqw];lia,_,?_,ks++[x'],left.dropLast++nms (G6 es x' y),vs++[.bl true],_,dd,by rw[Bx,hv];rfl,rfl,?_,by rw[Ary],rfl⟩
  ·rw[Aqv,Aqv,Arm];lia
  ·rw[Aqv,Aqv,Arm];lia
theorem Aic (es:List En) (h:Sh es) (ws:List Nd) (hw:WtOk ws) (bk:List Bk) (hb:BkOf es bk):W (Nv [.tup (es.map eD),.tup (ws.map nD),.tup (bk.map bD)]) fun d=>∃ ks,Dfs es ws bk ks []/\d=.bl (decide (ks.length=bk.length)):=by
 unfold Nv Afp
 rw[A1]
 simp_arith[Ab Bv,Ab Bn,Ab Bb]
 refine (Vh es h ws hw bk hb).imp fun d ⟨ks,vs,e,dd⟩=>?_
 subst e
 have:=dd.len
 have:=(hb.ok h).len
 array_get_dec
 refine⟨by lia,ks,dd,?_⟩
 congr 1
 rw[As3]
 lia
theorem Al9 {ts:List Str}{t:Str}:((ts.map D.str).any fun d=>deq d (.str t))=decide (t∈ts):=by
 rw[Asf,List.any_eq_true,Ash]
 constructor
 ·rintro ⟨d,hd,h⟩
  obtain⟨u,hu,rfl⟩:=List.mem_map.mp hd
  rw[Cs] at h
  rw[<- Arq h];exact hu
 ·exact fun h=>⟨.str t,List.mem_map.mpr ⟨t,h,rfl⟩,by rw[Cs];simp⟩
theorem inK {bk:List Bk}{e:En}:((bk.map bD).any fun d=>deq d (kD e))=decide ((e.nm,e.mv)∈bk):=inB
theorem Aob {bk:List Bk}{b:Bk}:((bk.map bD).any fun d=>deq d (bD b))=decide (b∈bk):=inB (t:=b.1) (x:=b.2)
theorem V5 {m:MH}{ds:List D}{Q:List D->Prop}:W (sq m (.lst ds)) Q=Q ds:=Ac
theorem Xa {b:Bk}{m:MH}{Q:D->Prop}:W (oIx (bD b) (.int 0) m) Q=Q (.str b.1):=by unfold bD;rw[Ee,Lh]
def Cl (es:List En) (bk F:List Bk):Prop:=∀ b∈F,∀ c∈bk,c.1∈nms (G6 es b.1 b.2)->c∈F
structure Fd (es:List En) (ws:List Nd) (bk F:List Bk):Prop where
 nd:F.Nodup
 rc:∀ b∈F,Rc es ws bk b
 base:∀ b∈bk,b.1∈nms ws->b∈F
theorem Fd.len {es:List En}{ws:List Nd}{bk F:List Bk} (f:Fd es ws bk F):F.length<=bk.length:=Dj f.nd fun b hb=>(f.rc b hb).mem
theorem Fd.all {es:List En}{ws:List Nd}{bk F:List Bk} (f:Fd es ws bk F) (c:Cl es bk F) {b:Bk} (r:Rc es ws bk b):b∈F:=by
 induction r with
 |base h w=>exact f.base _ h w
 |step r h w ih=>exact c _ ih _ h w
theorem O9 {bk:List Bk} (h:(bk.map (·.1)).Nodup):bk.Nodup:=(List.pairwise_map.mp h).imp fun {a b} hab e=>hab (Asc Prod.fst e)
theorem O8 {es:List En} (hd:es.Pairwise Dst) {e:En} (he:e∈es):G6 es e.nm e.mv=e.nd:=by
 unfold G6
 induction es with
 |nil=>exact nomatch he
 |cons r es ih =>
  obtain⟨h1,h2⟩:=List.pairwise_cons.mp hd
  rw[Ar0]
  rcases List.mem_cons.mp he with z|z
  ·subst z
   have:isE e.nm e.mv e=true:=Art ⟨rfl,rfl⟩
   rw[this];rfl
  ·have:isE e.nm e.mv r=false:=Arh fun q=>h1 e z q
   rw[this]
   exact ih h2 z
def Ab9 (bk F:List Bk) (e:En):List Bk:=bk.filter fun c=>decide (c.1∈nms e.nd)&&!decide (c∈F)
theorem O6 (es:List En) (h:Sh es) (ws:List Nd) (hw:WtOk ws) (bk:List Bk) (hb:BkOf es bk):W (Xw [.tup (es.map eD),.tup (ws.map nD),.tup (bk.map bD)]) fun d=>∃ L:List Bk,d=.lst (L.map bD)/\L.Sublist bk/\∀ b,b∈L ↔ Rc es ws bk b:=by
 unfold Xw An8
 rw[A1]
 have hbl:=(hb.ok h).len
 have hw4:=hw.len
 have h40:=h.len
 have hbn:=O9 hb.nd
 array_get_dec
 refine⟨by lia,Ca (fun b=>decide (b.1∈nms ws)) bD (fun b hb'=>?_) ?_⟩
 ·simp_arith[Xa]
  refine⟨by lia,Bg (fun n=>.str n.1) (fun n hn=>?_) ?_⟩
  ·simp_arith[J1]
  have e0:(ws.map fun n=>D.str n.1)=(nms ws).map .str:=by unfold nms;rw[As2];rfl
  rw[e0]
  simp_arith[Al9,Bi (Ab fun _=>Bh)]
  exact fun _=>trivial
 have f0:Fd es ws bk (bk.filter fun b=>decide (b.1∈nms ws)):=⟨hbn.filter _,fun b hb=>.base (List.mem_filter.mp hb).1 (Arq (List.mem_filter.mp hb).2),fun b hb hw=>List.mem_filter.mpr ⟨hb,Art hw⟩⟩
 have c0:Cl es bk (bk.filter fun b=>decide (b.1∈nms ws))\/0 < (bk.filter fun b=>decide (b.1∈nms ws)).length:=by
  cases e:bk.filter fun b=>decide (b.1∈nms ws) with
  |nil=>exact .inl fun b hb=>absurd hb (by simp)
  |cons x l=>exact .inr (by simp)
 generalize (bk.filter fun b=>decide (b.1∈nms ws))=F0 at f0 c0
 array_get_dec
 have rB:∀ l:List Bk,A7 (l.map bD)=true:=fun l=>Bi (Ab Bb)
 have rS:∀ l:List Str,A7 (l.map D.str)=true:=fun l=>Bi (Ab fun _=>Bh)
 refine⟨⟨by lia,by lia⟩,Hy (fun k e m=>∃ (F:List Bk) (u v w:Option D),Fd es ws bk F/\(Cl es bk F\/k < F.length)/\m=[]/\e=[some (.tup (es.map eD)),some (.tup (ws.map nD)),some (.tup (bk.map bD)),some (.lst (F.map bD)),u,v,w]) ?_ ?_ ⟨F0,none,none,none,f0,c0,rfl,rfl⟩⟩
 ·rintro k e m hk ⟨F,u,v,w,fF,cF,rfl,rfl⟩
  refine⟨trivial,?_⟩
  array_get_dec
  refine De (fun rest e m=>∃ (G X:List Bk) (pre:List En) (v w:Option D),pre++rest=es/\Fd es ws bk G/\G=F++X/\(Cl es bk F->G=F)/\(∀ r∈pre,(r.nm,r.mv)∈F->∀ c∈bk,c.1∈nms r.nd->c∈G)/\m=[]/\e=[some (.tup (es.map eD)),some (.tup (ws.map nD)),some (.tup (bk.map bD)),some (.lst (G.map bD)),some (.int k),v,w]) ?_ ?_ ⟨F,[],[],_,_,rfl,fF,by simp,fun _=>rfl,fun _ h=>absurd h (by simp),rfl,rfl⟩
  ·rintro r rest e m ⟨G,X,pre,v,w,hp,fG,eG,cG,hG,rfl,rfl⟩
   refine⟨trivial,?_⟩
   have hr:r∈es:=by rw[<- hp];simp
   have hrl:=(h.ok r hr).len
   have lG:=fG.len
   have hdp:=Tc r
   simp_arith[Xo,Im,rB,V5,inK,Xn]
   refine⟨by lia,cK.dec (fun hq=>?_) fun hq=>?_⟩
   ·refine⟨by lia,Bg (fun n=>.str n.1) (fun n hn=>?_) ?_⟩
    ·simp_arith[J1]
    have e0:(r.nd.map fun n=>D.str n.1)=(nms r.nd).map .str:=by unfold nms;rw[As2];rfl
    rw[e0]
    array_get_dec
    refine⟨by lia,Ca (fun c=>decide (c.1∈nms r.nd)&&!decide (c∈G)) bD (fun c hc=>?_) ?_⟩
    ·have hcd:=Rz c
     simp_arith[Xa,Al9,rS,rB,Bb,V5,Aob]
     refine cK.dec (fun hn=>?_) fun hn=>?_
     ·rw[Lo (Bb c) (by lia) (rB G),Aob]
      array_get_dec
      exact⟨by rw[Art hn];rfl,fun _=>trivial⟩
     ·array_get_dec
      exact⟨by rw[Arh hn];rfl,fun _=>trivial⟩
    ·array_get_dec
     have hx:∀ b∈Ab9 bk G r,b∈bk/\b.1∈nms r.nd/\b∉G:=fun b hb'=>by
      obtain⟨h1,h2⟩:=List.mem_filter.mp hb'
      rw[Aq1,Ash,Bool.not_eq_true',decide_eq_false_iff_not] at h2
      exact⟨h1,h2.1,h2.2⟩
     have hrG:(r.nm,r.mv)∈G:=hq
     have fN:Fd es ws bk (G++Ab9 bk G r):=by
      refine⟨?_,fun b hb'=>?_,fun b hb' hn=>Aq8 _ (fG.base b hb' hn)⟩
      ·refine List.nodup_append.mpr ⟨fG.nd,hbn.filter _,fun a ha b hb' e=>(hx b hb').2.2 (e ▸ ha)⟩
      ·rcases List.mem_append.mp hb' with z|z
       ·exact fG.rc b z
       ·refine .step (fG.rc _ hrG) (hx b z).1 ?_
        rw[show G6 es (r.nm,r.mv).1 (r.nm,r.mv).2=r.nd from O8 h.dst hr]
        exact (hx b z).2.1
     have hlen:=fN.len
     rw[Aqv] at hlen
     have hmap:(G.map bD)++(Ab9 bk G r).map bD=(G++Ab9 bk G r).map bD:=(Ary).symm
     refine⟨(show G.length+(Ab9 bk G r).length<=1000000 by lia),G++Ab9 bk G r,X++Ab9 bk G r,pre++[r],some (eD r),some (D.lst ((nms r.nd).map .str)),by rw[<- hp];simp,fN,by rw[eG,List.append_assoc],fun cF'=>?_,fun r' hr' hF c hc hn=>?_,?_⟩
     ·have e1:=cG cF'
      have e2:Ab9 bk G r=[]:=by
       refine List.eq_nil_iff_forall_not_mem.mpr fun b hb'=>(hx b hb').2.2 ?_
       have:=cF' (r.nm,r.mv) (e1 ▸ hrG) b (hx b hb').1 (by rw[show G6 es (r.nm,r.mv).1 (r.nm,r.mv).2=r.nd from O8 h.dst hr];exact (hx b hb').2.1)
       rw[e1];exact this
      rw[e2,Arc,e1]
     ·rcases List.mem_append.mp hr' with z|z
      ·exact Aq8 _ (hG r' z hF c hc hn)
      ·rw[List.mem_singleton.mp z] at hn
       by_cases hcG:c∈G
       ·exact Aq8 _ hcG
       ·exact Aq5 _ (List.mem_filter.mpr ⟨hc,by rw[Art hn,Arh hcG];rfl⟩)
     ·show [_,_,_,some (D.lst (List.map bD G++(Ab9 bk G r).map bD)),_,_,_]=_
      rw[hmap]
   ·refine⟨G,X,pre++[r],_,_,by rw[<- hp];simp,fG,eG,cG,fun r' hr' hF=>?_,rfl⟩
    rcases List.mem_append.mp hr' with z|z
    ·exact hG r' z hF
    ·rw[List.mem_singleton.mp z] at hF
     exact absurd (by rw[eG];exact Aq8 _ hF) hq
  ·rintro e m ⟨G,X,pre,v,w,hp,fG,eG,cG,hG,rfl,rfl⟩
   rw[Arc] at hp
   subst hp
   refine⟨trivial,?_⟩
   array_get_dec
   refine⟨G,_,_,_,fG,?_,rfl⟩
   rcases cF with z|z
   ·rw[cG z];exact .inl z
   ·by_cases hc:Cl pre bk F
    ·rw[cG hc];exact .inl hc
    ·refine .inr ?_
     have:X≠[]:=fun hX=>hc fun b hb' c hc' hn=>by
      obtain⟨r,hr,h1,h2⟩:=hb.of b (fF.rc b hb').mem
      have e1:=O8 h.dst hr
      rw[h1,h2] at e1
      rw[e1] at hn
      have:=hG r hr (by rw[h1,h2];exact hb') c hc' hn
      rw[eG,hX,Arc] at this
      exact this
     have:0 < X.length:=List.length_pos_iff.mpr this
     rw[eG,Aqv]
     lia
 ·rintro e m ⟨F,u,v,w,fF,cF,rfl,rfl⟩
  refine⟨trivial,?_⟩
  have lF:=fF.len
  have cl:Cl es bk F:=by
   refine cF.resolve_right ?_
   have hh:((bk.length:Nat):Int).toNat=bk.length:=Int.toNat_natCast _
   lia
  array_get_dec
  refine⟨by lia,Ca (fun b=>decide (b∈F)) bD (fun b hb'=>?_) ?_⟩
  ·have hcd:=Rz b
   simp_arith[rB,Bb,V5,Aob]
   exact⟨by lia,fun _=>trivial⟩
  ·simp_arith[Ab Bb]
   refine⟨bk.filter fun b=>decide (b∈F),rfl,List.filter_sublist,fun b=>?_⟩
   rw[List.mem_filter,Ash]
   exact⟨fun hb'=>fF.rc b hb'.2,fun r=>⟨r.mem,fF.all cl r⟩⟩
end K43a
end S_UG
section S_UI
namespace K43a
open PySem L2 L2.ML
set_option hygiene false in
local macro_rules|`(tactic| simp_arith[$a,*])=>`(tactic| ((try dsimp only[mp1,mp2,mp3,ln1,ln2,ln3,List.replicate,Nat.reduceAdd,Nat.reduceSub]);simp only[↓Aa2,↓Aa1,↓Aar,↓Aas,↓Aat,↓Aau,↓Z2,↓Z3,↓Z4,↓Z5,↓Ma,↓L9,↓A1,↓My,↓Mz,↓Mw,↓Mx,↓Nb,↓Rk,↓Rm,↓Lq,↓Vq,↓Xc,↓Aal,↓Aix,↓Aiw,↓Amo,↓Gm,↓Dr,↓Ek,↓Et,↓P0,↓P5,↓G7,↓E8,↓Zy,↓M9,↓Rr,↓Rv,↓Rt,↓Px,↓Z8,↓P1,↓Lj,↓P2,↓Lm,↓Z6,↓Z9,↓Z7,↓Ln,↓Zz,↓Jq,↓P4,↓Acx,↓Ub,↓Py,↓Pz,↓Na,↓Ll,↓Cm,↓Cj,↓Pt,↓Pu,↓Rq,↓Rf,↓Pw,↓Re,↓Aai,↓Aac,↓Amn,↓Amv,↓Ee,↓Aag,↓Aaf,↓Ra,↓P9,↓P7,↓Ro,↓Aae,↓Aad,↓Dq,↓B9,↓B8,↓Lr,↓Lu,↓Lx,↓Lw,↓Lv,↓Aam,↓Aan,↓Aao,↓C4,↓D3,↓D4,↓Aav,↓Aax,↓Aay,↓Ry,↓Rx,↓Rw,↓Anl,↓Anj,↓Ank,↓Ly,↓Acu,↓Ri,↓Hv,↓Hu,↓Ht,↓Hw,↓D5,↓Ai2,↓Amg,↓Ai3,↓Amw,↓Amp,↓Amh,↓Ai4,↓Amx,↓Amq,↓Aiv,↓Ai5,↓Amy,↓Amr,↓Ami,↓Am5,↓Amz,↓Ams,↓Amj,↓Am6,↓Am0,↓Amt,↓Amk,↓Am7,↓Am1,↓Aml,↓Am8,↓Am2,↓Am9,↓Am3,↓Amu,↓Ana,↓Am4,↓Amm,↓Aap,↓Z0,↓Aaq,↓Aak,↓Z1,Asi,Asz,Vq,Xc,↓Ow,↓Rn,↓Rp,↓Rj,↓Tp,↓Rg,↓G9,↓Rh,↓M8,↓Li,↓Pv,↓P3,↓T9,↓Rb,↓Aah,↓Ru,↓Nc,↓Nf,Ara,Arz,Aqw,Ata,Ar5,Aqs,Ar9,List.replicate,Atf,Atg,Nat.reduceAdd,Nat.reduceSub,Nat.zero_add,true_and,Bu,Cs,Nn,Bt,Cz,R4,Ic,D7,decide_true,decide_false,Ha,Eu,Asw,Aro,Ar2,_root_.id,Nc,Nf,Aaw,Ls,Du,A6,Bh,A3,A9,Am,Bx,Bool.and_self,Bool.and_true,Bool.true_and,Mk.pure,Mark.pure,Di,↓Lh,↓M6,↓Ul,↓Vx,Anc,↓Hk,↓Hj,↓Hi,↓Hl,Int.reduceEq,Int.reduceLT,Int.reduceLE,Int.reduceAdd,Int.reduceSub,Int.reduceMul,Int.reduceToNat,Int.reducePow,Int.reduceNeg,Int.reduceMod,Int.reduceDiv,Nat.reduceLeDiff,Nat.reduceMul,Nat.reduceEqDiff,Nat.reducePow,Nat.reduceLT,and_true,and_self,true_or,or_true,Aqo,Int.le_refl,Arl,↓Hg,↓Hf,↓He,↓Hh,Mu,Arp,Ath,Ew,Tg,L7,Mark.deq,Mk.deq,Int.zero_add,↓Th,↓Ti,↓Tj,↓Tn,Arx,List.any_nil,Asa,List.all_nil,Bool.false_or,Bool.true_or,As8,Atj,↓Hx,↓Ho,↓Hn,↓Hm,↓Hq,Tf,Iu,Gf,D9,↓Tx,↓Tz,↓T1,↓Ts,Atc,Atb,Ast,Asd,Ib,bne_self_eq_false,↓Aaz,↓P6,↓Lp,↓Adb,↓Ada,↓Ac9,↓Ai6,↓Ae4,↓V7,↓V6,↓Afa,↓Ae9,↓Ae6,↓V2,↓V3,$a,*]))
set_option hygiene false in
local macro_rules|`(tactic| array_get_dec)=>`(tactic| try simp_arith[true_and])
def fD (l:List Nd):D:=.tup (l.map nD)
structure NdOk (l:List Nd):Prop where
 sp:∀ n∈l,Sp n.2
 len:l.length<=4
noncomputable def lk:List Str->List (List Nd)->Str->List Nd
 |k::ks,l::ns,t=>if k=t then l else lk ks ns t
 |_,_,_=>[]
theorem Ajr:∀ {ks:List Str}{ns:List (List Nd)}{t:Str},(∀ l∈ns,NdOk l)->NdOk (lk ks ns t)
 |[],_,_,_=>⟨fun _ h=>absurd h (by simp[lk]),by simp[lk]⟩
 |_::_,[],_,_=>⟨fun _ h=>absurd h (by simp[lk]),by simp[lk]⟩
 |k::ks,l::ns,t,h=>by
  rw[lk]
  split
  ·exact h l (Aqy ..)
  ·exact Ajr fun x hx=>h x (Aqr _ hx)
theorem Xz:∀ {ks:List Str}{ns:List (List Nd)}{t:Str},ks.length=ns.length->t∈ks->Vt ks (ns.map fD) t=some (fD (lk ks ns t))
 |[],_,_,_,h=>absurd h (by simp)
 |_::_,[],_,h,_=>absurd h (by simp)
 |k::ks,l::ns,t,h,ht=>by
  rw[Aqs,Vt,lk]
  by_cases e:k=t
  ·rw[Aqx e,Aqx e]
  ·rw[Aq0 e,Aq0 e]
   exact Xz (by simpa using h) ((List.mem_cons.mp ht).resolve_left fun z=>e z.symm)
theorem Zg:∀ (ks:List Str) (ns:List (List Nd)) (t:Str) (l:List Nd),∃ ns':List (List Nd),Aio ks (ns.map fD) t (fD l)=ns'.map fD/\ns'.length=ns.length/\((∀ l∈ns,NdOk l)->NdOk l->∀ l∈ns',NdOk l)
 |[],ns,_,_=>⟨ns,rfl,rfl,fun h _=>h⟩
 |_::_,[],_,_=>⟨[],rfl,rfl,fun h _=>h⟩
 |k::ks,x::ns,t,l=>by
  obtain⟨ns',h1,h2,h3⟩:=Zg ks ns t l
  refine⟨(if k=t then l else x)::ns',?_,by simp[h2],fun h hl y hy=>?_⟩
  ·rw[Aqs,Aio,h1,Aqs];split<;>rfl
  ·rcases List.mem_cons.mp hy with z|z
   ·rw[z];split
    ·exact hl
    ·exact h x (Aqy ..)
   ·exact h3 (fun a ha=>h a (Aqr _ ha)) hl y z
theorem Y2 (ks:List Str) (ns:List (List Nd)) (t:Str) (l:List Nd) (hl:ks.length=ns.length) (hg:∀ l∈ns,NdOk l) (h:NdOk l):∃ (ks':List Str) (ns':List (List Nd)),Iy ks (ns.map fD) t (fD l)=(ks',ns'.map fD)/\ks'.length=ns'.length/\(∀ l∈ns',NdOk l)/\(∀ x∈ks,x∈ks')/\t∈ks'/\ks'.length<=ks.length+1:=by
 unfold Iy
 by_cases e:t∈ks
 ·obtain⟨ns',h1,h2,h3⟩:=Zg ks ns t l
  exact⟨ks,ns',by rw[Aqx e,h1],by rw[hl,h2],h3 hg h,fun _ hx=>hx,e,by lia⟩
 ·refine⟨ks++[t],ns++[l],by rw[Aq0 e,Ary];rfl,by simp[hl],fun x hx=>?_,fun x hx=>Aq8 _ hx,by simp,by simp⟩
  rcases List.mem_append.mp hx with z|z
  ·exact hg x z
  ·rw[List.mem_singleton.mp z];exact h
def rgE (bk:List Bk) (ks:List Str) (ns:List (List Nd)) (e:En):En:=if (e.nm,e.mv)∈bk then ⟨e.nm,e.mv,lk ks ns e.nm⟩ else e
theorem Ua (bk:List Bk) (ks:List Str) (ns:List (List Nd)) (e:En):(rgE bk ks ns e).nm=e.nm:=by unfold rgE;split<;>rfl
theorem Oi (bk:List Bk) (ks:List Str) (ns:List (List Nd)) (e:En):(rgE bk ks ns e).mv=e.mv:=by unfold rgE;split<;>rfl
theorem Alr {bk:List Bk}{ks:List Str}{ns:List (List Nd)}{e:En} (hg:∀ l∈ns,NdOk l) (h:EnOk e):NdOk (rgE bk ks ns e).nd:=by
 unfold rgE
 split
 ·exact Ajr hg
 ·exact⟨h.sp,h.len⟩
theorem Apb {es:List En} (h:Sh es) (bk:List Bk) (ks:List Str) {ns:List (List Nd)} (hg:∀ l∈ns,NdOk l):Sh (es.map (rgE bk ks ns)) where
 ok:=fun e he=>by
  obtain⟨r,hr,rfl⟩:=List.mem_map.mp he
  have hn:=Alr (bk:=bk) (ks:=ks) hg (h.ok r hr)
  exact⟨by rw[Ua];exact (h.ok r hr).nm,by rw[Oi];exact (h.ok r hr).ms,by rw[Oi];exact (h.ok r hr).pos,hn.sp,hn.len⟩
 len:=by rw[Aqw];exact h.len
 dst:=by
  rw[List.pairwise_map]
  exact h.dst.imp fun {a b} hab=>by unfold Dst at hab ⊢;rw[Ua,Ua,Oi,Oi];exact hab
theorem Apa {es:List En}{bk:List Bk} (b:BkOf es bk) (ks:List Str) (ns:List (List Nd)):BkOf (es.map (rgE bk ks ns)) bk where
 nd:=b.nd
 of:=fun x hx=>by
  obtain⟨e,he,h1,h2⟩:=b.of x hx
  exact⟨_,List.mem_map.mpr ⟨e,he,rfl⟩,by rw[Ua];exact h1,by rw[Oi];exact h2⟩
theorem Ajb {p q:Option D}{F:D->Prop}{P:Prop} [Decidable P] (S:D->Prop) (h1:P->W p S) (h2:¬P->W q S) (h:∀ d,S d->F d):cK (W p F) (W q F) (decide P):=cK.dec (fun x=>(h1 x).imp h) fun x=>(h2 x).imp h
theorem Aef:Sp [(⟨0,0,0,[.n 0]⟩,none)]:=sp1 (by simp)
theorem Zc (es:List En) (h:Sh es) (bk:List Bk) (hb:BkOf es bk) (s:Int) (h0:0<=s) (h1:s<=bk.length):W (Nx [.tup (es.map eD),.tup (bk.map bD),.int s]) fun d=>∃ (fs:List En) (vs:List Nd),d=.tup [.tup (fs.map eD),.tup (vs.map nD)]/\Sh fs/\WtOk vs/\BkOf fs bk:=by
 unfold Nx Afs
 rw[A1]
 have hbl:=(hb.ok h).len
 have h40:=h.len
 array_get_dec
 refine⟨by lia,Bg (fun b=>.str b.1) (fun b hb'=>?_) ?_⟩
 ·simp_arith[Xa]
 have e0:(bk.map fun b=>D.str b.1)=(bk.map (·.1)).map .str:=by rw[As2];rfl
 rw[e0]
 have hnl:(bk.map (·.1)).length=bk.length:=Aqw ..
 generalize hT:bk.map (·.1)=ts at hnl
 array_get_dec
 refine⟨⟨by lia,by lia⟩,Hy (fun k e m=>∃ (ks:List Str) (ns:List (List Nd)) (u v:Option D),ks.length=ns.length/\(∀ l∈ns,NdOk l)/\(∀ t∈ts.take k,t∈ks)/\ks.length<=2 * k/\m=[.dcs ks (ns.map fD)]/\e=[some (.tup (es.map eD)),some (.tup (bk.map bD)),some (.int s),some (.tup [.int 0,.int 0,.int 0,.tup [.int 0]]),some (.lst (ts.map .str)),some (.ref 0),u,v,none,none,none,none]) ?_ ?_ ⟨[],[],none,none,rfl,fun _ h=>absurd h (by simp),fun _ h=>absurd h (by simp),by simp,rfl,rfl⟩⟩
 ·rintro k e m hk ⟨ks,ns,u,v,g1,g2,g3,g4,rfl,rfl⟩
  refine⟨trivial,?_⟩
  have hk':k < ts.length:=by simpa using hk
  array_get_dec
  refine Ajb (fun d=>d∈ts.map D.str) (fun hl=>M7 (by lia) (by rw[Aqw];lia) fun d _ hd=>hd) (fun hl=>M7 (by split<;>lia) (by rw[Aqw];split<;>lia) fun d _ hd=>hd) fun d hd=>?_
  obtain⟨o,ho,rfl⟩:=List.mem_map.mp hd
  have eK:atI (ts.map D.str) (k:Int)=some (.str ts[k]):=W.out (by rw[Dh hk'])
  obtain⟨ks1,ns1,q1,q2,q3,q4,q5,q6⟩:=Y2 ks ns ts[k] [] g1 g2 ⟨fun _ h=>absurd h (by simp),by simp⟩
  have q1':Iy ks (ns.map fD) ts[k] (.tup [])=(ks1,ns1.map fD):=q1
  have fin:∀ t∈ts.take (k+1),t∈ks1:=fun t ht=>by
   rw[List.take_add_one,Aqu hk'] at ht
   rcases List.mem_append.mp ht with z|z
   ·exact q4 t (g3 t z)
   ·rw[show t=ts[k] by simpa using z];exact q5
  rw[V4 rfl rfl eK rfl,q1']
  refine⟨by lia,?_⟩
  simp_arith[Dh hk',Cs]
  have z2:ks1.length<=2 * (k+1):=by lia
  refine cK.mk (fun _=>cK.mk (fun _=>?_) fun _=>⟨ks1,ns1,_,_,q2,q3,fin,z2,rfl,rfl⟩) fun _=>⟨ks1,ns1,_,_,q2,q3,fin,z2,rfl,rfl⟩
  obtain⟨ks2,ns2,r1,r2,r3,r4,r5,r6⟩:=Y2 ks1 ns1 ts[k] [(o,[(⟨0,0,0,[.n 0]⟩,none)])] q2 q3 ⟨fun n hn=>by rw[List.mem_singleton.mp hn];exact Aef,by simp⟩
  have r1':Iy ks1 (ns1.map fD) ts[k] (.tup [.tup [.str o,.tup [.tup [.tup [.int 0,.int 0,.int 0,.tup [.int 0]],.non]]]])=(ks2,ns2.map fD):=r1
  rw[V4 rfl rfl eK rfl,r1']
  exact⟨by lia,ks2,ns2,_,_,r2,r3,fun t ht=>r4 t (fin t ht),by lia,rfl,rfl⟩
 ·rintro e m ⟨ks,ns,u,v,g1,g2,g3,g4,rfl,rfl⟩
  refine⟨trivial,?_⟩
  have hkk:∀ b∈bk,b.1∈ks:=fun b hb'=>g3 b.1 (by
   have e9:((ts.length:Nat):Int).toNat=ts.length:=Int.toNat_natCast _
   rw[e9,List.take_length,<- hT]
   exact List.mem_map.mpr ⟨b,hb',rfl⟩)
  array_get_dec
  refine De (fun rest e m=>∃ (dn:List En) (y w x:Option D),dn++rest=es/\m=[.dcs ks (ns.map fD),.lst ((dn.map (rgE bk ks ns)).map eD)]/\e=[some (.tup (es.map eD)),some (.tup (bk.map bD)),some (.int s),some (.tup [.int 0,.int 0,.int 0,.tup [.int 0]]),some (.lst (ts.map .str)),some (.ref 0),u,v,some (.ref 1),y,w,x]) ?_ ?_ ⟨[],none,none,none,rfl,rfl,rfl⟩
  ·rintro r rest e m ⟨dn,y,w,x,hd,rfl,rfl⟩
   refine⟨trivial,?_⟩
   have hr:r∈es:=by rw[<- hd];simp
   have ld:dn.length < es.length:=by rw[<- hd];simp
   have er:eD r=D.tup [D.str r.nm,r.mv.d,.tup (r.nd.map nD)]:=rfl
   simp_arith[er,Ab Bb,Ow,inB]
   refine⟨by have:=Rz (r.nm,r.mv);exact Arf this (by decide),cK.dec (fun hq=>?_) fun hq=>?_⟩
   ·have hg:=Xz g1 (hkk _ hq)
    simp_arith[hg,Ac]
    refine⟨by lia,dn++[r],_,_,_,by rw[<- hd];simp,?_,rfl⟩
    simp[rgE,hq,eD,fD]
   ·refine⟨by lia,dn++[r],_,_,_,by rw[<- hd];simp,?_,rfl⟩
    simp[rgE,hq,eD]
  ·rintro e m ⟨dn,y,w,x,hd,rfl,rfl⟩
   rw[Arc] at hd
   subst hd
   refine⟨trivial,?_⟩
   array_get_dec
   have hS:=Apb h bk ks g2
   have hO:=Apa hb ks ns
   have hR:(if 1 < s then 1 else s)=0\/(1<=s/\(if 1 < s then 1 else s)=1):=by split<;>lia
   rcases hR with hR|⟨hs,hR⟩
   ·rw[hR]
    refine⟨⟨by decide,by decide⟩,(show ([]:List D).length<=1000000 by decide),?_⟩
    rw[show D1 0 (0:Int).toNat=[] from rfl]
    simp_arith[Cm,Ab Bv]
    exact⟨dn.map (rgE bk ks ns),[],rfl,hS,⟨fun _ h=>absurd h (by simp),by simp⟩,hO⟩
   ·rw[hR]
    refine⟨⟨by decide,by decide⟩,(show ([D.int 0]:List D).length<=1000000 by decide),?_⟩
    rw[show D1 0 (1:Int).toNat=[.int 0] from rfl]
    have ht0:0 < ts.length:=by lia
    have w0:∀ {Q:D->Prop},W (atI (ts.map D.str) 0) Q=Q (.str ts[0]):=Dh (k:=0) ht0
    simp_arith[Cj,Cm,w0,Ab Bv]
    exact⟨dn.map (rgE bk ks ns),[(ts[0],[(⟨0,0,0,[.n 0]⟩,none)])],rfl,hS,⟨fun n hn=>by rw[List.mem_singleton.mp hn];exact Aef,by simp⟩,hO⟩
theorem Eg {f g:FS}{env:A2}{m:MH}{Q:Out->Prop} (S:A2->MH->Prop) (h1:W (f env m) fun o=>∃ e m',o=.nx e m'/\S e m') (h2:∀ e m',S e m'->W (g e m') Q):W (Ba f g env m) Q:=by
 rw[Nb]
 exact h1.imp fun o ⟨e,m',q,s⟩=>by subst q;exact h2 e m' s
theorem Xk {es:List En}{ws:List Nd}{bk L:List Bk}{ks:List Str} (hb:(bk.map (·.1)).Nodup) (d:Dfs es ws bk ks []) (hs:L.Sublist bk) (hL:∀ b,b∈L ↔ Rc es ws bk b):ks.length=L.length:=by
 have hn:(L.map (·.1)).Nodup:=(hs.map _).nodup hb
 have h1:ks.length<=(L.map (·.1)).length:=Dj d.nd fun t ht=>by
  obtain⟨x,r⟩:=d.ok t ht
  exact List.mem_map.mpr ⟨_,(hL _).mpr r,rfl⟩
 have h2:(L.map (·.1)).length<=ks.length:=Dj hn fun t ht=>by
  obtain⟨b,hb',rfl⟩:=List.mem_map.mp ht
  exact d.all ((hL b).mp hb')
 rw[Aqw] at h1 h2
 lia
theorem Ao8 {es:List En}{ws:List Nd}{bk L:List Bk} (hL:∀ b,b∈L ↔ Rc es ws bk b) {b:Bk} (r:Rc es ws bk b):Rc es ws L b:=by
 induction r with
 |base h w=>exact .base ((hL _).mpr (.base h w)) w
 |step r h w ih=>exact .step ih ((hL _).mpr (.step r h w)) w
theorem Ajx {es:List En}{bk L:List Bk} (b:BkOf es bk) (hs:L.Sublist bk):BkOf es L:=⟨(hs.map _).nodup b.nd,fun x hx=>b.of x (hs.subset hx)⟩
theorem law_true (ns:List Int) (hl:ns.length<=63):Ig [.kl (ns.map .int)]=some (.bl true):=W.out <| by
 unfold Ig Afm
 rw[A1]
 array_get_dec
 refine (Acw ns hl 1 (by decide) (by decide)).imp fun d ⟨es,e,h⟩=>?_
 subst e
 have hc:=Xi (xs:=ns) (lo:=some 41) (hi:=some 61)
 array_get_dec
 refine⟨⟨by split<;>lia,by split<;>lia⟩,?_⟩
 generalize hN:(if ((Ef ns (some 41) (some 61)).length:Int) > 2 then ((Ef ns (some 41) (some 61)).length:Int) else 2).toNat=N
 have hN63:N<=63:=by rw[<- hN];split<;>lia
 refine Hy (fun k e m=>∃ a b c d e1 f g h,e=[some (.kl (ns.map .int)),some (.tup (es.map eD)),a,b,c,d,e1,f,g,h]) ?_ ?_ ⟨_,_,_,_,_,_,_,_,rfl⟩
 ·rintro k e M hk ⟨u,v,w,x,y,z,t,t2,rfl⟩
  refine⟨trivial,?_⟩
  rw[Aiv]
  refine Eg (fun e m=>∃ c:Int,M=m/\e=[some (.kl (ns.map .int)),some (.tup (es.map eD)),some (.int (0+k)),some (.int c),w,x,y,z,t,t2]) ?_ ?_
  ·array_get_dec
   refine (Oy ns hl _ (by lia) (by lia)).imp fun d ⟨c,e⟩=>?_
   subst e
   exact⟨_,_,rfl,c,rfl,rfl⟩
  rintro e m ⟨c,rfl,rfl⟩
  refine Eg (fun e m=>∃ ws:List Nd,WtOk ws/\M=m/\e=[some (.kl (ns.map .int)),some (.tup (es.map eD)),some (.int (0+k)),some (.int c),some (.tup (ws.map nD)),x,y,z,t,t2]) ?_ ?_
  ·array_get_dec
   refine (Ac6 (c / 3)).imp fun d ⟨ws,e,hw⟩=>?_
   subst e
   exact⟨_,_,rfl,ws,hw,rfl,rfl⟩
  rintro e m ⟨ws,hw,rfl,rfl⟩
  refine Eg (fun e m=>∃ bk:List Bk,BkOf es bk/\M=m/\e=[some (.kl (ns.map .int)),some (.tup (es.map eD)),some (.int (0+k)),some (.int c),some (.tup (ws.map nD)),some (.tup (bk.map bD)),y,z,t,t2]) ?_ ?_
  ·simp_arith[Ab Bv]
   refine (Afb (c / 5) es h).imp fun d ⟨bk,e,hb⟩=>?_
   subst e
   exact⟨_,_,rfl,bk,hb,rfl,rfl⟩
  rintro e m ⟨bk,hb,rfl,rfl⟩
  refine Eg (fun e m=>M=m/\e=[some (.kl (ns.map .int)),some (.tup (es.map eD)),some (.int (0+k)),some (.int c),some (.tup (ws.map nD)),some (.tup (bk.map bD)),some (.tup (es.map eD)),z,t,t2]) ?_ ?_
  ·array_get_dec
   exact⟨_,_,rfl,rfl,rfl⟩
  rintro e m ⟨rfl,rfl⟩
  have hbl:=(hb.ok h).len
  refine Eg (fun e m=>∃ (fs:List En) (vs:List Nd),Sh fs/\WtOk vs/\BkOf fs bk/\M=m/\e=[some (.kl (ns.map .int)),some (.tup (es.map eD)),some (.int (0+k)),some (.int c),some (.tup (vs.map nD)),some (.tup (bk.map bD)),some (.tup (fs.map eD)),z,t,t2]) ?_ ?_
  ·simp_arith[Ab Bv,Ab Bn,Ab Bb,Vi es h ws hw bk hb]
   exact cK.mk (fun _=>⟨_,_,rfl,_,_,Apd h bk,Zr hw (kept bk),Apc hb,rfl,rfl⟩) fun _=>⟨_,_,rfl,es,ws,h,hw,hb,rfl,rfl⟩
  rintro e m ⟨fs0,vs0,hf0,hv0,hb0,rfl,rfl⟩
  refine Eg (fun e m=>∃ (fs:List En) (vs:List Nd),Sh fs/\WtOk vs/\BkOf fs bk/\M=m/\e=[some (.kl (ns.map .int)),some (.tup (es.map eD)),some (.int (0+k)),some (.int c),some (.tup (vs.map nD)),some (.tup (bk.map bD)),some (.tup (fs.map eD)),z,t,t2]) ?_ ?_
  ·simp_arith[Ab Bv,Ab Bn,Ab Bb]
   refine cK.mk (fun _=>cK.mk (fun _=>⟨by lia,?_⟩) fun _=>⟨_,_,rfl,fs0,vs0,hf0,hv0,hb0,rfl,rfl⟩) fun _=>⟨_,_,rfl,fs0,vs0,hf0,hv0,hb0,rfl,rfl⟩
   have m0:=Int.emod_nonneg (c / 5) (b:=((bk.length:Int)+1)) (by lia)
   have m1:=Int.emod_lt_of_pos (c / 5) (b:=((bk.length:Int)+1)) (by lia)
   refine (Zc es h bk hb _ m0 (by lia)).imp fun d ⟨fs,vs,e,q1,q2,q3⟩=>?_
   subst e
   array_get_dec
   exact⟨_,_,rfl,fs,vs,q1,q2,q3,rfl,rfl⟩
  rintro e m ⟨fs,vs,hf,hv,hbf,rfl,rfl⟩
  refine Eg (fun e m=>∃ L:List Bk,L.Sublist bk/\(∀ b,b∈L ↔ Rc fs vs bk b)/\M=m/\e=[some (.kl (ns.map .int)),some (.tup (es.map eD)),some (.int (0+k)),some (.int c),some (.tup (vs.map nD)),some (.tup (bk.map bD)),some (.tup (fs.map eD)),some (.lst (L.map bD)),t,t2]) ?_ ?_
  ·simp_arith[Ab Bv,Ab Bn,Ab Bb]
   refine (O6 fs hf vs hv bk hbf).imp fun d ⟨L,e,l1,l2⟩=>?_
   subst e
   simp_arith[Ab Bb]
   exact⟨_,_,rfl,L,l1,l2,rfl,rfl⟩
  rintro e m ⟨L,l1,l2,rfl,rfl⟩
  have hbL:=Ajx hbf l1
  have hll:=(hbL.ok hf).len
  refine Eg (fun e m=>∃ b:List Bk,BkOf fs b/\(∀ ks,Dfs fs vs b ks []->ks.length=L.length)/\M=m/\e=[some (.kl (ns.map .int)),some (.tup (es.map eD)),some (.int (0+k)),some (.int c),some (.tup (vs.map nD)),some (.tup (b.map bD)),some (.tup (fs.map eD)),some (.lst (L.map bD)),t,t2]) ?_ ?_
  ·simp_arith[Ab Bb]
   exact cK.mk (fun _=>⟨_,_,rfl,L,hbL,fun ks d=>Xk hbL.nd d (List.Sublist.refl _) fun b=>⟨fun hb'=>Ao8 l2 ((l2 b).mp hb'),fun r=>r.mem⟩,rfl,rfl⟩) fun _=>⟨_,_,rfl,bk,hbf,fun ks d=>Xk hbf.nd d l1 l2,rfl,rfl⟩
  rintro e m ⟨b,hb1,hb2,rfl,rfl⟩
  have hbo:=hb1.ok hf
  have hbol:=hbo.len
  refine Eg (fun e m=>M=m/\e=[some (.kl (ns.map .int)),some (.tup (es.map eD)),some (.int (0+k)),some (.int c),some (.tup (vs.map nD)),some (.tup (b.map bD)),some (.tup (fs.map eD)),some (.lst (L.map bD)),some (.bl (brk fs vs b).isEmpty),t2]) ?_ ?_
  ·simp_arith[Ab Bv,Ab Bn,Ab Bb,Ac0 fs hf vs hv b hbo]
   exact⟨_,_,rfl,rfl,rfl⟩
  rintro e m ⟨rfl,rfl⟩
  refine Eg (fun e m=>M=m/\e=[some (.kl (ns.map .int)),some (.tup (es.map eD)),some (.int (0+k)),some (.int c),some (.tup (vs.map nD)),some (.tup (b.map bD)),some (.tup (fs.map eD)),some (.lst (L.map bD)),some (.bl (brk fs vs b).isEmpty),some (.bl (decide (L.length=b.length)))]) ?_ ?_
  ·simp_arith[Ab Bv,Ab Bn,Ab Bb]
   refine (Aic fs hf vs hv b hb1).imp fun d ⟨ks,dd,e⟩=>?_
   rw[hb2 ks dd] at e
   subst e
   exact⟨_,_,rfl,rfl,rfl⟩
  rintro e m ⟨rfl,rfl⟩
  simp_arith[Ab Bv,Ab Bn,Ab Bb,U4 fs hf vs hv b hbo,Ab Dc,Anv]
  have hr:A7 ((brk fs vs b).map wD)=true:=Bi (Ab Dc)
  have hnil:deq (.lst ((brk fs vs b).map wD)) (.lst [])=(brk fs vs b).isEmpty:=by rw[Aba];cases brk fs vs b<;>rfl
  refine⟨hr,rfl,?_⟩
  simp_arith[hnil,Nn]
  have hd:decide (L.length=b.length)=decide ((L.length:Int)=(b.length:Int)):=by rw[As3];lia
  exact cK.mk (fun z=>absurd z (by rw[hd];simp)) fun _=>⟨_,_,_,_,_,_,_,_,rfl⟩
 ·rintro e M ⟨u,v,w,x,y,z,t,t2,rfl⟩
  refine⟨trivial,?_⟩
  array_get_dec
end K43a
end S_UI
section S_K43h
namespace K43a
open PySem L2 L2.ML
noncomputable section
theorem all_mk {l:W.OpenLaw}{w:World}{K:W.Frag}{h:Heap}{mg:Str->Option Value}{fa:Addr} (X:K.In h) (G:h.Ns mainGlobals mg) (hfa:mg "law"=some (.ref fa))
  (f0:FM K "mark_rank" Al1)
  (f1:FM K "rank" Aez)
  (f2:FM K "is_older" Al2)
  (f3:FM K "lies_in" Al8)
  (f4:FM K "needs_of" Al3)
  (f5:FM K "needs_at_work" Alz)
  (f6:FM K "is_kept" Aeg)
  (f7:FM K "broken" Aem)
  (f8:FM K "is_sound" Al4)
  (f9:FM K "reached" Aeh)
  (f10:FM K "is_tidy" Aei)
  (f11:FM K "_law_cell" Aeu)
  (f12:FM K "_law_draws" Aen)
  (f13:FM K "_law_make" Aev)
  (f14:FM K "_law_next" Aew)
  (f15:FM K "_law_key" Ae0)
  (f16:FM K "_law_great" Aeo)
  (f17:FM K "_law_need_span" Al0)
  (f18:FM K "_law_title" Aep)
  (f19:FM K "_law_needs" Aeq)
  (f20:FM K "_law_entry" Aer)
  (f21:FM K "_law_shelf" Aes)
  (f22:FM K "_law_lies" Aex)
  (f23:FM K "_law_wants" Aet)
  (f24:FM K "_law_book" Aey)
  (f25:FM K "_law_is_met" Aej)
  (f26:FM K "_law_at_work" Al5)
  (f27:FM K "_law_broken" Aek)
  (f28:FM K "_law_sounded" Al6)
  (f29:FM K "_law_reached" Al7)
  (f30:FM K "_law_ringed" Ael)
  {a_law:Addr}{oc_law kV_law dc_law pm_law cd_law ct_law:Value}{od_law an_law:Option Addr}{sl_law:Array (Option Value)} (n_law:W.nsIn K mainGlobals "law"=some (some (.ref a_law))) (l_law:K.lookup a_law=some ⟨oc_law,od_law,.func (W.fnOf "law" "law" (El Oo) (Cy Oo) (A5 Oo) .none kV_law dc_law pm_law an_law cd_law ct_law),sl_law⟩) (c_law:W.codeIn K cd_law "law"=true) (k_law:W.keepIn K (.ref a_law)=true)
  (z_bool:W.nsIn K mainGlobals "bool"=some none)
  (z_dict:W.nsIn K mainGlobals "dict"=some none)
  (z_int:W.nsIn K mainGlobals "int"=some none)
  (z_isinstance:W.nsIn K mainGlobals "isinstance"=some none)
  (z_len:W.nsIn K mainGlobals "len"=some none)
  (z_max:W.nsIn K mainGlobals "max"=some none)
  (z_min:W.nsIn K mainGlobals "min"=some none)
  (z_range:W.nsIn K mainGlobals "range"=some none)
  (z_set:W.nsIn K mainGlobals "set"=some none)
  (z_sorted:W.nsIn K mainGlobals "sorted"=some none)
  (z_str:W.nsIn K mainGlobals "str"=some none)
  (z_tuple:W.nsIn K mainGlobals "tuple"=some none) :
  ∃ fd:FuncData,(∀ (s:Shared) (v:Value),BindsTo s fd ⟨[v],[]⟩ [("_law_script",v)])/\∀ base:Heap,K.In base->base.Ns mainGlobals mg->FnOk l.prog w K mg base CX0 8 fa fd ["_law_script"] (spP K 1 Ig):=by
 have e:=hfa.symm.trans (W.mg_of X G n_law)
 cases e
 have T:Txt K mg :=⟨f0.fd1 X G,f1.fd1 X G,f2.fd2 X G,f3.fd2 X G,f4.fd3 X G,f5.fd3 X G,f6.fd2 X G,f7.fd3 X G,f8.fd3 X G,f9.fd3 X G,f10.fd3 X G,f11.fd2 X G,f12.fd2 X G,f13.fd1 X G,f14.fd1 X G,f15.fd1 X G,f16.fd1 X G,f17.fd2 X G,f18.fd1 X G,f19.fd2 X G,f20.fd1 X G,f21.fd2 X G,f22.fd2 X G,f23.fd1 X G,f24.fd2 X G,f25.fd2 X G,f26.fd3 X G,f27.fd3 X G,f28.fd3 X G,f29.fd3 X G,f30.fd3 X G⟩
 have B:Blt mg:=⟨W.mg_none_of X G z_bool,W.mg_none_of X G z_dict,W.mg_none_of X G z_int,W.mg_none_of X G z_isinstance,W.mg_none_of X G z_len,W.mg_none_of X G z_max,W.mg_none_of X G z_min,W.mg_none_of X G z_range,W.mg_none_of X G z_set,W.mg_none_of X G z_sorted,W.mg_none_of X G z_str,W.mg_none_of X G z_tuple⟩
 exact⟨_,fun s v=>.of_eq rfl,fun base _ _=>Ajy T B (Adp l_law c_law k_law)⟩
theorem Oh {K:W.Frag}{H:Hp}{μ:List Addr}{B:Addr->Prop}:∀ ns:List Int,Reps K H μ B (ns.map D.int) (ns.map V.int)
 |[]=>.nil
 |n::ns=>.cons (.int n) (Oh ns)
theorem walk {l:W.OpenLaw}{q:Program}{loose:List Str}{XP:(Str->Option Value)->Heap->Prop}{YP:World->Heap->Prop}{d:DefRec}{K:Params->W.Frag} (hn:l.most=some 63) (hdf:d.params.defaults=[])
  (hY:∀ (w:World) (h:Heap),YP w h->(K w.params).In h)
  (F:∀ (w:World) (mg:Str->Option Value) (fa:Addr) (h:Heap),(K w.params).In h->h.Ns mainGlobals mg->mg d.name=some (.ref fa) ->
   ∃ fd:FuncData,(∀ (s:Shared) (u:Value),BindsTo s fd ⟨[u],[]⟩ [("_law_script",u)])/\∀ base:Heap,(K w.params).In base->base.Ns mainGlobals mg->FnOk l.prog w (K w.params) mg base CX0 8 fa fd ["_law_script"] (spP (K w.params) 1 Ig)) :
  W.WalkO q loose XP YP l.row.toRowW d [] (fun f vs=>PySem.call f vs) :=
 L2.walk_of (n:=63) (k:=8) (x:="_law_script") (CX:=fun _=>CX0) (sp:=fun w=>spP (K w.params) 1 Ig) hn (by decide) hdf ⟨rfl,by decide,by decide⟩ hY F
  (fun w H a ns hl hO hS=>⟨[.kl (ns.map D.int)],.bl true,.cons (.kl (by
    rcases hS with (h|h)|h
    ·rcases hO a with z|⟨o,xs,z⟩<;>rw[z] at h<;>cases h
    ·exact .inl h
    ·exact .inr h) (Oh ns)) .nil,rfl,law_true ns hl,fun v H' _ r=>by cases r;rfl⟩) fun _ _ _ _ _ z=>z
end
end K43a
namespace PySem.W.Fast
def tw10044883571504852393:=()
def tw10094086037127768557:=()
def tw10115389141222485872:=()
def tw10311029450307146209:=()
def tw10330812127131276790:=()
def tw10347718755162324430:=()
def tw10590254620460104904:=()
def tw10707615248657916339:=()
def tw10779066888750834322:=()
def tw1083565156301528050:=()
def tw10911975113262649086:=()
def tw10924560944707653760:=()
def tw10943449097340949939:=()
def tw11101771738760540638:=()
def tw11155283708420144302:=()
def tw11265680593869616818:=()
def tw11271945676625985128:=()
def tw11278620903342311900:=()
def tw11292126824613201930:=()
def tw1133025845633845244:=()
def tw11365628942069780858:=()
def tw11446915829818465316:=()
def tw11463105304098217179:=()
def tw11616501104770787834:=()
def tw11941235137497757050:=()
def tw12151484712693235257:=()
def tw12185341439283088133:=()
def tw12282783192064611398:=()
def tw12309145496385651866:=()
def tw12343070921817951910:=()
def tw12346113108252592578:=()
def tw12356294729588483804:=()
def tw12402639517664933570:=()
def tw12450166587217105162:=()
def tw12476659638265741624:=()
def tw12494333561775513889:=()
def tw12564113830874468550:=()
def tw12637107270501371203:=()
def tw12711328123402131560:=()
def tw12822010240531408393:=()
def tw12982120623675065160:=()
def tw13063433571031431533:=()
def tw13115822779050326845:=()
def tw13166823804865388324:=()
def tw13213754223761477850:=()
def tw13350532570042058779:=()
def tw13729284955004853732:=()
def tw1374478774465976441:=()
def tw13779291550773820893:=()
def tw14029826546481769824:=()
def tw14033949307067280932:=()
def tw14068812157838413790:=()
def tw14107520321642767065:=()
def tw1421039968904622446:=()
def tw14396057019932986122:=()
def tw14449123342327577560:=()
def tw14501441040891666051:=()
def tw14671687608172051226:=()
def tw14742770645897097895:=()
def tw14820894192357988963:=()
def tw14841843574191082537:=()
def tw14972283897124752439:=()
def tw15038978740546638243:=()
def tw15090833799769830855:=()
def tw15095959789301839061:=()
def tw15106226779442525819:=()
def tw15110920378988813492:=()
def tw15181000957987063914:=()
def tw15419530515836149868:=()
def tw15772943172712910361:=()
def tw15914540530409746834:=()
def tw15952323646823935090:=()
def tw15990899692118476968:=()
def tw16027196158367017661:=()
def tw16178733657550327233:=()
def tw16232313186099506518:=()
def tw16311315594536264642:=()
def tw1634936061018224416:=()
def tw1647195305772059104:=()
def tw16548709109445242721:=()
def tw16731417342831589630:=()
def tw16790029072678833555:=()
def tw16817216694567257735:=()
def tw16825269449802463098:=()
def tw16858112452883528749:=()
def tw16867335367045065159:=()
def tw1716710103750071029:=()
def tw17214129191750239840:=()
def tw17375173314962568095:=()
def tw17379990208190518192:=()
def tw17422946795645924227:=()
def tw17502265128723282489:=()
def tw1757540084414246483:=()
def tw17628709434186195735:=()
def tw17835740585856599435:=()
def tw17847751660831194049:=()
def tw17889154944577564077:=()
def tw1796116626313677601:=()
def tw18043061446330594201:=()
def tw18099658950372054584:=()
def tw18182057045242800420:=()
def tw1818568823455634689:=()
def tw18324229863569070892:=()
def tw18327542898411694749:=()
def tw1899822813218901987:=()
def tw1920713919165955594:=()
def tw2017267586550354671:=()
def tw2154133947843517693:=()
def tw2491017991789551071:=()
def tw2587205045559307965:=()
def tw260870628815982759:=()
def tw2651746119954495191:=()
def tw286747945232052913:=()
def tw2897502048888259845:=()
def tw2906448774790749807:=()
def tw3030028801900236712:=()
def tw3083361641006183230:=()
def tw3372162933427258791:=()
def tw3388248012340295798:=()
def tw3598080379854413222:=()
def tw3654247310530884851:=()
def tw3668102185253960584:=()
def tw3674397288119950985:=()
def tw3777535317096556379:=()
def tw3823150894628817253:=()
def tw3893495971809829349:=()
def tw4050383724212585709:=()
def tw4052910588647793759:=()
def tw4162219980146487797:=()
def tw4177738609695638844:=()
def tw4210418412558726024:=()
def tw4317798261226273088:=()
def tw4456040977495656267:=()
def tw4554882967344618927:=()
def tw457956125078689839:=()
def tw4760872986724261885:=()
def tw4921001615342642073:=()
def tw4995040656618624928:=()
def tw5090303922686479145:=()
def tw5156953671086652596:=()
def tw520301351251344502:=()
def tw5252167298780542638:=()
def tw5325479849234865601:=()
def tw5349062830010371790:=()
def tw5385286889167123428:=()
def tw5430630455537551620:=()
def tw5513813046647645217:=()
def tw5577350379162492122:=()
def tw5744799813989045509:=()
def tw6112158400172153366:=()
def tw6128068902365336269:=()
def tw6414107753043370566:=()
def tw6553176759776691933:=()
def tw6572018558500025715:=()
def tw6593481267347040043:=()
def tw6603302959901206292:=()
def tw6642841553574857396:=()
def tw6644668720417412614:=()
def tw6921879900089472749:=()
def tw6962436253570193360:=()
def tw6966599456991726267:=()
def tw7185315049573919382:=()
def tw7237370131054186915:=()
def tw7306478591430014952:=()
def tw7355436986786263:=()
def tw7646690874639146572:=()
def tw7791166090921061796:=()
def tw7826234950776681518:=()
def tw7915116550975167646:=()
def tw7957868441275986046:=()
def tw8228903006364868643:=()
def tw8371994516099968766:=()
def tw8398758920021922921:=()
def tw8547360410932881172:=()
def tw8579076407165099595:=()
def tw8584178994262581109:=()
def tw8700487768306769288:=()
def tw8777366250560601258:=()
def tw8943864082973383507:=()
def tw9197913826525856566:=()
def tw9280355455798342262:=()
def tw9288099815015861366:=()
def tw9355438143404445485:=()
def tw9405183440126259474:=()
def tw9538891047683456904:=()
def tw9720509523129058654:=()
def tw9837744680032578939:=()
def tw9837946388350149361:=()
end PySem.W.Fast
open PySem PySem.W PyProof.Rows
set_option maxRecDepth 100000 in
set_option maxHeartbeats 0 in
theorem PySem.Challenge.cw_stretchbook_k43_sound_and_tidy_holds : PySem.Challenge.rw_stretchbook_k43_sound_and_tidy.Holds := by
 w_on;o_law;k_head;(case hw=>w_witness2)
 k_fill
 refine K43a.walk (l:=PySem.Challenge.rw_stretchbook_k43_sound_and_tidy) rfl rfl (fun w h Y=>W.kIn_of Y) ?F
 case F =>
  intro w mg fa h KX G hmg
  refine' K43a.all_mk KX G hmg (L2.ML.fm_mk ?n0 ?l0 ?c0 ?k0) (L2.ML.fm_mk ?n1 ?l1 ?c1 ?k1) (L2.ML.fm_mk ?n2 ?l2 ?c2 ?k2) (L2.ML.fm_mk ?n3 ?l3 ?c3 ?k3) (L2.ML.fm_mk ?n4 ?l4 ?c4 ?k4) (L2.ML.fm_mk ?n5 ?l5 ?c5 ?k5) (L2.ML.fm_mk ?n6 ?l6 ?c6 ?k6) (L2.ML.fm_mk ?n7 ?l7 ?c7 ?k7) (L2.ML.fm_mk ?n8 ?l8 ?c8 ?k8) (L2.ML.fm_mk ?n9 ?l9 ?c9 ?k9) (L2.ML.fm_mk ?n10 ?l10 ?c10 ?k10) (L2.ML.fm_mk ?n11 ?l11 ?c11 ?k11) (L2.ML.fm_mk ?n12 ?l12 ?c12 ?k12) (L2.ML.fm_mk ?n13 ?l13 ?c13 ?k13) (L2.ML.fm_mk ?n14 ?l14 ?c14 ?k14) (L2.ML.fm_mk ?n15 ?l15 ?c15 ?k15) (L2.ML.fm_mk ?n16 ?l16 ?c16 ?k16) (L2.ML.fm_mk ?n17 ?l17 ?c17 ?k17) (L2.ML.fm_mk ?n18 ?l18 ?c18 ?k18) (L2.ML.fm_mk ?n19 ?l19 ?c19 ?k19) (L2.ML.fm_mk ?n20 ?l20 ?c20 ?k20) (L2.ML.fm_mk ?n21 ?l21 ?c21 ?k21) (L2.ML.fm_mk ?n22 ?l22 ?c22 ?k22) (L2.ML.fm_mk ?n23 ?l23 ?c23 ?k23) (L2.ML.fm_mk ?n24 ?l24 ?c24 ?k24) (L2.ML.fm_mk ?n25 ?l25 ?c25 ?k25) (L2.ML.fm_mk ?n26 ?l26 ?c26 ?k26) (L2.ML.fm_mk ?n27 ?l27 ?c27 ?k27) (L2.ML.fm_mk ?n28 ?l28 ?c28 ?k28) (L2.ML.fm_mk ?n29 ?l29 ?c29 ?k29) (L2.ML.fm_mk ?n30 ?l30 ?c30 ?k30) ?n31 ?l31 ?c31 ?k31 ?z_bool ?z_dict ?z_int ?z_isinstance ?z_len ?z_max ?z_min ?z_range ?z_set ?z_sorted ?z_str ?z_tuple
  case n0|l0|c0|k0|n1|l1|c1|k1|n2|l2|c2|k2|n3|l3|c3|k3|n4|l4|c4|k4|n5|l5|c5|k5|n6|l6|c6|k6|n7|l7|c7|k7|n8|l8|c8|k8|n9|l9|c9|k9|n10|l10|c10|k10|n11|l11|c11|k11|n12|l12|c12|k12|n13|l13|c13|k13|n14|l14|c14|k14|n15|l15|c15|k15|n16|l16|c16|k16|n17|l17|c17|k17|n18|l18|c18|k18|n19|l19|c19|k19|n20|l20|c20|k20|n21|l21|c21|k21|n22|l22|c22|k22|n23|l23|c23|k23|n24|l24|c24|k24|n25|l25|c25|k25|n26|l26|c26|k26|n27|l27|c27|k27|n28|l28|c28|k28|n29|l29|c29|k29|n30|l30|c30|k30|n31|l31|c31|k31|z_bool|z_dict|z_int|z_isinstance|z_len|z_max|z_min|z_range|z_set|z_sorted|z_str|z_tuple=>k_is
end S_K43h
