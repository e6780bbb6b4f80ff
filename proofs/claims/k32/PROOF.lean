import PyProof.Rows.All
import Wide.All
import OpenK.AllK
import Wide.FinOn
import PyProof.P3Eq
import PyProof.TupleKey
import PyProof.DictRoadsH
import PyProof.Rows.RowHeap
import Lean
import PyProof.EqAt
import PyProof.EqKinds
import PyProof.TupleCall
import KE.KDflt
import PyProof.NeData
import PyProof.ConsumeWalk
import PyProof.CompFree
import PyProof.StrWalks
import PyProof.Rows.ListMul
import PyProof.MinMaxWalk
import PyProof.WalkInts
import PyProof.SeqI3
import PyProof.WalksMore
import PyProof.Rows.Range3
import PyProof.Rows.TupTab
import KE.KRevIter
import PyProof.ListRange
import KE.KSortTup
import PyProof.Rows.StrNews2
import PyProof.Rows.StrJoin2
import KE.KNestM
import KE.KDictSum
import PyProof.Rows.EnumRows
import PyProof.ZipIter
import KE.KSortAsk
import PyProof.Rows.SetFrom
import PyProof.Rows.SortStr
import PyProof.SetRoads
import KE.KDictOf
import PyProof.AttrMissHeap
import PyProof.FactsAll.NoneType_1
import PyProof.Draws
import PyProof.EnumMake
import KE.IntTextLaws
import PyProof.Rows.StrFirst
import PyProof.Rows.StrJoinMade
import PyProof.Rows.StrWeight2
import PyProof.Rows.CatFin
import PySem.Challenge.RW_stretchbook_k32_prices
set_option Elab.async false
set_option compiler.extract_closed false
set_option linter.all false
set_option maxRecDepth 100000
set_option maxHeartbeats 4000000
abbrev Aqx:=@PySem.wpAny_bind
abbrev Aqy:=@List.getD_eq_getElem?_getD
abbrev Aqz:=@List.getElem?_eq_getElem
abbrev Aq0:=@PySem.wpAny_pure
abbrev Aq1:=@PySem.Heap.get?_push_of_some
abbrev Aq2:=@List.mem_append_right
abbrev Aq3:=@List.size_toArray
abbrev Aq4:=@if_pos
abbrev Aq5:=@Nat.le_refl
abbrev Aq6:=@List.mem_cons_of_mem
abbrev Aq7:=@if_neg
abbrev Aq8:=@List.mem_cons_self
abbrev Aq9:=@PySem.Heap.lt_size
abbrev Ara:=@List.map_cons
abbrev Arb:=@Nat.lt_of_lt_of_le
abbrev Arc:=@Bool.false_ne_true
abbrev Ard:=@List.mem_of_getElem?
abbrev Are:=@PySem.Heap.get?_push_size
abbrev Arf:=@Bool.and_eq_true
abbrev Arh:=@PySem.Heap.get?_update_other
abbrev Ari:=@List.getElem?_map
abbrev Arj:=@List.length_map
abbrev Ark:=@List.length_cons
abbrev Arl:=@Nat.le_trans
abbrev Arm:=@List.getElem?_append_left
abbrev Arn:=@Option.some.inj
abbrev Aro:=@Nat.ne_of_lt
abbrev Arp:=@of_decide_eq_true
abbrev Arq:=@List.getElem?_cons_succ
abbrev Ars:=@Option.bind_some
abbrev Art:=@decide_eq_false
abbrev Aru:=@List.getElem?_append_right
abbrev Arv:=@PySem.mem_of_lookup
abbrev Arw:=@PySem.wpAny_holding
abbrev Arx:=@List.mem_append_left
abbrev Ary:=@Nat.lt_irrefl
abbrev Arz:=@List.length_append
abbrev Ar0:=@List.getElem?_set_self
abbrev Ar1:=@List.length_take
abbrev Ar2:=@PySem.PassesOwn.never
abbrev Ar3:=@List.getElem?_replicate
abbrev Ar4:=@List.append_nil
abbrev Ar5:=@decide_eq_true
abbrev Ar6:=@List.getElem?_eq_none
abbrev Ar7:=@Bool.false_eq_true
abbrev Ar8:=@Nat.zero_le
abbrev Ar9:=@List.getElem_mem
abbrev Asa:=@List.getElem?_set_ne
abbrev Asb:=@PySem.wpAny_call_entry
abbrev Asc:=@Ne.symm
abbrev Asd:=@congrArg
abbrev Ase:=@PySem.wpAny_callSpecial?_slot
abbrev Asf:=@PySem.wpAny_newObj_type
abbrev Asg:=@decide_eq_decide
abbrev Ash:=@List.not_mem_nil
abbrev Asi:=@List.lookup_cons
abbrev Asj:=@List.cons_append
abbrev Asl:=@List.drop_eq_getElem_cons
abbrev Asm:=@PySem.wpAny_mono
abbrev Asn:=@PySem.wpAny_truthy_bool
abbrev Aso:=@PySem.sizeLine_eq
abbrev Asp:=@List.sizeOf_lt_of_mem
abbrev Asq:=@decide_eq_true_eq
abbrev Asr:=@Nat.lt_succ_of_lt
abbrev Ass:=@List.mem_cons
abbrev Ast:=@List.all_cons
abbrev Asu:=@PySem.wpAny_Call_Name_kw
abbrev Asv:=@List.getElem?_of_mem
abbrev Asw:=@PySem.Heap.get?_update_self
abbrev Asx:=@Int.le_refl
abbrev Asy:=@Array.length_toList
abbrev Asz:=@Nat.ne_of_gt
abbrev As0:=@PySem.wpAny_seqItems
abbrev As1:=@if_false
abbrev As2:=@PySem.wpAny_specialOf
abbrev As3:=@PySem.wpAny_getItem_str_slice
abbrev As4:=@Nat.le_of_lt
abbrev As5:=@PySem.MeetsSeq3.plain_eq_loop
abbrev As6:=@List.map_nil
abbrev As7:=@List.map_map
abbrev As8:=@List.length_singleton
abbrev As9:=@List.length_drop
abbrev Ata:=@Or.inl
abbrev Atb:=@PySem.wpAny_field
abbrev Atc:=@Bool.not_true
abbrev Atd:=@PySem.Heap.size_push
abbrev Ate:=@if_true
abbrev Atf:=@List.length_nil
abbrev Atg:=@PyProof.Rows.KeyOrd.kle_refl
abbrev Ath:=@Int.zero_add
abbrev Ati:=@List.mem_range
abbrev Atj:=@Classical.byContradiction
abbrev Atk:=@PySem.wpAny_passesOwn
abbrev Atl:=@List.reverse_cons
abbrev Atm:=@List.take_of_length_le
abbrev Atn:=@List.drop_eq_nil_of_le
noncomputable section
set_option tactic.hygienic false
section S_KTree
namespace L2
open PySem PySem.Spec
noncomputable instance pdDec:DecidableEq PyData:=fun _ _=>Classical.propDecidable _
mutual
def kOk:PyData->Bool
 |.int _=>true
 |.str x=>PyData.strOk x
 |.tuple ds=>Jm ds
 |_=>false
def Jm:List PyData->Bool
 |[]=>true
 |d::ds=>kOk d&&Jm ds
def Lw (w:World):PyData->Int
 |.int i=>hashInt i
 |.str x=>hashStr w x
 |.tuple ds=>reduceHash (Builtin.Tuple.tupleHashOf (Bq w ds))
 |_=>0
def Bq (w:World):List PyData->List Int
 |[]=>[]
 |d::ds=>Lw w d::Bq w ds
def Ep:PyData->Nat
 |.tuple ds=>By ds+1
 |_=>1
def By:List PyData->Nat
 |[]=>0
 |d::ds=>Ep d+By ds
def Pk:PyData->Nat
 |.tuple ds=>Hk ds+1
 |_=>0
def Hk:List PyData->Nat
 |[]=>0
 |d::ds=>max (Pk d) (Hk ds)
end
mutual
theorem Ej:∀ {d:PyData},kOk d=true->d.canLay0=true
 |.int _,_=>by simp[PyData.canLay0]
 |.str x,h=>by rw[kOk] at h;simp[PyData.canLay0,h]
 |.tuple ds,h=>by rw[kOk] at h;rw[PyData.canLay0];exact Oa h
 |.none,h=>by simp[kOk] at h
 |.bool _,h=>by simp[kOk] at h
 |.list _,h=>by simp[kOk] at h
 |.dict _,h=>by simp[kOk] at h
theorem Oa:∀ {ds:List PyData},Jm ds=true->PyData.canLayAll0 ds=true
 |[],_=>by simp[PyData.canLayAll0]
 |d::ds,h=>by
  rw[Jm,Arf] at h
  simp[PyData.canLayAll0,Ej h.1,Oa h.2]
end
set_option tactic.hygienic true in
mutual
theorem Ab2:∀ {d e:PyData},kOk d=true->kOk e=true->PyData.eqv d e=decide (d=e)
 |.int i,e,h,h'=>by
  cases e<;>first|(simp[kOk] at h';done)|(simp[PyData.eqv];done)|(rename_i j;simp[PyData.eqv];by_cases q:i=j<;>simp[q])
 |.str x,e,h,h'=>by
  cases e<;>first|(simp[kOk] at h';done)|(simp[PyData.eqv];done)|(rename_i j;simp[PyData.eqv];by_cases q:x=j<;>simp[q])
 |.tuple ds,e,h,h'=>by
  cases e<;>first|(simp[kOk] at h';done)|(simp[PyData.eqv];done)|skip
  rename_i es
  rw[kOk] at h h'
  rw[PyData.eqv,Zy h h',Asg]
  constructor
  ·intro e;rw[e]
  ·intro e;injection e
 |.none,_,h,_=>by simp[kOk] at h
 |.bool _,_,h,_=>by simp[kOk] at h
 |.list _,_,h,_=>by simp[kOk] at h
 |.dict _,_,h,_=>by simp[kOk] at h
theorem Zy:∀ {ds es:List PyData},Jm ds=true->Jm es=true->PyData.eqvAll ds es=decide (ds=es)
 |[],[],_,_=>by simp[PyData.eqvAll]
 |[],e::es,_,_=>by simp[PyData.eqvAll]
 |d::ds,[],_,_=>by simp[PyData.eqvAll]
 |d::ds,e::es,h,h'=>by
  rw[Jm,Arf] at h h'
  rw[PyData.eqvAll,Ab2 h.1 h'.1,Zy h.2 h'.2]
  by_cases q1:d=e<;>by_cases q2:ds=es<;>simp[q1,q2]
end
section
variable {prog:Program}{w:World}
structure HashK (prog:Program) (w:World) (d:PyData):Prop where
 out:∀ {A:Around}{E:Value->Shared->Prop}{s:Shared}{v:Value}{as:List Addr}{Q:Int->Shared->Prop},kOk d=true->A.units+Pk d < cLine->Reads s.heap v d as->Q (Lw w d) { s with toks:=s.toks+Ep d }->wpAny (model prog w) A (pyHash v) Q E s
theorem Jl {d:PyData}:∀ {ds:List PyData},d∈ds->Pk d<=Hk ds
 |e::ds,h=>by
  rw[Hk]
  rcases List.mem_cons.mp h with rfl|h
  ·lia
  ·have:=Jl h;lia
theorem Jn {d:PyData}:∀ {ds:List PyData},Jm ds=true->d∈ds->kOk d=true
 |e::ds,h,hm=>by
  rw[Jm,Arf] at h
  rcases List.mem_cons.mp hm with rfl|hm
  ·exact h.1
  ·exact Jn h.2 hm
theorem Dp:∀ (xs ys:List PyData),Bq w (xs++ys)=Bq w xs++Bq w ys
 |[],ys=>by rw[Bq];rfl
 |x::xs,ys=>by rw[Asj,Bq,Bq,Dp xs ys];rfl
theorem Do:∀ (xs ys:List PyData),By (xs++ys)=By xs+By ys
 |[],ys=>by simp[By]
 |x::xs,ys=>by rw[Asj,By,By,Do xs ys];lia
theorem Pg (ih:∀ d∈ds,HashK prog w d):HashK prog w (.tuple ds):=by
 constructor
 intro A E s v as Q hk hu r q
 rw[kOk] at hk
 rw[Pk] at hu
 rw[Lw,Ep] at q
 cases r with
 |@tuple a o vs n xs as ho hc hd ra =>
 have hT:s.TypeIs (.ref a) "tuple":=⟨o,ho,hc⟩
 unfold pyHash
 first|unfold pyHashByItsType|skip
 first|refine Aqx (wpAny_cRoomFor_or (.inr (by lia)) ?_)|skip
 refine Aqx (As2 hT F.slot_tuple_hash.lookup ?_)
 show wpAny _ _ (if (some (Value.builtin "tuple.__hash__") == some Value.none)=true then _ else _) Q E s
 rw[Aq7 (by rw[beq_builtin_none];exact Arc)]
 refine Aqx (As2 hT F.slot_tuple_hash.lookup ?_)
 show wpAny _ _ (callSpecialIfBoundUnlessNone? (.ref a) "__hash__" _ >>= _) Q E s
 refine Aqx (wpAny_callSpecialIfBoundUnlessNone?_slot hT F.slot_tuple_hash (Asb F.slot_tuple_hash hT F.entry_tuple_hash ?_ (F.args_tuple_hash_1 _)))
 show wpAny _ _ (Builtin.Tuple.tupleItemsOf (.ref a) >>= _) _ _ s
 refine Aqx (wpAny_tupleItemsOf ho hd ?_)
 refine Aqx ?_
 rw[<- Array.forIn_toList]
 refine wpAny_forIn_list _
  (fun rest (b:Array Int) s'=>∃ done left bs,ds=done++left/\ReadsAll s.heap rest left bs/\b.toList=Bq w done/\s'={ s with toks:=s.toks+By done })
  _ ?_ ?_ _ _ ⟨[],ds,as,rfl,ra,by simp[Bq],by simp[By]⟩
 ·rintro x rest b s' ⟨done,left,bs,rfl,hl,hb,rfl⟩
  cases hl with
  |@cons _ _ d ds' as1 bs1 h1 hl' =>
   have hm:d∈done++d::ds':=by simp
   have hdp:=Jl hm
   refine Aqx ((ih d hm).out (Jn hk hm) (by show A.units+1+_ < _;lia) h1 ?_)
   have e1:b.toList++[Lw w d]=Bq w (done++[d]):=by rw[Dp,hb,Bq,Bq]
   have e2:s.toks+By done+Ep d=s.toks+By (done++[d]):=by rw[Do,By,By];lia
   first
    |exact Aq0 ⟨done++[d],ds',bs1,by simp,hl',by rw[<- e1];simp,by rw[<- e2]⟩
    |exact Aqx (Aq0 (Aq0 ⟨done++[d],ds',bs1,by simp,hl',by rw[<- e1];simp,by rw[<- e2]⟩))
 ·rintro b s' ⟨done,left,bs,rfl,hl,hb,rfl⟩
  cases hl
  rw[Ar4] at q
  show wpAny _ _ (retInt (Builtin.Tuple.tupleHashOf b.toList)) _ _ _
  rw[hb]
  refine wpAny_ret_mkInt ?_
  show wpAny _ _ (if (decide (-(2:Int) ^ 63<=Builtin.Tuple.tupleHashOf (Bq w done))&&decide (Builtin.Tuple.tupleHashOf (Bq w done) < 2 ^ 63))=true then _ else _) Q E _
  unfold reduceHash at q
  by_cases hr:(decide (-(2:Int) ^ 63<=Builtin.Tuple.tupleHashOf (Bq w done))&&decide (Builtin.Tuple.tupleHashOf (Bq w done) < 2 ^ 63))=true
  ·rw[Aq4 hr]
   rw[Aq4 hr] at q
   exact Aq0 (by simpa [Nat.add_assoc] using q)
  ·rw[Aq7 hr]
   rw[Aq7 hr] at q
   exact Aqx (wpAny_rule (Aq0 (by simpa [Nat.add_assoc] using q)))
theorem To (d:PyData):HashK prog w d:=by
 match d with
 |.int i =>
  constructor
  intro A E s v as Q _ _ r q
  cases r with
  |int i t=>simp only[Lw,Ep] at q;exact wpAny_pyHash_int q
 |.str x =>
  constructor
  intro A E s v as Q _ _ r q
  cases r with
  |str x t=>simp only[Lw,Ep] at q;exact wpAny_pyHash_str q
 |.tuple ds=>exact Pg fun d hd=>To d
 |.none=>constructor;intro A E s v as Q h;simp[kOk] at h
 |.bool _=>constructor;intro A E s v as Q h;simp[kOk] at h
 |.list _=>constructor;intro A E s v as Q h;simp[kOk] at h
 |.dict _=>constructor;intro A E s v as Q h;simp[kOk] at h
termination_by sizeOf d
decreasing_by
 have:=Asp hd
 simp;lia
structure QuietK (prog:Program) (w:World) (d:PyData):Prop where
 out:∀ {n:Nat}{A:Around}{E:Value->Shared->Prop}{s:Shared}{v:Value}{as:List Addr}{Q:Bool->Shared->Prop},kOk d=true->Pk d<=n->Reads s.heap v d as->Q true s->wpAny (model prog w) A (eqIsQuiet n v) Q E s
theorem Np (ih:∀ d∈ds,QuietK prog w d):QuietK prog w (.tuple ds):=by
 constructor
 intro n A E s v as Q hk hn r q
 rw[kOk] at hk
 rw[Pk] at hn
 cases r with
 |@tuple a o vs m xs as ho hc hd ra =>
 have hT:s.TypeIs (.ref a) "tuple":=⟨o,ho,hc⟩
 obtain⟨n,rfl⟩:∃ n',n=n'+1:=⟨n - 1,by lia⟩
 unfold eqIsQuiet
 refine Aqx (As2 hT F.slot_tuple_eq.lookup ?_)
 show wpAny _ _ (isInstance (.ref a) (.type "tuple") >>= _) _ _ s
 refine Aqx (wpAny_isInstance hT isSubtype_tuple_tuple ?_)
 simp only[Atc,Ar7,As1]
 refine Aqx (As0 ho hd ?_)
 refine Aqx ?_
 show wpAny _ _ (forIn vs _ _) _ _ s
 rw[<- Array.forIn_toList]
 refine wpAny_forIn_list _ (fun rest r s'=>r.1=none/\s'=s/\∃ left bs,ReadsAll s.heap rest left bs/\∀ d∈left,d∈ds) _ ?_ ?_ _ _ ⟨rfl,rfl,ds,as,ra,fun _ h=>h⟩
 ·rintro v rest r s' ⟨hr,rfl,left,bs,hl,hall⟩
  cases hl with
  |@cons _ _ d ds' as1 bs1 h1 hl' =>
   have hm:=hall d (Aq8 ..)
   refine Aqx ((ih d hm).out (Jn hk hm) (by have:=Jl hm;lia) h1 ?_)
   simp only[Atc,Ar7,As1]
   exact Aq0 ⟨rfl,rfl,ds',bs1,hl',fun e he=>hall e (Aq6 _ he)⟩
 ·rintro ⟨r1,r2⟩ s' ⟨hr,rfl,_⟩
  simp only at hr
  subst hr
  exact Aq0 q
theorem Nn (d:PyData):QuietK prog w d:=by
 match d with
 |.int i =>
  constructor
  intro n A E s v as Q _ _ r q
  cases r with
  |int i t=>rw[eqIsQuiet_byValue _ rfl];exact Aq0 q
 |.str x =>
  constructor
  intro n A E s v as Q _ _ r q
  cases r with
  |str x t=>rw[eqIsQuiet_byValue _ rfl];exact Aq0 q
 |.tuple ds=>exact Np fun d hd=>Nn d
 |.none=>constructor;intro n A E s v as Q h;simp[kOk] at h
 |.bool _=>constructor;intro n A E s v as Q h;simp[kOk] at h
 |.list _=>constructor;intro n A E s v as Q h;simp[kOk] at h
 |.dict _=>constructor;intro n A E s v as Q h;simp[kOk] at h
termination_by sizeOf d
decreasing_by
 have:=Asp hd
 simp;lia
mutual
theorem G6 {es ep} (ho₀:h.get? d₀=some o₀) (hd₀:o₀.data=.dict es ep) (hs:Heap.SameBut d₀ h h') {d:PyData}{v:Value}{as:List Addr} (hk:kOk d=true) (r:Reads h v d as):Reads h' v d as:=by
 cases r with
 |int i t=>exact .int i t
 |str i t=>exact .str i t
 |@tuple a o _ _ _ _ ho hc hd ra =>
  refine .tuple ((hs.2 a ?_).trans ho) hc hd (Es ho₀ hd₀ hs (by rw[kOk] at hk;exact hk) ra)
  rintro rfl
  cases ho.symm.trans ho₀
  cases hd₀.symm.trans hd
 |_=>simp[kOk] at hk
theorem Es {es ep} (ho₀:h.get? d₀=some o₀) (hd₀:o₀.data=.dict es ep) (hs:Heap.SameBut d₀ h h') {ds:List PyData}{vs:List Value}{as:List Addr} (hk:Jm ds=true) (r:ReadsAll h vs ds as):ReadsAll h' vs ds as:=by
 cases r with
 |nil=>exact .nil
 |cons r rs =>
  rw[Jm,Arf] at hk
  exact .cons (G6 ho₀ hd₀ hs hk.1 r) (Es ho₀ hd₀ hs hk.2 rs)
end
mutual
theorem Jf:∀ {d:PyData},kOk d=true->d.depth<=Pk d+1
 |.int _,_=>by simp[PyData.depth]
 |.str _,_=>by simp[PyData.depth]
 |.tuple ds,h=>by rw[kOk] at h;rw[Pk];have:=N5 h;simp[PyData.depth];lia
 |.none,h=>by simp[kOk] at h
 |.bool _,h=>by simp[kOk] at h
 |.list _,h=>by simp[kOk] at h
 |.dict _,h=>by simp[kOk] at h
theorem N5:∀ {ds:List PyData},Jm ds=true->PyData.depthAll ds<=Hk ds+1
 |[],_=>by simp[PyData.depthAll]
 |d::ds,h=>by
  rw[Jm,Arf] at h
  have h1:=Jf h.1
  have h2:=N5 h.2
  rw[Hk];simp[PyData.depthAll];lia
end
def Rh (h:Heap) (d:PyData) (a:Addr):Prop:=kOk d=true/\Pk d<=6/\(∃ ds,d=.tuple ds)/\∃ as,Reads h (.ref a) d as
noncomputable def Oz (prog:Program) (w:World):HeapKind prog w PyData where
 is:=Rh
 hash:=Lw w
 draws:=Ep
 room:=fun A=>A.units+10 < cLine
 inj:=fun hx hy=>by
  obtain⟨k1,_,_,as,r⟩:=hx
  obtain⟨_,_,_,bs,r'⟩:=hy
  exact SeqAt.Reads.unique _ _ _ _ _ (Ej k1) r r'
 keeps:=fun x ho hd hs=>by
  obtain⟨h1,h2,h3,as,r⟩:=x
  exact⟨h1,h2,h3,as,G6 ho hd hs h1 r⟩
 pyHash:=fun hu hk h=>by
  obtain⟨h1,h2,_,as,r⟩:=hk
  exact (To _).out h1 (by lia) r h
 eqBool:=fun hu hx hy h=>by
  obtain⟨h1,h2,_,as,r⟩:=hx
  obtain⟨h3,h4,_,bs,r'⟩:=hy
  refine SeqAt.eqBoolOverData _ _ _ _ _ _ _ _ _ _ _ _ r r' (Ej h1) (Ej h3) ?_ ?_
  ·have d1:=Jf h1
   have d2:=Jf h3
   lia
  ·rw[Ab2 h1 h3];exact h
 quiet:=fun hk h=>by
  obtain⟨h1,h2,_,as,r⟩:=hk
  exact (Nn _).out h1 (by lia) r h
end
end L2
end S_KTree
section S_LayL
namespace L2
open PySem PySem.Spec PyProof.Rows
abbrev Key:=Sum Int Str
noncomputable def Aho:Key->Value->Bool
 |.inl k,v=>Value.isInt k v
 |.inr x,v=>Value.isStrOf x v
noncomputable def Aqh (w:World):Key->Int
 |.inl k=>hashInt k
 |.inr x=>hashStr w x
theorem Bi:∀ {k:Key}{v:Value},Aho k v=true->(∃ i t,k=Sum.inl i/\v=Value.int i t)\/(∃ x t,k=Sum.inr x/\v=Value.str x t)
 |.inl i,v,h=>by
  obtain⟨t,e⟩:=Value.isInt_shape (k:=i) (v:=v) h
  exact .inl ⟨i,t,rfl,e⟩
 |.inr x,v,h=>by
  obtain⟨t,e⟩:=Value.isStrOf_shape (x:=x) (v:=v) h
  exact .inr ⟨x,t,rfl,e⟩
theorem Ahr (a b:Int):decide ((Sum.inl a:Key)=Sum.inl b)=(a == b):=by
 by_cases e:a=b
 ·subst e;simp
 ·have h:¬ (Sum.inl a:Key)=Sum.inl b:=fun q=>e (Sum.inl.inj q)
  rw[Art h]
  exact (beq_eq_false_iff_ne.mpr e).symm
theorem Ahu (a b:Str):decide ((Sum.inr a:Key)=Sum.inr b)=decide (a=b):=by
 by_cases e:a=b
 ·subst e;simp
 ·have h:¬ (Sum.inr a:Key)=Sum.inr b:=fun q=>e (Sum.inr.inj q)
  rw[Art h,Art e]
theorem Ahs (a:Int) (b:Str):decide ((Sum.inl a:Key)=Sum.inr b)=false:=Art (fun q=>nomatch q)
theorem Aht (a:Str) (b:Int):decide ((Sum.inr a:Key)=Sum.inl b)=false:=Art (fun q=>nomatch q)
def T8 (prog:Program) (w:World):PySem.KeyKind prog w Key where
 is:=Aho
 hash:=Aqh w
 inj:=fun v a b ha hb=>by
  rcases Bi ha with ⟨i,t,rfl,rfl⟩|⟨x,t,rfl,rfl⟩
  ·rcases Bi hb with ⟨j,u,rfl,e⟩|⟨y,u,rfl,e⟩
   ·injection e with e1 _;rw[e1]
   ·exact nomatch e
  ·rcases Bi hb with ⟨j,u,rfl,e⟩|⟨y,u,rfl,e⟩
   ·exact nomatch e
   ·injection e with e1 _;rw[e1]
 byValue:=fun k v h=>by
  rcases Bi h with ⟨i,t,rfl,rfl⟩|⟨x,t,rfl,rfl⟩<;>rfl
 pyHash:=fun hv h=>by
  rcases Bi hv with ⟨i,t,rfl,rfl⟩|⟨x,t,rfl,rfl⟩
  ·exact wpAny_pyHash_int h
  ·exact wpAny_pyHash_str h
 eqBool:=fun hu hv h=>by
  rcases Bi hu with ⟨i,t,rfl,rfl⟩|⟨x,t,rfl,rfl⟩
  ·rcases Bi hv with ⟨j,u,rfl,rfl⟩|⟨y,u,rfl,rfl⟩
   ·rw[Ahr] at h;exact wpAny_eqBool_int h
   ·rw[Ahs] at h;exact SeqAt.EqAt.int_str i t y u _ _ _ _ h
  ·rcases Bi hv with ⟨j,u,rfl,rfl⟩|⟨y,u,rfl,rfl⟩
   ·rw[Aht] at h;exact SeqAt.EqAt.str_int x t j u _ _ _ _ h
   ·rw[Ahu] at h;exact wpAny_eqBool_str h
 «strs»:=fun k x t v h=>by
  rcases Bi h with ⟨i,u,rfl,e⟩|⟨y,u,rfl,e⟩
  ·exact nomatch e
  ·injection e with e1 _
   subst e1
   cases v<;>rfl
inductive V where
 |non|bl (b:Bool)|int (i:Int)|str (x:Str)|byt (b:Array UInt8)|flt (b:UInt64)|ref (a:Addr)|ty (n:String)
 deriving DecidableEq
noncomputable def RelV:V->Value->Prop
 |.non,u=>u=Value.none
 |.bl b,u=>u=Value.bool b
 |.int i,u=>∃ t,u=Value.int i t
 |.str x,u=>∃ t,u=Value.str x t
 |.byt b,u=>∃ t,u=Value.bytes b t
 |.flt b,u=>∃ t,u=Value.float b t
 |.ref a,u=>u=Value.ref a
 |.ty n,u=>u=Value.type n
abbrev Vals:List V->List Value->Prop:=Paired RelV
theorem Vals.length {xs:List V}{us:List Value} (r:Vals xs us):xs.length=us.length:=Paired.length r
theorem Vals.get:∀ {xs:List V}{us:List Value}{i:Nat}{x:V},Vals xs us->xs[i]?=some x->∃ u,us[i]?=some u/\RelV x u
 |_,_,_,_,.nil,e=>by simp at e
 |_,_,0,_,.cons r _,e=>by simp at e;subst e;exact⟨_,rfl,r⟩
 |_,_,i+1,x,.cons _ t,e=>by
  obtain⟨u,h1,h2⟩:=Vals.get (i:=i) (x:=x) t (by simpa using e)
  exact⟨u,by simpa using h1,h2⟩
theorem Vals.set {x:V}{u:Value} (r:RelV x u):∀ {xs:List V}{us:List Value} (i:Nat),Vals xs us->Vals (xs.set i x) (us.set i u)
 |_,_,_,.nil=>.nil
 |_,_,0,.cons _ t=>.cons r t
 |_,_,i+1,.cons q t=>.cons q (Vals.set r i t)
theorem Vals.append:∀ {xs ys:List V}{us ws:List Value},Vals xs us->Vals ys ws->Vals (xs++ys) (us++ws)
 |_,_,_,_,.nil,s=>s
 |_,_,_,_,.cons r t,s=>.cons r (Vals.append t s)
theorem Vals.take:∀ {xs:List V}{us:List Value} (n:Nat),Vals xs us->Vals (xs.take n) (us.take n)
 |_,_,0,_=>.nil
 |_,_,_+1,.nil=>.nil
 |_,_,n+1,.cons r t=>.cons r (Vals.take n t)
theorem Vals.drop:∀ {xs:List V}{us:List Value} (n:Nat),Vals xs us->Vals (xs.drop n) (us.drop n)
 |_,_,0,r=>r
 |_,_,_+1,.nil=>.nil
 |_,_,n+1,.cons _ t=>Vals.drop n t
def Alo:Option V->Option Value->Prop
 |some v,some u=>RelV v u
 |none,none=>True
 |_,_=>False
def KV {κ:Type}:List (κ×V)->List (κ×Value)->Prop:=Paired fun (p:κ×V) (q:κ×Value)=>p.1=q.1/\RelV p.2 q.2
inductive HO where
 /-- a list -/
 |lst (xs:List V)
 /-- a tuple (never changes) -/
 |tup (xs:List V)
 /-- a dict whose keys are ints and texts;one whose keys are tuples of ints and texts (the empty one is both) -/
 |dK (kvs:List (Key×V))|dT (kvs:List (PyData×V))
 /-- a set of ints: its members,its size -/
 |set (S:Int->Bool) (n:Nat)
 /-- an instance of the class at C,its dict at dx,its attributes -/
 |ins (C dx:Addr) (fs:List (Str×V))
 /-- the dict of the instance at x -/
 |own (x:Addr)
 /-- the dict of an exception -/
 |xd (fs:List (Str×V))
 /-- a bound method,f of x -/
 |met (f x:Addr)
 /-- a range object lo,lo+1,.. below hi -/
 |rng (lo hi:Int)
 /-- a thing that is known to the object (the script;a dict while a loop walks it): read,never written while it is so -/
 |frz (o:Obj) (u:HO)
 /-- a code object's table -/
 |tbl (ps:Array Value)
 /-- any other thing,by what is true of its one object (a def of one's own: SetO a S n:=HO.ext fun h=>..) -/
 |ext (φ:World->Heap->Prop)
abbrev Hp:=Addr->Option HO
noncomputable def upd (H:Hp) (a:Addr) (o:HO):Hp:=fun b=>if b=a then some o else H b
theorem A9 {H:Hp}{a:Addr}{o:HO}:upd H a o a=some o:=by unfold upd;rw[Aq4 rfl]
theorem Aw {H:Hp}{a b:Addr}{o:HO} (h:b≠a):upd H a o b=H b:=by unfold upd;rw[Aq7 h]
theorem Aq {H:Hp}{a b:Addr}{o:HO} (h:H a=some o) (h':H b=none):a≠b:=by
 intro e;subst e;rw[h] at h';cases h'
def TupD (h:Heap) (a:Addr) (items:Array Value):Prop:=∃ o,h.get? a=some o/\o.cls=.type "tuple"/\∃ n,o.data=.seq items n/\o.dict=none
theorem TupD.is {h:Heap}{a:Addr}{items:Array Value} (x:TupD h a items):IsTup h a items:=let ⟨o,h1,h2,n,h3,_⟩:=x;⟨o,h1,h2,n,h3⟩
theorem TupD.new (h:Heap) (items:Array Value):TupD (h.push { cls:=.type "tuple",data:=.seq items }) h.objs.size items:=⟨_,Are _ rfl,rfl,_,rfl,rfl⟩
theorem TupD.lt {h:Heap}{a:Addr}{items:Array Value} (x:TupD h a items):a < h.objs.size:=let ⟨_,h1,_⟩:=x;Aq9 h1
def Rd (H:Hp) (a:Addr) (u:HO):Prop:=H a=some u\/∃ o,H a=some (.frz o u)
def SqT (K:W.Frag) (H:Hp) (a:Addr) (xs:List V):Prop :=
 Rd H a (.tup xs) \/
  ∃ (o:Obj) (its:Array Value) (n:Nat),K.lookup a=some o/\o.cls=.type "tuple"/\o.data=.seq its n/\its.size<=sizeLine/\Vals xs its.toList/\o.dict=none
inductive KeyH (K:W.Frag) (H:Hp):PyData->V->Prop where
 |int (i:Int):KeyH K H (.int i) (.int i)
 |str (x:Str):KeyH K H (.str x) (.str x)
 |tup {ds:List PyData}{a:Addr}{vs:List V}:SqT K H a vs->Paired (KeyH K H) ds vs->KeyH K H (.tuple ds) (.ref a)
def KeyT (K:W.Frag) (H:Hp) (d:PyData) (b:Addr):Prop:=kOk d=true/\Pk d<=6/\(∃ ds,d=.tuple ds)/\KeyH K H d (.ref b)
def Zg (oc:Obj) (q:Str):Prop:=∃ (vs:Array Value) (t:Nat),oc.data=.fields vs/\vs[1]?=some (.str q t)
def Alq (H:Hp) (h:Heap) (a:Addr) (qs:Array Value):Prop:=∃ ps:Array Value,h.get? a=some (W.tabObj ps)/\TriplesOk ps.toList /\
 ∀ (pos:Pos) (cv:Value),codeAmong pos ps.toList=some cv->∃ (c:Addr) (oc:Obj) (u:HO) (q:Str) (t:Nat),qs[0]?=some (.str q t)/\cv=.ref c/\H c=some (.frz oc u)/\Zg oc q
section
variable (P:Program) (w:World) (K:W.Frag)
def ObjOk (H:Hp) (h:Heap) (a:Addr):HO->Prop
 |.lst xs=>xs.length<=sizeLine/\∃ (its:List Value) (n:Nat),Vals xs its/\h.get? a=some { cls:=.type "list",data:=.seq its.toArray n }
 |.tup xs=>xs.length<=sizeLine/\∃ its:List Value,Vals xs its/\TupD h a its.toArray
 |.dK kvs=>kvs.length<=sizeLine/\(a == sysModules)=false/\∃ vs,KV kvs vs/\h.DictOf (T8 P w) a vs
 |.dT kvs=>kvs.length<=sizeLine/\(a == sysModules)=false/\∃ xs:List (PyData×Addr×Value),
   Paired (fun (p:PyData×V) (q:PyData×Addr×Value)=>p.1=q.1/\KeyT K H q.1 q.2.1/\RelV p.2 q.2.2) kvs xs /\
   ∃ o es ep,h.get? a=some o/\o.ExactDict/\o.data=.dict es ep/\es.toList=xs.map (entryOfKey (Oz P w))/\(xs.map (·.1)).Nodup
 |.set S n=>h.SetOf (intKind P w) a S n
 |.ins C dx fs=>H dx=some (.own a)/\fs.length<=1000/\dx≠a/\h.get? a=some (W.instObj C dx) /\
   ∃ mA,h.Ns1 dx mA/\(∀ f,Alo (fs.lookup f) (mA f))/\PySem.Within mA (fs.map (·.1))
 |.own _=>∃ o,h.get? a=some o
 |.xd fs=>∃ mA,h.Ns1 a mA/\∀ f,Alo (fs.lookup f) (mA f)
 |.rng lo hi=>∃ t u v,h.get? a=some { cls:=.type "range",data:=.fields #[.int lo t,.int hi u,.int 1 v] }
 |.frz o u=>h.get? a=some o/\ObjOk H h a u
 |.tbl ps=>Alq H h a ps
 |.met f x=>h.get? a=some (W.methodObj (.ref f) (.ref x))
 |.ext φ=>φ w h/\(∃ o,h.get? a=some o)/\∀ h1 h2:Heap,φ w h1->(∀ o,h1.get? a=some o->h2.get? a=some o)->φ w h2
def HOk (H:Hp) (h:Heap):Prop:=∀ a o,H a=some o->ObjOk P w K H h a o
end
section
variable {P:Program}{w:World}{K:W.Frag}{H H':Hp}{h h':Heap}{a:Addr}{o:HO}
theorem ObjOk.lt (x:ObjOk P w K H h a o):a < h.objs.size:=by
 cases o with
 |lst xs=>obtain⟨_,_,_,_,e⟩:=x;exact Aq9 e
 |tup xs=>obtain⟨_,_,_,p⟩:=x;exact p.lt
 |dK kvs=>obtain⟨_,_,_,_,o,_,_,e,_⟩:=x;exact Aq9 e
 |dT kvs=>obtain⟨_,_,_,_,o,_,_,e,_⟩:=x;exact Aq9 e
 |set S n=>obtain⟨o,_,_,_,e,_⟩:=x;exact Aq9 e
 |ins C dx fs=>obtain⟨_,_,_,e,_⟩:=x;exact Aq9 e
 |own y=>obtain⟨_,e⟩:=x;exact Aq9 e
 |xd fs=>obtain⟨_,⟨_,_,_,e,_⟩,_⟩:=x;exact Aq9 e
 |rng lo hi=>obtain⟨_,_,_,e⟩:=x;exact Aq9 e
 |frz ob u=>obtain⟨e,_⟩:=x;exact Aq9 e
 |tbl ps=>obtain⟨_,e,_⟩:=x;exact Aq9 e
 |met f y=>exact Aq9 (show h.get? a=some _ from x)
 |ext φ=>obtain⟨_,⟨_,e⟩,_⟩:=x;exact Aq9 e
theorem Paired.mapP {α β:Type}{F G:α->β->Prop}:∀ {l₁:List α}{l₂:List β},Paired F l₁ l₂->(∀ a b,F a b->G a b)->Paired G l₁ l₂
 |_,_,.nil,_=>.nil
 |_,_,.cons r t,f=>.cons (f _ _ r) (Paired.mapP t f)
theorem SqT.upR {K:W.Frag}{H H':Hp} (ht:∀ b xs,Rd H b (.tup xs)->Rd H' b (.tup xs)) {a:Addr}{xs:List V} (h:SqT K H a xs):SqT K H' a xs:=h.elim (fun z=>.inl (ht _ _ z)) .inr
theorem KeyH.up {K:W.Frag}{H H':Hp} (ht:∀ b xs,Rd H b (.tup xs)->Rd H' b (.tup xs)) (d:PyData):∀ {v:V},KeyH K H d v->KeyH K H' d v:=by
 match d with
 |.int i=>intro v h;cases h;exact .int _
 |.str x=>intro v h;cases h;exact .str _
 |.tuple ds =>
  intro v h
  cases h with
  |@tup _ a vs hs hp =>
  refine .tup (SqT.upR ht hs) ?_
  have go:∀ (es:List PyData) (us:List V),(∀ e∈es,e∈ds)->Paired (KeyH K H) es us->Paired (KeyH K H') es us:=by
   intro es us hm q
   induction q with
   |nil=>exact .nil
   |@cons e u es us h1 h2 ih=>exact .cons (KeyH.up ht e h1) (ih fun x hx=>hm x (Aq6 _ hx))
  exact go ds vs (fun _ h=>h) hp
 |.none=>intro v h;cases h
 |.bool _=>intro v h;cases h
 |.list _=>intro v h;cases h
 |.dict _=>intro v h;cases h
termination_by sizeOf d
decreasing_by
 have:=Asp (hm e (Aq8 ..))
 simp;lia
theorem KeyT.up {K:W.Frag}{H H':Hp} (ht:∀ b xs,Rd H b (.tup xs)->Rd H' b (.tup xs)) {d:PyData}{b:Addr} (h:KeyT K H d b):KeyT K H' d b:=⟨h.1,h.2.1,h.2.2.1,h.2.2.2.up ht⟩
theorem Rd.upd_none {H:Hp}{p:Addr}{o u:HO} (hn:H p=none) {c:Addr} (q:Rd H c u):Rd (upd H p o) c u:=by
 rcases q with q|⟨x,q⟩
 ·exact .inl (by rw[Aw (Aq q hn)];exact q)
 ·exact .inr ⟨x,by rw[Aw (Aq q hn)];exact q⟩
theorem ObjOk.stay (x:ObjOk P w K H h a o) (k:∀ b u,(b=a\/H b=some (.own a))->h.get? b=some u->h'.get? b=some u)
  (ho:∀ b,H b=some (.own a)->H' b=some (.own a)) (ht:∀ b xs,Rd H b (.tup xs)->Rd H' b (.tup xs)) (hf:∀ b x u,H b=some (.frz x u)->H' b=some (.frz x u)):ObjOk P w K H' h' a o:=by
 induction o with
 |lst xs=>obtain⟨z,its,n,r,e⟩:=x;exact⟨z,its,n,r,k _ _ (.inl rfl) e⟩
 |tup xs=>obtain⟨z,its,r,ob,e,c⟩:=x;exact⟨z,its,r,ob,k _ _ (.inl rfl) e,c⟩
 |dK kvs=>obtain⟨z,y,vs,r,ob,es,ep,e,c⟩:=x;exact⟨z,y,vs,r,ob,es,ep,k _ _ (.inl rfl) e,c⟩
 |dT kvs =>
  obtain⟨z,y,xs,r,ob,es,ep,e,c⟩:=x
  exact⟨z,y,xs,Paired.mapP r fun p q z=>⟨z.1,z.2.1.up ht,z.2.2⟩,ob,es,ep,k _ _ (.inl rfl) e,c⟩
 |set S n=>obtain⟨ob,es,ep,t,e,c⟩:=x;exact⟨ob,es,ep,t,k _ _ (.inl rfl) e,c⟩
 |ins C dx fs =>
  obtain⟨d,z,ne,e,mA,⟨od,es,ep,e2,c⟩,r⟩:=x
  exact⟨ho _ d,z,ne,k _ _ (.inl rfl) e,mA,⟨od,es,ep,k _ _ (.inr d) e2,c⟩,r⟩
 |own y=>obtain⟨ob,e⟩:=x;exact⟨ob,k _ _ (.inl rfl) e⟩
 |xd fs=>obtain⟨mA,⟨od,es,ep,e,c⟩,r⟩:=x;exact⟨mA,⟨od,es,ep,k _ _ (.inl rfl) e,c⟩,r⟩
 |rng lo hi=>obtain⟨t,u,v,e⟩:=x;exact⟨t,u,v,k _ _ (.inl rfl) e⟩
 |frz ob u ih=>obtain⟨e,q⟩:=x;exact⟨k _ _ (.inl rfl) e,ih q⟩
 |tbl ps =>
  obtain⟨qs,e,t,c⟩:=x
  exact⟨qs,k _ _ (.inl rfl) e,t,fun pos cv z=>let ⟨c',oc,u,q,t',z1,z2,z3,z4⟩:=c pos cv z;⟨c',oc,u,q,t',z1,z2,hf _ _ _ z3,z4⟩⟩
 |met f y =>
  have e:h.get? a=some (W.methodObj (.ref f) (.ref y)):=x
  show h'.get? a=some (W.methodObj (.ref f) (.ref y))
  exact k a _ (.inl rfl) e
 |ext φ=>obtain⟨p,⟨o,e⟩,st⟩:=x;exact⟨st _ _ p fun o q=>k _ _ (.inl rfl) q,⟨o,k _ _ (.inl rfl) e⟩,st⟩
theorem HOk.lt (x:HOk P w K H h) (e:H a=some o):a < h.objs.size:=(x a o e).lt
theorem HOk.fresh (x:HOk P w K H h) (e:h.objs.size<=a):H a=none:=by
 cases q:H a with
 |none=>rfl
 |some u=>exact absurd (Arb (x.lt q) e) (Ary _)
theorem HOk.kept (x:HOk P w K H h) (k:∀ b u,h.get? b=some u->h'.get? b=some u):HOk P w K H h':=fun a o e =>
 (x a o e).stay (fun b u _ q=>k b u q) (fun _ q=>q) (fun _ _ q=>q) fun _ _ _ q=>q
theorem HOk.laid (x:HOk P w K H h) (k:∀ b u,h.get? b=some u->h'.get? b=some u) (hp:h.objs.size<=a) (new:ObjOk P w K (upd H a o) h' a o):HOk P w K (upd H a o) h':=fun b u e=>by
 have hn:=x.fresh hp
 by_cases hb:b=a
 ·subst hb;rw[A9] at e;cases e;exact new
 ·rw[Aw hb] at e
  exact (x b u e).stay (fun c v _ q=>k c v q) (fun c q=>by rw[Aw (Aq q hn)];exact q) (fun c xs q=>Rd.upd_none hn q) fun c x u q=>by rw[Aw (Aq q hn)];exact q
end
theorem Rd.ok {P:Program}{w:World}{K:W.Frag}{H:Hp}{h:Heap}{a:Addr}{u:HO} (r:Rd H a u) (x:HOk P w K H h):ObjOk P w K H h a u:=by
 rcases r with r|⟨o,r⟩
 ·exact x a u r
 ·obtain⟨_,q⟩:=x a _ r
  exact q
noncomputable def Mut:Option HO->Prop
 |some (.lst _)=>True
 |some (.dK _)=>True
 |some (.dT _)=>True
 |some (.set _ _)=>True
 |some (.ins _ _ _)=>True
 |some (.ext _)=>True
 |_=>False
theorem Rd.upd_mut {H:Hp}{x:Addr}{o:HO} (mu:Mut (H x)) {c:Addr}{xs:List V} (q:Rd H c (.tup xs)):Rd (upd H x o) c (.tup xs):=by
 rcases q with q|⟨y,q⟩
 ·exact .inl (by rw[Aw (fun z=>by subst z;rw[q] at mu;exact mu)];exact q)
 ·exact .inr ⟨y,by rw[Aw (fun z=>by subst z;rw[q] at mu;exact mu)];exact q⟩
section
variable {P:Program}{w:World}{K:W.Frag}{H:Hp}{h h':Heap}{x e:Addr}{o':HO}
theorem HOk.write (ok:HOk P w K H h) (mu:Mut (H x)) (he:e=x\/H e=some (.own x)) (k:∀ b u,b≠e->h.get? b=some u->h'.get? b=some u) (heo:∃ u,h'.get? e=some u)
  (new:ObjOk P w K (upd H x o') h' x o'):HOk P w K (upd H x o') h':=fun b u q=>by
 have nown:∀ c y,H c=some (.own y)->c≠x:=fun c y r z=>by subst z;rw[r] at mu;exact mu
 have ntup:∀ c xs,H c=some (.tup xs)->c≠x:=fun c xs r z=>by subst z;rw[r] at mu;exact mu
 by_cases hb:b=x
 ·subst hb;rw[A9] at q;cases q;exact new
 ·rw[Aw hb] at q
  by_cases hbe:b=e
  ·have q':H b=some (.own x):=by
    rcases he with z|z
    ·exact absurd (hbe.trans z) hb
    ·rw[hbe];exact z
   rw[q] at q';cases q'
   obtain⟨v,hv⟩:=heo
   exact⟨v,by rw[hbe];exact hv⟩
  ·refine (ok b u q).stay (fun c v hc r=>k c v ?_ r) (fun c r=>by rw[Aw (nown c b r)];exact r) (fun c xs r=>Rd.upd_mut mu r) fun c y u r=>by rw[Aw (fun z=>by subst z;rw[r] at mu;exact mu)];exact r
   rcases hc with rfl|hc
   ·exact hbe
   ·rintro rfl
    rcases he with z|z
    ·exact nown c b hc z
    ·rw[hc] at z;cases z;exact hb rfl
end
structure Un (fs ex:List Addr) (H H':Hp) (h h':Heap):Prop where
 keep:∀ b o,h.get? b=some o->H b=none->b∉fs->b∉ex->h'.get? b=some o
 slot:∀ b o,h.get? b=some o->H b=none->b∈fs->b∉ex->∃ sl,h'.get? b=some { o with slots:=sl }
 free:∀ b o,h.get? b=some o->H b=none->b∉ex->H' b=none
 there:∀ b o,h.get? b=some o->b∉ex->∃ o',h'.get? b=some o'
 tups:∀ b xs,H b=some (.tup xs)->H' b=some (.tup xs)
 frzs:∀ b o u,H b=some (.frz o u)->H' b=some (.frz o u)
 tbls:∀ b ps,H b=some (.tbl ps)->∃ more,H' b=some (.tbl (ps++more))
section
variable {fs fs' ex ex':List Addr}{H H1 H2:Hp}{h h1 h2 h':Heap}{a x e:Addr}{o:HO}
theorem Un.any (u:Un fs ex H H1 h h1) {b:Addr}{ob:Obj} (q:h.get? b=some ob) (n:H b=none) (hx:b∉ex):∃ sl,h1.get? b=some { ob with slots:=sl }:=by
 by_cases hb:b∈fs
 ·exact u.slot b ob q n hb hx
 ·exact⟨ob.slots,u.keep b ob q n hb hx⟩
theorem Un.kept (k:∀ b u,h.get? b=some u->h'.get? b=some u):Un fs ex H H h h' :=
 ⟨fun b ob q _ _ _=>k b ob q,fun b ob q _ _ _=>⟨ob.slots,k b ob q⟩,fun _ _ _ n _=>n,fun b ob q _=>⟨ob,k b ob q⟩,fun _ _ q=>q,fun _ _ _ q=>q,fun _ ps q=>⟨#[],by rw[q];simp⟩⟩
theorem Un.refl:Un fs ex H H h h:=Un.kept fun _ _ q=>q
theorem Un.laid (k:∀ b u,h.get? b=some u->h'.get? b=some u) (hp:h.objs.size<=a) (hn:H a=none):Un fs ex H (upd H a o) h h' where
 keep:=fun b u q _ _ _=>k b u q
 slot:=fun b u q _ _ _=>⟨u.slots,k b u q⟩
 free:=fun b u q n _=>by rw[Aw (Aro (Arb (Aq9 q) hp))];exact n
 there:=fun b u q _=>⟨u,k b u q⟩
 tups:=fun b xs q=>by rw[Aw (Aq q hn)];exact q
 frzs:=fun b u xs q=>by rw[Aw (Aq q hn)];exact q
 tbls:=fun b ps q=>⟨#[],by rw[Aw (Aq q hn),q];simp⟩
theorem Un.write (mu:Mut (H x)) (he:e=x\/H e=some (.own x)) (k:∀ b u,b≠e->h.get? b=some u->h'.get? b=some u) (heo:∃ u,h'.get? e=some u):Un fs ex H (upd H x o) h h':=by
 have hx:∀ b,H b=none->b≠x:=fun b n z=>by subst z;rw[n] at mu;exact mu
 have hb:∀ b,H b=none->b≠e:=fun b n z=>by
  subst z
  rcases he with r|r
  ·exact hx b n r
  ·rw[n] at r;cases r
 have hm:∀ b u,H b=some u->¬ Mut (some u)->b≠x:=fun b u q nm z=>by subst z;rw[q] at mu;exact nm mu
 refine⟨fun b u q n _ _=>k b u (hb b n) q,fun b u q n _ _=>⟨u.slots,k b u (hb b n) q⟩,fun b u q n _=>by rw[Aw (hx b n)];exact n,fun b u q _=>?_,
  fun b xs q=>by rw[Aw (hm b _ q fun z=>z)];exact q,fun b u xs q=>by rw[Aw (hm b _ q fun z=>z)];exact q,fun b ps q=>⟨#[],by rw[Aw (hm b _ q fun z=>z),q];simp⟩⟩
 by_cases hbe:b=e
 ·subst hbe;exact heo
 ·exact⟨u,k b u hbe q⟩
end
noncomputable def trk (h:Heap) (H:Hp):List Addr:=(List.range h.objs.size).filter fun a=>(H a).isSome
def Xh (h:Heap) (H:Hp):Heap:=W.hideAll h (trk h H)
theorem Tp (h:Heap) (H:Hp):(Xh h H).objs.size=h.objs.size:=W.hideAll_size _ _
theorem Xi {h:Heap}{H:Hp}{b:Addr}{o:Obj} (e:h.get? b=some o) (n:H b=none):(Xh h H).get? b=some o :=
 W.hideAll_get _ e fun hm=>by
  have q:(H b).isSome=true:=(List.mem_filter.mp hm).2
  rw[n] at q;simp at q
theorem Ada {h:Heap}{H:Hp}{b:Addr}{o:Obj} (e:(Xh h H).get? b=some o):h.get? b=some o/\H b=none:=by
 have e':h.get? b=some o:=W.of_hideAll (trk h H) e
 refine⟨e',?_⟩
 cases q:H b with
 |none=>rfl
 |some x =>
  have hm:b∈trk h H:=List.mem_filter.mpr ⟨List.mem_range.mpr (Aq9 e'),by simp[q]⟩
  have z:(Xh h H).get? b=none:=W.hideAll_none (trk h H) hm
  rw[z] at e;cases e
structure Mod (K:W.Frag) (mg:Str->Option Value) (base:Heap):Prop where
 kin:K.In base
 glob:base.Ns mainGlobals mg
 blt:∃ mb,base.Ns builtinsNs mb/\∀ x:Str,x≠"__name__"->mb x=bootBuiltins x
 nolimit:base.NoLimit
structure Cx where
 prog:Program
 w:World
 K:W.Frag
 mg:Str->Option Value
 base:Heap
 A:Around
 N:List Str
 s₀:Shared
 H₀:Hp
 env:Env
 outer:List Env
 stack:List Env
 ex:List Addr
 fn:Str->Bool
 calm:Bool
 pn:List (Addr×Obj)
 xe:Value->Shared->Prop
noncomputable def frs (l:List Env):List Addr:=l.filterMap (·.frame)
abbrev Cx.fs (X:Cx):List Addr:=frs X.outer
def Vis (sc:Scope) (x:Str):Prop:=sc.names.lookup x=some .local\/sc.names.lookup x=some .cell\/sc.names.lookup x=some .free
def Loc (sc:Scope) (x:Str):Prop:=sc.names.lookup x=some .local\/sc.names.lookup x=some .cell
def Apq (env:Env) (h:Heap) (m:Str->Option Value) (x:Str) (u:Value):Prop :=
 (env.kindOf x=some .local/\m x=some u)\/((env.kindOf x=some .cell\/env.kindOf x=some .free)/\∃ c,env.cells.lookup x=some c/\h.IsCell c (some u))
structure Cx.Ok (X:Cx):Prop where
 mod:Mod X.K X.mg X.base
 kind:X.env.scope.kind=.function
 glob:X.env.globals=mainGlobals
 blt:X.env.builtins=builtinsNs
 above:X.s₀.heap.objs.size<=X.env.locals
 inj:∀ x y c,X.env.cells.lookup x=some c->X.env.cells.lookup y=some c->x=y
 has:∀ x,(X.env.kindOf x=some .cell\/X.env.kindOf x=some .free)->∃ c,X.env.cells.lookup x=some c
 cab:∀ x c,X.fn x=true->X.env.cells.lookup x=some c->X.s₀.heap.objs.size<=c
 hd:X.calm=true->X.A.handled=none
 frames:X.A.frames=some X.stack
 stk:X.stack=X.outer\/(X.stack=X.env::X.outer/\X.env.frame=some X.env.locals)
 exf:∀ b∈X.ex,b≠X.env.locals/\∀ x c,X.env.cells.lookup x=some c->c≠b
 bs:∀ b o,X.base.get? b=some o->X.s₀.heap.get? b=some o/\X.H₀ b=none
 bsz:X.base.objs.size<=X.s₀.heap.objs.size
 noex:∀ b o,X.base.get? b=some o->b∉X.ex
 exfs:∀ b∈X.ex,b∉X.fs
 funs:X.s₀.heap.FunFrames X.base X.outer
 frf:∀ b∈X.fs,X.H₀ b=none
structure Inv (X:Cx) (pins:List (Addr×Obj)) (σ:List (Option V)) (H:Hp) (s:Shared):Prop where
 ok:X.Ok
 os:s.os=X.s₀.os
 bare:AllBare s.gens
 base:Un X.fs X.ex X.H₀ H X.s₀.heap s.heap
 loc:∃ m,s.heap.Ns X.env.locals m/\∀ (i:Nat) (x:Str) (v:V),X.N[i]?=some x->σ[i]?=some (some v)->Vis X.env.scope x->∃ u,RelV v u/\Apq X.env s.heap m x u
 cell:∀ x c,X.env.cells.lookup x=some c->∃ v,s.heap.IsCell c v
 free:H X.env.locals=none
 freeC:∀ x c,X.env.cells.lookup x=some c->H c=none
 pin:∀ p∈X.pn++pins,s.heap.get? p.1=some p.2/\H p.1=none/\p.1≠X.env.locals/\p.1∉X.fs/\∀ v,p.2.data≠.cell v
 hok:HOk X.prog X.w X.K H s.heap
 len:σ.length=X.N.length
section
variable {X:Cx}{pins:List (Addr×Obj)}{σ:List (Option V)}{H H':Hp}{s:Shared}{h':Heap}
theorem Cx.Ok.nofr (ok:X.Ok) {b:Addr}{o:Obj} (e:X.base.get? b=some o):b∉X.fs:=fun hb=>by
 have:=(ok.funs.mem hb).1
 rw[e] at this;cases this
theorem Inv.bs (I:Inv X pins σ H s):∀ b o,X.base.get? b=some o->s.heap.get? b=some o/\H b=none:=fun b o e =>
 ⟨I.base.keep b o (I.ok.bs b o e).1 (I.ok.bs b o e).2 (I.ok.nofr e) (I.ok.noex b o e),I.base.free b o (I.ok.bs b o e).1 (I.ok.bs b o e).2 (I.ok.noex b o e)⟩
theorem Inv.bk (I:Inv X pins σ H s):∀ b o,X.base.get? b=some o->s.heap.get? b=some o:=fun b o e=>(I.bs b o e).1
theorem Inv.mod (I:Inv X pins σ H s):Mod X.K X.mg X.base:=I.ok.mod
theorem Inv.kIn (I:Inv X pins σ H s):X.K.In s.heap:=I.ok.mod.kin.keeps I.bk
theorem Inv.lt (I:Inv X pins σ H s):X.env.locals < s.heap.objs.size:=let ⟨_,hn,_⟩:=I.loc;hn.lt
theorem Inv.sz (I:Inv X pins σ H s):X.s₀.heap.objs.size<=s.heap.objs.size:=Arl I.ok.above (As4 I.lt)
theorem Inv.nofs (I:Inv X pins σ H s) {a:Addr} (h:s.heap.objs.size<=a):a∉X.fs:=fun hb=>by
 obtain⟨_,o,ho,_⟩:=I.ok.funs.mem hb
 exact absurd (Arb (Aq9 ho) (Arl I.sz h)) (Ary _)
theorem Inv.cne (I:Inv X pins σ H s):∀ x c,X.env.cells.lookup x=some c->c≠X.env.locals:=fun x c e z=>by
 obtain⟨v,o,ho,hd⟩:=I.cell x c e
 obtain⟨m,⟨o',es,ep,ho',hd',_⟩,_⟩:=I.loc
 rw[z,ho'] at ho;cases ho;rw[hd'] at hd;cases hd
theorem Inv.funs (I:Inv X pins σ H s):s.heap.FunFrames X.base X.outer:=by
 have all:∀ (l:List Env),(∀ b∈frs l,b∈X.fs)->X.s₀.heap.FunFrames X.base l->s.heap.FunFrames X.base l:=by
  intro l
  induction l with
  |nil=>intro _ _;trivial
  |cons env r ih =>
   intro hs hl
   obtain⟨hk,⟨L,o,hf,hn,ho,hd⟩,hr⟩:=hl
   have hL:L∈X.fs:=hs L (by unfold frs;rw[List.filterMap_cons,hf];exact Aq8)
   obtain⟨sl,e⟩:=I.base.slot L o ho (I.ok.frf L hL) hL fun z=>I.ok.exfs L z hL
   exact⟨hk,⟨L,_,hf,hn,e,hd⟩,ih (fun b hb=>hs b (by unfold frs;rw[List.filterMap_cons,hf];exact Aq6 _ hb)) hr⟩
 exact all X.outer (fun _ hb=>hb) I.ok.funs
theorem Inv.stack (I:Inv X pins σ H s):s.heap.FunFrames X.base X.stack:=by
 rcases I.ok.stk with e|⟨e,hf⟩
 ·rw[e];exact I.funs
 ·rw[e]
  obtain⟨m,hn,_⟩:=I.loc
  refine .cons (by rw[I.ok.kind];decide) hf hn ?_ I.funs
  exact Heap.get?_none_of_le (Arl I.ok.bsz I.ok.above)
theorem Inv.stkSub (I:Inv X pins σ H s):∀ b∈frs X.stack,b∈X.env.locals::X.fs:=fun b hb=>by
 rcases I.ok.stk with e|⟨e,hf⟩
 ·rw[e] at hb;exact Aq6 _ hb
 ·rw[e] at hb
  unfold frs at hb
  rw[List.filterMap_cons,hf] at hb
  exact hb
theorem Inv.stkFree (I:Inv X pins σ H s):∀ b∈frs X.stack,H b=none:=fun b hb=>by
 rcases List.mem_cons.mp (I.stkSub b hb) with e|hb
 ·rw[e];exact I.free
 ·obtain⟨_,o,ho,_⟩:=I.ok.funs.mem hb
  exact I.base.free b o ho (I.ok.frf b hb) fun z=>I.ok.exfs b z hb
theorem Inv.step {g':Array GenState}{t':Nat}{d':Drawn}{ch:List Addr} (I:Inv X pins σ H s)
  (hch:∀ b∈ch,(b∈X.ex\/X.s₀.heap.objs.size<=b)/\b≠X.env.locals/\(∀ x c,X.env.cells.lookup x=some c->c≠b)/\∀ p∈X.pn++pins,p.1≠b)
  (keep:∀ b o,b≠X.env.locals->b∉X.fs->b∉ch->s.heap.get? b=some o->H b=none->h'.get? b=some o)
  (slot:∀ b o,b≠X.env.locals->b∈X.fs->b∉ch->s.heap.get? b=some o->H b=none->∃ sl,h'.get? b=some { o with slots:=sl }) (free:∀ b o,b∉ch->s.heap.get? b=some o->H b=none->H' b=none)
  (there:∀ b o,b∉ch->s.heap.get? b=some o->∃ o',h'.get? b=some o')
  (tups:∀ b xs,H b=some (.tup xs)->H' b=some (.tup xs)) (frzs:∀ b o u,H b=some (.frz o u)->H' b=some (.frz o u)) (tbls:∀ b ps,H b=some (.tbl ps)->∃ more,H' b=some (.tbl (ps++more)))
  (ns:∀ m,s.heap.Ns X.env.locals m->h'.Ns X.env.locals m) (hok:HOk X.prog X.w X.K H' h') (hg:AllBare g') :
  Inv X pins σ H' { s with heap:=h',gens:=g',drawn:=d',toks:=t' }:=by
 have neL:∀ b o,X.s₀.heap.get? b=some o->b≠X.env.locals:=fun b o e=>Aro (Arb (Aq9 e) I.ok.above)
 have neC:∀ b o,X.s₀.heap.get? b=some o->b∉X.ex->b∉ch:=fun b o e hx hb=>by
  rcases (hch b hb).1 with z|z
  ·exact hx z
  ·exact absurd (Arb (Aq9 e) z) (Ary _)
 have cellK:∀ x c,X.env.cells.lookup x=some c->∀ v,s.heap.IsCell c v->h'.IsCell c v:=fun x c e v ⟨o,ho,hd⟩=>by
  have nch:c∉ch:=fun z=>(hch c z).2.2.1 x c e rfl
  by_cases hc:c∈X.fs
  ·obtain⟨sl,q⟩:=slot c o (I.cne x c e) hc nch ho (I.freeC x c e)
   exact⟨_,q,hd⟩
  ·exact⟨o,keep c o (I.cne x c e) hc nch ho (I.freeC x c e),hd⟩
 refine⟨I.ok,I.os,hg,⟨fun b o e n hb hx=>?_,fun b o e n hb hx=>?_,fun b o e n hx=>?_,fun b o e hx=>?_,fun b xs e=>tups b xs (I.base.tups b xs e),fun b o xs e=>frzs b o xs (I.base.frzs b o xs e),fun b ps e=>?_⟩,?_,fun x c e=>?_,?_,fun x c e=>?_,fun p hp=>?_,hok,I.len⟩
 ·exact keep b o (neL b o e) hb (neC b o e hx) (I.base.keep b o e n hb hx) (I.base.free b o e n hx)
 ·obtain⟨sl,e1⟩:=I.base.slot b o e n hb hx
  obtain⟨sl',e2⟩:=slot b _ (neL b o e) hb (neC b o e hx) e1 (I.base.free b o e n hx)
  exact⟨sl',e2⟩
 ·obtain⟨o',e1⟩:=I.base.there b o e hx
  exact free b o' (neC b o e hx) e1 (I.base.free b o e n hx)
 ·obtain⟨o',e1⟩:=I.base.there b o e hx
  exact there b o' (neC b o e hx) e1
 ·obtain⟨m1,e1⟩:=I.base.tbls b ps e
  obtain⟨m2,e2⟩:=tbls b _ e1
  exact⟨m1++m2,by rw[e2,Array.append_assoc]⟩
 ·obtain⟨m,hn,hl⟩:=I.loc
  refine⟨m,ns m hn,fun i x v e1 e2 e3=>?_⟩
  obtain⟨u,r,l⟩:=hl i x v e1 e2 e3
  refine⟨u,r,?_⟩
  rcases l with l|⟨k,c,e,z⟩
  ·exact .inl l
  ·exact .inr ⟨k,c,e,cellK x c e _ z⟩
 ·obtain⟨v,z⟩:=I.cell x c e
  exact⟨v,cellK x c e v z⟩
 ·obtain⟨m,⟨o,_,_,ho,_⟩,_⟩:=I.loc
  exact free _ o (fun z=>(hch _ z).2.1 rfl) ho I.free
 ·obtain⟨v,o,ho,hd⟩:=I.cell x c e
  exact free c o (fun z=>(hch c z).2.2.1 x c e rfl) ho (I.freeC x c e)
 ·obtain⟨e,n,ne,nf,d⟩:=I.pin p hp
  have nch:p.1∉ch:=fun z=>(hch p.1 z).2.2.2 p hp rfl
  exact⟨keep p.1 p.2 ne nf nch e n,free p.1 p.2 nch e n,ne,nf,d⟩
theorem Inv.un {t':Nat} (I:Inv X pins σ H s) (u:Un X.fs [] H H' s.heap h') (hok:HOk X.prog X.w X.K H' h'):Inv X pins σ H' { s with heap:=h',toks:=t' }:=by
 obtain⟨m,⟨o,es,ep,ho,r⟩,_⟩:=id I.loc
 obtain⟨sl,hL⟩:=u.any ho I.free (by simp)
 exact I.step (g':=s.gens) (d':=s.drawn) (ch:=[]) (fun _ z=>nomatch z) (fun b o _ hb _ e n=>u.keep b o e n hb (by simp)) (fun b o _ hb _ e n=>u.slot b o e n hb (by simp)) (fun b o _ e n=>u.free b o e n (by simp)) (fun b o _ e=>u.there b o e (by simp)) u.tups u.frzs u.tbls (fun m' hm=>by
  obtain⟨o',es',ep',ho',r'⟩:=hm
  rw[ho] at ho';cases ho'
  exact⟨_,es',ep',hL,r'⟩) hok I.bare
theorem Inv.call {g':Array GenState}{t':Nat}{d':Drawn}{ch:List Addr} (I:Inv X pins σ H s) (u:Un (frs X.stack) ch H H' s.heap h') (hok:HOk X.prog X.w X.K H' h') (hg:AllBare g')
  (hch:∀ b∈ch,(b∈X.ex\/X.s₀.heap.objs.size<=b)/\b≠X.env.locals/\(∀ x c,X.env.cells.lookup x=some c->c≠b)/\∀ p∈X.pn++pins,p.1≠b) :
  Inv X pins σ H' { s with heap:=h',gens:=g',drawn:=d',toks:=t' }:=by
 obtain⟨m,⟨o,es,ep,ho,r⟩,_⟩:=id I.loc
 obtain⟨sl,hL⟩:=u.any ho I.free fun z=>(hch _ z).2.1 rfl
 exact I.step (ch:=ch) hch (fun b o hL hb hc e n=>u.keep b o e n (fun z=>(List.mem_cons.mp (I.stkSub b z)).elim hL hb) hc) (fun b o _ _ hc e n=>u.any e n hc) (fun b o hc e n=>u.free b o e n hc) (fun b o hc e=>u.there b o e hc) u.tups u.frzs u.tbls (fun m' hm=>by
  obtain⟨o',es',ep',ho',r'⟩:=hm
  rw[ho] at ho';cases ho'
  exact⟨_,es',ep',hL,r'⟩) hok hg
theorem Inv.turned {t':Nat}{it:Addr} (I:Inv X pins σ H s) (k:∀ b o,b≠it->s.heap.get? b=some o->h'.get? b=some o) (hn:H it=none) (hL:it≠X.env.locals)
  (h1:it∈X.ex\/X.s₀.heap.objs.size<=it) (h2:∀ x c,X.env.cells.lookup x=some c->c≠it) (h3:∀ p∈X.pn++pins,p.1≠it):Inv X pins σ H { s with heap:=h',toks:=t' }:=by
 have nit:∀ b u,H b=some u->b≠it:=fun b u e z=>by rw[z,hn] at e;cases e
 refine I.step (g':=s.gens) (d':=s.drawn) (ch:=[it]) (fun b hb=>?_) (fun b o _ _ hc e _=>k b o (fun z=>hc (by simp[z])) e) (fun b o _ _ hc e _=>⟨o.slots,k b o (fun z=>hc (by simp[z])) e⟩) (fun _ _ _ _ n=>n)
  (fun b o hc e=>⟨o,k b o (fun z=>hc (by simp[z])) e⟩) (fun _ _ e=>e) (fun _ _ _ e=>e) (fun b ps e=>⟨#[],by rw[e];simp⟩) (fun m hm=>?_) (fun b u e=>?_) I.bare
 ·have e:b=it:=by simpa using hb
  subst e
  exact⟨h1,hL,h2,h3⟩
 ·obtain⟨o,es,ep,ho,r⟩:=hm
  exact⟨o,es,ep,k _ o (Asc hL) ho,r⟩
 ·refine (I.hok b u e).stay (fun c v hc q=>k c v ?_ q) (fun _ q=>q) (fun _ _ q=>q) fun _ _ _ q=>q
  rcases hc with z|z
  ·rw[z];exact nit b u e
  ·exact nit c _ z
theorem Inv.tok (I:Inv X pins σ H s) (t:Nat):Inv X pins σ H { s with toks:=t }:=I.un (h':=s.heap) (t':=t) Un.refl I.hok
theorem Inv.kept {t':Nat} (I:Inv X pins σ H s) (k:∀ b u,s.heap.get? b=some u->h'.get? b=some u):Inv X pins σ H { s with heap:=h',toks:=t' }:=I.un (Un.kept k) (I.hok.kept k)
theorem Inv.laid {a:Addr}{o:HO}{t':Nat} (I:Inv X pins σ H s) (k:∀ b u,s.heap.get? b=some u->h'.get? b=some u) (hp:s.heap.objs.size<=a) (new:ObjOk X.prog X.w X.K (upd H a o) h' a o) :
  Inv X pins σ (upd H a o) { s with heap:=h',toks:=t' }:=I.un (Un.laid k hp (I.hok.fresh hp)) (I.hok.laid k hp new)
theorem Inv.write {x e:Addr}{o:HO}{t':Nat} (I:Inv X pins σ H s) (mu:Mut (H x)) (he:e=x\/H e=some (.own x)) (k:∀ b u,b≠e->s.heap.get? b=some u->h'.get? b=some u) (heo:∃ u,h'.get? e=some u)
  (new:ObjOk X.prog X.w X.K (upd H x o) h' x o):Inv X pins σ (upd H x o) { s with heap:=h',toks:=t' }:=I.un (Un.write mu he k heo) (I.hok.write mu he k heo new)
theorem Inv.pins_of {pins':List (Addr×Obj)} (I:Inv X pins σ H s) (h:∀ p∈pins',s.heap.get? p.1=some p.2/\H p.1=none/\p.1≠X.env.locals/\p.1∉X.fs/\∀ v,p.2.data≠.cell v):Inv X pins' σ H s :=
 ⟨I.ok,I.os,I.bare,I.base,I.loc,I.cell,I.free,I.freeC,fun p hp=>(List.mem_append.mp hp).elim (fun z=>I.pin p (Arx _ z)) (h p),I.hok,I.len⟩
theorem Of {N:List Str} (hN:N.Nodup) {i j:Nat}{x:Str} (a:N[i]?=some x) (b:N[j]?=some x):i=j:=by
 obtain⟨h1,e1⟩:=List.getElem?_eq_some_iff.mp a
 obtain⟨h2,e2⟩:=List.getElem?_eq_some_iff.mp b
 exact (List.getElem_inj hN).mp (e1.trans e2.symm)
theorem Mp {M:Model}{A:Around}{E:Value->Shared->Prop}{i:Nat}{x:Str}{v:V}{u:Value}{Q:Unit->Shared->Prop} (I:Inv X pins σ H s) (hN:X.N.Nodup) (hi:X.N[i]?=some x) (hx:Loc X.env.scope x) (r:RelV v u)
  (h:∀ s',Inv X pins (σ.set i (some v)) H s'->(∃ a,Heap.SameBut a s.heap s'.heap/\(a=X.env.locals\/X.env.cells.lookup x=some a))->Q () s') (hf:X.fn x=true\/X.env.scope.names.lookup x=some .local:=by first|exact .inl rfl|exact .inr rfl|assumption):wpAny M A (storeName X.env x u) Q E s:=by
 obtain⟨m,hn,hl⟩:=id I.loc
 have hcls:(X.env.scope.kind == .class||(X.env.scope.kind == .module&&X.env.locals != X.env.globals))=false:=by rw[I.ok.kind];rfl
 have hiσ:i < σ.length:=by rw[I.len];exact (List.getElem?_eq_some_iff.mp hi).1
 have cne:=I.cne
 have tracked:∀ {a:Addr}{h':Heap},(∃ o,s.heap.get? a=some o/\H a=none)->Heap.SameBut a s.heap h'->HOk X.prog X.w X.K H h':=fun {a h'} ha hs b ob e=>by
  obtain⟨_,_,hfree⟩:=ha
  refine (I.hok b ob e).stay (fun c w' hc q=>(hs.2 c ?_).trans q) (fun _ q=>q) (fun _ _ q=>q) fun _ _ _ q=>q
  rintro rfl
  rcases hc with rfl|hc
  ·rw[hfree] at e;cases e
  ·rw[hfree] at hc;cases hc
 rcases hx with hk|hk
 ·refine wpAny_storeName_local hk hn (fun h' hn' hs=>?_) hcls
  obtain⟨oL,_,_,hoL,_⟩:=id hn
  refine h _ ⟨I.ok,I.os,I.bare,⟨fun b o e n hb hx=>?_,fun b o e n hb hx=>?_,I.base.free,fun b o e hx=>?_,I.base.tups,I.base.frzs,I.base.tbls⟩,⟨_,hn',fun j y v' e1 e2 e3=>?_⟩,fun y c e=>?_,I.free,I.freeC,fun p hp=>?_,tracked ⟨oL,hoL,I.free⟩ hs,by simpa using I.len⟩ ⟨_,hs,.inl rfl⟩
  ·exact (hs.2 b (Aro (Arb (Aq9 e) I.ok.above))).trans (I.base.keep b o e n hb hx)
  ·obtain⟨sl,e1⟩:=I.base.slot b o e n hb hx
   exact⟨sl,(hs.2 b (Aro (Arb (Aq9 e) I.ok.above))).trans e1⟩
  ·obtain⟨o',e1⟩:=I.base.there b o e hx
   exact⟨o',(hs.2 b (Aro (Arb (Aq9 e) I.ok.above))).trans e1⟩
  ·by_cases hj:j=i
   ·subst hj
    rw[hi] at e1;cases e1
    rw[Ar0 hiσ] at e2
    cases e2
    exact⟨u,r,.inl ⟨hk,by simp⟩⟩
   ·rw[Asa (Asc hj)] at e2
    obtain⟨u',r',q⟩:=hl j y v' e1 e2 e3
    refine⟨u',r',?_⟩
    rcases q with ⟨k,e⟩|⟨k,c,e,z⟩
    ·refine .inl ⟨k,?_⟩
     have:y≠x:=fun e=>hj (Of hN e1 (e ▸ hi))
     simp[this,e]
    ·exact .inr ⟨k,c,e,z.sameBut hs (cne y c e)⟩
  ·obtain⟨w',z⟩:=I.cell y c e
   exact⟨w',z.sameBut hs (cne y c e)⟩
  ·obtain⟨e,n,ne,nf,d⟩:=I.pin p hp
   exact⟨(hs.2 p.1 ne).trans e,n,ne,nf,d⟩
 ·have hfn:X.fn x=true:=by
   rcases hf with z|z
   ·exact z
   ·rw[z] at hk;cases hk
  obtain⟨c,hc⟩:=I.ok.has x (.inl hk)
  obtain⟨w',z⟩:=I.cell x c hc
  refine wpAny_storeName_cell I.ok.kind hk hc z (fun h' hc' hs=>?_)
  obtain⟨oc,hoc,hocd⟩:=id z
  refine h { s with heap:=h' } ⟨I.ok,I.os,I.bare,⟨fun b o e n hb hx=>?_,fun b o e n hb hx=>?_,I.base.free,fun b o e hx=>?_,I.base.tups,I.base.frzs,I.base.tbls⟩,⟨m,hn.sameBut hs (Asc (cne x c hc)),fun j y v' e1 e2 e3=>?_⟩,fun y c' e=>?_,I.free,I.freeC,fun p hp=>?_,tracked ⟨oc,hoc,I.freeC x c hc⟩ hs,by simpa using I.len⟩ ⟨c,hs,.inr hc⟩
  ·exact (hs.2 b (Aro (Arb (Aq9 e) (I.ok.cab x c hfn hc)))).trans (I.base.keep b o e n hb hx)
  ·obtain⟨sl,e1⟩:=I.base.slot b o e n hb hx
   exact⟨sl,(hs.2 b (Aro (Arb (Aq9 e) (I.ok.cab x c hfn hc)))).trans e1⟩
  ·obtain⟨o',e1⟩:=I.base.there b o e hx
   exact⟨o',(hs.2 b (Aro (Arb (Aq9 e) (I.ok.cab x c hfn hc)))).trans e1⟩
  ·by_cases hj:j=i
   ·subst hj
    rw[hi] at e1;cases e1
    rw[Ar0 hiσ] at e2
    cases e2
    exact⟨u,r,.inr ⟨.inl hk,c,hc,hc'⟩⟩
   ·rw[Asa (Asc hj)] at e2
    obtain⟨u',r',q⟩:=hl j y v' e1 e2 e3
    refine⟨u',r',?_⟩
    rcases q with q|⟨k,c',e,z'⟩
    ·exact .inl q
    ·refine .inr ⟨k,c',e,z'.sameBut hs ?_⟩
     rintro rfl
     exact hj (Of hN e1 (I.ok.inj _ _ _ e hc ▸ hi))
  ·by_cases hcc:c'=c
   ·subst hcc;exact⟨_,hc'⟩
   ·obtain⟨w2,z2⟩:=I.cell y c' e
    exact⟨w2,z2.sameBut hs hcc⟩
  ·obtain⟨e,n,ne,nf,d⟩:=I.pin p hp
   refine⟨(hs.2 p.1 ?_).trans e,n,ne,nf,d⟩
   intro q
   rw[q,hoc] at e
   have q':oc=p.2:=Arn e
   exact d w' (by rw[<- q'];exact hocd)
theorem Ow {M:Model}{A:Around}{E:Value->Shared->Prop}{i:Nat}{x:Str}{v:V}{u:Value}{Q:Unit->Shared->Prop} (I:Inv X pins σ H s) (hN:X.N.Nodup) (hi:X.N[i]?=some x) (hx:Loc X.env.scope x) (r:RelV v u)
  (h:∀ s',Inv X pins (σ.set i (some v)) H s'->Q () s') (hf:X.fn x=true\/X.env.scope.names.lookup x=some .local:=by first|exact .inl rfl|exact .inr rfl|assumption):wpAny M A (storeName X.env x u) Q E s :=
 Mp I hN hi hx r (fun s' I' _=>h s' I') hf
theorem Inv.call' {s':Shared}{ch:List Addr} (I:Inv X pins σ H s) (ho:s'.os=s.os) (u:Un (frs X.stack) ch H H' s.heap s'.heap) (hok:HOk X.prog X.w X.K H' s'.heap) (hg:AllBare s'.gens)
  (hch:∀ b∈ch,(b∈X.ex\/X.s₀.heap.objs.size<=b)/\b≠X.env.locals/\(∀ x c,X.env.cells.lookup x=some c->c≠b)/\∀ p∈X.pn++pins,p.1≠b):Inv X pins σ H' s':=by
 obtain⟨h',g',d',t',o'⟩:=s'
 have e:o'=s.os:=ho
 subst e
 exact I.call (g':=g') (t':=t') (d':=d') u hok hg hch
end
abbrev XK:=Value->Option Addr->Hp->Prop
abbrev St:=List (Option V)
abbrev VK:=V->Hp->Prop
abbrev TE:=St->Hp->VK->Prop
abbrev TT:=St->Hp->(Bool->Hp->Prop)->Prop
abbrev TA:=St->Hp->(List V->Hp->Prop)->Prop
structure Ends where
 nx:St->Hp->Prop
 rt:VK
 bk:St->Hp->Prop:=fun _ _=>False
 ct:St->Hp->Prop:=fun _ _=>False
abbrev TS:=Ends->St->Hp->Prop
def EP (X:Cx) (pins:List (Addr×Obj)) (σ:St) (Q:VK) (u:Value) (s':Shared):Prop:=∃ v H',Inv X pins σ H' s'/\RelV v u/\Q v H'
def TP (X:Cx) (pins:List (Addr×Obj)) (σ:St) (Q:Bool->Hp->Prop) (b:Bool) (s':Shared):Prop:=∃ H',Inv X pins σ H' s'/\Q b H'
def AP (X:Cx) (pins:List (Addr×Obj)) (σ:St) (Q:List V->Hp->Prop) (us:List Value) (s':Shared):Prop:=∃ vs H',Inv X pins σ H' s'/\Vals vs us/\Q vs H'
def SP (X:Cx) (pins:List (Addr×Obj)) (D:Ends) (f:Flow) (s':Shared):Prop :=
 match f with
 |.next=>∃ σ' H',Inv X pins σ' H' s'/\D.nx σ' H'
 |.brk=>∃ σ' H',Inv X pins σ' H' s'/\D.bk σ' H'
 |.cont=>∃ σ' H',Inv X pins σ' H' s'/\D.ct σ' H'
 |.ret u=>∃ v σ' H',Inv X pins σ' H' s'/\RelV v u/\D.rt v H'
def PE (X:Cx) (e:Expr) (t:TE):Prop :=
 ∀ (pins:List (Addr×Obj)) (s:Shared) (σ:St) (H:Hp) (Q:VK),Inv X pins σ H s->t σ H Q->wpAny (model X.prog X.w) X.A (eval e X.env) (EP X pins σ Q) X.xe s
def PT (X:Cx) (e:Expr) (t:TT):Prop :=
 ∀ (pins:List (Addr×Obj)) (s:Shared) (σ:St) (H:Hp) (Q:Bool->Hp->Prop),Inv X pins σ H s->t σ H Q->wpAny (model X.prog X.w) X.A (isTrue e X.env (eval e X.env)) (TP X pins σ Q) X.xe s
def PW (X:Cx) (e:Expr) (t:TT):Prop :=
 ∀ (whole:Sem Value) (pins:List (Addr×Obj)) (s:Shared) (σ:St) (H:Hp) (Q:Bool->Hp->Prop),Inv X pins σ H s->t σ H Q->wpAny (model X.prog X.w) X.A (isTrue e X.env whole) (TP X pins σ Q) X.xe s
theorem PW.pt {X:Cx}{e:Expr}{t:TT} (h:PW X e t):PT X e t:=h _
def PA (X:Cx) (es:List Expr) (t:TA):Prop :=
 ∀ (pos:Pos) (pins:List (Addr×Obj)) (s:Shared) (σ:St) (H:Hp) (Q:List V->Hp->Prop),Inv X pins σ H s->t σ H Q->wpAny (model X.prog X.w) X.A (spliced (backTo pos (starEach es X.env))) (AP X pins σ Q) X.xe s
def PS (X:Cx) (st:Stmt) (t:TS):Prop :=
 ∀ (pins:List (Addr×Obj)) (s:Shared) (σ:St) (H:Hp) (D:Ends),Inv X pins σ H s->t D σ H->wpAny (model X.prog X.w) X.A (exec st X.env) (SP X pins D) X.xe s
def PSs (X:Cx) (st:List Stmt) (t:TS):Prop :=
 ∀ (pins:List (Addr×Obj)) (s:Shared) (σ:St) (H:Hp) (D:Ends),Inv X pins σ H s->t D σ H->wpAny (model X.prog X.w) X.A (execs st X.env) (SP X pins D) X.xe s
theorem thn {α:Type}{t:Sem α}{Q Q':α->Shared->Prop}{M:Model}{A:Around}{E:Value->Shared->Prop}{s:Shared} (h:wpAny M A t Q E s) (hQ:∀ a s,Q a s->Q' a s):wpAny M A t Q' E s:=Asm h hQ fun _ _ x=>x
section
variable {X:Cx}
noncomputable def Aqt (i:Nat):TE:=fun σ H Q=>∃ v,σ[i]?=some (some v)/\Q v H
noncomputable def tC (v:V):TE:=fun _ H Q=>Q v H
theorem Ajn {i:Nat}{x:Str}{pos:Pos} (hN:X.N[i]?=some x) (hv:Vis X.env.scope x) (hd:(x == ("__debug__":Str))=false:=by decide) (hcd:(x == ("__classdict__":Str))=false:=by decide):PE X (.Name x pos) (Aqt i):=by
 intro pins s σ H Q I h
 obtain⟨v,e,h⟩:=h
 obtain⟨m,hn,hl⟩:=I.loc
 obtain⟨u,r,l⟩:=hl i x v hN e hv
 have fin:EP X pins σ Q u s:=⟨v,H,I,r,h⟩
 rcases l with ⟨hk,hm⟩|⟨hk,c,hc,hcell⟩
 ·exact wpAny_Name (wpAny_loadName_local I.ok.kind hk hn hm fin) hd
 ·rcases hk with hk|hk
  ·exact wpAny_Name (wpAny_loadName_cell I.ok.kind hk hc hcell fin) hd
  ·exact wpAny_Name (wpAny_loadName_free I.ok.kind hk hc hcell fin hcd) hd
theorem Aaj {i j pos}:PE X (.Constant (.int i) j pos) (tC (.int i)):=fun _ _ _ H _ I h=>wpAny_Constant_int ⟨.int i,H,I.tok _,⟨_,rfl⟩,h⟩
theorem An5 {b j pos}:PE X (.Constant (.bool b) j pos) (tC (.bl b)):=fun _ _ _ H _ I h=>Constant_bool ⟨.bl b,H,I,rfl,h⟩
theorem Um {j pos}:PE X (.Constant .none j pos) (tC .non):=fun _ _ _ H _ I h=>Constant_none ⟨.non,H,I,rfl,h⟩
theorem Ajl {x j pos}:PE X (.Constant (.str x) j pos) (tC (.str x)):=fun _ _ _ H _ I h=>Calls.Constant_str ⟨.str x,H,I.tok _,⟨_,rfl⟩,h⟩
def Gl (X:Cx) (x:Str):Prop:=X.env.kindOf x=some .globalImplicit
theorem M9 {E:Value->Shared->Prop}{pins:List (Addr×Obj)}{s:Shared}{σ:St}{H:Hp}{x:Str}{u:Value}{pos:Pos}{Q:Value->Shared->Prop} (I:Inv X pins σ H s) (hg:Gl X x) (hm:X.mg x=some u) (h:Q u s)
  (hd:(x == ("__debug__":Str))=false:=by decide):wpAny (model X.prog X.w) X.A (eval (.Name x pos) X.env) Q E s :=
 Calls.Name_function_global I.ok.kind hg (Calls.loadGlobal_global (by rw[I.ok.glob];exact I.mod.glob.keeps I.bk) hm h) hd
theorem Dq {E:Value->Shared->Prop}{pins:List (Addr×Obj)}{s:Shared}{σ:St}{H:Hp}{x:Str}{u:Value}{pos:Pos}{Q:Value->Shared->Prop} (I:Inv X pins σ H s) (hg:Gl X x) (hm:X.mg x=none) (hv:bootBuiltins x=some u) (h:Q u s)
  (hn:x≠"__name__":=by decide) (hd:(x == ("__debug__":Str))=false:=by decide):wpAny (model X.prog X.w) X.A (eval (.Name x pos) X.env) Q E s:=by
 obtain⟨mb,h1,h2⟩:=I.mod.blt
 exact Calls.Name_function_global I.ok.kind hg (Calls.loadGlobal_builtin (by rw[I.ok.glob];exact I.mod.glob.keeps I.bk) hm (by rw[I.ok.blt];exact h1.keeps I.bk) ((h2 x hn).trans hv) h) hd
theorem Adt {x:Str}{v:V}{u:Value}{pos:Pos} (hg:Gl X x) (hm:X.mg x=some u) (r:RelV v u) (hd:(x == ("__debug__":Str))=false:=by decide):PE X (.Name x pos) (tC v) :=
 fun _ _ _ H _ I h=>M9 I hg hm ⟨v,H,I,r,h⟩ hd
theorem Ads {x:Str}{v:V}{u:Value}{pos:Pos} (hg:Gl X x) (hm:X.mg x=none) (hv:bootBuiltins x=some u) (r:RelV v u) (hn:x≠"__name__":=by decide) (hd:(x == ("__debug__":Str))=false:=by decide):PE X (.Name x pos) (tC v) :=
 fun _ _ _ H _ I h=>Dq I hg hm hv ⟨v,H,I,r,h⟩ hn hd
variable {a b:Expr}{ta tb:TE}{pos:Pos}
variable {tA tB':TT}{rest:List Expr}
noncomputable def Apn (t u:TT):TT:=fun σ H Q=>t σ H fun c H1=>if c=true then u σ H1 Q else Q false H1
noncomputable def tOr (t u:TT):TT:=fun σ H Q=>t σ H fun c H1=>if c=true then Q true H1 else u σ H1 Q
noncomputable def Aqq (t:TT):TT:=fun σ H Q=>t σ H fun c H1=>Q (!c) H1
theorem Aef (ha:PT X a tA):PW X (.BoolOp .And [a] pos) tA:=by
 intro wh pins s σ H Q I h
 refine isTrue_and (thn (ha pins s σ H Q I h) fun c s1 e=>?_)
 cases c with
 |true=>exact isTrue_and_nil e
 |false=>exact e
theorem Ajz (ha:PT X a tA):PW X (.BoolOp .Or [a] pos) tA:=by
 intro wh pins s σ H Q I h
 refine isTrue_or (thn (ha pins s σ H Q I h) fun c s1 e=>?_)
 cases c with
 |false=>exact isTrue_or_nil e
 |true=>exact e
theorem Ajx (ha:PT X a tA) (hb:PW X (.BoolOp .And (b::rest) pos) tB'):PW X (.BoolOp .And (a::b::rest) pos) (Apn tA tB'):=by
 intro wh pins s σ H Q I h
 refine isTrue_and (thn (ha pins s σ H _ I h) fun c s1 ⟨H1,I1,q1⟩=>?_)
 cases c with
 |true=>exact hb wh pins s1 σ H1 Q I1 q1
 |false=>exact⟨H1,I1,q1⟩
theorem Aob (ha:PT X a tA) (hb:PW X (.BoolOp .Or (b::rest) pos) tB'):PW X (.BoolOp .Or (a::b::rest) pos) (tOr tA tB'):=by
 intro wh pins s σ H Q I h
 refine isTrue_or (thn (ha pins s σ H _ I h) fun c s1 ⟨H1,I1,q1⟩=>?_)
 cases c with
 |true=>exact⟨H1,I1,q1⟩
 |false=>exact hb wh pins s1 σ H1 Q I1 q1
theorem Ajw (ha:PT X a tA):PT X (.UnaryOp .Not a pos) (Aqq tA):=by
 intro pins s σ H Q I h
 exact isTrue_not (ha pins s σ H (fun c H1=>Q (!c) H1) I h)
noncomputable def Aos (ta tb:TE):TE:=fun σ H Q=>ta σ H fun x H1=>∃ c,x=.bl c/\if c=true then tb σ H1 Q else Q (.bl false) H1
theorem Ajk {op}{t:TE} (h:PE X a t):PE X (.BoolOp op [a] pos) t:=fun pins s σ H Q I hw=>BoolOp_one (h pins s σ H Q I hw)
theorem Aji (ha:PE X a ta) (hb:PE X (.BoolOp .And (b::rest) pos) tb):PE X (.BoolOp .And (a::b::rest) pos) (Aos ta tb):=by
 intro pins s σ H Q I h
 refine BoolOp_and (thn (ha pins s σ H _ I h) fun v s1 ⟨x,H1,I1,r1,q1⟩=>?_)
 obtain⟨c,rfl,q1⟩:=q1
 cases r1
 refine Asn ?_
 cases c with
 |true=>exact hb pins s1 σ H1 Q I1 q1
 |false=>exact⟨.bl false,H1,I1,rfl,q1⟩
noncomputable def tIf (t:TT) (ta tb:TE):TE:=fun σ H Q=>t σ H fun c H1=>if c=true then ta σ H1 Q else tb σ H1 Q
theorem Ol {c:Expr} (hc:PT X c tA) (ha:PE X a ta) (hb:PE X b tb):PE X (.IfExp c a b pos) (tIf tA ta tb):=by
 intro pins s σ H Q I h
 refine wpAny_IfExp (thn (hc pins s σ H _ I h) fun d s1 ⟨H1,I1,q1⟩=>?_)
 cases d with
 |true=>exact ha pins s1 σ H1 Q I1 q1
 |false=>exact hb pins s1 σ H1 Q I1 q1
end
def SqL (K:W.Frag) (H:Hp) (a:Addr) (xs:List V):Prop :=
 Rd H a (.lst xs) \/
  ∃ (o:Obj) (its:Array Value) (n:Nat),K.lookup a=some o/\o.cls=.type "list"/\o.dict=none/\o.data=.seq its n/\its.size<=sizeLine/\Vals xs its.toList
noncomputable def Aqc:Value->Option V
 |.none=>some .non
 |.bool b=>some (.bl b)
 |.int i _=>some (.int i)
 |.str x _=>some (.str x)
 |.bytes b _=>some (.byt b)
 |.float b _=>some (.flt b)
 |.ref a=>some (.ref a)
 |.type n=>some (.ty n)
 |_=>none
theorem RelV.abs {x:V}{u:Value} (r:RelV x u):Aqc u=some x:=by
 cases x with
 |non=>cases r;rfl
 |bl _=>cases r;rfl
 |int _=>obtain⟨t,rfl⟩:=r;rfl
 |str _=>obtain⟨t,rfl⟩:=r;rfl
 |byt _=>obtain⟨t,rfl⟩:=r;rfl
 |flt _=>obtain⟨t,rfl⟩:=r;rfl
 |ref _=>cases r;rfl
 |ty _=>cases r;rfl
theorem RelV.inj {x y:V}{u:Value} (r:RelV x u) (q:RelV y u):x=y:=Arn (r.abs.symm.trans q.abs)
theorem Vals.inj:∀ {xs ys:List V}{us:List Value},Vals xs us->Vals ys us->xs=ys
 |_,_,_,.nil,.nil=>rfl
 |_,_,_,.cons r t,.cons r' t'=>by rw[r.inj r',Vals.inj t t']
section
variable {X:Cx}{pins:List (Addr×Obj)}{σ:St}{H:Hp}{s:Shared}{a:Addr}{xs ys:List V}
theorem SqL.of {K:W.Frag} (h:H a=some (.lst xs)):SqL K H a xs:=.inl (.inl h)
inductive LstR (h:Heap) (a:Addr) (xs:List V):Prop where
 |mk (its:List Value) (r:Vals xs its) (p:PlainL h a its.toArray) (z:xs.length<=sizeLine)
inductive TupR (h:Heap) (a:Addr) (xs:List V):Prop where
 |mk (its:List Value) (r:Vals xs its) (p:IsTup h a its.toArray) (z:xs.length<=sizeLine)
theorem Inv.list (I:Inv X pins σ H s) (h:SqL X.K H a xs):LstR s.heap a xs:=by
 rcases h with h|⟨o,its,n,hk,hc,hd,hs,hz,r⟩
 ·obtain⟨z,its,n,r,e⟩:=h.ok I.hok
  exact⟨its,r,⟨_,n,e,rfl,rfl,rfl⟩,z⟩
 ·refine⟨its.toList,r,⟨o,n,I.kIn a o hk,hc,hd,by simpa using hs⟩,?_⟩
  have e:=r.length
  simp only[Asy] at e
  lia
theorem Inv.tuple (I:Inv X pins σ H s) (h:SqT X.K H a xs):TupR s.heap a xs:=by
 rcases h with h|⟨o,its,n,hk,hc,hs,hz,r,_⟩
 ·obtain⟨z,its,r,p⟩:=h.ok I.hok
  exact⟨its,r,p.is,z⟩
 ·refine⟨its.toList,r,⟨o,I.kIn a o hk,hc,n,by simpa using hs⟩,?_⟩
  have e:=r.length
  simp only[Asy] at e
  lia
theorem Inv.list_inj (I:Inv X pins σ H s) (h:SqL X.K H a xs) (h':SqL X.K H a ys):xs=ys:=by
 obtain⟨its,r,⟨o,n,e,_,_,d⟩,_⟩:=I.list h
 obtain⟨its',r',⟨o',n',e',_,_,d'⟩,_⟩:=I.list h'
 rw[e] at e';cases e'
 rw[d] at d'
 injection d' with d1 _
 have:its=its':=by simpa using Asd Array.toList d1
 subst this
 exact r.inj r'
theorem Inv.tuple_inj (I:Inv X pins σ H s) (h:SqT X.K H a xs) (h':SqT X.K H a ys):xs=ys:=by
 obtain⟨its,r,⟨o,e,_,n,d⟩,_⟩:=I.tuple h
 obtain⟨its',r',⟨o',e',_,n',d'⟩,_⟩:=I.tuple h'
 rw[e] at e';cases e'
 rw[d] at d'
 injection d' with d1 _
 have:its=its':=by simpa using Asd Array.toList d1
 subst this
 exact r.inj r'
end
abbrev Cx.wish (X:Cx) (E:Value->Shared->Prop):Cx:={ X with xe:=E }
abbrev Cx.nox (X:Cx):Cx:=X.wish fun _ _=>False
theorem Cx.Ok.wish {X:Cx} (ok:X.Ok) (E:Value->Shared->Prop):(X.wish E).Ok :=
 ⟨ok.mod,ok.kind,ok.glob,ok.blt,ok.above,ok.inj,ok.has,ok.cab,ok.hd,ok.frames,ok.stk,ok.exf,ok.bs,ok.bsz,ok.noex,ok.exfs,ok.funs,ok.frf⟩
theorem Cx.Ok.unwish {X:Cx}{E:Value->Shared->Prop} (ok:(X.wish E).Ok):X.Ok :=
 ⟨ok.mod,ok.kind,ok.glob,ok.blt,ok.above,ok.inj,ok.has,ok.cab,ok.hd,ok.frames,ok.stk,ok.exf,ok.bs,ok.bsz,ok.noex,ok.exfs,ok.funs,ok.frf⟩
section
variable {X:Cx}{pins:List (Addr×Obj)}{σ:St}{H:Hp}{s:Shared}{E:Value->Shared->Prop}
theorem Inv.wish (I:Inv X pins σ H s) (E:Value->Shared->Prop):Inv (X.wish E) pins σ H s:=⟨I.ok.wish E,I.os,I.bare,I.base,I.loc,I.cell,I.free,I.freeC,I.pin,I.hok,I.len⟩
theorem Inv.unwish (I:Inv (X.wish E) pins σ H s):Inv X pins σ H s:=⟨I.ok.unwish,I.os,I.bare,I.base,I.loc,I.cell,I.free,I.freeC,I.pin,I.hok,I.len⟩
theorem SP.unwish {D:Ends}{f:Flow}{s':Shared} (h:SP (X.wish E) pins D f s'):SP X pins D f s':=by
 cases f with
 |next=>obtain⟨σ',H',I,q⟩:=h;exact⟨σ',H',I.unwish,q⟩
 |brk=>obtain⟨σ',H',I,q⟩:=h;exact⟨σ',H',I.unwish,q⟩
 |cont=>obtain⟨σ',H',I,q⟩:=h;exact⟨σ',H',I.unwish,q⟩
 |ret u=>obtain⟨v,σ',H',I,r,q⟩:=h;exact⟨v,σ',H',I.unwish,r,q⟩
theorem PSs.nox {st:List Stmt}{t:TS} (h:PSs X.nox st t):PSs X st t:=fun pins s σ H D I hw =>
 Asm (h pins s σ H D (I.wish _) hw) (fun _ _ q=>q.unwish) fun _ _ z=>False.elim z
end
section
variable {X:Cx}{st:Stmt}{rest:List Stmt}{t u:TS}{e:Expr}{te:TE}{pos:Pos}
noncomputable def Aou:TS:=fun D σ H=>D.nx σ H
noncomputable def App (t u:TS):TS:=fun D σ H=>t { D with nx:=u D } σ H
theorem Aeb:PSs X [] Aou:=fun _ _ σ H _ I h=>wpAny_execs_nil ⟨σ,H,I,h⟩
theorem Ym (h1:PS X st t) (h2:PSs X rest u):PSs X (st::rest) (App t u):=by
 intro pins s σ H D I h
 refine wpAny_execs_cons (thn (h1 pins s σ H { D with nx:=u D } I h) fun f s1 q=>?_)
 cases f with
 |next =>
  obtain⟨σ',H',I',q⟩:=q
  exact h2 pins s1 σ' H' D I' q
 |ret v=>exact q
 |brk=>exact q
 |cont=>exact q
theorem Aec (h1:PS X st t):PSs X [st] t:=by
 intro pins s σ H D I h
 refine wpAny_execs_cons (thn (h1 pins s σ H D I h) fun f s1 q=>?_)
 cases f with
 |next=>exact wpAny_execs_nil q
 |ret v=>exact q
 |brk=>exact q
 |cont=>exact q
noncomputable def Akw:TS:=fun D σ H=>D.bk σ H
theorem Yh:PS X (.Break pos) Akw:=fun _ _ σ H _ I h=>wpAny_Break ⟨σ,H,I,h⟩
theorem Inv.quiet {pins:List (Addr×Obj)}{σ:St}{H:Hp}{s:Shared} (I:Inv X pins σ H s):interactive X.env=false:=by simp[interactive,I.ok.kind]
noncomputable def Aot (te:TE):TS:=fun D σ H=>te σ H fun _ H1=>D.nx σ H1
theorem Ad4 (he:PE X e te) (hs:swapsWith e none pos.line X.env=pure false:=by rfl):PS X (.Expr e pos) (Aot te):=by
 intro pins s σ H D I h
 exact wpAny_Expr_any (thn (he pins s σ H _ I h) fun v s1 ⟨x,H1,I1,r1,q1⟩=>⟨σ,H1,I1,q1⟩) I.quiet hs
noncomputable def Aqr (te:TE):TS:=fun D σ H=>te σ H D.rt
theorem Aal (he:PE X e te):PS X (.Return (some e) pos) (Aqr te):=by
 intro pins s σ H D I h
 exact wpAny_Return_some (thn (he pins s σ H _ I h) fun v s1 ⟨x,H1,I1,r1,q1⟩=>⟨x,σ,H1,I1,r1,q1⟩)
noncomputable def Aqo (c:TT) (t u:TS):TS:=fun D σ H=>c σ H fun b H1=>if b=true then t D σ H1 else u D σ H1
theorem Aoa {c:Expr}{a b:List Stmt}{tc:TT} (hc:PT X c tc) (ha:PSs X a t) (hb:PSs X b u):PS X (.If c a b pos) (Aqo tc t u):=by
 intro pins s σ H D I h
 refine wpAny_If (thn (hc pins s σ H _ I h) fun d s1 ⟨H1,I1,q1⟩=>?_)
 cases d with
 |true=>exact ha pins s1 σ H1 D I1 q1
 |false=>exact hb pins s1 σ H1 D I1 q1
end
abbrev TG:=V->St->Hp->(St->Hp->Prop)->Prop
abbrev TGs:=List V->St->Hp->(St->Hp->Prop)->Prop
def PG (X:Cx) (target:Expr) (t:TG):Prop :=
 ∀ (pins:List (Addr×Obj)) (s:Shared) (σ:St) (H:Hp) (v:V) (u:Value) (Q:St->Hp->Prop),Inv X pins σ H s->RelV v u->t v σ H Q ->
  wpAny (model X.prog X.w) X.A (assign target X.env u) (fun _ s'=>∃ σ' H',Inv X pins σ' H' s'/\Q σ' H') X.xe s
def PGs (X:Cx) (ts:List Expr) (t:TGs):Prop :=
 ∀ (pins:List (Addr×Obj)) (s:Shared) (σ:St) (H:Hp) (vs:List V) (us:List Value) (Q:St->Hp->Prop),Inv X pins σ H s->Vals vs us->t vs σ H Q ->
  wpAny (model X.prog X.w) X.A (assignInOrder ((assignEach ts X.env).map (·.2)) us) (fun _ s'=>∃ σ' H',Inv X pins σ' H' s'/\Q σ' H') X.xe s
abbrev Alp:=V->V->V->Hp->(Hp->Prop)->Prop
def Ao2 (X:Cx) (t:Alp):Prop :=
 ∀ (pins:List (Addr×Obj)) (s:Shared) (σ:St) (H:Hp) (o i v:V) (ov iv u:Value) (Q:Hp->Prop),Inv X pins σ H s->RelV o ov->RelV i iv->RelV v u->t o i v H Q ->
  wpAny (model X.prog X.w) X.A (setItem ov iv u) (fun _ s'=>∃ H',Inv X pins σ H' s'/\Q H') X.xe s
section
variable {X:Cx}{pos:Pos}
noncomputable def Pf (i:Nat):TG:=fun v σ H Q=>Q (σ.set i (some v)) H
theorem Adx {i:Nat}{x:Str} (hN:X.N.Nodup) (hi:X.N[i]?=some x) (hx:Loc X.env.scope x) (hf:X.fn x=true\/X.env.scope.names.lookup x=some .local:=by first|exact .inl rfl|exact .inr rfl|assumption):PG X (.Name x pos) (Pf i):=by
 intro pins s σ H v u Q I r h
 exact wpAny_assign_Name (Ow I hN hi hx r (fun s' I'=>⟨_,H,I',h⟩) hf)
noncomputable def Aqe:TGs:=fun vs σ H Q=>vs=[]/\Q σ H
noncomputable def Am5 (t:TG) (u:TGs):TGs:=fun vs σ H Q=>∃ v r,vs=v::r/\t v σ H fun σ' H'=>u r σ' H' Q
theorem Adz:PGs X [] Aqe:=by
 intro pins s σ H vs us Q I r h
 obtain⟨e,h⟩:=h
 subst e
 cases r
 exact assignInOrder_nil ⟨σ,H,I,h⟩
theorem Yc {e:Expr}{es:List Expr}{t:TG}{u:TGs} (h1:PG X e t) (h2:PGs X es u)
  (hs:(assignEach (e::es) X.env).map (·.2)=assign e X.env::(assignEach es X.env).map (·.2):=by rfl):PGs X (e::es) (Am5 t u):=by
 intro pins s σ H vs us Q I r h
 obtain⟨v,vr,e1,h⟩:=h
 subst e1
 cases r with
 |cons r rr =>
  rw[hs]
  refine assignInOrder_cons (thn (h1 pins s σ H _ _ _ I r h) fun _ s1 ⟨σ1,H1,I1,q1⟩=>?_)
  exact h2 pins s1 σ1 H1 _ _ Q I1 rr q1
noncomputable def Aqg (K:W.Frag) (n:Nat) (t:TGs):TG:=fun v σ H Q=>∃ a xs,v=.ref a/\SqT K H a xs/\xs.length=n/\t xs σ H Q
theorem Ajr {es:List Expr}{k:Nat}{t:TGs}{n:Nat} (hc:X.calm=true) (h:PGs X es t)
  (hn:(assignEach es X.env).length=n:=by rfl) (hst:(assignEach es X.env).findIdx? (·.1)=none:=by rfl):PG X (.Tuple es k pos) (Aqg X.K n t):=by
 intro pins s σ H v u Q I r hw
 obtain⟨a,xs,e1,hq,hl,hw⟩:=hw
 subst e1
 cases r
 obtain⟨its,rv,ht,hz⟩:=I.tuple hq
 refine assign_Tuple_tuple (I.ok.hd hc) ht (by simp[hn,<- hl,rv.length]) hst fun h' hx=>?_
 have I1:Inv X pins σ H { s with heap:=h' }:=I.kept (t':=s.toks) fun b o e=>hx b o (Aro (Aq9 e)) e
 exact h pins _ σ H xs _ Q I1 (by simpa using rv) hw
noncomputable def Aqf (to ti:TE) (t:Alp):TG:=fun v σ H Q=>to σ H fun o H1=>ti σ H1 fun i H2=>t o i v H2 fun H3=>Q σ H3
theorem Ajq {o i:Expr}{to ti:TE}{t:Alp} (ho:PE X o to) (hi:PE X i ti) (hs:Ao2 X t)
  (ha:∀ v,assign (.Subscript o i pos) X.env v=(do
   let ov <- holding [v] (eval o X.env)
   let iv <- holding [v,ov] (eval i X.env)
   standAt pos
   holding [v,ov,iv] (setItem ov iv v)
   release [v,ov,iv] []):=by intro _;rfl):PG X (.Subscript o i pos) (Aqf to ti t):=by
 intro pins s σ H v u Q I r h
 rw[ha]
 refine Aqx (Arw (thn (ho pins s σ H _ I h) fun ov s1 ⟨x,H1,I1,r1,q1⟩=>?_))
 refine Aqx (Arw (thn (hi pins s1 σ H1 _ I1 q1) fun iv s2 ⟨y,H2,I2,r2,q2⟩=>?_))
 refine Aqx (wpAny_standAt (Aqx (Arw (thn (hs pins s2 σ H2 x y v ov iv u _ I2 r1 r2 r q2) fun _ s3 ⟨H3,I3,q3⟩=>?_))))
 exact wpAny_release ⟨σ,H3,I3,q3⟩
noncomputable def Afl (te:TE) (g:TG):TS:=fun D σ H=>te σ H fun x H1=>g x σ H1 D.nx
theorem Aak {tg e:Expr}{te:TE}{g:TG} (he:PE X e te) (hg:PG X tg g) (hs:swapsWithSole [tg] e pos.line X.env=pure false:=by rfl) (hw:swappedStores [tg] e X.env=pure none:=by rfl)
  (h1:(assignEach [tg] X.env).map (·.2)=[assign tg X.env]:=by rfl):PS X (.Assign [tg] e pos) (Afl te g):=by
 intro pins s σ H D I h
 refine wpAny_Assign_stores (thn (he pins s σ H _ I h) fun v s1 ⟨x,H1,I1,r1,q1⟩=>?_) hs hw
 rw[h1]
 exact thn (hg pins s1 σ H1 x v _ I1 r1 q1) fun _ s2 q=>q
theorem Aam {i:Nat}{x:Str}{e:Expr}{te:TE}{pos':Pos} (hN:X.N.Nodup) (hi:X.N[i]?=some x) (hx:Loc X.env.scope x) (he:PE X e te) (hs:swapsWith e (some (.Name x pos')) pos.line X.env=pure false:=by rfl) (hf:X.fn x=true\/X.env.scope.names.lookup x=some .local:=by first|exact .inl rfl|exact .inr rfl|assumption) :
  PS X (.Assign [.Name x pos'] e pos) (Afl te (Pf i)):=by
 intro pins s σ H D I h
 refine wpAny_Assign_Name (thn (he pins s σ H _ I h) fun v s1 ⟨y,H1,I1,r1,q1⟩=>?_) hs
 exact Ow I1 hN hi hx r1 (fun s2 I2=>⟨_,H1,I2,q1⟩) hf
end
section
variable {X:Cx}{pos:Pos}
end
structure It where
 go:Nat->Hp->Prop
 yld:Nat->Hp->V->Hp->Prop
 stop:Nat->Hp->Prop
def Vl (X:Cx) (pins:List (Addr×Obj)) (H:Hp) (b:Addr):Prop :=
 H b=none/\b≠X.env.locals/\b∉X.fs/\(b∈X.ex\/X.s₀.heap.objs.size<=b)/\(∀ x c,X.env.cells.lookup x=some c->c≠b)/\∀ p∈X.pn++pins,p.1≠b
theorem Inv.fpOk {X:Cx}{pins:List (Addr×Obj)}{σ:St}{H H':Hp}{s:Shared}{b:Addr} (I:Inv X pins σ H s) (hb:s.heap.objs.size<=b) (hn:H' b=none):Vl X pins H' b:=by
 refine⟨hn,Asz (Arb I.lt hb),I.nofs hb,.inr (Arl I.sz hb),fun x c e z=>?_,fun p hp z=>?_⟩
 ·obtain⟨v,q⟩:=I.cell x c e
  exact absurd (Arb q.lt (by rw[z];exact hb)) (Ary _)
 ·exact absurd (Arb (Aq9 (I.pin p hp).1) (by rw[z];exact hb)) (Ary _)
structure Turn (P:Program) (w:World) (K:W.Frag) (tg:Expr) (J:It) (fp:List Addr) (it:Addr) (tn:Nat->Heap->Prop):Prop where
 mem:it∈fp
 obj:∀ i h,tn i h->∀ b∈fp,∃ o,h.get? b=some o/\∀ v,o.data≠.cell v
 keep:∀ i h h',tn i h->(∀ b∈fp,∀ o,h.get? b=some o->h'.get? b=some o)->tn i h'
 item:∀ (X:Cx),X.prog=P->X.w=w->X.K=K->X.calm=true->∀ (i:Nat) (pins:List (Addr×Obj)) (s:Shared) (σ:St) (H:Hp) (E:Value->Shared->Prop),Inv X pins σ H s->(∀ b∈fp,Vl X pins H b)->tn i s.heap->J.go i H ->
  wpAny (model P w) X.A (pyNext (.ref it)) (fun r s1=>∃ u,r=some u /\
   wpAny (model P w) X.A (letOwnedTupleGo tg (.ref it) u) (fun _ s2=>∃ x H',Inv X pins σ H' s2/\RelV x u/\J.yld i H x H'/\tn (i+1) s2.heap/\∀ b∈fp,H' b=none) E s1) E s
 done:∀ (X:Cx),X.prog=P->X.w=w->X.K=K->X.calm=true->∀ (i:Nat) (pins:List (Addr×Obj)) (s:Shared) (σ:St) (H:Hp) (E:Value->Shared->Prop),Inv X pins σ H s->(∀ b∈fp,Vl X pins H b)->tn i s.heap->J.stop i H ->
  wpAny (model P w) X.A (pyNext (.ref it)) (fun r s1=>r=none/\Inv X pins σ H s1) E s
 self:∀ (A:Around) (i:Nat) (s:Shared) (Q:Value->Shared->Prop) (E:Value->Shared->Prop),tn i s.heap->Q (.ref it) s->wpAny (model P w) A (pyIter (.ref it)) Q E s
abbrev TI:=St->Hp->(It->Hp->Prop)->Prop
def PIE (X:Cx) (pins:List (Addr×Obj)) (σ:St) (tg:Expr) (R:It->Hp->Prop) (itv:Value) (s2:Shared):Prop :=
 ∃ (it:Addr) (fp:List Addr) (tn:Nat->Heap->Prop) (J:It) (H':Hp),itv=.ref it/\Inv X pins σ H' s2/\Turn X.prog X.w X.K tg J fp it tn/\tn 0 s2.heap/\(∀ b∈fp,Vl X pins H' b)/\R J H'
def PI (X:Cx) (tg iter:Expr) (wi:TI):Prop :=
 ∀ (pins:List (Addr×Obj)) (s:Shared) (σ:St) (H:Hp) (R:It->Hp->Prop),Inv X pins σ H s->wi σ H R ->
  wpAny (model X.prog X.w) X.A (eval iter X.env) (fun v s1=>wpAny (model X.prog X.w) X.A (pyIter v) (PIE X pins σ tg R) X.xe s1) X.xe s
theorem Tn {M:Model}{A:Around}{E:Value->Shared->Prop}{s:Shared}{tg:Expr}{it:Addr}{u:Value}{o:Obj}{n:String}{vs:Array Value}{Q:Unit->Shared->Prop} (ho:s.heap.get? it=some o) (hc:o.cls=.type n) (hd:o.data=.fields vs)
  (hn:["enumerate","zip","dict_itemiterator","dict_reverseitemiterator","odict_iterator","itertools.zip_longest","itertools.pairwise"].contains n=false) (hQ:Q () s):wpAny M A (letOwnedTupleGo tg (.ref it) u) Q E s:=by
 unfold letOwnedTupleGo
 cases tg<;>first
  |exact Aq0 hQ
  |(cases u<;>first
    |exact Aq0 hQ
    |(refine Aqx (wpAny_load ho ?_)
      rw[hc,hd]
      show wpAny M A (if (["enumerate","zip","dict_itemiterator","dict_reverseitemiterator","odict_iterator","itertools.zip_longest","itertools.pairwise"].contains n&&vs[0]? == some (rawInt _))=true then _ else _) Q E s
      rw[Aq7 (by intro h;rw[hn,Bool.false_and] at h;cases h)]
      exact Aq0 hQ))
noncomputable def Itl (K:W.Frag) (a:Addr):It :=
 ⟨fun i H=>∃ xs x,SqL K H a xs/\xs[i]?=some x,fun i H x H'=>H'=H/\∀ xs,SqL K H a xs->xs[i]?=some x,fun i H=>∃ xs,SqL K H a xs/\xs.length<=i⟩
noncomputable def Itt (K:W.Frag) (a:Addr):It :=
 ⟨fun i H=>∃ xs x,SqT K H a xs/\xs[i]?=some x,fun i H x H'=>H'=H/\∀ xs,SqT K H a xs->xs[i]?=some x,fun i H=>∃ xs,SqT K H a xs/\xs.length<=i⟩
noncomputable def Itr (lo:Int) (n:Nat):It:=⟨fun i _=>i < n,fun i H x H'=>H'=H/\x=.int (lo+i),fun i _=>n<=i⟩
theorem Vg {P:Program}{w:World}{K:W.Frag}{tg:Expr} (a it:Addr):Turn P w K tg (Itl K a) [it] it (fun i h=>h.IsListIter it a i) where
 mem:=by simp
 obj:=fun i h st b hb=>by
  have e:b=it:=by simpa using hb
  subst e
  obtain⟨o,e,c,d⟩:=st
  exact⟨o,e,fun v z=>by rw[d] at z;cases z⟩
 keep:=fun i h h' st k=>st.at fun o e=>k it (by simp) o e
 item:=by
  intro X hP hw hK hc i pins s σ H E I hf st hg
  subst hP hw hK
  obtain⟨xs,x,hq,hx⟩:=hg
  obtain⟨its,rv,p,hz⟩:=I.list hq
  obtain⟨u,hu,ru⟩:=rv.get hx
  obtain⟨f0,f1,f2,f3,f4,f5⟩:=hf it (by simp)
  refine wpAny_pyNext_list_item st p.isList (x:=u) (by simpa using hu) fun h' st' sb=>?_
  have I1:Inv X pins σ H { s with heap:=h' }:=I.turned (t':=s.toks) (fun b o hb e=>(sb.2 b hb).trans e) f0 f1 f3 f4 f5
  obtain⟨o,e,c,d⟩:=id st'
  exact⟨u,rfl,Tn (s:={ s with heap:=h' }) e c d (by decide) ⟨x,H,I1,ru,⟨rfl,fun ys hy=>by rw[I.list_inj hy hq];exact hx⟩,st',fun b hb=>(hf b hb).1⟩⟩
 done:=by
  intro X hP hw hK hc i pins s σ H E I hf st hg
  subst hP hw hK
  obtain⟨xs,hq,hx⟩:=hg
  obtain⟨its,rv,p,hz⟩:=I.list hq
  obtain⟨f0,f1,f2,f3,f4,f5⟩:=hf it (by simp)
  have hl:=rv.length
  exact wpAny_pyNext_list_end (I.ok.hd hc) st p.isList (by simp;lia) fun h' eb=>⟨rfl,I.turned (t':=s.toks) (fun b o hb e=>eb b o hb e) f0 f1 f3 f4 f5⟩
 self:=fun _ _ _ _ _ st h=>wpAny_pyIter_listiter st h
theorem Rc {P:Program}{w:World}{K:W.Frag}{tg:Expr} (a it:Addr):Turn P w K tg (Itt K a) [it] it (fun i h=>h.IsTupleIter it a i) where
 mem:=by simp
 obj:=fun i h st b hb=>by
  have e:b=it:=by simpa using hb
  subst e
  obtain⟨o,e,c,d⟩:=st
  exact⟨o,e,fun v z=>by rw[d] at z;cases z⟩
 keep:=fun i h h' st k=>st.at fun o e=>k it (by simp) o e
 item:=by
  intro X hP hw hK hc i pins s σ H E I hf st hg
  subst hP hw hK
  obtain⟨xs,x,hq,hx⟩:=hg
  obtain⟨its,rv,p,hz⟩:=I.tuple hq
  obtain⟨u,hu,ru⟩:=rv.get hx
  obtain⟨f0,f1,f2,f3,f4,f5⟩:=hf it (by simp)
  refine wpAny_pyNext_tuple_item st (show s.heap.IsTuple a its.toArray from p) (x:=u) (by simpa using hu) fun h' st' sb=>?_
  have I1:Inv X pins σ H { s with heap:=h' }:=I.turned (t':=s.toks) (fun b o hb e=>(sb.2 b hb).trans e) f0 f1 f3 f4 f5
  obtain⟨o,e,c,d⟩:=id st'
  exact⟨u,rfl,Tn (s:={ s with heap:=h' }) e c d (by decide) ⟨x,H,I1,ru,⟨rfl,fun ys hy=>by rw[I.tuple_inj hy hq];exact hx⟩,st',fun b hb=>(hf b hb).1⟩⟩
 done:=by
  intro X hP hw hK hc i pins s σ H E I hf st hg
  subst hP hw hK
  obtain⟨xs,hq,hx⟩:=hg
  obtain⟨its,rv,p,hz⟩:=I.tuple hq
  obtain⟨f0,f1,f2,f3,f4,f5⟩:=hf it (by simp)
  have hl:=rv.length
  exact wpAny_pyNext_tuple_end (I.ok.hd hc) st (show s.heap.IsTuple a its.toArray from p) (by simp;lia) fun h' eb=>⟨rfl,I.turned (t':=s.toks) (fun b o hb e=>eb b o hb e) f0 f1 f3 f4 f5⟩
 self:=fun _ _ _ _ _ st h=>wpAny_pyIter_tupleiter st h
theorem Rb {P:Program}{w:World}{K:W.Frag}{tg:Expr} (it:Addr) (lo:Int) (n:Nat):Turn P w K tg (Itr lo n) [it] it (fun i h=>IsRangeIter h it (lo+(i:Nat) * 1) ((n:Int) - (i:Nat)) 1) where
 mem:=by simp
 obj:=fun i h st b hb=>by
  have e:b=it:=by simpa using hb
  subst e
  exact⟨_,st,fun v z=>by
   have z':Data.fields _=Data.cell v:=z
   cases z'⟩
 keep:=fun i h h' st k=>k it (by simp) _ st
 item:=by
  intro X hP hw hK hc i pins s σ H E I hf st hg
  subst hP hw hK
  obtain⟨f0,f1,f2,f3,f4,f5⟩:=hf it (by simp)
  have W:=Walks.range (prog:=X.prog) (w:=X.w) (I.ok.hd hc) it lo 1 n
  refine W.item i s _ _ hg st fun v h' tk hv st' kk=>?_
  obtain⟨t,rfl⟩:=hv
  have I1:Inv X pins σ H { s with heap:=h',toks:=tk }:=I.turned (fun b o hb e=>kk b o (by simpa using hb) e) f0 f1 f3 f4 f5
  refine⟨_,rfl,Tn (s:={ s with heap:=h',toks:=tk }) (n:="range_iterator") st' rfl rfl (by decide) ⟨.int (lo+i),H,I1,⟨t,?_⟩,⟨rfl,rfl⟩,st',fun b hb=>(hf b hb).1⟩⟩
  rw[Int.mul_one]
 done:=by
  intro X hP hw hK hc i pins s σ H E I hf st hg
  subst hP hw hK
  obtain⟨f0,f1,f2,f3,f4,f5⟩:=hf it (by simp)
  exact wpAny_pyNext_range_end (I.ok.hd hc) st (by have:n<=i:=hg;lia) fun h' eb=>⟨rfl,I.turned (t':=s.toks) (fun b o hb e=>eb b o hb e) f0 f1 f3 f4 f5⟩
 self:=fun _ _ _ _ _ st h=>wpAny_pyIter_rangeiter st h
section
variable {X:Cx}{tg:Expr}
theorem Os {pins:List (Addr×Obj)}{σ:St}{H:Hp}{s:Shared}{R:It->Hp->Prop}{E:Value->Shared->Prop}{lo hi:Int}{t u v:Tok}{tk:Nat} (I:Inv X pins σ H s) (h1:-(2 ^ 62)<=lo) (h2:lo < 2 ^ 62) (h3:-(2 ^ 62)<=hi) (h4:hi < 2 ^ 62)
  (q:R (Itr lo (hi - lo).toNat) H):wpAny (model X.prog X.w) X.A (pyIter (.ref s.heap.objs.size)) (PIE X pins σ tg R) E { s with heap:=s.heap.push { cls:=.type "range",data:=.fields #[.int lo t,.int hi u,.int 1 v] },toks:=tk }:=by
 refine wpAny_pyIter_range (IsRange.new ..) (small_one h1 h2 h3 h4) ?_
 have I1:Inv X pins σ H { s with heap:=s.heap.push { cls:=.type "range",data:=.fields #[.int lo t,.int hi u,.int 1 v] },toks:=tk }:=I.kept fun b o e=>Aq1 _ e
 refine⟨(s.heap.push { cls:=.type "range",data:=.fields #[.int lo t,.int hi u,.int 1 v] }).objs.size,[(s.heap.push { cls:=.type "range",data:=.fields #[.int lo t,.int hi u,.int 1 v] }).objs.size],_,_,H,rfl,
  I1.kept (t':=tk) fun b o e=>Aq1 _ e,Rb _ lo (hi - lo).toNat,?_,fun b hb=>?_,q⟩
 ·have e1:lo+((0:Nat):Int) * 1=lo:=by simp
  have e2:(((hi - lo).toNat:Nat):Int) - ((0:Nat):Int)=Builtin.Range.rangeSize lo hi 1:=by rw[rangeSize_one];split<;>lia
  show IsRangeIter _ _ (lo+((0:Nat):Int) * 1) ((((hi - lo).toNat:Nat):Int) - ((0:Nat):Int)) 1
  rw[e1,e2]
  exact Are _ rfl
 ·have e:b=(s.heap.push { cls:=.type "range",data:=.fields #[.int lo t,.int hi u,.int 1 v] }).objs.size:=by simpa using hb
  subst e
  exact I1.fpOk (Aq5 _) (I1.hok.fresh (Aq5 _))
def Ani (ta:TA):TI:=fun σ H R=>ta σ H fun vs H1=>∃ j:Int,vs=[.int j]/\-(2 ^ 62)<=j/\j < 2 ^ 62/\R (Itr 0 j.toNat) H1
def Anj (ta:TA):TI:=fun σ H R=>ta σ H fun vs H1=>∃ i j:Int,vs=[.int i,.int j]/\(-(2 ^ 62)<=i/\i < 2 ^ 62/\-(2 ^ 62)<=j/\j < 2 ^ 62)/\R (Itr i (j - i).toNat) H1
theorem Uq {a:Expr}{ta:TA}{p pos:Pos} (hg:Gl X "range") (hm:X.mg "range"=none) (ha:PA X [a] ta) (hs:starEach [a] X.env=[(false,eval a X.env)]:=by rfl):PI X tg (.Call (.Name "range" p) [a] [] pos) (Ani ta):=by
 intro pins s σ H R I h
 refine Call_ (Dq I hg hm boot_range (PyProof.Rows.callWith_type1 (thn (ha pos pins s σ H _ I h) fun us s1 ⟨vs,H1,I1,r1,q1⟩=>?_) hs rfl))
 obtain⟨j,e,q1,q2,q⟩:=q1
 subst e
 cases r1 with
 |cons r rr =>
  cases rr
  obtain⟨t,rfl⟩:=r
  exact call_range_1 (Os I1 (by lia) (by lia) q1 q2 (by simpa using q))
theorem Ur {a b:Expr}{ta:TA}{p pos:Pos} (hg:Gl X "range") (hm:X.mg "range"=none) (ha:PA X [a,b] ta) (hs:starEach [a,b] X.env=[(false,eval a X.env),(false,eval b X.env)]:=by rfl) (hs2:starEach [b] X.env=[(false,eval b X.env)]:=by rfl) :
  PI X tg (.Call (.Name "range" p) [a,b] [] pos) (Anj ta):=by
 intro pins s σ H R I h
 refine Call_ (Dq I hg hm boot_range (PyProof.Rows.callWith_type1 (thn (ha pos pins s σ H _ I h) fun us s1 ⟨vs,H1,I1,r1,q1⟩=>?_) (by rw[hs,hs2]) (by rw[hs2];rfl)))
 obtain⟨i,j,e,⟨q1,q2,q3,q4⟩,q⟩:=q1
 subst e
 cases r1 with
 |cons r rr =>
  cases rr with
  |cons r' rr =>
   cases rr
   obtain⟨t,rfl⟩:=r
   obtain⟨t',rfl⟩:=r'
   exact call_range_2 (Os I1 q1 q2 q3 q4 q)
noncomputable def Aqn (wi:TI) (g:TG) (tb:TS):TS:=fun D σ H=>wi σ H fun J H1=>∃ W:Nat->Nat->St->Hp->Prop,(∃ m,W 0 m σ H1)/\∀ i m σ H,W i m σ H ->
 (J.stop i H/\D.nx σ H)\/(J.go i H/\∃ N:St->Hp->Prop,(∀ σ' H',N σ' H'->∃ m',m' < m/\W (i+1) m' σ' H')/\∀ x H',J.yld i H x H'->g x σ H' fun σ2 H2=>tb { D with nx:=N,ct:=N,bk:=D.nx } σ2 H2)
noncomputable def Me (fp:List Addr) (h:Heap):List (Addr×Obj):=fp.filterMap fun b=>(h.get? b).map fun o=>(b,o)
theorem Ek {fp:List Addr}{h:Heap}{b:Addr}{o:Obj} (hb:b∈fp) (e:h.get? b=some o):(b,o)∈Me fp h:=List.mem_filterMap.mpr ⟨b,hb,by rw[e];rfl⟩
theorem Ug {fp:List Addr}{h:Heap}{p:Addr×Obj} (hp:p∈Me fp h):p.1∈fp/\h.get? p.1=some p.2:=by
 obtain⟨b,hb,e⟩:=List.mem_filterMap.mp hp
 cases q:h.get? b with
 |none=>rw[q] at e;cases e
 |some o =>
  rw[q] at e
  have e':(b,o)=p:=Arn e
  subst e'
  exact⟨hb,q⟩
theorem Inv.pinned {pins:List (Addr×Obj)}{σ:St}{H:Hp}{s:Shared}{fp:List Addr} (I:Inv X pins σ H s) (hf:∀ b∈fp,Vl X pins H b) (ho:∀ b∈fp,∃ o,s.heap.get? b=some o/\∀ v,o.data≠.cell v):Inv X (pins++Me fp s.heap) σ H s :=
 I.pins_of fun p hp=>(List.mem_append.mp hp).elim (fun z=>I.pin p (Aq2 _ z)) fun z=>by
  obtain⟨hb,e⟩:=Ug z
  obtain⟨f0,f1,f2,_⟩:=hf p.1 hb
  obtain⟨o,e',d⟩:=ho p.1 hb
  rw[e] at e';cases e'
  exact⟨e,f0,f1,f2,d⟩
theorem Inv.unpinned {pins pl:List (Addr×Obj)}{σ:St}{H:Hp}{s:Shared} (I:Inv X (pins++pl) σ H s):Inv X pins σ H s:=I.pins_of fun p hp=>I.pin p (Aq2 _ (Arx _ hp))
theorem Aju {iter:Expr}{body:List Stmt}{wi:TI}{g:TG}{tb:TS}{pos:Pos} (hp:PassesOwn (model X.prog X.w) X.A X.env X.xe) (hc:X.calm=true) (hi:PI X tg iter wi) (hg:PG X tg g) (hb:PSs X body tb)
  (hs:∀ x,foldedSetIterable iter X.env x=pure x:=by intro _;rfl):PS X (.For tg iter body [] pos) (Aqn wi g tb):=by
 intro pins s σ H D I h
 refine wpAny_For (thn (hi pins s σ H _ I h) fun v s1 h1=>thn h1 fun itv s2 h2=>?_) hs
 obtain⟨it,fp,tn,J,H2,e,I2,T,st2,f2,W,⟨m0,w0⟩,turn⟩:=h2
 subst e
 -- what stays true of the iterator's objects through the loop
 have stat:∀ {H':Hp},(∀ b∈fp,H' b=none)->∀ b∈fp,Vl X pins H' b:=fun hn b hb=>⟨hn b hb,(f2 b hb).2⟩
 refine codeAny_forLoop_any (fun n s'=>∃ i σ' H',Inv X pins σ' H' s'/\tn i s'.heap/\(∀ b∈fp,H' b=none)/\W i n σ' H') ?_ m0 ⟨0,σ,H2,I2,st2,fun b hb=>(f2 b hb).1,w0⟩
 rintro n s3 ⟨i,σ3,H3,I3,st3,fr3,w3⟩
 rcases turn i n σ3 H3 w3 with ⟨stop,qn⟩|⟨go,N,hN,step⟩
 ·refine Atk hp (thn (T.done X rfl rfl rfl hc i pins s3 σ3 H3 X.xe I3 (stat fr3) st3 stop) fun r s4 ⟨hr,I4⟩=>?_)
  subst hr
  exact wpAny_execs_nil ⟨σ3,H3,I4,qn⟩
 ·refine Atk hp (thn (T.item X rfl rfl rfl hc i pins s3 σ3 H3 X.xe I3 (stat fr3) st3 go) fun r s4 ⟨u,hr,h4⟩=>?_)
  subst hr
  refine Atk hp (thn h4 fun _ s5 ⟨x,H5,I5,r5,y5,st5,fr5⟩=>?_)
  have I5':=I5.pinned (stat fr5) (T.obj _ _ st5)
  refine Atk hp (thn (hg _ s5 σ3 H5 x u _ I5' r5 (step x H5 y5)) fun _ s6 ⟨σ6,H6,I6,q6⟩=>?_)
  refine Atk hp (thn (hb _ s6 σ6 H6 _ I6 q6) fun f s7 q7=>?_)
  have again:∀ {σ7:St}{H7:Hp},Inv X (pins++Me fp s5.heap) σ7 H7 s7->N σ7 H7->∃ m,m < n/\∃ i σ' H',Inv X pins σ' H' s7/\tn i s7.heap/\(∀ b∈fp,H' b=none)/\W i m σ' H':=fun {σ7 H7} I7 n7=>by
   obtain⟨m',hm,w7⟩:=hN σ7 H7 n7
   refine⟨m',hm,i+1,σ7,H7,I7.unpinned,T.keep _ _ _ st5 fun b hb o e=>(I7.pin (b,o) (Aq2 _ (Aq2 _ (Ek hb e)))).1,fun b hb=>?_,w7⟩
   obtain⟨o,e,d⟩:=T.obj _ _ st5 b hb
   exact (I7.pin (b,o) (Aq2 _ (Aq2 _ (Ek hb e)))).2.1
  cases f with
  |next=>obtain⟨σ7,H7,I7,n7⟩:=q7;exact again I7 n7
  |cont=>obtain⟨σ7,H7,I7,n7⟩:=q7;exact again I7 n7
  |brk=>obtain⟨σ7,H7,I7,q7⟩:=q7;exact⟨σ7,H7,I7.unpinned,q7⟩
  |ret v=>obtain⟨x7,σ7,H7,I7,r7,q7⟩:=q7;exact⟨x7,σ7,H7,I7.unpinned,r7,q7⟩
end
abbrev R2:=V->V->Hp->VK->Prop
def OpR (X:Cx) (f:Value->Value->Sem Value) (r:R2):Prop :=
 ∀ (pins:List (Addr×Obj)) (s:Shared) (σ:St) (H:Hp) (x y:V) (v u:Value) (Q:VK),Inv X pins σ H s->RelV x v->RelV y u->r x y H Q ->
  wpAny (model X.prog X.w) X.A (f v u) (EP X pins σ Q) X.xe s
def UnR (X:Cx) (f:Value->Sem Value) (r:V->Hp->VK->Prop):Prop :=
 ∀ (pins:List (Addr×Obj)) (s:Shared) (σ:St) (H:Hp) (x:V) (v:Value) (Q:VK),Inv X pins σ H s->RelV x v->r x H Q ->
  wpAny (model X.prog X.w) X.A (f v) (EP X pins σ Q) X.xe s
def Vk (X:Cx) (f:Value) (r:List V->Hp->VK->Prop):Prop :=
 ∀ (pins:List (Addr×Obj)) (s:Shared) (σ:St) (H:Hp) (xs:List V) (us:List Value) (Q:VK),Inv X pins σ H s->Vals xs us->r xs H Q ->
  wpAny (model X.prog X.w) X.A (call f us) (EP X pins σ Q) X.xe s
def Apr (X:Cx) (r:V->Hp->(Bool->Hp->Prop)->Prop):Prop :=
 ∀ (pins:List (Addr×Obj)) (s:Shared) (σ:St) (H:Hp) (x:V) (v:Value) (Q:Bool->Hp->Prop),Inv X pins σ H s->RelV x v->r x H Q ->
  wpAny (model X.prog X.w) X.A (truthy v) (TP X pins σ Q) X.xe s
noncomputable def tOp (r:R2) (ta tb:TE):TE:=fun σ H Q=>ta σ H fun x H1=>tb σ H1 fun y H2=>r x y H2 Q
noncomputable def tUn (r:V->Hp->VK->Prop) (ta:TE):TE:=fun σ H Q=>ta σ H fun x H1=>r x H1 Q
noncomputable def rI (C:Int->Int->Prop) (g:Int->Int->V):R2:=fun x y H Q=>∃ i j,x=.int i/\y=.int j/\C i j/\Q (g i j) H
noncomputable def rI0 (g:Int->Int->V):R2:=fun x y H Q=>∃ i j,x=.int i/\y=.int j/\Q (g i j) H
def rU (g:Int->V):V->Hp->VK->Prop:=fun x H Q=>∃ i,x=.int i/\Q (g i) H
section
variable {X:Cx}{a b c:Expr}{ta tb tc:TE}{pos:Pos}
theorem Amw (ha:PE X a ta) (hb:PE X b tb) {pins:List (Addr×Obj)}{s:Shared}{σ:St}{H:Hp}{R:V->V->Hp->Prop} (I:Inv X pins σ H s)
  (h:ta σ H fun x H1=>tb σ H1 fun y H2=>R x y H2) {Q:Value->Shared->Prop}{f:Value->Value->Sem Value}
  (hf:∀ v u s2 x y H2,Inv X pins σ H2 s2->RelV x v->RelV y u->R x y H2->wpAny (model X.prog X.w) X.A (f v u) Q X.xe s2) :
  wpAny (model X.prog X.w) X.A (eval a X.env) (fun v s₁=>wpAny (model X.prog X.w) X.A (eval b X.env) (fun u s₂=>wpAny (model X.prog X.w) X.A (f v u) Q X.xe s₂) X.xe s₁) X.xe s:=by
 refine thn (ha pins s σ H _ I h) fun v s1 ⟨x,H1,I1,r1,q1⟩=>?_
 refine thn (hb pins s1 σ H1 _ I1 q1) fun u s2 ⟨y,H2,I2,r2,q2⟩=>?_
 exact hf v u s2 x y H2 I2 r1 r2 q2
theorem Adu {op:Operator}{r:R2} (ho:OpR X (binaryOp op) r) (ha:PE X a ta) (hb:PE X b tb):PE X (.BinOp a op b pos) (tOp r ta tb):=by
 intro pins s σ H Q I h
 exact wpAny_BinOp (Amw ha hb I h fun v u s2 x y H2 I2 rx ry q=>ho pins s2 σ H2 x y v u Q I2 rx ry q)
theorem An8 {op:UnaryOp}{r:V->Hp->VK->Prop} (ho:UnR X (unaryOp op) r) (ha:PE X a ta):PE X (.UnaryOp op a pos) (tUn r ta):=by
 intro pins s σ H Q I h
 exact UnaryOp_ (thn (ha pins s σ H _ I h) fun v s1 ⟨x,H1,I1,r1,q1⟩=>ho pins s1 σ H1 x v Q I1 r1 q1)
theorem opI {f:Value->Value->Sem Value}{C:Int->Int->Prop}{g:Int->Int->Int}
  (rule:∀ (i j:Int) (t u:Tok) (s:Shared) (Q:Value->Shared->Prop) (E:Value->Shared->Prop),C i j->Q (.int (g i j) s.toks) { s with toks:=s.toks+1 }->wpAny (model X.prog X.w) X.A (f (.int i t) (.int j u)) Q E s) :
  OpR X f (rI C fun i j=>.int (g i j)):=by
 intro pins s σ H x y v u Q I rx ry h
 obtain⟨i,j,rfl,rfl,hc,q⟩:=h
 obtain⟨t,rfl⟩:=rx
 obtain⟨t',rfl⟩:=ry
 exact rule i j t t' s _ _ hc ⟨.int (g i j),H,I.tok _,⟨_,rfl⟩,q⟩
theorem Anx {f:Value->Value->Sem Value}{g:Int->Int->Int}
  (rule:∀ (i j:Int) (t u:Tok) (s:Shared) (Q:Value->Shared->Prop) (E:Value->Shared->Prop),Q (.int (g i j) s.toks) { s with toks:=s.toks+1 }->wpAny (model X.prog X.w) X.A (f (.int i t) (.int j u)) Q E s) :
  OpR X f (rI0 fun i j=>.int (g i j)):=by
 intro pins s σ H x y v u Q I rx ry h
 obtain⟨i,j,rfl,rfl,q⟩:=h
 obtain⟨t,rfl⟩:=rx
 obtain⟨t',rfl⟩:=ry
 exact rule i j t t' s _ _ ⟨.int (g i j),H,I.tok _,⟨_,rfl⟩,q⟩
theorem Anw {f:Value->Value->Sem Value}{g:Int->Int->Bool}
  (rule:∀ (i j:Int) (t u:Tok) (s:Shared) (Q:Value->Shared->Prop) (E:Value->Shared->Prop),Q (.bool (g i j)) s->wpAny (model X.prog X.w) X.A (f (.int i t) (.int j u)) Q E s) :
  OpR X f (rI0 fun i j=>.bl (g i j)):=by
 intro pins s σ H x y v u Q I rx ry h
 obtain⟨i,j,rfl,rfl,q⟩:=h
 obtain⟨t,rfl⟩:=rx
 obtain⟨t',rfl⟩:=ry
 exact rule i j t t' s _ _ ⟨.bl (g i j),H,I,rfl,q⟩
def Aox (i j:Int):Prop:=0 < j/\j < 1073741824
def Aoy (i j:Int):Prop:=0<=j/\j<=1000000/\i.natAbs < 2 ^ 64
def CMul (i j:Int):Prop:=(-(2 ^ 64) < i/\i < 2 ^ 64)\/(-(2 ^ 64) < j/\j < 2 ^ 64)
theorem CMul.ok {i j:Int} (h:CMul i j):IntMulOk i j:=by
 rcases h with ⟨h1,h2⟩|⟨h1,h2⟩
 ·exact .of_left (intBits_le_64 h1 h2)
 ·exact .of_right (intBits_le_64 h1 h2)
theorem Re (k:Nat):(0:Int)<=2 ^ k:=by
 rw[two_pow_cast]
 exact Int.natCast_nonneg _
theorem op_add:OpR X (binaryOp .Add) (rI0 fun i j=>.int (i+j)):=Anx fun _ _ _ _ _ _ _ q=>add_int q
theorem Ai0:OpR X (binaryOp .Sub) (rI0 fun i j=>.int (i - j)):=Anx fun _ _ _ _ _ _ _ q=>sub_int q
theorem Aix:OpR X (binaryOp .Mult) (rI CMul fun i j=>.int (i * j)):=opI fun _ _ _ _ _ _ _ hc q=>mul_int q hc.ok
theorem Adf:OpR X (binaryOp .FloorDiv) (rI Aox fun i j=>.int (i / j)):=opI fun i j _ _ _ _ _ hc q=>by
 have h1:(0:Int) < j:=hc.1
 have h2:j < 1073741824:=hc.2
 exact floordiv_int (by lia) (by rw[Int.fdiv_eq_ediv_of_nonneg i (by lia)];exact q) (.inl (PyProof.noPylong_small (by lia)))
theorem Aiw:OpR X (binaryOp .Mod) (rI (fun _ j=>0 < j) fun i j=>.int (i % j)):=opI fun i j _ _ _ _ _ hc q=>by
 have h1:(0:Int) < j:=hc
 exact mod_int' (by lia) (by rw[Int.fmod_eq_emod_of_nonneg i (by lia)];exact q)
theorem Aiy:OpR X (binaryOp .Pow) (rI Aoy fun i j=>.int (i ^ j.toNat)):=opI fun _ _ _ _ _ _ _ hc q=>pow_int_small hc.1 hc.2.1 hc.2.2 q
theorem Aiz:OpR X (binaryOp .RShift) (rI (fun _ j=>0<=j) fun i j=>.int (i / 2 ^ j.toNat)):=opI fun i j _ _ _ _ _ hc q =>
 rshift_int hc (by rw[Int.fdiv_eq_ediv_of_nonneg i (Re _)];exact q)
theorem Aiu:OpR X (binaryOp .BitAnd) (rI0 fun i j=>.int (Builtin.bitAnd i j)):=Anx fun _ _ _ _ _ _ _ q=>and_int q
theorem unI {f:Value->Sem Value}{g:Int->Int}
  (rule:∀ (i:Int) (t:Tok) (s:Shared) (Q:Value->Shared->Prop) (E:Value->Shared->Prop),Q (.int (g i) s.toks) { s with toks:=s.toks+1 }->wpAny (model X.prog X.w) X.A (f (.int i t)) Q E s) :
  UnR X f (rU fun i=>.int (g i)):=by
 intro pins s σ H x v Q I rx h
 obtain⟨i,rfl,q⟩:=h
 obtain⟨t,rfl⟩:=rx
 exact rule i t s _ _ ⟨.int (g i),H,I.tok _,⟨_,rfl⟩,q⟩
theorem Ak0:UnR X (unaryOp .USub) (rU fun i=>.int (-i)):=unI fun _ _ _ _ _ q=>neg_int q
end
section
variable {X:Cx}{a b c:Expr}{ta tb tc:TE}{pos:Pos}
theorem Tc {pins:List (Addr×Obj)}{σ:St}{H:Hp}{s:Shared}{Q:VK}{k k':Bool} (I:Inv X pins σ H s) (q:Q (.bl k) H) (e:k=k'):EP X pins σ Q (.bool k') s:=by
 subst e
 exact⟨.bl k,H,I,rfl,q⟩
theorem op_lt:OpR X (compareOp .Lt) (rI0 fun i j=>.bl (decide (i < j))):=Anw fun _ _ _ _ _ _ _ q=>lt_int q
theorem An0:OpR X (compareOp .Gt) (rI0 fun i j=>.bl (decide (j < i))):=Anw fun _ _ _ _ _ _ _ q=>gt_int q
theorem Anz:OpR X (compareOp .GtE) (rI0 fun i j=>.bl (decide (j<=i))):=Anw fun _ _ _ _ _ _ _ q=>ge_int q
theorem Uk:OpR X (compareOp .Lt) (fun x y H Q=>∃ i j,x=.str i/\y=.str j/\Q (.bl (decide (i.cps.toList < j.cps.toList))) H):=by
 intro pins s σ H x y v u Q I rx ry h
 obtain⟨i,j,rfl,rfl,q⟩:=h
 obtain⟨t,rfl⟩:=rx
 obtain⟨t',rfl⟩:=ry
 exact lt_str (Tc I q rfl)
theorem Aiv:OpR X (compareOp .Is) (fun x y H Q=>y=.non/\Q (.bl (decide (x=.non))) H):=by
 intro pins s σ H x y v u Q I rx ry h
 obtain⟨rfl,q⟩:=h
 cases ry
 refine is_none_gen (Tc I q ?_)
 cases x<;>first
  |(cases rx;rfl)
  |(obtain⟨t,rfl⟩:=rx;rfl)
theorem Adg:OpR X (compareOp .IsNot) (fun x y H Q=>y=.non/\Q (.bl (!decide (x=.non))) H):=by
 intro pins s σ H x y v u Q I rx ry h
 obtain⟨rfl,q⟩:=h
 cases ry
 refine isnot_none_gen (Tc I q ?_)
 cases x<;>first
  |(cases rx;rfl)
  |(obtain⟨t,rfl⟩:=rx;rfl)
theorem OpR.or {f:Value->Value->Sem Value}{r r':R2} (h:OpR X f r) (h':OpR X f r'):OpR X f (fun x y H Q=>r x y H Q\/r' x y H Q):=by
 intro pins s σ H x y v u Q I rx ry q
 rcases q with q|q
 ·exact h pins s σ H x y v u Q I rx ry q
 ·exact h' pins s σ H x y v u Q I rx ry q
theorem Aab (b:Expr) {op:CmpOp} (h:op≠.In:=by decide) (h2:op≠.NotIn:=by decide):behindInMarks op b=false:=by
 have e1:(op == CmpOp.In)=false:=by cases op<;>first|rfl|exact absurd rfl h
 have e2:(op == CmpOp.NotIn)=false:=by cases op<;>first|rfl|exact absurd rfl h2
 cases b<;>simp[behindInMarks,e1,e2]
noncomputable def Aow (t:TE):TT:=fun σ H Q=>t σ H fun x H'=>∃ k,x=.bl k/\Q k H'
theorem Uy {op:CmpOp}{r:R2} (ho:OpR X (compareOp op) r) (ha:PE X a ta) (hb:PE X b tb) (hm:behindInMarks op b=false):PT X (.Compare a [op] [b] pos) (Aow (tOp r ta tb)):=by
 intro pins s σ H Q I h
 refine wpAny_isTrue_Compare1 (thn (ha pins s σ H _ I h) fun v s1 ⟨x,H1,I1,r1,q1⟩=>thn (hb pins s1 σ H1 _ I1 q1) fun u s2 ⟨y,H2,I2,r2,q2⟩ =>
  thn (ho pins s2 σ H2 x y v u _ I2 r1 r2 q2) fun c s3 ⟨z,H3,I3,r3,k,e,q3⟩=>?_) hm
 subst e
 cases r3
 exact Asn ⟨H3,I3,q3⟩
def Ak7 (K:W.Frag) (x:V) (H:Hp) (k:Bool):Prop :=
 match x with
 |.non=>k=false
 |.bl b=>k=b
 |.int i=>k=(i != 0)
 |.str y=>y.length<=sizeLine/\k=((y.length:Int) != 0)
 |.byt y=>y.size<=sizeLine/\k=((y.size:Int) != 0)
 |.ref p=>(∃ xs,SqL K H p xs/\k=!xs.isEmpty)\/(∃ xs,SqT K H p xs/\k=!xs.isEmpty)\/∃ kvs,H p=some (.dK kvs)/\k=!kvs.isEmpty
 |_=>False
theorem Ph {κ:Type}{kvs:List (κ×V)}{vs:List (κ×Value)} (r:KV kvs vs):(!vs.isEmpty)=!kvs.isEmpty:=by
 cases r<;>rfl
theorem H9 {xs:List V}{its:List Value} (r:Vals xs its):(!its.toArray.isEmpty)=!xs.isEmpty:=by
 cases r<;>simp
theorem Ie:(sizeLine:Nat) < 2 ^ 63:=by rw[Aso];decide
theorem Aky:Apr X (fun x H Q=>∃ k,Ak7 X.K x H k/\Q k H):=by
 intro pins s σ H x v Q I rx h
 obtain⟨k,e,q⟩:=h
 have hl:=Ie
 have hs:sizeLine=16777216:=Aso
 cases x with
 |non =>
  cases rx
  have e':k=false:=e
  subst e'
  exact truthy_none ⟨H,I,q⟩
 |bl b =>
  cases rx
  have e':k=b:=e
  subst e'
  exact Asn ⟨H,I,q⟩
 |int i =>
  obtain⟨t,rfl⟩:=rx
  have e':k=(i != 0):=e
  subst e'
  exact PySem.P.truthy_int ⟨H,I,q⟩
 |str y =>
  obtain⟨t,rfl⟩:=rx
  obtain⟨hy,e'⟩:y.length<=sizeLine/\k=((y.length:Int) != 0):=e
  subst e'
  exact PySem.P.truthy_str (by lia) ⟨H,I.tok _,q⟩
 |byt y =>
  obtain⟨t,rfl⟩:=rx
  obtain⟨hy,e'⟩:y.size<=sizeLine/\k=((y.size:Int) != 0):=e
  subst e'
  exact W.truthy_bytes (by lia) ⟨H,I.tok _,q⟩
 |ref p =>
  cases rx
  have e':(∃ xs,SqL X.K H p xs/\k=!xs.isEmpty)\/(∃ xs,SqT X.K H p xs/\k=!xs.isEmpty)\/∃ kvs,H p=some (.dK kvs)/\k=!kvs.isEmpty:=e
  rcases e' with ⟨xs,hx,e'⟩|⟨xs,hx,e'⟩|⟨kvs,hx,e'⟩
  ·subst e'
   obtain⟨its,r,pl,hz⟩:=I.list hx
   have hlen:=r.length
   exact wpAny_truthy_list pl.isList (by simp only[Aq3];lia) ⟨H,I.tok _,by rw[H9 r];exact q⟩
  ·subst e'
   obtain⟨its,r,pl,hz⟩:=I.tuple hx
   have hlen:=r.length
   exact truthy_tuple pl (by simp only[Aq3];lia) ⟨H,I.tok _,by rw[H9 r];exact q⟩
  ·subst e'
   obtain⟨hz,hS,vs,r,m⟩:kvs.length<=sizeLine/\(p == sysModules)=false/\∃ vs,KV kvs vs/\s.heap.DictOf (T8 X.prog X.w) p vs:=I.hok p _ hx
   have hlen:kvs.length=vs.length:=Paired.length r
   exact wpAny_truthy_dict hS m (by lia) ⟨H,I.tok _,by rw[Ph r];exact q⟩
 |_=>exact (show False from e).elim
theorem Yn (ha:PE X a ta) (he:∀ whole,isTrue a X.env whole=(do let v <- whole;standAt a.pos;holding [v] (truthy v))) :
  PT X a (fun σ H Q=>ta σ H fun x H'=>∃ k,Ak7 X.K x H' k/\Q k H'):=by
 intro pins s σ H Q I h
 exact isTrue_plain (thn (ha pins s σ H _ I h) fun v s1 ⟨x,H1,I1,r1,q1⟩=>Aky pins s1 σ H1 x v Q I1 r1 q1) (he _)
theorem op_add_str:OpR X (binaryOp .Add) (fun x y H Q=>∃ i j,x=.str i/\y=.str j/\i.length+j.length<=sizeLine/\Q (.str (i++j)) H):=by
 intro pins s σ H x y v u Q I rx ry h
 obtain⟨i,j,rfl,rfl,hz,q⟩:=h
 obtain⟨t,rfl⟩:=rx
 obtain⟨t',rfl⟩:=ry
 exact add_str (fun t' tk=>⟨.str (i++j),H,I.tok _,⟨_,rfl⟩,q⟩) hz
inductive V1 (x:V) (us:List Value):Prop where
 |mk (u:Value) (e:us=[u]) (r:RelV x u)
theorem J2 {x:V}{us:List Value} (r:Vals [x] us):V1 x us:=by
 cases r with
 |cons r1 r2=>cases r2;exact⟨_,rfl,r1⟩
theorem Ak1 {x y:V}{us:List Value} (r:Vals [x,y] us):∃ u w',us=[u,w']/\RelV x u/\RelV y w':=by
 cases r with
 |cons r1 r2 =>
  cases r2 with
  |cons r3 r4=>cases r4;exact⟨_,_,rfl,r1,r3⟩
theorem Rp (hc:X.calm=true):Vk X (.builtin "max") (fun xs H Q=>∃ i j,xs=[.int i,.int j]/\Q (.int (if j > i then j else i)) H):=by
 intro pins s σ H xs us Q I r h
 obtain⟨i,j,rfl,q⟩:=h
 obtain⟨u,w',rfl,⟨t,rfl⟩,⟨t',rfl⟩⟩:=Ak1 r
 refine max_two_ints (I.ok.hd hc) fun h' tk k=>⟨_,H,I.kept k,?_,q⟩
 by_cases hj:j > i
 ·rw[Aq4 hj,Aq4 hj];exact⟨_,rfl⟩
 ·rw[Aq7 hj,Aq7 hj];exact⟨_,rfl⟩
theorem Le:Vk X (.type "int") (fun xs H Q=>(∃ i,xs=[.int i]/\Q (.int i) H)\/∃ k,xs=[.bl k]/\Q (.int (if k then 1 else 0)) H):=by
 intro pins s σ H xs us Q I r h
 rcases h with ⟨i,rfl,q⟩|⟨k,rfl,q⟩
 ·obtain⟨u,rfl,t,rfl⟩:=J2 r
  exact call_int_int ⟨.int i,H,I,⟨_,rfl⟩,q⟩
 ·obtain⟨u,rfl,r1⟩:=J2 r
  cases r1
  exact call_int_bool ⟨.int (if k then 1 else 0),H,I.tok _,⟨_,rfl⟩,q⟩
def Alk (K:W.Frag) (x:V) (H:Hp) (n:Nat):Prop :=
 match x with
 |.str y=>y.length<=sizeLine/\n=y.length
 |.byt y=>y.size<=sizeLine/\n=y.size
 |.ref p=>(∃ xs,SqL K H p xs/\n=xs.length)\/∃ xs,SqT K H p xs/\n=xs.length
 |_=>False
theorem Vv:Vk X (.builtin "len") (fun xs H Q=>∃ x n,xs=[x]/\Alk X.K x H n/\Q (.int n) H):=by
 intro pins s σ H xs us Q I r h
 obtain⟨x,n,rfl,e,q⟩:=h
 obtain⟨u,rfl,rx⟩:=J2 r
 have hl:=Ie
 have hs:sizeLine=16777216:=Aso
 cases x with
 |str y =>
  obtain⟨t,rfl⟩:=rx
  obtain⟨hy,e'⟩:y.length<=sizeLine/\n=y.length:=e
  subst e'
  exact len_str (by lia) ⟨.int _,H,I.tok _,⟨_,rfl⟩,q⟩
 |byt y =>
  obtain⟨t,rfl⟩:=rx
  obtain⟨hy,e'⟩:y.size<=sizeLine/\n=y.size:=e
  subst e'
  exact W.len_bytes (by lia) ⟨.int _,H,I.tok _,⟨_,rfl⟩,q⟩
 |ref p =>
  cases rx
  have e':(∃ xs,SqL X.K H p xs/\n=xs.length)\/∃ xs,SqT X.K H p xs/\n=xs.length:=e
  rcases e' with ⟨xs,hx,e'⟩|⟨xs,hx,e'⟩
  ·subst e'
   obtain⟨its,r',pl,hz⟩:=I.list hx
   have hlen:=r'.length
   exact Calls.call_len_list pl.isList (by simp only[Aq3];lia) ⟨.int xs.length,H,I.tok _,⟨_,by simp only[Aq3];rw[hlen]⟩,q⟩
  ·subst e'
   obtain⟨its,r',pl,hz⟩:=I.tuple hx
   have hlen:=r'.length
   exact len_tuple pl (by simp only[Aq3];lia) ⟨.int xs.length,H,I.tok _,⟨_,by simp only[Aq3];rw[hlen]⟩,q⟩
 |_=>exact (show False from e).elim
end
structure ObjM (h:Heap) (x dx C:Addr) (mA:Str->Option Value):Prop where
 obj:h.get? x=some (W.instObj C dx)
 ns:h.Ns1 dx mA
 ne:dx≠x
set_option tactic.hygienic true in
theorem T3 {h:Heap}{dx:Addr}{mA:Str->Option Value} (n:h.Ns1 dx mA):∃ od,h.get? dx=some od/\∀ name,W.lookIn name od=some (mA name):=by
 obtain⟨o,es,ep,ho,hd,hk,_,hm⟩:=n
 refine⟨o,ho,fun name=>?_⟩
 have e:=hm name
 unfold nsFind findBy at e
 rw[<- Array.find?_toList] at e
 unfold W.lookIn
 rw[hd]
 dsimp only
 split
 ·rename_i y q
  rw[q] at e
  exact Asd some e
 ·rename_i q
  rw[q] at e
  have a:es.toList.any (·.refKey)=false:=by
   rw[List.any_eq_false]
   intro y hy
   obtain⟨z,t,hkey⟩:=hk y (Array.mem_toList_iff.mp hy)
   simp[DictEntry.refKey,hkey]
  have a':¬ es.toList.any (·.refKey)=true:=by rw[a];exact Arc
  rw[Aq7 a']
  exact Asd some e
theorem ObjM.look {h:Heap}{x dx C:Addr}{mA:Str->Option Value} (I:ObjM h x dx C mA):∃ od,W.InstAt h x (W.instObj C dx) C (some od)/\∀ name,W.lookIn name od=some (mA name) :=
 let ⟨od,ho,hl⟩:=T3 I.ns
 ⟨od,⟨I.obj,rfl,rfl,ho⟩,hl⟩
section
variable {prog:Program}{w:World}{A:Around}{E:Value->Shared->Prop}{s:Shared}{K:W.Frag}{x dx C f:Addr}{mA:Str->Option Value}{name:Str}{v:Value}
end
section
variable {P:Program}{w:World}{K:W.Frag}{H H':Hp}{h h':Heap}{a C dx:Addr}{fs fs':List (Str×V)}
theorem Acu (hok:HOk P w K H h) (e:H a=some (.ins C dx fs)):∃ mA,ObjM h a dx C mA/\(∀ f,Alo (fs.lookup f) (mA f))/\PySem.Within mA (fs.map (·.1))/\fs.length<=1000/\H dx=some (.own a):=by
 obtain⟨d,z,ne,ob,mA,n,r,q⟩:=(show ObjOk P w K H h a (.ins C dx fs) from hok a _ e)
 exact⟨mA,⟨ob,n,ne⟩,r,q,z,d⟩
end
structure Cls (K:W.Frag) (C:Addr):Prop where
 pg:W.plainGet K C Str.empty=true
 hd:W.hasDictIn K C=true
 po:W.plainOver K C=true
 sa:W.findIn K (.ref C) "__setattr__"=some (some (.builtin "object.__setattr__"))
theorem Cls.get {K:W.Frag}{C:Addr} (c:Cls K C) (f:Str):W.plainGet K C f=true:=c.pg
section
variable {X:Cx}{pins:List (Addr×Obj)}{σ:St}{H:Hp}{s:Shared}{a C dx:Addr}{fs:List (Str×V)}{f:Str}{v:V}{A:Around}{E:Value->Shared->Prop}
end
section
variable {X:Cx}{o e value:Expr}{f:Str}{pos pos' tpos:Pos}{ta tv:TE}
end
section
variable {X:Cx}{pins:List (Addr×Obj)}{σ:St}{H:Hp}{s:Shared}{A:Around}{E:Value->Shared->Prop}{Q:Value->Shared->Prop}{c:Value}{b:Bool}
inductive TyOf (K:W.Frag) (H:Hp):V->Value->Prop where
 |non:TyOf K H .non (.type "NoneType")
 |bl (x:Bool):TyOf K H (.bl x) (.type "bool")
 |int (i:Int):TyOf K H (.int i) (.type "int")
 |str (x:Str):TyOf K H (.str x) (.type "str")
 |flt (x:UInt64):TyOf K H (.flt x) (.type "float")
 |lst {a:Addr}{xs:List V} (e:H a=some (.lst xs)):TyOf K H (.ref a) (.type "list")
 |frz {a:Addr}{o:Obj}{xs:List V} (e:H a=some (.frz o (.lst xs))):TyOf K H (.ref a) (.type "list")
 |tup {a:Addr}{xs:List V} (e:H a=some (.tup xs)):TyOf K H (.ref a) (.type "tuple")
 |dK {a:Addr}{kvs:List (Key×V)} (e:H a=some (.dK kvs)):TyOf K H (.ref a) (.type "dict")
 |dT {a:Addr}{kvs:List (PyData×V)} (e:H a=some (.dT kvs)):TyOf K H (.ref a) (.type "dict")
 |ins {a C dx:Addr}{fs:List (Str×V)} (e:H a=some (.ins C dx fs)) (cl:Cls K C) (ha:W.findIn K (.ref C) "__class__"=some (some (.builtin "object.__class__")))
   (hn:W.specialIn K (.builtin "object.__class__") "__get__"=some (some (.builtin "getset_descriptor.__get__"))) (htk:W.takesIn K (.builtin "object.__class__")=some true)
   (hm:W.mroIn K C (.type "object")=some true):TyOf K H (.ref a) (.ref C)
theorem B5 {x:V}{u t:Value} (I:Inv X pins σ H s) (rx:RelV x u) (ty:TyOf X.K H x t) (e:W.kitOne X.K t c=some b) (h:∀ tk,Q (.bool b) { s with toks:=tk }) :
  wpAny (model X.prog X.w) A (call (.builtin "isinstance") [u,c]) Q E s:=by
 cases ty with
 |non=>cases (show u=Value.none from rx);exact W.kia_one W.kitx_none I.kIn True.intro e (fun z=>nomatch z) h
 |bl y=>cases (show u=Value.bool y from rx);exact W.kia_one W.kitx_bool I.kIn True.intro e (fun z=>nomatch z) h
 |int i=>obtain⟨t,q⟩:=(show ∃ t,u=Value.int i t from rx);cases q;exact W.kia_one W.kitx_int I.kIn True.intro e (fun z=>nomatch z) h
 |str y=>obtain⟨t,q⟩:=(show ∃ t,u=Value.str y t from rx);cases q;exact W.kia_one W.kitx_str I.kIn True.intro e (fun z=>nomatch z) h
 |flt y=>obtain⟨t,q⟩:=(show ∃ t,u=Value.float y t from rx);cases q;exact W.kia_one W.kitx_float I.kIn True.intro e (fun z=>nomatch z) h
 |@lst a xs ea =>
  cases (show u=Value.ref a from rx)
  obtain⟨_,_,n,_,h1⟩:=(show ObjOk X.prog X.w X.K H s.heap a (.lst xs) from I.hok a _ ea)
  exact W.kia_one W.kitx_list I.kIn ⟨_,h1,rfl⟩ e (fun z=>nomatch z) h
 |@frz a ob xs ea =>
  cases (show u=Value.ref a from rx)
  obtain⟨_,_,_,n,_,h1⟩:=(show ObjOk X.prog X.w X.K H s.heap a (.frz ob (.lst xs)) from I.hok a _ ea)
  exact W.kia_one W.kitx_list I.kIn ⟨_,h1,rfl⟩ e (fun z=>nomatch z) h
 |@tup a xs ea =>
  cases (show u=Value.ref a from rx)
  obtain⟨_,_,_,p⟩:=(show ObjOk X.prog X.w X.K H s.heap a (.tup xs) from I.hok a _ ea)
  obtain⟨o,h1,h2,_⟩:=p
  exact W.kia_one W.kitx_tuple I.kIn ⟨o,h1,h2⟩ e (fun z=>nomatch z) h
 |@dK a kvs ea =>
  cases (show u=Value.ref a from rx)
  obtain⟨_,_,vs,_,p⟩:=(show ObjOk X.prog X.w X.K H s.heap a (.dK kvs) from I.hok a _ ea)
  obtain⟨o,es,ep,h1,h2,_⟩:=p
  exact W.kia_one W.kitx_dict I.kIn ⟨o,h1,h2.1⟩ e (fun z=>nomatch z) h
 |@dT a kvs ea =>
  cases (show u=Value.ref a from rx)
  obtain⟨_,_,xs,_,o,es,ep,h1,h2,_⟩:=(show ObjOk X.prog X.w X.K H s.heap a (.dT kvs) from I.hok a _ ea)
  exact W.kia_one W.kitx_dict I.kIn ⟨o,h1,h2.1⟩ e (fun z=>nomatch z) h
 |@ins a C dx fs ea cl ha hn htk hm =>
  cases (show u=Value.ref a from rx)
  obtain⟨mA,O,_⟩:=Acu I.hok ea
  obtain⟨od,J,_⟩:=O.look
  exact W.kia_one (W.kitx_own (cl.get _) cl.hd ha hn htk hm) I.kIn J e (fun z=>nomatch z) h
end
structure Room (k:Nat) (A:Around):Prop where
 hd:A.handled=none
 dp:A.depth+3 * k+5 < recursionLimit
 un:A.units+16 * k+200 < cLine
theorem Room.mono {j k:Nat}{A:Around} (r:Room k A) (h:j<=k):Room j A:=⟨r.hd,by have:=r.dp;lia,by have:=r.un;lia⟩
theorem Room.deeper {k:Nat}{A:Around} (r:Room (k+1) A) (env:Env):Room k (A.deeper env) :=
 ⟨r.hd,by have:=r.dp;show A.depth+1+3 * k+5 < _;lia,by have:=r.un;show A.units+3+16 * k+200 < _;lia⟩
theorem Room.in1 {k:Nat}{A:Around} (r:Room (k+1) A):Room k A.in1 :=
 ⟨r.hd,by have:=r.dp;show A.depth+3 * k+5 < _;lia,by have:=r.un;show A.units+1+16 * k+200 < _;lia⟩
theorem Room.depth {k:Nat}{A:Around} (r:Room k A):A.depth < recursionLimit:=by have:=r.dp;lia
theorem Room.units {k:Nat}{A:Around} (r:Room k A):A.units+64 < cLine:=by have:=r.un;lia
noncomputable def Apo:TA:=fun _ H Q=>Q [] H
noncomputable def Afb (ta:TE) (tr:TA):TA:=fun σ H Q=>ta σ H fun x H1=>tr σ H1 fun xs H2=>Q (x::xs) H2
section
variable {X:Cx}{e:Expr}{es:List Expr}{te:TE}{t:TA}{pos:Pos}
theorem Aah:PA X [] Apo:=fun _ _ _ _ H Q I h=>Calls.spliced_nil ⟨[],H,I,.nil,h⟩
theorem Nh (ha:PE X e te) (hr:PA X es t) (hs:starEach (e::es) X.env=(false,eval e X.env)::starEach es X.env:=by rfl):PA X (e::es) (Afb te t):=by
 intro pos pins s σ H Q I h
 rw[hs]
 show wpAny _ _ (spliced ((false,eval e X.env)::backTo pos (starEach es X.env))) _ _ s
 refine Calls.spliced_cons (thn (ha pins s σ H _ I h) fun u s1 ⟨x,H1,I1,r1,q1⟩=>?_)
 exact thn (hr pos pins s1 σ H1 _ I1 q1) fun us s2 ⟨xs,H2,I2,r2,q2⟩=>⟨x::xs,H2,I2,.cons r1 r2,q2⟩
def Aqs (t:TA):TE:=fun σ H Q=>t σ H fun xs H1=>xs.length<=sizeLine/\∀ p,H1 p=none->Q (.ref p) (upd H1 p (.tup xs))
def Aqp (t:TA):TE:=fun σ H Q=>t σ H fun xs H1=>xs.length<=sizeLine/\∀ p,H1 p=none->Q (.ref p) (upd H1 p (.lst xs))
theorem Ajm {x1} (h:PA X es t):PE X (.Tuple es x1 pos) (Aqs t):=by
 intro pins s σ H Q I hq
 refine wpAny_Tuple_spliced (thn (h pos pins s σ H _ I hq) fun us s1 ⟨xs,H1,I1,r,z,q⟩=>⟨by rw[<- r.length];exact z,?_⟩)
 have hf:H1 s1.heap.objs.size=none:=I1.hok.fresh (Aq5 _)
 refine⟨.ref s1.heap.objs.size,upd H1 s1.heap.objs.size (.tup xs),I1.laid (t':=s1.toks) (fun b u e=>Aq1 _ e) (Aq5 _) ?_,rfl,q _ hf⟩
 exact⟨z,us,r,TupD.new _ _⟩
theorem Ajj (h:PA X es t):PE X (.List es pos) (Aqp t):=by
 intro pins s σ H Q I hq
 refine wpAny_List_spliced (thn (h pos pins s σ H _ I hq) fun us s1 ⟨xs,H1,I1,r,z,q⟩=>⟨by rw[<- r.length];exact z,?_⟩)
 have hf:H1 s1.heap.objs.size=none:=I1.hok.fresh (Aq5 _)
 refine⟨.ref s1.heap.objs.size,upd H1 s1.heap.objs.size (.lst xs),I1.laid (t':=s1.toks) (fun b u e=>Aq1 _ e) (Aq5 _) ?_,rfl,q _ hf⟩
 exact⟨z,us,0,r,Are _ rfl⟩
end
abbrev Sp:=List V->Hp->VK->XK->Prop
abbrev CXT:=List Env->Hp->Shared->XK->Value->Shared->Prop
structure Env0 (P:Program) (w:World) (K:W.Frag) (mg:Str->Option Value) (base:Heap) (A:Around) (outer:List Env) (s:Shared) (H:Hp):Prop where
 frames:A.frames=some outer
 mod:Mod K mg base
 bs:∀ b o,base.get? b=some o->s.heap.get? b=some o/\H b=none
 bsz:base.objs.size<=s.heap.objs.size
 funs:s.heap.FunFrames base outer
 frf:∀ b∈frs outer,H b=none
 hok:HOk P w K H s.heap
 bare:AllBare s.gens
def CE (outer:List Env) (P:Program) (w:World) (K:W.Frag) (H:Hp) (s:Shared) (Q:VK) (u:Value) (s':Shared):Prop :=
 ∃ v H',s'.os=s.os/\AllBare s'.gens/\Un (frs outer) [] H H' s.heap s'.heap/\HOk P w K H' s'.heap/\RelV v u/\Q v H'
def CR (CX:CXT) (outer:List Env) (P:Program) (w:World) (K:W.Frag) (H:Hp) (s:Shared) (Q:VK) (E:XK) (r:Result) (s':Shared):Prop :=
 match r with
 |.ok (.ret u)=>CE outer P w K H s Q u s'
 |.ok _=>False
 |.error e=>CX outer H s E e s'
structure FnOk (P:Program) (w:World) (K:W.Frag) (mg:Str->Option Value) (base:Heap) (CX:CXT) (k:Nat) (f:Addr) (fd:FuncData) (ps:List Str) (sp:Sp):Prop where
 len:∀ vs H Q E,sp vs H Q E->vs.length=ps.length
 run:∀ (A:Around) (outer:List Env) (s:Shared) (H:Hp) (args:Args) (us:List Value) (vs:List V) (Q:VK) (E:XK),Room k A->Env0 P w K mg base A outer s H->BindsTo s fd args (ps.zip us)->Vals vs us->sp vs H Q E ->
  codeAny (model P w) A (.call (.ref f) args) (CR CX outer P w K H s Q E) s
theorem Env0.in1 {P:Program}{w:World}{K:W.Frag}{mg:Str->Option Value}{base:Heap}{A:Around}{outer:List Env}{s:Shared}{H:Hp} (e:Env0 P w K mg base A outer s H) :
  Env0 P w K mg base A.in1 outer s H:=⟨e.frames,e.mod,e.bs,e.bsz,e.funs,e.frf,e.hok,e.bare⟩
section
variable {X:Cx}{pins:List (Addr×Obj)}{σ:St}{H:Hp}{s s':Shared}
theorem Inv.env0 (I:Inv X pins σ H s):Env0 X.prog X.w X.K X.mg X.base X.A X.stack s H :=
 ⟨I.ok.frames,I.ok.mod,I.bs,Arl I.ok.bsz I.sz,I.stack,I.stkFree,I.hok,I.bare⟩
theorem Inv.after {Q:VK}{u:Value} (I:Inv X pins σ H s) (h:CE X.stack X.prog X.w X.K H s Q u s'):EP X pins σ Q u s':=by
 obtain⟨v,H',os,bare,un,hok,r,q⟩:=h
 obtain⟨hh,g,d,t,os'⟩:=s'
 obtain rfl:os'=s.os:=os
 exact⟨v,H',I.call (h':=hh) (g':=g) (d':=d) (t':=t) (ch:=[]) un hok bare (fun b z=>absurd z (by simp)),r,q⟩
end
noncomputable def Akx (sp:Sp) (dvs:List V) (E:XK) (t:TA):TE:=fun σ H Q=>t σ H fun vs H1=>sp (vs++dvs) H1 Q E
def Binds (K:W.Frag) (fd:FuncData) (ps:List Str) (ds:List Value):Prop :=
 ∀ (s:Shared) (us:List Value),K.In s.heap->(us++ds).length=ps.length->BindsTo s fd ⟨us,[]⟩ (ps.zip (us++ds))
theorem Binds.all {K:W.Frag}{fd:FuncData}{ps:List Str} (h:∀ us:List Value,us.length=ps.length->bindArgs fd ⟨us,[]⟩=pure (ps.zip us)):Binds K fd ps []:=fun s us _ hl=>by
 rw[Ar4] at hl ⊢
 exact .of_eq (h us hl)
def J4 (CX:CXT) (X:Cx) (E:XK):Prop:=∀ (pins:List (Addr×Obj)) (σ:St) (H:Hp) (s:Shared) (e:Value) (s':Shared),Inv X pins σ H s->CX X.stack H s E e s'->X.xe e s'
section
variable {X:Cx}{CX:CXT}{k:Nat}{f C:Addr}{fd:FuncData}{ps:List Str}{sp:Sp}{dvs:List V}{ds:List Value}{E:XK}{x m:Str}{p pos apos:Pos}{e o:Expr}{es:List Expr}{ta:TE}{t:TA}
theorem Akf {pins:List (Addr×Obj)}{σ:St}{H:Hp}{s:Shared}{Q:VK}{us:List Value}{vs:List V} (F:FnOk X.prog X.w X.K X.mg X.base CX k f fd ps sp) (hr:Room k X.A) (hb:Binds X.K fd ps ds) (hd:Vals dvs ds) (hx:J4 CX X E)
  (I:Inv X pins σ H s) (r:Vals vs us) (h:sp (vs++dvs) H Q E):wpAny (model X.prog X.w) X.A (call (.ref f) us) (EP X pins σ Q) X.xe s:=by
 have r2:Vals (vs++dvs) (us++ds):=r.append hd
 have hl:(us++ds).length=ps.length:=by rw[<- r2.length];exact F.len _ _ _ _ h
 refine wpAny_call (codeAny_mono (F.run X.A X.stack s H ⟨us,[]⟩ (us++ds) (vs++dvs) Q E hr I.env0 (hb s us I.kIn hl) r2 h) fun r s' hq=>?_)
 cases r with
 |error e=>exact hx pins σ H s e s' I hq
 |ok fl =>
  cases fl with
  |ret u=>exact I.after hq
  |next=>exact False.elim hq
  |brk=>exact False.elim hq
  |cont=>exact False.elim hq
theorem Nj (F:FnOk X.prog X.w X.K X.mg X.base CX k f fd ps sp) (hr:Room k X.A) (hg:Gl X x) (hm:X.mg x=some (.ref f)) (hk:W.keepIn X.K (.ref f)=true) (hb:Binds X.K fd ps ds) (hd:Vals dvs ds) (hx:J4 CX X E)
  (ha:PA X (e::es) t) (hdb:(x == ("__debug__":Str))=false:=by decide) (he:starEach (e::es) X.env=(false,eval e X.env)::starEach es X.env:=by rfl) (hpl:(backTo pos (starEach es X.env)).any (·.1)=false:=by rfl) :
  PE X (.Call (.Name x p) (e::es) [] pos) (Akx sp dvs E t):=by
 intro pins s σ H Q I h
 refine Asu (M9 I hg hm ?_ hdb)
 refine W.callWith_K (h₀:=X.base) I.ok.mod.kin hk (thn (ha pos pins s σ H _ I h) fun us s1 ⟨vs,H1,I1,r,q⟩=>⟨I1.kIn,?_⟩) he hpl
 exact Akf F hr hb hd hx I1 r q
end
section
variable {X:Cx}{CX:CXT}{k:Nat}{f C:Addr}{fd:FuncData}{ps ks:List Str}{sp:Sp}{E:XK}{x m:Str}{p pos apos kpos:Pos}{e o:Expr}{es:List Expr}{kws:List Keyword}{te ta:TE}{t tk:TA}{nm:Option Str}
variable {g:List Value->List Value->List Value}{gV:List V->List V->List V}
end
structure FnScope (N P:List Str) (sc:Scope):Prop where
 kind:sc.kind=.function
 co:sc.isCoroutine=false
 gen:sc.isGenerator=false
 nd:N.Nodup
 pre:N.take P.length=P
 par:∀ x∈P,sc.names.lookup x=some .local\/sc.names.lookup x=some .cell
 nofree:∀ y∈sc.names,y.2≠.free
theorem Ld {kindOf:Str->Option NameKind}{x:Str}:∀ {binds:List (Str×Value)}{m:Str->Option Value},(∀ v,(x,v)∉binds)->bindL kindOf binds m x=m x
 |[],_,_=>rfl
 |(n,v)::r,m,h=>by
  unfold bindL
  rw[Ld fun w hw=>h w (Aq6 _ hw)]
  split
  ·have:x≠n:=by rintro rfl;exact h v Aq8
   simp[this]
  ·rfl
theorem Lb {kindOf:Str->Option NameKind}{x:Str}:∀ {binds:List (Str×Value)}{m:Str->Option Value},(∀ v,(x,v)∉binds)->bindC kindOf binds m x=m x
 |[],_,_=>rfl
 |(n,v)::r,m,h=>by
  unfold bindC
  rw[Lb fun w hw=>h w (Aq6 _ hw)]
  split
  ·rfl
  ·have:x≠n:=by rintro rfl;exact h v Aq8
   simp[this]
theorem Lc {kindOf:Str->Option NameKind}{x:Str}{v:Value}:∀ {P:List Str}{vs:List Value}{i:Nat}{m:Str->Option Value},P.Nodup->P[i]?=some x->vs[i]?=some v->kindOf x=some .local ->
  bindL kindOf (P.zip vs) m x=some v
 |[],_,_,_,_,h,_,_=>by simp at h
 |_::_,[],_,_,_,_,h,_=>by simp at h
 |p::P,w::vs,0,m,nd,h1,h2,hk=>by
  simp at h1 h2;subst h1;subst h2
  show bindL kindOf ((p,w)::P.zip vs) m p=_
  unfold bindL
  rw[Ld fun v hv=>(List.nodup_cons.mp nd).1 (List.of_mem_zip hv).1,Aq4 hk]
  simp
 |p::P,w::vs,i+1,m,nd,h1,h2,hk=>by
  show bindL kindOf ((p,w)::P.zip vs) m x=_
  unfold bindL
  exact Lc (i:=i) (List.nodup_cons.mp nd).2 (by simpa using h1) (by simpa using h2) hk
theorem La {kindOf:Str->Option NameKind}{x:Str}{v:Value}:∀ {P:List Str}{vs:List Value}{i:Nat}{m:Str->Option Value},P.Nodup->P[i]?=some x->vs[i]?=some v->kindOf x≠some .local ->
  bindC kindOf (P.zip vs) m x=some v
 |[],_,_,_,_,h,_,_=>by simp at h
 |_::_,[],_,_,_,_,h,_=>by simp at h
 |p::P,w::vs,0,m,nd,h1,h2,hk=>by
  simp at h1 h2;subst h1;subst h2
  show bindC kindOf ((p,w)::P.zip vs) m p=_
  unfold bindC
  rw[Lb fun v hv=>(List.nodup_cons.mp nd).1 (List.of_mem_zip hv).1,Aq7 hk]
  simp
 |p::P,w::vs,i+1,m,nd,h1,h2,hk=>by
  show bindC kindOf ((p,w)::P.zip vs) m x=_
  unfold bindC
  exact La (i:=i) (List.nodup_cons.mp nd).2 (by simpa using h1) (by simpa using h2) hk
noncomputable def Hb (N:List Str) (vs:List V):St:=vs.map some++List.replicate (N.length - vs.length) none
noncomputable def V4 (CX:CXT) (P:Program) (w:World) (K:W.Frag) (mg:Str->Option Value) (base:Heap) (N:List Str) (qual:Str) (scope:Scope) (f:Addr) (cd:Value) (A:Around) (outer:List Env) (s:Shared) (H:Hp) (E:XK):Cx where
 prog:=P
 w:=w
 K:=K
 mg:=mg
 base:=base
 A:=A.deeper (envOfC qual scope s.heap.objs.size f cd)
 N:=N
 s₀:=s
 H₀:=H
 env:=envOfC qual scope s.heap.objs.size f cd
 outer:=outer
 stack:=envOfC qual scope s.heap.objs.size f cd::outer
 ex:=[]
 calm:=true
 fn:=fun _=>true
 pn:=[]
 xe:=fun e s'=>wpAny (model P w) (A.deeper (envOfC qual scope s.heap.objs.size f cd)) (leaving (envOfC qual scope s.heap.objs.size f cd) e) (fun _ s''=>CX outer H s E e s'') (fun e' s''=>CX outer H s E e' s'') s'
theorem N3 {sc:Scope}{n:Nat}{x:Str} (h:sc.names.lookup x=some .cell):∃ c,(cellsFrom n sc.names []).lookup x=some c:=by
 have q:=W.cellsFrom_some sc.names n [] (.inl h)
 exact Option.isSome_iff_exists.mp q
theorem Tt {CX:CXT}{P:Program}{w:World}{K:W.Frag}{mg:Str->Option Value}{base:Heap}{N ps:List Str}{qual:Str}{scope:Scope}{f:Addr}{cd:Value}{A:Around}{outer:List Env}{s s1:Shared}{H:Hp}{E:XK}{us:List Value}{vs:List V}
  (S:FnScope N ps scope) (hd:A.handled=none) (e0:Env0 P w K mg base A outer s H) (hl:vs.length=ps.length) (r:Vals vs us)
  (x:InCallC s s.heap.objs.size (bindL (envOfC qual scope s.heap.objs.size f cd).kindOf (ps.zip us) fun _=>none) (cellsFrom (s.heap.objs.size+1) scope.names []) (bindC (envOfC qual scope s.heap.objs.size f cd).kindOf (ps.zip us) fun _=>none) s1) :
  Inv (V4 CX P w K mg base N qual scope f cd A outer s H E) [] (Hb N vs) H s1:=by
 have hpl:ps.length<=N.length:=by have:=Asd List.length S.pre;rw[Ar1] at this;lia
 obtain⟨h1,tk,rfl,hk⟩:=x.done
 have noA:∀ b:Addr,b∉(V4 CX P w K mg base N qual scope f cd A outer s H E).ex:=fun b z=>absurd (show b∈([]:List Addr) from z) (by simp)
 refine⟨⟨e0.mod,S.kind,rfl,rfl,Aq5 _,fun y z c h1 h2=>?_,fun y hy=>?_,fun y c _ h=>?_,fun _=>hd,Around.frames_deeper e0.frames,.inr ⟨rfl,rfl⟩,fun b z=>absurd z (noA b),e0.bs,e0.bsz,fun b _ _=>noA b,fun b z=>absurd z (noA b),e0.funs,e0.frf⟩,
  rfl,e0.bare,Un.kept hk,⟨_,x.toInCall.ns,fun i y v h1 h2 h3=>?_⟩,fun y c h=>⟨_,x.cell y c h⟩,e0.hok.fresh (Aq5 _),fun y c h=>?_,fun p hp=>absurd (show p∈([]:List (Addr×Obj)) from hp) (by simp),e0.hok.kept hk,?_⟩
 ·exact name_of_addr x.apart (Arv h1) (Arv h2)
 ·have hy:scope.names.lookup y=some .cell\/scope.names.lookup y=some .free:=hy
  rcases hy with hy|hy
  ·exact N3 hy
  ·exact absurd rfl (S.nofree _ (Arv hy))
 ·exact As4 (x.above y c (Arv h))
 ·have hi:i < vs.length:=by
   unfold Hb at h2
   by_cases hi:i < vs.length
   ·exact hi
   ·rw[Aru (by simpa using hi)] at h2
    rw[Ar3] at h2
    split at h2<;>cases h2
  have ha:vs[i]?=some v:=by
   unfold Hb at h2
   rw[Arm (by simpa using hi),Ari] at h2
   cases e:vs[i]? with
   |none=>rw[e] at h2;cases h2
   |some a=>rw[e] at h2;cases h2;rfl
  obtain⟨u,hu,rv⟩:=r.get ha
  have hp:ps[i]?=some y:=by
   rw[<- S.pre,List.getElem?_take_of_lt (by lia)];exact h1
  have ndP:ps.Nodup:=by rw[<- S.pre];exact S.nd.sublist (List.take_sublist _ _)
  refine⟨u,rv,?_⟩
  rcases S.par y (Ard hp) with k|k
  ·exact .inl ⟨k,Lc ndP hp hu k⟩
  ·obtain⟨c,e⟩:=N3 (n:=s.heap.objs.size+1) k
   refine .inr ⟨.inl k,c,e,?_⟩
   have q:=x.cell y c e
   rw[La ndP hp hu (by show scope.names.lookup y≠_;rw[k];decide)] at q
   exact q
 ·exact e0.hok.fresh (As4 (x.above y c (Arv h)))
 ·unfold Hb
  show _=N.length
  rw[Arz,Arj,List.length_replicate]
  lia
theorem Am4 {CX:CXT}{P:Program}{w:World}{K:W.Frag}{mg:Str->Option Value}{base:Heap}{k:Nat}{f:Addr}{name qual:Str}{params:Arguments}{body:List Stmt}{scope:Scope}{dV kV doc pm cdv ct oc:Value}{an od:Option Addr}
  {osl:Array (Option Value)}{N ps:List Str}{sp:Sp} (lk:K.lookup f=some ⟨oc,od,.func (W.fnOf name qual params body scope dV kV doc pm an cdv ct),osl⟩) (hcd:W.codeIn K cdv qual=true) (S:FnScope N ps scope)
  (len:∀ vs H Q E,sp vs H Q E->vs.length=ps.length)
  (hbody:∀ (A:Around) (outer:List Env) (s:Shared) (H:Hp) (vs:List V) (Q:VK) (E:XK),Room k (A.deeper (envOfC qual scope s.heap.objs.size f cdv))->sp vs H Q E ->
   ∃ t,PSs (V4 CX P w K mg base N qual scope f cdv A outer s H E) body t/\t { nx:=fun _ H'=>Q .non H',rt:=Q } (Hb N vs) H) :
  FnOk P w K mg base CX (k+1) f (W.fnOf name qual params body scope dV kV doc pm an cdv ct) ps sp:=by
 refine⟨len,fun A outer s H args us vs Q E hr e0 hb r hsp=>?_⟩
 have hl:=len _ _ _ _ hsp
 have KX:K.In s.heap:=e0.mod.kin.keeps fun b o e=>(e0.bs b o e).1
 have lim:s.heap.NoLimit:=e0.mod.nolimit.keeps fun b o e=>(e0.bs b o e).1
 have hkind:∀ y∈ps.zip us,scope.names.lookup y.1=some .local\/(scope.names.lookup y.1=some .cell/\((cellsFrom (s.heap.objs.size+1) scope.names []).lookup y.1).isSome=true):=fun⟨n,v⟩ hy=>by
  rcases S.par n (List.of_mem_zip hy).1 with q|q
  ·exact .inl q
  ·exact .inr ⟨q,W.cellsFrom_some _ _ _ (.inl q)⟩
 refine codeAny_call_function hr.depth (KX _ _ lk) rfl S.co S.gen rfl (W.codeRec_of KX hcd) (hb _ _ _ _ ?_)
 refine wpAny_newFunctionEnv_cells S.kind hkind fun env he s1 x=>?_
 subst he
 refine⟨lim.keeps x.toInCall.keep,codeAny_func ?_⟩
 obtain⟨t,ht,hq⟩:=hbody A outer s H vs Q E (hr.deeper _) hsp
 have I:Inv (V4 CX P w K mg base N qual scope f cdv A outer s H E) [] (Hb N vs) H s1:=Tt S hr.hd e0 hl r x
 refine Asm (ht [] s1 (Hb N vs) H _ I hq) (fun fl s' hs=>?_) fun e s' hs=>hs
 have fin:∀ {σ':St}{H':Hp}{v:V}{u:Value},Inv (V4 CX P w K mg base N qual scope f cdv A outer s H E) [] σ' H' s'->RelV v u->Q v H'->CE outer P w K H s Q u s' :=
  fun {σ' H' v u} J rv q=>⟨v,H',J.os,J.bare,J.base,J.hok,rv,q⟩
 cases fl with
 |ret u =>
  obtain⟨v,σ',H',J,rv,q⟩:=hs
  exact fin J rv q
 |next =>
  obtain⟨σ',H',J,q⟩:=hs
  exact fin (v:=V.non) (u:=Value.none) J rfl q
 |brk =>
  obtain⟨_,_,_,q⟩:=hs
  exact False.elim q
 |cont =>
  obtain⟨_,_,_,q⟩:=hs
  exact False.elim q
section
variable {X:Cx}{x:Str}{p pos:Pos}{e:Expr}{es:List Expr}{t:TA}{id T:String}{r:List V->Hp->VK->Prop}
end
end L2
namespace HT
open PySem PyProof.Rows
section
open PySem.SeqAt
open PySem.AutoSeq1 (wpAny_loadPart')
open PySem.MeetsSeq PySem.MeetsSeq2 PySem.MeetsSeq3
end
section
variable {prog:Program}{w:World}{A:Around}{E:Value->Shared->Prop}{s:Shared}
theorem cat_tup {t b:Addr}{vs ws:List Value}{Q:Value->Shared->Prop} (ht:IsTup s.heap t vs.toArray) (hb:IsTup s.heap b ws.toArray) (hv:vs≠[])
  (h1:ws=[]->Q (.ref t) s) (h2:ws≠[]->Q (.ref s.heap.objs.size) { s with heap:=s.heap.push { cls:=.type "tuple",data:=.seq (vs++ws).toArray } })
  (hsz:vs.length+ws.length<=sizeLine):wpAny (model prog w) A (binaryOp .Add (.ref t) (.ref b)) Q E s:=by
 obtain⟨⟨cls,dd,data,sl⟩,ho,hc,n,hd⟩:=id ht
 obtain⟨⟨cls2,dd2,data2,sl2⟩,ho2,hc2,n2,hd2⟩:=id hb
 simp only at hc hd hc2 hd2
 subst hc hd hc2 hd2
 have e:vs.toArray++ws.toArray=(vs++ws).toArray:=by simp
 by_cases hw:ws=[]
 ·exact concat_meets ⟨_,ho,rfl⟩ ⟨_,ho2,rfl⟩ noFill_tuple_add seq_tuple_add PySem.F.slot_tuple_add PySem.F.entry_tuple_add (PySem.F.args_tuple_add_2 _ _)
   (tuple_addW1 t b vs.toArray ws.toArray n n2 dd dd2 sl sl2 (by simpa using hv) (by simp[hw])) ⟨ho,ho2,h1 hw⟩
 ·refine concat_meets ⟨_,ho,rfl⟩ ⟨_,ho2,rfl⟩ noFill_tuple_add seq_tuple_add PySem.F.slot_tuple_add PySem.F.entry_tuple_add (PySem.F.args_tuple_add_2 _ _)
   (tuple_addW2 t b vs.toArray ws.toArray n n2 dd dd2 sl sl2 (by simpa using hv) (by simpa using hw) (by rw[Aq3,Aq3];exact hsz)) ⟨ho,ho2,?_⟩
  rw[e]
  exact h2 hw
noncomputable def sIx (n d:Nat):Option Int->Nat
 |none=>d
 |some v=>if v < 0 then (v+(n:Int)).toNat else min v.toNat n
theorem Akh (n d:Nat) (hd:d<=n) (o:Option Int):sIx n d o<=n:=by
 cases o with
 |none=>exact hd
 |some v =>
  show (if v < 0 then (v+(n:Int)).toNat else min v.toNat n)<=n
  by_cases hv:v < 0
  ·rw[Aq4 hv];lia
  ·rw[Aq7 hv];exact Nat.min_le_right _ _
theorem Rt (v:Int) (n d:Nat):(if v < 0 then max (v+(n:Int)) 0 else min v (n:Int))=((sIx n d (some v):Nat):Int):=by
 show (if v < 0 then max (v+(n:Int)) 0 else min v (n:Int))=(((if v < 0 then (v+(n:Int)).toNat else min v.toNat n):Nat):Int)
 by_cases hv:v < 0
 ·simp only[Aq4 hv];lia
 ·simp only[Aq7 hv];lia
theorem O6 (lo hi:Option Int) (n:Nat):Builtin.Slice.sliceAdjust lo hi 1 (n:Int)=(((sIx n 0 lo:Nat):Int),((sIx n n hi:Nat):Int)):=by
 have h1:¬ ((1:Int) < 0):=by lia
 unfold Builtin.Slice.sliceAdjust
 simp only[h1,As1]
 refine Prod.ext ?_ ?_
 ·cases lo with
  |none=>rfl
  |some v=>exact Rt v n 0
 ·cases hi with
  |none=>rfl
  |some v=>exact Rt v n n
theorem Py (i j:Nat):Builtin.Slice.slicePlaces (i:Int) (j:Int) 1=j - i:=by
 unfold Builtin.Slice.slicePlaces
 have h1:(1:Int) > 0:=by lia
 simp only[h1,Ate,Int.ediv_one]
 split<;>lia
theorem Ip {v:Value}{o:Option Int}{Q:Option Int->Shared->Prop} (p:IsPart v o) (h:Q o s):wpAny (model prog w) A (Builtin.Slice.slicePartIndex v) Q E s:=by
 cases p with
 |none=>exact slicePart_none h
 |int i t=>exact slicePart_int h
theorem sliceApplied_gen {sl:Addr}{vl vu:Value}{lo hi:Option Int}{n:Nat}{Q:Int×Int×Nat->Shared->Prop} (hs:s.heap.IsSliceOf sl vl vu .none) (pl:IsPart vl lo) (pu:IsPart vu hi)
  (h:Q (((sIx n 0 lo:Nat):Int),1,sIx n n hi - sIx n 0 lo) s):wpAny (model prog w) A (Builtin.Slice.sliceApplied (.ref sl) (pure (n:Int))) Q E s:=by
 obtain⟨os,hos,hcs,hds⟩:=id hs
 unfold Builtin.Slice.sliceApplied Builtin.Slice.sliceFields
 refine Aqx (Aqx (Atb hos hds (x:=vl) rfl (Aqx (Atb hos hds (x:=vu) rfl (Aqx (Atb hos hds (x:=.none) rfl (Aq0 ?_)))))))
 refine Aqx (slicePart_none ?_)
 show wpAny _ _ (if ((1:Int) == 0)=true then _ else _) _ _ s
 rw[Aq7 (by decide)]
 refine Aqx (Ip pl (Aqx (Ip pu (Aqx (Aq0 ?_)))))
 show wpAny _ _ (match Builtin.Slice.sliceAdjust lo hi 1 (n:Int) with|(lo,hi)=>pure (lo,(1:Int),Builtin.Slice.slicePlaces lo hi 1)) _ _ s
 rw[O6 lo hi n]
 show wpAny _ _ (pure (((sIx n 0 lo:Nat):Int),(1:Int),Builtin.Slice.slicePlaces ((sIx n 0 lo:Nat):Int) ((sIx n n hi:Nat):Int) 1)) _ _ s
 rw[Py]
 exact Aq0 h
theorem Ye (xs:Array Value) (i k:Nat):((List.range k).filterMap fun (m:Nat)=>xs[((i:Int)+(m:Int) * 1).toNat]?).toArray=((xs.toList.drop i).take k).toArray:=by
 have e:(fun (m:Nat)=>xs[((i:Int)+(m:Int) * 1).toNat]?)=fun m=>xs[i+m]?:=by
  funext m
  have:((i:Int)+(m:Int) * 1).toNat=i+m:=by lia
  rw[this]
 rw[e]
 have:=pick_run xs i k
 rw[List.filterMap_map] at this
 have e2:((fun x=>xs[x]?) ∘ fun x=>i+x)=fun m=>xs[i+m]?:=rfl
 rw[e2] at this
 rw[this]
theorem getItem_tuple_cut {t sl:Addr}{items:Array Value}{vl vu:Value}{lo hi:Option Int}{Q:Value->Shared->Prop} (ht:IsTup s.heap t items) (hs:s.heap.IsSliceOf sl vl vu .none) (pl:IsPart vl lo) (pu:IsPart vu hi)
  (hw:¬ (sIx items.size 0 lo=0/\sIx items.size items.size hi=items.size))
  (h:Q (.ref s.heap.objs.size) { s with heap:=s.heap.push { cls:=.type "tuple",data:=.seq ((items.toList.drop (sIx items.size 0 lo)).take (sIx items.size items.size hi - sIx items.size 0 lo)).toArray } })
  (hsz:items.size<=sizeLine):wpAny (model prog w) A (getItem (.ref t) (.ref sl)) Q E s:=by
 have htake:sizeOk (.seq ((items.toList.drop (sIx items.size 0 lo)).take (sIx items.size items.size hi - sIx items.size 0 lo)).toArray):=by
  show ((items.toList.drop (sIx items.size 0 lo)).take (sIx items.size items.size hi - sIx items.size 0 lo)).toArray.size<=sizeLine
  rw[Aq3,Ar1,As9,Asy]
  lia
 have hj:sIx items.size items.size hi<=items.size:=Akh _ _ (Aq5 _) hi
 obtain⟨os,hos,hcs,hds⟩:=id hs
 have hTs:s.TypeIs (.ref sl) "slice":=⟨os,hos,hcs⟩
 unfold getItem
 try with_reducible refine Arw ?_
 first|refine Aqx (Aq0 ?_)|skip
 refine Aqx (wpAny_sequenceKey ht.typeIs (by decide) ?_)
 refine Aqx (Ase (name:=Str.ofString "__getitem__") ht.typeIs PyProof.Rows.slot_tuple_getitem
  (Asb PyProof.Rows.slot_tuple_getitem ht.typeIs entry_tuple_getitem ?_ (args_tuple_getitem _ _)))
 show wpAny _ _ (Builtin.Tuple.tupleItemsOf (.ref t) >>= _) _ _ s
 refine Aqx (tupleItemsOf_ ht ?_)
 refine Aqx (wpAny_typeOf hTs ?_)
 rw[Aq4 (by decide)]
 refine Aqx (sliceApplied_gen hs pl pu ?_)
 have hno:¬ ((((sIx items.size 0 lo:Nat):Int) == 0&&(1:Int) == 1&&(sIx items.size items.size hi - sIx items.size 0 lo) == items.size)=true):=by
  intro q
  rw[Arf,Arf] at q
  have q1:((sIx items.size 0 lo:Nat):Int)=0:=eq_of_beq q.1.1
  have q2:sIx items.size items.size hi - sIx items.size 0 lo=items.size:=eq_of_beq q.2
  exact hw ⟨by lia,by lia⟩
 show wpAny _ _ (if (((sIx items.size 0 lo:Nat):Int) == 0&&(1:Int) == 1&&(sIx items.size items.size hi - sIx items.size 0 lo) == items.size)=true then _ else _) _ _ s
 rw[Aq7 hno,Ye]
 first
  |exact Aqx (m:=Builtin.Tuple.tupleExact _) (Asf (Aq0 ⟨_,rfl,Aq0 h⟩) htake)
  |exact Aqx (m:=Builtin.Tuple.tupleExact _) (Asf (Aqx (Aq0 (Aq0 ⟨_,rfl,Aq0 h⟩))) htake)
  |exact Aqx (Aqx (m:=Builtin.Tuple.tupleExact _) (Asf (Aq0 (Aq0 ⟨_,rfl,Aq0 h⟩)) htake))
  |exact Aqx (Aqx (m:=Builtin.Tuple.tupleExact _) (Asf (Aq0 ⟨_,rfl,Aq0 h⟩) htake))
end
end HT
namespace L2
open PySem PySem.Spec PyProof.Rows
abbrev TO:=St->Hp->(Option Int->Hp->Prop)->Prop
def PO (X:Cx) (e:Option Expr) (t:TO):Prop :=
 ∀ (pins:List (Addr×Obj)) (s:Shared) (σ:St) (H:Hp) (Q:Option Int->Hp->Prop),Inv X pins σ H s->t σ H Q ->
  wpAny (model X.prog X.w) X.A (evalPart e X.env) (fun u s'=>∃ o H',Inv X pins σ H' s'/\IsPart u o/\Q o H') X.xe s
noncomputable def Afc:TO:=fun _ H Q=>Q none H
noncomputable def Aov (t:TE):TO:=fun σ H Q=>t σ H fun x H1=>∃ i,x=.int i/\Q (some i) H1
section
variable {X:Cx}{e:Expr}{te:TE}{lo hi:Option Expr}{tl th:TO}{pos p2:Pos}
theorem Ad2:PO X none Afc:=by
 intro pins s σ H Q I h
 rw[evalPart_none]
 exact Aq0 ⟨none,H,I,.none,h⟩
theorem Ad3 (h:PE X e te):PO X (some e) (Aov te):=by
 intro pins s σ H Q I hw
 rw[evalPart_some]
 refine thn (h pins s σ H _ I hw) fun u s1 ⟨x,H1,I1,r1,q1⟩=>?_
 obtain⟨i,rfl,q⟩:=q1
 obtain⟨t,rfl⟩:=r1
 exact⟨some i,H1,I1,.int i t,q⟩
def SlR (X:Cx) (r:V->Option Int->Option Int->Hp->VK->Prop):Prop :=
 ∀ (pins:List (Addr×Obj)) (s:Shared) (σ:St) (H:Hp) (x:V) (v vl vu:Value) (lo hi:Option Int) (sl:Addr) (Q:VK),Inv X pins σ H s->RelV x v->s.heap.IsSliceOf sl vl vu .none->IsPart vl lo->IsPart vu hi->r x lo hi H Q ->
  ∃ T id,typeLookup (.type T) "__getitem__"=pure (some (.builtin id))/\s.TypeIs v T/\wpAny (model X.prog X.w) X.A (getItem v (.ref sl)) (EP X pins σ Q) X.xe s
theorem SlR.or {r r':V->Option Int->Option Int->Hp->VK->Prop} (h:SlR X r) (h':SlR X r'):SlR X (fun x lo hi H Q=>r x lo hi H Q\/r' x lo hi H Q):=by
 intro pins s σ H x v vl vu lo hi sl Q I rx hs pl pu q
 rcases q with q|q
 ·exact h pins s σ H x v vl vu lo hi sl Q I rx hs pl pu q
 ·exact h' pins s σ H x v vl vu lo hi sl Q I rx hs pl pu q
noncomputable def tSl (r:V->Option Int->Option Int->Hp->VK->Prop) (te:TE) (tl th:TO):TE:=fun σ H Q=>te σ H fun x H1=>tl σ H1 fun l H2=>th σ H2 fun u H3=>r x l u H3 Q
theorem Om {r:V->Option Int->Option Int->Hp->VK->Prop} (hr:SlR X r) (he:PE X e te) (hl:PO X lo tl) (hu:PO X hi th):PE X (.Subscript e (.Slice lo hi none p2) pos) (tSl r te tl th):=by
 intro pins s σ H Q I h
 refine Subscript_ (thn (he pins s σ H _ I h) fun v s1 ⟨x,H1,I1,r1,q1⟩=>?_)
 refine wpAny_Slice (thn (hl pins s1 σ H1 _ I1 q1) fun vl s2 ⟨l,H2,I2,pl,q2⟩=>thn (hu pins s2 σ H2 _ I2 q2) fun vu s3 ⟨u,H3,I3,pu,q3⟩=>?_)
 rw[evalPart_none]
 refine Aq0 ?_
 have I4:Inv X pins σ H3 { s3 with heap:=s3.heap.push { cls:=.type "slice",data:=.fields #[vl,vu,.none] } }:=I3.kept (t':=s3.toks) fun b ob q=>Aq1 _ q
 obtain⟨T,id,hT,ht,hg⟩:=hr pins { s3 with heap:=s3.heap.push { cls:=.type "slice",data:=.fields #[vl,vu,.none] } } σ H3 x v vl vu l u s3.heap.objs.size Q I4 r1 (Heap.IsSliceOf.new ..) pl pu q3
 show wpAny (model X.prog X.w) X.A (subscriptTail e (.Slice lo hi none p2) v (.ref s3.heap.objs.size)) (EP X pins σ Q) X.xe { s3 with heap:=s3.heap.push { cls:=.type "slice",data:=.fields #[vl,vu,.none] } }
 exact tail_any (ops:=[.ref s3.heap.objs.size,v]) ht hT hg (by with_unfolding_all rfl)
def Zs (xs:List V) (lo hi:Option Int):List V:=(xs.drop (HT.sIx xs.length 0 lo)).take (HT.sIx xs.length xs.length hi - HT.sIx xs.length 0 lo)
theorem Gh (xs:List V) (lo hi:Option Int):(Zs xs lo hi).length<=xs.length:=by
 unfold Zs
 rw[Ar1,As9]
 lia
def Aqj (K:W.Frag):V->Option Int->Option Int->Hp->VK->Prop:=fun x lo hi H Q=>∃ a xs,x=.ref a/\SqT K H a xs /\
 ¬ (HT.sIx xs.length 0 lo=0/\HT.sIx xs.length xs.length hi=xs.length)/\∀ p,H p=none->Q (.ref p) (upd H p (.tup (Zs xs lo hi)))
theorem sl_tup:SlR X (Aqj X.K):=by
 intro pins s σ H x v vl vu lo hi sl Q I rx hs pl pu h
 obtain⟨a,xs,rfl,hx,hw,q⟩:=h
 cases rx
 obtain⟨its,r,ht,hz⟩:=I.tuple hx
 have hlen:its.toArray.size=xs.length:=by rw[Aq3];exact r.length.symm
 refine⟨"tuple",_,PyProof.Rows.slot_tuple_getitem.lookup,ht.typeIs,?_⟩
 refine HT.getItem_tuple_cut ht hs pl pu (by rw[hlen];exact hw) ?_ (by rw[hlen];exact hz)
 rw[hlen]
 refine⟨.ref s.heap.objs.size,_,I.laid (t':=s.toks) (o:=.tup (Zs xs lo hi)) (fun b ob q=>Aq1 _ q) (Aq5 _) ?_,rfl,q _ (I.hok.fresh (Aq5 _))⟩
 exact⟨Arl (Gh xs lo hi) hz,_,(r.drop (HT.sIx xs.length 0 lo)).take (HT.sIx xs.length xs.length hi - HT.sIx xs.length 0 lo),TupD.new _ _⟩
def Aoj (K:W.Frag):R2:=fun x y H Q=>∃ a b xs ys,x=.ref a/\y=.ref b/\SqT K H a xs/\SqT K H b ys/\xs≠[]/\xs.length+ys.length<=sizeLine /\
 (ys=[]->Q (.ref a) H)/\(ys≠[]->∀ p,H p=none->Q (.ref p) (upd H p (.tup (xs++ys))))
theorem Vals.nil_iff {xs:List V}{us:List Value} (r:Vals xs us):us=[] ↔ xs=[]:=by
 cases r with
 |nil=>simp
 |cons _ _=>simp
theorem op_catT:OpR X (binaryOp .Add) (Aoj X.K):=by
 intro pins s σ H x y v u Q I rx ry h
 obtain⟨a,b,xs,ys,rfl,rfl,ha,hb,hx,hz,q1,q2⟩:=h
 cases rx
 cases ry
 obtain⟨its,r1,p1,_⟩:=I.tuple ha
 obtain⟨its2,r2,p2,_⟩:=I.tuple hb
 refine HT.cat_tup p1 p2 (fun z=>hx (r1.nil_iff.mp z)) (fun z=>⟨.ref a,H,I,rfl,q1 (r2.nil_iff.mp z)⟩) (fun z=>?_) (by rw[<- r1.length,<- r2.length];exact hz)
 refine⟨.ref s.heap.objs.size,_,I.laid (t':=s.toks) (o:=.tup (xs++ys)) (fun b ob q=>Aq1 _ q) (Aq5 _) ?_,rfl,q2 (fun w=>z (r2.nil_iff.mpr w)) _ (I.hok.fresh (Aq5 _))⟩
 exact⟨by rw[Arz];exact hz,_,r1.append r2,TupD.new _ _⟩
end
noncomputable def ixN (n:Nat) (i:Int):Option Nat:=if 0<=i then (if i < n then some i.toNat else none) else if -(n:Int)<=i then some (i+n).toNat else none
def atI {α:Type} (xs:List α) (i:Int):Option α:=(ixN xs.length i).bind fun j=>xs[j]?
theorem Tu {n:Nat}{i:Int}{j:Nat} (h:ixN n i=some j):seqIndex? i n=some j/\j < n/\-(n:Int)<=i/\i < n:=by
 unfold ixN at h
 by_cases h0:0<=i
 ·rw[Aq4 h0] at h
  by_cases h1:i < n
  ·rw[Aq4 h1] at h
   have e:i.toNat=j:=Arn h
   exact⟨by rw[seqIndex_of h0 h1,e],by lia,by lia,h1⟩
  ·rw[Aq7 h1] at h;cases h
 ·rw[Aq7 h0] at h
  by_cases h1:-(n:Int)<=i
  ·rw[Aq4 h1] at h
   have e:(i+n).toNat=j:=Arn h
   exact⟨by rw[seqIndex_neg (by lia) h1,e],by lia,h1,by lia⟩
  ·rw[Aq7 h1] at h;cases h
theorem Jb {α:Type}{xs:List α}{i:Int}{v:α} (h:atI xs i=some v):∃ j,seqIndex? i xs.length=some j/\xs[j]?=some v/\j < xs.length/\-(xs.length:Int)<=i/\i < xs.length:=by
 unfold atI at h
 cases e:ixN xs.length i with
 |none=>rw[e] at h;cases h
 |some j =>
  rw[e] at h
  obtain⟨h1,h2,h3,h4⟩:=Tu e
  exact⟨j,h1,h,h2,h3,h4⟩
def Mv (b:Expr):Prop:=∀ o i,subscripted b false o i=operate [o,i] (getItem o i)
def IxR (X:Cx) (r:R2):Prop :=
 ∀ (value slice:Expr) (pins:List (Addr×Obj)) (s:Shared) (σ:St) (H:Hp) (x y:V) (v u:Value) (Q:VK),Inv X pins σ H s->RelV x v->RelV y u->r x y H Q ->
  subscripted slice false v u=operate [v,u] (getItem v u)->wpAny (model X.prog X.w) X.A (subscriptTail value slice v u) (EP X pins σ Q) X.xe s
def MtR (X:Cx) (id:String) (r:V->List V->Hp->VK->Prop):Prop :=
 ∀ (pins:List (Addr×Obj)) (s:Shared) (σ:St) (H:Hp) (x:V) (xs:List V) (v:Value) (us:List Value) (Q:VK),Inv X pins σ H s->RelV x v->Vals xs us->r x xs H Q ->
  wpAny (model X.prog X.w) X.A (call (.builtin id) (v::us)) (EP X pins σ Q) X.xe s
section
variable {X:Cx}{a b:Expr}{ta tb:TE}{pos:Pos}
theorem IxR.or {r r':R2} (h:IxR X r) (h':IxR X r'):IxR X (fun x y H Q=>r x y H Q\/r' x y H Q):=by
 intro value slice pins s σ H x y v u Q I rx ry q hs
 rcases q with q|q
 ·exact h value slice pins s σ H x y v u Q I rx ry q hs
 ·exact h' value slice pins s σ H x y v u Q I rx ry q hs
theorem An7 {r:R2} (hr:IxR X r) (ha:PE X a ta) (hb:PE X b tb) (hs:Mv b):PE X (.Subscript a b pos) (tOp r ta tb):=by
 intro pins s σ H Q I h
 exact Subscript_ (Amw ha hb I h fun v u s2 x y H2 I2 rx ry q=>hr a b pins s2 σ H2 x y v u Q I2 rx ry q (hs _ _))
def Api (K:W.Frag):R2:=fun x y H Q=>∃ p xs i v,x=.ref p/\y=.int i/\SqL K H p xs/\atI xs i=some v/\Q v H
def Apk (K:W.Frag):R2:=fun x y H Q=>∃ p xs i v,x=.ref p/\y=.int i/\SqT K H p xs/\atI xs i=some v/\Q v H
def Apj:R2:=fun x y H Q=>∃ z i c,x=.str z/\y=.int i/\z.length<=sizeLine/\atI z.cps.toList i=some c/\Q (.str ⟨#[c]⟩) H
theorem ix_list:IxR X (Api X.K):=by
 intro value slice pins s σ H x y v u Q I rx ry h hs
 obtain⟨p,xs,i,z,rfl,rfl,hq,he,q⟩:=h
 cases rx
 obtain⟨t,rfl⟩:=ry
 obtain⟨its,r,pl,hz⟩:=I.list hq
 obtain⟨j,h1,h2,h3,h4,h5⟩:=Jb he
 obtain⟨w,ew,rw'⟩:=r.get h2
 have hl:=r.length
 have hn:=Ie
 have fin:EP X pins σ Q w s:=⟨z,H,I,rw',q⟩
 by_cases h0:0<=i
 ·have hj:i.toNat=j:=by
   rw[seqIndex_of h0 h5] at h1
   exact Arn h1
  exact item_listR pl.isList h0 (by lia) (by rw[hj];simpa using ew) fin hs
 ·have hj:(i+(its.toArray.size:Int)).toNat=j:=by
   rw[seqIndex_neg (by lia) h4] at h1
   rw[Aq3,<- hl]
   exact Arn h1
  exact subscriptTail_builtinR (x:=w) pl.isList.typeIs slot_list_getitem.lookup
   (wpAny_getItem_list_neg (Q:=fun r s'=>r=w/\EP X pins σ Q r s') pl.isList (by lia) (by rw[Aq3]<;>lia) (by lia) (by rw[hj];simpa using ew) ⟨rfl,fin⟩) hs
theorem ix_tup:IxR X (Apk X.K):=by
 intro value slice pins s σ H x y v u Q I rx ry h hs
 obtain⟨p,xs,i,z,rfl,rfl,hq,he,q⟩:=h
 cases rx
 obtain⟨t,rfl⟩:=ry
 obtain⟨its,r,pl,hz⟩:=I.tuple hq
 obtain⟨j,h1,h2,h3,h4,h5⟩:=Jb he
 obtain⟨w,ew,rw'⟩:=r.get h2
 have hl:=r.length
 have hn:=Ie
 have fin:EP X pins σ Q w s:=⟨z,H,I,rw',q⟩
 exact subscriptTail_builtinR (x:=w) pl.typeIs slot_tuple_getitem.lookup
  (getItem_tuple (j:=j) (Q:=fun r s'=>r=w/\EP X pins σ Q r s') pl (by lia) (by lia) (by rw[Aq3,<- hl];exact h1) (by simpa using ew) ⟨rfl,fin⟩) hs
theorem Ahn:IxR X Apj:=by
 intro value slice pins s σ H x y v u Q I rx ry h hs
 obtain⟨z,i,c,rfl,rfl,hz,he,q⟩:=h
 obtain⟨t,rfl⟩:=rx
 obtain⟨t',rfl⟩:=ry
 obtain⟨j,h1,h2,h3,h4,h5⟩:=Jb he
 have hl:z.cps.toList.length=z.length:=by simp[Str.length]
 rw[hl] at h1 h4 h5
 have hn:=Ie
 exact tail_any (typeIs_str s z t) slot_str_getitem.lookup (getItem_str (c:=c) (by
  have e1:decide (i < -(2 ^ 63:Int))=false:=Art (by lia)
  have e2:decide (i ≥ 2 ^ 63)=false:=Art (by lia)
  rw[e1,e2,Bool.or_false]) (by rw[h1];simpa using h2) ⟨.str ⟨#[c]⟩,H,I.tok _,⟨_,rfl⟩,q⟩) hs
def rIx (K:W.Frag):R2:=fun x y H Q=>Api K x y H Q\/Apk K x y H Q\/Apj x y H Q
theorem Ahm:IxR X (rIx X.K):=ix_list.or (ix_tup.or Ahn)
theorem Po (its:List Value) (n j:Nat) (u:Value):Obj.mapSeq (·.setIfInBounds j u) { cls:=.type "list",data:=.seq its.toArray n }={ cls:=.type "list",data:=.seq (its.set j u).toArray n }:=by
 simp[Obj.mapSeq]
theorem Inv.lst {pins:List (Addr×Obj)}{σ:St}{H:Hp}{s:Shared}{p:Addr}{xs:List V} (I:Inv X pins σ H s) (h:H p=some (.lst xs)) :
  ∃ (its:List Value) (n:Nat),Vals xs its/\s.heap.get? p=some { cls:=.type "list",data:=.seq its.toArray n }/\xs.length<=sizeLine:=by
 obtain⟨z,its,n,r,e⟩:=I.hok p _ h
 exact⟨its,n,r,e,z⟩
theorem Inv.lstUpd {pins:List (Addr×Obj)}{σ:St}{H:Hp}{s:Shared}{p:Addr}{xs ys:List V}{its its':List Value}{n n':Nat}{f:Obj->Obj} (I:Inv X pins σ H s) (h:H p=some (.lst xs))
  (ho:s.heap.get? p=some { cls:=.type "list",data:=.seq its.toArray n }) (hf:f { cls:=.type "list",data:=.seq its.toArray n }={ cls:=.type "list",data:=.seq its'.toArray n' }) (r:Vals ys its') (hz:ys.length<=sizeLine) (t:Nat) :
  Inv X pins σ (upd H p (.lst ys)) { s with heap:=s.heap.update p f,toks:=t }:=by
 have e:(s.heap.update p f).get? p=some { cls:=.type "list",data:=.seq its'.toArray n' }:=by
  rw[Asw f ho (by rw[hf]<;>rfl),hf]
 refine I.write (x:=p) (e:=p) (by rw[h];trivial) (.inl rfl) (fun b u hb q=>(Arh _ _ (Asc hb)).trans q) ⟨_,e⟩ ?_
 exact⟨hz,its',n',r,e⟩
def Aok:V->V->V->Hp->(Hp->Prop)->Prop:=fun o i v H Q=>∃ p xs k j,o=.ref p/\i=.int k/\H p=some (.lst xs)/\ixN xs.length k=some j/\Q (upd H p (.lst (xs.set j v)))
theorem Yw:Ao2 X Aok:=by
 intro pins s σ H o i v ov iv u Q I ro ri rv h
 obtain⟨p,xs,k,j,rfl,rfl,hp,hj,q⟩:=h
 cases ro
 obtain⟨t,rfl⟩:=ri
 obtain⟨its,n,r,ho,hz⟩:=I.lst hp
 obtain⟨h1,h2,h3,h4⟩:=Tu hj
 have hl:=r.length
 have hn:=Ie
 have I':Inv X pins σ (upd H p (.lst (xs.set j v))) { s with heap:=s.heap.update p (Obj.mapSeq (·.setIfInBounds j u)) } :=
  I.lstUpd hp ho (Po its n j u) (r.set rv j) (by rw[List.length_set];exact hz) s.toks
 by_cases h0:0<=k
 ·have hk:k.toNat=j:=by
   rw[seqIndex_of h0 h4] at h1
   exact Arn h1
  exact W.ki_setAt ho h0 (by lia) (by rw[Aq3,<- hl];exact h4) (by rw[hk];exact⟨_,I',q⟩)
 ·have hk:(k+(its.toArray.size:Int)).toNat=j:=by
   rw[seqIndex_neg (by lia) h3] at h1
   rw[Aq3,<- hl]
   exact Arn h1
  exact W.ki_setBack ho (by lia) (by rw[Aq3,<- hl];exact h3) (by lia) (by rw[hk];exact⟨_,I',q⟩)
theorem Ml (lo hi:Option Int) (n:Nat):(sliceBounds lo hi none n).1=((HT.sIx n 0 lo:Nat):Int)/\(sliceBounds lo hi none n).2.1=((HT.sIx n n hi:Nat):Int)/\(sliceBounds lo hi none n).2.2=1:=by
 refine⟨?_,?_,rfl⟩
 ·cases lo with
  |none=>simp[sliceBounds,HT.sIx]
  |some i =>
   simp only[sliceBounds,HT.sIx,Option.getD_none,show (1:Int) > 0 by decide,Ate]
   by_cases h:i < 0
   ·simp only[h,Ate]<;>lia
   ·simp only[h,As1]<;>lia
 ·cases hi with
  |none=>simp[sliceBounds,HT.sIx]
  |some i =>
   simp only[sliceBounds,HT.sIx,Option.getD_none,show (1:Int) > 0 by decide,Ate]
   by_cases h:i < 0
   ·simp only[h,Ate]<;>lia
   ·simp only[h,As1]<;>lia
theorem J1 (its:List Value) (lo hi:Option Int):slicePick its.toArray lo hi none=((its.drop (HT.sIx its.length 0 lo)).take (HT.sIx its.length its.length hi - HT.sIx its.length 0 lo)).toArray:=by
 obtain⟨h1,h2,h3⟩:=Ml lo hi its.toArray.size
 unfold slicePick
 rw[h1,h2,h3]
 simp only[sliceRange_one,pick_run,Aq3]<;>rfl
def Apl (K:W.Frag):V->Option Int->Option Int->Hp->VK->Prop:=fun x lo hi H Q=>∃ a xs,x=.ref a/\SqL K H a xs/\∀ p,H p=none->Q (.ref p) (upd H p (.lst (Zs xs lo hi)))
theorem Ae3:SlR X (Apl X.K):=by
 intro pins s σ H x v vl vu lo hi sl Q I rx hs pl pu h
 obtain⟨a,xs,rfl,hx,q⟩:=h
 cases rx
 obtain⟨its,r,ht,hz⟩:=I.list hx
 have hlen:=r.length
 refine⟨"list",_,slot_list_getitem.lookup,ht.isList.typeIs,?_⟩
 refine wpAny_getItem_list_slice ht.isList hs pl pu .none (by simp) ?_ (by rw[Aq3]<;>lia)
 rw[J1,<- hlen]
 refine⟨.ref s.heap.objs.size,_,I.laid (t':=s.toks) (o:=.lst (Zs xs lo hi)) (fun b ob q=>Aq1 _ q) (Aq5 _) ?_,rfl,q _ (I.hok.fresh (Aq5 _))⟩
 exact⟨Arl (Gh xs lo hi) hz,_,0,(r.drop (HT.sIx xs.length 0 lo)).take (HT.sIx xs.length xs.length hi - HT.sIx xs.length 0 lo),Are _ rfl⟩
theorem Jd:Vk X (.type "tuple") (fun xs H Q=>∃ p ys,xs=[.ref p]/\((SqL X.K H p ys/\∀ l,H l=none->Q (.ref l) (upd H l (.tup ys)))\/(SqT X.K H p ys/\Q (.ref p) H))):=by
 intro pins s σ H xs us Q I r h
 obtain⟨p,ys,rfl,h⟩:=h
 obtain⟨u,rfl,rx⟩:=J2 r
 cases rx
 rcases h with ⟨hq,q⟩|⟨hq,q⟩
 ·obtain⟨its,r',pl,hz⟩:=I.list hq
  have hlen:=r'.length
  refine call_tuple_list pl.isList (fun h' kp=>?_) (by simp only[Aq3]<;>lia)
  have I1:Inv X pins σ H { s with heap:=h' }:=I.kept (t':=s.toks) kp
  have I2:Inv X pins σ (upd H h'.objs.size (.tup ys)) { s with heap:=h'.push { cls:=.type "tuple",data:=.seq its.toArray } } :=
   I1.laid (t':=s.toks) (fun b o e=>Aq1 _ e) (Aq5 _) (show ObjOk X.prog X.w X.K _ _ _ (.tup ys) from ⟨hz,its,r',TupD.new _ _⟩)
  exact⟨.ref h'.objs.size,_,I2,rfl,q _ (I1.hok.fresh (Aq5 _))⟩
 ·obtain⟨its,r',pl,hz⟩:=I.tuple hq
  exact call_tuple_same pl ⟨.ref p,H,I,rfl,q⟩
def tyV (K:W.Frag) (T:String) (x:V) (H:Hp):Prop:=match x with
 |.str _=>T="str"
 |.int _=>T="int"
 |.ref p=>(T="list"/\∃ xs,SqL K H p xs)\/(T="tuple"/\∃ o,K.lookup p=some o/\o.cls=.type "tuple"/\o.dict=none) \/
   (T="dict"/\((∃ kvs,H p=some (.dK kvs))\/∃ kvs,H p=some (.dT kvs)))\/(T="set"/\∃ S n,H p=some (.set S n))
 |_=>False
theorem Akz {pins:List (Addr×Obj)}{σ:St}{H:Hp}{s:Shared}{T:String}{x:V}{v:Value} (I:Inv X pins σ H s) (r:RelV x v) (ty:tyV X.K T x H) :
  s.TypeIs v T/\∀ a,v=.ref a->∃ ob,s.heap.get? a=some ob/\ob.dict=none:=by
 cases x with
 |str z =>
  obtain⟨t,rfl⟩:=r
  cases (show T="str" from ty)
  exact⟨typeIs_str s z t,fun _ e=>nomatch e⟩
 |int i =>
  obtain⟨t,rfl⟩:=r
  cases (show T="int" from ty)
  exact⟨typeIs_int s i t,fun _ e=>nomatch e⟩
 |ref p =>
  cases r
  rcases ty with ⟨rfl,xs,hq⟩|⟨rfl,o,hk,hc,hd⟩|⟨rfl,hk⟩|⟨rfl,S,n,hk⟩
  ·obtain⟨its,_,pl,_⟩:=I.list hq
   refine⟨pl.isList.typeIs,fun a e=>?_⟩
   cases e
   obtain⟨o,n,e,c,hd,_⟩:=pl
   exact⟨o,e,hd⟩
  ·refine⟨⟨o,I.kIn p o hk,hc⟩,fun a e=>?_⟩
   cases e
   exact⟨o,I.kIn _ o hk,hd⟩
  ·have z:∃ o,s.heap.get? p=some o/\o.ExactDict:=by
    rcases hk with ⟨kvs,hk⟩|⟨kvs,hk⟩
    ·obtain⟨_,_,_,_,o,_,_,e,ex,_⟩:=I.hok p _ hk
     exact⟨o,e,ex⟩
    ·obtain⟨_,_,_,_,o,_,_,e,ex,_⟩:=I.hok p _ hk
     exact⟨o,e,ex⟩
   obtain⟨o,e,ex⟩:=z
   refine⟨⟨o,e,ex.1⟩,fun a e2=>?_⟩
   cases e2
   exact⟨o,e,ex.2.1⟩
  ·obtain⟨o,_,_,_,e,ex,_⟩:=I.hok p _ hk
   refine⟨⟨o,e,ex.1⟩,fun a e2=>?_⟩
   cases e2
   exact⟨o,e,ex.2.1⟩
 |_=>exact False.elim ty
noncomputable def tBM (K:W.Frag) (T:String) (r:V->List V->Hp->VK->Prop) (to:TE) (t:TA):TE:=fun σ H Q=>to σ H fun x H1=>tyV K T x H1/\t σ H1 fun xs H2=>r x xs H2 Q
variable {o e:Expr}{es:List Expr}{to:TE}{t:TA}{name:Str}{apos cpos:Pos}{T id:String}{r:V->List V->Hp->VK->Prop}
theorem An6 (pa:PlainAttrs T) (slot:Slot T name id) (hty:typeOf (.builtin id)=pure (.type "method_descriptor")) (hm:MtR X id r) (ho:PE X o to) (ha:PA X (e::es) t)
  (hbase:attributeBase o name X.env (eval o X.env)=eval o X.env:=by rfl)
  (hfew:((backTo cpos (starEach (e::es) X.env)).all (fun x=>!x.1)&&(backToKw cpos (keywordEach [] X.env)).all (fun x=>x.1.isSome)
   &&decide ((e::es).length+([]:List Keyword).length+(if ([]:List Keyword).isEmpty then 0 else 1) < 30))=true:=by rfl)
  (hline:(apos.endLine == cpos.line)=true:=by rfl) (hs:starEach (e::es) X.env=(false,eval e X.env)::starEach es X.env:=by rfl) (hplain:(backTo cpos (starEach es X.env)).any (·.1)=false:=by rfl) :
  PE X (.Call (.Attribute o name apos) (e::es) [] cpos) (tBM X.K T r to t):=by
 intro pins s σ H Q I h
 refine wpAny_Call_method_late hbase hfew hline rfl (thn (ho pins s σ H _ I h) fun v s1 ⟨x,H1,I1,r1,ty,q1⟩=>?_)
 obtain⟨h1,h2⟩:=Akz I1 r1 ty
 refine⟨T,id,pa,slot,hty,h1,h2,?_⟩
 have hA:=ha cpos pins s1 σ H1 _ I1 q1
 rw[hs] at hA ⊢
 refine Calls.callWith_builtin (by show (false||(backTo cpos (starEach es X.env)).any (·.1))=false;rw[hplain]<;>rfl) (Calls.evalArgs_plain ?_)
 exact thn hA fun us s2 ⟨vs,H2,I2,r2,q2⟩=>hm pins s2 σ H2 x vs v us Q I2 r1 r2 q2
end
def MtM (X:Cx) (id:String) (r:V->List V->Hp->VK->Prop):Prop :=
 ∀ (pins:List (Addr×Obj)) (s:Shared) (σ:St) (H:Hp) (x:V) (xs:List V) (v:Value) (us:List Value) (Q:VK),Inv X pins σ H s->RelV x v->Vals xs us->r x xs H Q ->
  wpAny (model X.prog X.w) X.A (call (.builtin id) (v::us)) (EP X pins σ Q) X.xe s
theorem Vals.one:∀ {x:V}{us:List Value},Vals [x] us->∃ u,us=[u]/\RelV x u
 |_,_,.cons r .nil=>⟨_,rfl,r⟩
theorem Vals.reverse {xs:List V}{us:List Value} (h:Vals xs us):Vals xs.reverse us.reverse:=by
 induction h with
 |nil=>exact .nil
 |cons r t ih=>rw[Atl,Atl];exact Vals.append ih (.cons r .nil)
section
variable {X:Cx}{pins:List (Addr×Obj)}{σ:St}{H:Hp}{s:Shared}{l b:Addr}{xs ys zs:List V}
theorem Inv.lset {its its':List Value}{n:Nat}{f:Array Value->Array Value}{t':Nat} (I:Inv X pins σ H s) (hH:H l=some (.lst xs))
  (e:s.heap.get? l=some { cls:=.type "list",data:=.seq its.toArray n }) (hf:f its.toArray=its'.toArray) (hv:Vals ys its') (hz:ys.length<=sizeLine) :
  Inv X pins σ (upd H l (.lst ys)) { s with heap:=s.heap.update l (Obj.mapSeq f),toks:=t' }:=by
 have q:=PySem.IsL.update e f
 rw[hf] at q
 refine I.write (x:=l) (e:=l) (by rw[hH];exact trivial) (.inl rfl) (fun b' u hb hu=>(Arh s.heap (Obj.mapSeq f) (Asc hb)).trans hu) ⟨_,q⟩ ?_
 exact⟨hz,its',_,hv,q⟩
theorem Inv.lnew {its:List Value}{t':Nat} (I:Inv X pins σ H s) (hv:Vals ys its) (hz:ys.length<=sizeLine) :
  Inv X pins σ (upd H s.heap.objs.size (.lst ys)) { s with heap:=s.heap.push { cls:=.type "list",data:=.seq its.toArray },toks:=t' } :=
 I.laid (fun _ _ q=>Aq1 _ q) (Aq5 _) ⟨hz,its,0,hv,Are _ rfl⟩
theorem Inv.fresh (I:Inv X pins σ H s):H s.heap.objs.size=none:=I.hok.fresh (Aq5 _)
inductive LstM (h:Heap) (l:Addr) (xs:List V):Prop where
 |mk (z:xs.length<=sizeLine) (its:List Value) (n:Nat) (r:Vals xs its) (q:xs.length=its.length) (e:h.get? l=some { cls:=.type "list",data:=.seq its.toArray n })
theorem Inv.lstM (I:Inv X pins σ H s) (hH:H l=some (.lst xs)):LstM s.heap l xs:=by
 obtain⟨z,its,n,r,e⟩:=I.hok l _ hH
 exact⟨z,its,n,r,r.length,e⟩
end
section
variable {X:Cx}
def Va:V->List V->Hp->VK->Prop:=fun x vs H Q=>∃ l xs y,x=.ref l/\vs=[y]/\H l=some (.lst xs)/\xs.length < sizeLine/\Q .non (upd H l (.lst (xs++[y])))
theorem Ua:MtM X "list.append" Va:=by
 intro pins s σ H x vs v us Q I rx rv h
 obtain⟨l,xs,y,rfl,rfl,hH,hz,q⟩:=h
 cases rx
 obtain⟨u,rfl,ru⟩:=rv.one
 obtain⟨z,its,n,r,hl,e⟩:=I.lstM hH
 refine call_meets F.slot_list_append ⟨_,e,rfl⟩ F.entry_list_append (F.args_list_append_2 _ _) (PySem.list_append l its.toArray n u (by rw[Aq3];lia)) ⟨e,?_⟩
 refine⟨.non,_,I.lset (its':=its++[u]) hH e (by simp) (r.append (.cons ru .nil)) ?_,rfl,q⟩
 rw[Arz,As8]
 lia
end
section
variable {prog:Program}{w:World}{A:Around}{E:Value->Shared->Prop}{s:Shared}
set_option maxRecDepth 100000 in
end
section
variable {X:Cx}
end
end L2
namespace Att
open PySem PySem.W PySem.Calls PyProof.Rows
theorem Gp {P:Params}{h:Heap}:∀ (ns:List Int) (vs:List Value),WellAll P h vs (ns.map WData.int)->IntsAre vs ns:=by
 intro ns
 induction ns with
 |nil =>
  intro vs w
  rw[As6] at w
  cases w
  exact .nil
 |cons n ns ih =>
  intro vs w
  rw[Ara] at w
  cases w with
  |cons a b =>
   cases a
   exact .cons _ _ (ih _ b)
theorem Vc {l:OpenLaw}{n:Nat} (hn:l.most=some n) {P:Params}{h:Heap}{args:List WData}{vals:List Value}
  (hpre:l.row.toRowW.claim.pre args=true) (hwl:WellAll P h vals args) :
  ∃ a vs ns,vals=[Value.ref a]/\args=[WData.list (ns.map WData.int)]/\h.get? a=some { cls:=.type "list",data:=.seq vs.toArray }/\IntsAre vs ns/\ns.length<=n:=by
 have hsh:WShape.hasAll [] args [.list .int]=true:=(pre_splitW hpre).1
 have hc:l.pre.holds [] { args:=args }=true:=(pre_splitW hpre).2
 obtain⟨d,r,rfl,h1,h2⟩:=hasAllW_cons hsh
 obtain rfl:=hasAllW_nil h2
 obtain⟨xs,rfl,h3⟩:=hasW_list h1
 obtain⟨ns,rfl⟩:=items_int h3
 have hlen:ns.length<=n:=by
  unfold OpenLaw.pre at hc
  have h4:(WTm.not (.lt (.lit (.int (n:Int))) (.len (.arg 0)))).holds [] { args:=[.list (ns.map .int)] }=true:=by
   have h4:=(holds_andW hc).1
   rw[hn] at h4
   exact h4
  have h5:=condW_of h4 (w_not (w_lt w_lit (w_len_list (w_arg rfl))))
  rw[Arj] at h5
  refine Nat.le_of_not_lt fun q=>?_
  have q':(n:Int) < ((ns.length:Nat):Int):=by lia
  first
   |(rw[Ar5 q'] at h5;exact absurd h5 (by decide))
   |(simp at h5;lia)
 cases hwl with
 |cons w1 w2 =>
  cases w2
  cases w1 with
  |list ho hall=>exact⟨_,_,ns,rfl,rfl,ho,Gp ns _ hall,hlen⟩
theorem Us (l:OpenLaw) (args:List WData):l.row.toRowW.claim.post args (.bool true) args=true :=
 postW_of (r:=l.row.toRowW) (X:=(true == true))
  (show WShape.has [] (.bool true) .bool=true by first|rfl|decide|simp[WShape.has,WShape.arms,WShape.armsAll])
  (show (WTm.eq .res (.lit (.bool true))).value [] { args:=args,res:=some (.bool true),after:=args }=some (.bool (true == true)) from w_eq_bool (w_res rfl) w_lit) rfl
theorem attach_call {l:OpenLaw}{n:Nat}{q:Program}{loose:List Str}{XP:(Str->Option Value)->Heap->Prop}{YP:World->Heap->Prop}{d:DefRec}
  (hn:l.most=some n) (hdf:d.params.defaults=[])
  (call:∀ (w:World) (s₀ s₁:Shared) (mg mb:Str->Option Value) (fa:Addr) (o:Obj) (pm cd doc:Value) (a:Addr) (vs:List Value) (ns:List Int),
   Ground q loose [] XP w s₀ mg mb s₁.heap->YP w s₁.heap ->
   s₁.heap.get? fa=some o->o.data=.func (docDef d.name d.params d.body d.scope pm cd doc)->s₁.heap.CodeRec cd d.name->mg d.name=some (.ref fa) ->
   s₁.heap.get? a=some { cls:=.type "list",data:=.seq vs.toArray }->IntsAre vs ns->ns.length<=n->s₁.gens=#[] ->
   codeAny (model l.prog w) callerA (.call (.ref fa) ⟨[.ref a],[]⟩) (fun r s'=>r=.ok (.ret (.bool true))/\OldK s₁.heap s'.heap/\s'.os=s₁.os/\AllBare s'.gens) s₁) :
  WalkO q loose XP YP l.row.toRowW d [] (fun f vs=>PySem.call f vs):=by
 intro w s₀ s₁ mg mb G Y fa o pm cd doc dV kV ho hd hcd hD hmg hg args vals as hpre hlay hrd hwl hlo
 obtain rfl:dV=.none:=Dflts.none hD hdf
 obtain rfl:kV=.none:=Dflts.noKw hD
 obtain⟨a,vs,ns,rfl,rfl,hobj,hints,hlen⟩:=Vc hn hpre hwl
 refine enter_call (codeAny_mono (call w s₀ s₁ mg mb fa o pm cd doc a vs ns G Y ho (fd_plain hd) hcd hmg hobj hints hlen hg) fun r s' hq=>?_)
 obtain⟨rfl,h2,h3,h4⟩:=hq
 exact⟨.inl ⟨.bool true,.bool true,[],rfl,fun _=>rfl,.bool true,Us l _,fun _=>⟨List.Pairwise.nil,fun _ hm=>(nomatch hm)⟩⟩,h2,h3,h4⟩
section
variable {prog:Program}{w:World}{A:Around}{E:Value->Shared->Prop}{s:Shared}{K:Frag}
end
end Att
namespace L2
open PySem PySem.Spec PyProof.Rows
theorem Mr:∀ {vs:List Value}{ns:List Int},IntsAre vs ns->Vals (ns.map V.int) vs
 |_,_,.nil=>.nil
 |_,_,.cons n t h=>.cons ⟨t,rfl⟩ (Mr h)
def Alm (H:Hp):Prop:=∀ b,H b=none\/∃ o xs,H b=some (.frz o (.lst xs))
theorem Xk {P:Program}{w:World}{K:W.Frag}{mg mb:Str->Option Value}{CX:CXT}{k:Nat}{fa a:Addr}{fd:FuncData}{x:Str}{sp:Sp}{s₁:Shared}{vs:List Value}{ns:List Int}
  (KX:K.In s₁.heap) (hns:s₁.heap.Ns mainGlobals mg) (hb:s₁.heap.Ns builtinsNs mb) (hbb:∀ x:Str,x≠"__name__"->mb x=bootBuiltins x) (hlim:s₁.heap.NoLimit) (hg:s₁.gens=#[])
  (ha:s₁.heap.get? a=some { cls:=.type "list",data:=.seq vs.toArray }) (hi:IntsAre vs ns) (hl:ns.length<=sizeLine) (hr:Room k callerA)
  (F:∀ base:Heap,K.In base->base.Ns mainGlobals mg->FnOk P w K mg base CX k fa fd [x] sp) (hbind:∀ (s:Shared) (u:Value),BindsTo s fd ⟨[u],[]⟩ [(x,u)])
  (hsp:∀ H:Hp,Alm H->SqL K H a (ns.map V.int)->sp [.ref a] H (fun v _=>v=.bl true) fun _ _ _=>False)
  (hCX:∀ H e s',CX [] H s₁ (fun _ _ _=>False) e s'->False) :
  codeAny (model P w) callerA (.call (.ref fa) ⟨[.ref a],[]⟩) (fun r s'=>r=.ok (.ret (.bool true))/\OldK s₁.heap s'.heap/\s'.os=s₁.os/\AllBare s'.gens) s₁:=by
 have rv:=Mr hi
 have lenV:=hi.length
 -- from an abstract heap in which nothing but the script may be tracked
 have Ak9:∀ H:Hp,Alm H->SqL K H a (ns.map V.int)->HOk P w K H s₁.heap->(∀ b,H b≠none->b=a)->(H a≠none->K.lookup a=none) ->
   codeAny (model P w) callerA (.call (.ref fa) ⟨[.ref a],[]⟩) (fun r s'=>r=.ok (.ret (.bool true))/\OldK s₁.heap s'.heap/\s'.os=s₁.os/\AllBare s'.gens) s₁:=by
  intro H hO hS hok hA hK
  have base_of:∀ {b:Addr}{o:Obj},s₁.heap.get? b=some o->H b=none->(Xh s₁.heap H).get? b=some o:=fun e n=>Xi e n
  have noA:∀ {b:Addr}{o:Obj}{es:Array DictEntry}{ep:Nat},s₁.heap.get? b=some o->o.data=.dict es ep->H b=none:=fun {b o es ep} e d=>by
   cases q:H b with
   |none=>rfl
   |some u =>
    have e':b=a:=hA b (by rw[q];simp)
    subst e'
    rw[ha] at e;cases e
    have d':Data.seq vs.toArray _=Data.dict es ep:=d
    cases d'
  have nsK:∀ {b:Addr}{m:Str->Option Value},s₁.heap.Ns b m->(Xh s₁.heap H).Ns b m:=fun {b m} ⟨o,es,ep,e,d,r⟩=>⟨o,es,ep,base_of e (noA e d),d,r⟩
  have hKb:K.In (Xh s₁.heap H):=fun b o e=>base_of (KX b o e) (by
   cases q:H b with
   |none=>rfl
   |some u =>
    have e':b=a:=hA b (by rw[q];simp)
    subst e'
    rw[hK (by rw[q];simp)] at e;cases e)
  have hM:Mod K mg (Xh s₁.heap H):=⟨hKb,nsK hns,⟨mb,nsK hb,hbb⟩,let ⟨mc,h1,h2⟩:=hlim;⟨mc,nsK h1,h2⟩⟩
  have e0:Env0 P w K mg (Xh s₁.heap H) callerA [] s₁ H:=⟨rfl,hM,fun b o e=>Ada e,Nat.le_of_eq (Tp _ _),trivial,fun b hb=>absurd (show b∈([]:List Addr) from hb) (by simp),hok,.of_eq hg⟩
  refine codeAny_mono ((F _ hKb (nsK hns)).run callerA [] s₁ H ⟨[.ref a],[]⟩ [.ref a] [.ref a] _ _ hr e0 (hbind s₁ (.ref a)) (.cons rfl .nil) (hsp H hO hS)) fun r s' h=>?_
  cases r with
  |error e=>exact (hCX H e s' h).elim
  |ok fl =>
   cases fl with
   |next=>exact False.elim h
   |brk=>exact False.elim h
   |cont=>exact False.elim h
   |ret u =>
    obtain⟨v,H',os,bare,un,hok',r',q⟩:=h
    have q':v=.bl true:=q
    subst q'
    obtain rfl:u=Value.bool true:=r'
    refine⟨rfl,OldK.of_keep fun b o e=>?_,os,bare⟩
    cases q:H b with
    |none=>exact un.keep b o e q (by intro z;exact absurd (show b∈([]:List Addr) from z) (by simp)) (by simp)
    |some u =>
     rcases hO b with z|⟨ob,xs,z⟩
     ·rw[q] at z;cases z
     ·have z2:=un.frzs b ob _ z
      obtain⟨e1,_⟩:=hok b _ z
      obtain⟨e2,_⟩:=hok' b _ z2
      rw[e] at e1;cases e1
      exact e2
 cases hk:K.lookup a with
 |some o =>
  -- the script is one of the module's own objects
  have e:=KX a o hk
  rw[ha] at e
  cases e
  refine Ak9 (fun _=>none) (fun _=>.inl rfl) (.inr ⟨_,vs.toArray,_,hk,rfl,rfl,rfl,by rw[Aq3,lenV];exact hl,by simpa using rv⟩) (fun b u z=>by have z':(none:Option HO)=some u:=z;cases z') (fun b z=>absurd rfl z) fun z=>absurd rfl z
 |none =>
  refine Ak9 (fun b=>if b=a then some (.frz { cls:=.type "list",data:=.seq vs.toArray } (.lst (ns.map V.int))) else none) (fun b=>?_) (.inl (.inr ⟨{ cls:=.type "list",data:=.seq vs.toArray },Aq4 rfl⟩)) (fun b u z=>?_) (fun b z=>?_) fun _=>hk
  ·by_cases hb:b=a
   ·exact .inr ⟨_,_,Aq4 hb⟩
   ·exact .inl (Aq7 hb)
  ·by_cases hb:b=a
   ·have z':=(Aq4 hb).symm.trans z
    cases z'
    subst hb
    exact⟨ha,by rw[Arj];exact hl,vs,_,rv,ha⟩
   ·have z':=(Aq7 hb).symm.trans z
    cases z'
  ·by_cases hb:b=a
   ·exact hb
   ·exact absurd (Aq7 hb) z
theorem walk_of {l:W.OpenLaw}{n k:Nat}{q:Program}{loose:List Str}{XP:(Str->Option Value)->Heap->Prop}{YP:World->Heap->Prop}{d:DefRec}{K:Params->W.Frag}{CX:World->CXT}{sp:World->Sp}{x:Str}
  (hn:l.most=some n) (hn2:n<=sizeLine) (hdf:d.params.defaults=[]) (hr:Room k callerA)
  (hY:∀ (w:World) (h:Heap),YP w h->(K w.params).In h)
  (F:∀ (w:World) (mg:Str->Option Value) (fa:Addr) (h:Heap),(K w.params).In h->h.Ns mainGlobals mg->mg d.name=some (.ref fa) ->
   ∃ fd:FuncData,(∀ (s:Shared) (u:Value),BindsTo s fd ⟨[u],[]⟩ [(x,u)]) /\
    ∀ base:Heap,(K w.params).In base->base.Ns mainGlobals mg->FnOk l.prog w (K w.params) mg base (CX w) k fa fd [x] (sp w))
  (hsp:∀ (w:World) (H:Hp) (a:Addr) (ns:List Int),ns.length<=n->Alm H->SqL (K w.params) H a (ns.map V.int)->sp w [.ref a] H (fun v _=>v=.bl true) fun _ _ _=>False)
  (hCX:∀ (w:World) (H:Hp) (s:Shared) (e:Value) (s':Shared),CX w [] H s (fun _ _ _=>False) e s'->False) :
  W.WalkO q loose XP YP l.row.toRowW d [] (fun f vs=>PySem.call f vs):=by
 refine Att.attach_call hn hdf fun w s₀ s₁ mg mb fa o pm cd doc a vs ns G Y ho hd hcd hmg hobj hints hlen hg=>?_
 have KX:=hY w _ Y
 obtain⟨fd,hb,hF⟩:=F w mg fa _ KX G.T.g hmg
 exact Xk KX G.T.g G.T.b G.T.builtins G.T.nolimit hg hobj hints (Arl hlen hn2) hr hF hb (fun H hO hS=>hsp w H a ns hlen hO hS) fun H e s'=>hCX w H s₁ e s'
noncomputable def Du (s:Stmt):Arguments:=match s with
 |.FunctionDef _ a _ _ _ _ _ _ _ _=>a
 |_=>{ posonlyargs:=[],args:=[],vararg:=none,kwonlyargs:=[],kw_defaults:=[],kwarg:=none,defaults:=[] }
noncomputable def Cc (s:Stmt):List Stmt:=match s with
 |.FunctionDef _ _ b _ _ _ _ _ _ _=>b
 |_=>[]
noncomputable def A6 (s:Stmt):Scope:=match s with
 |.FunctionDef _ _ _ _ _ _ sc _ _ _=>sc
 |_=>{ kind:=.function,names:=[],isGenerator:=false,isCoroutine:=false }
abbrev CX0:CXT:=fun _ _ _ _ _ _=>False
abbrev E0:XK:=fun _ _ _=>False
theorem Adn {X:Cx}:J4 CX0 X E0:=fun _ _ _ _ _ _ _ h=>h.elim
structure Fun (K:W.Frag) (x qual:Str) (st:Stmt) (f:Addr) (fd:FuncData):Prop where
 ex:∃ (oc:Value) (od:Option Addr) (kV doc pm:Value) (an:Option Addr) (cdv ct:Value) (osl:Array (Option Value)),
  fd=W.fnOf x qual (Du st) (Cc st) (A6 st) .none kV doc pm an cdv ct/\K.lookup f=some ⟨oc,od,.func fd,osl⟩/\W.codeIn K cdv qual=true
 kp:W.keepIn K (.ref f)=true
section
variable {P:Program}{w:World}{K:W.Frag}{mg:Str->Option Value}{base:Heap}
theorem Fun.ok {x qual:Str}{st:Stmt}{f:Addr}{fd:FuncData}{N ps:List Str}{k:Nat}{sp:Sp} (F:Fun K x qual st f fd) (S:FnScope N ps (A6 st)) (len:∀ vs H Q E,sp vs H Q E->vs.length=ps.length)
  (hbody:∀ (cdv:Value) (A:Around) (outer:List Env) (s:Shared) (H:Hp) (vs:List V) (Q:VK) (E:XK),Room k (A.deeper (envOfC qual (A6 st) s.heap.objs.size f cdv))->sp vs H Q E ->
   ∃ t,PSs (V4 CX0 P w K mg base N qual (A6 st) f cdv A outer s H E).nox (Cc st) t/\t { nx:=fun _ H'=>Q .non H',rt:=Q } (Hb N vs) H):FnOk P w K mg base CX0 (k+1) f fd ps sp:=by
 obtain⟨oc,od,kV,doc,pm,an,cdv,ct,osl,rfl,lk,hcd⟩:=F.ex
 refine Am4 lk hcd S len fun A outer s H vs Q E hr hsp=>?_
 obtain⟨t,h,q⟩:=hbody cdv A outer s H vs Q E hr hsp
 exact⟨t,h.nox,q⟩
theorem Fun.binds {x qual:Str}{st:Stmt}{f:Addr}{fd:FuncData}{ps:List Str} (F:Fun K x qual st f fd)
  (h:∀ (kV doc pm:Value) (an:Option Addr) (cdv ct:Value) (us:List Value),us.length=ps.length->bindArgs (W.fnOf x qual (Du st) (Cc st) (A6 st) .none kV doc pm an cdv ct) ⟨us,[]⟩=pure (ps.zip us)):Binds K fd ps []:=by
 obtain⟨oc,od,kV,doc,pm,an,cdv,ct,osl,rfl,lk,hcd⟩:=F.ex
 exact .all (h kV doc pm an cdv ct)
theorem Z4 {x qual:Str}{st:Stmt}{f:Addr}{oc:Value}{od an:Option Addr}{osl:Array (Option Value)}{kV doc pm cdv ct:Value} (l:K.lookup f=some ⟨oc,od,.func (W.fnOf x qual (Du st) (Cc st) (A6 st) .none kV doc pm an cdv ct),osl⟩)
  (c:W.codeIn K cdv qual=true) (k:W.keepIn K (.ref f)=true):Fun K x qual st f (W.fnOf x qual (Du st) (Cc st) (A6 st) .none kV doc pm an cdv ct):=⟨⟨oc,od,kV,doc,pm,an,cdv,ct,osl,rfl,l,c⟩,k⟩
end
section
variable {X:Cx}
end
theorem Ape {A B:Prop} (h:B):if false=true then A else B:=by
 rw[Aq7 Arc]
 exact h
theorem Apf {A B:Prop} (h:A):if true=true then A else B:=by
 rw[Aq4 rfl]
 exact h
def Same (H H':Hp):Prop:=∀ b o,H b=some o->H' b=some o
theorem Same.refl (H:Hp):Same H H:=fun _ _ h=>h
theorem Same.trans {H H1 H2:Hp} (a:Same H H1) (b:Same H1 H2):Same H H2:=fun c o h=>b c o (a c o h)
theorem Same.free {H H':Hp} (e:Same H H') {l:Addr} (h:H' l=Option.none):H l=Option.none:=by
 cases q:H l with
 |none=>rfl
 |some o =>
  rw[e l o q] at h
  cases h
end L2
end S_LayL
section S_ML1
namespace L2
namespace ML
open PySem PySem.Spec PyProof.Rows
theorem Ag {z:α}{P:Prop} (e:none=some z):P:=nomatch e
theorem Bn {P:Prop} (e:false=true):P:=nomatch e
structure Lam where
 qual:Str
 args:Arguments
 body:Expr
 scope:Scope
abbrev Fz:=List Str->List PyData->List Int->W.Frag->Hp->Addr->HO->Prop
inductive D where
 |non|bl (b:Bool)|int (i:Int)|str (x:Str)|tup (ds:List D)|lst (ds:List D)|ref (n:Nat)|kl (ds:List D)|dic (ks vs:List D)|fn (i:Nat) (l:Lam)|dks (ks:List Str) (vs:List D)|fz (φ:Fz) (ss:List Str) (ps:List PyData) (is:List Int)
inductive MObj where
 |lst (ds:List D)
 |dct (ks vs:List D)
 |dcs (ks:List Str) (vs:List D)
abbrev MH:=List MObj
abbrev Ba:=List (Option D)
mutual
def pyD:D->PyData
 |.non=>.none|.bl b=>.bool b|.int i=>.int i|.str x=>.str x
 |.tup ds=>.tuple (C7 ds)|.lst ds=>.list (C7 ds)|.kl ds=>.list (C7 ds)|.ref _=>.none|.dic _ _=>.none|.fn _ _=>.none|.dks _ _=>.none|.fz _ _ _ _=>.none
def C7:List D->List PyData
 |[]=>[]
 |d::ds=>pyD d::C7 ds
end
def KL (K:W.Frag) (H:Hp) (a:Addr) (xs:List V):Prop:=(∃ o,H a=some (.frz o (.lst xs))) \/
 ∃ (o:Obj) (its:Array Value) (n:Nat),K.lookup a=some o/\o.cls=.type "list"/\o.dict=none/\o.data=.seq its n/\its.size<=sizeLine/\Vals xs its.toList
theorem KL.sq {K:W.Frag}{H:Hp}{a:Addr}{xs:List V} (h:KL K H a xs):SqL K H a xs:=h.elim (fun z=>.inl (.inr z)) .inr
noncomputable def Lk:HO->Prop
 |.lst _=>True
 |.dT _=>True
 |.dK _=>True
 |_=>False
noncomputable def Kpt:HO->Prop
 |.tup _=>True
 |.frz _ _=>True
 |_=>False
def Ali (o:Obj) (l:Lam) (c:Addr):Prop:=∃ doc pm ctv:Value,o=W.kdv_obj "<lambda>" l.qual l.args (.expr l.body) l.scope [] .none doc pm c ctv
def FnAt (H:Hp) (a:Addr) (l:Lam):Prop:=∃ o u c oc u',H a=some (.frz o u)/\Ali o l c/\H c=some (.frz oc u')/\Zg oc l.qual
def FnK (K:W.Frag) (H:Hp) (a:Addr) (i:Nat) (l:Lam):Prop:=(i < 1000/\FnAt H a l)\/(1000<=i/\W.nsIn K mainGlobals l.qual=some (some (.ref a)))
def FzM (φ:Fz):Prop:=∀ ss ps is K H H' a o,(∀ a o,Kpt o->H a=some o->H' a=some o)->φ ss ps is K H a o->φ ss ps is K H' a o
mutual
inductive Rep (K:W.Frag) (H:Hp) (μ:List Addr) (B:Addr->Prop):D->V->Prop where
 |non:Rep K H μ B .non .non
 |bl (b:Bool):Rep K H μ B (.bl b) (.bl b)
 |int (i:Int):Rep K H μ B (.int i) (.int i)
 |str (x:Str):PyData.strOk x=true->Rep K H μ B (.str x) (.str x)
 |tup {ds:List D}{a:Addr}{xs:List V}:SqT K H a xs->Reps K H μ B ds xs->Rep K H μ B (.tup ds) (.ref a)
 |lst {ds:List D}{a:Addr}{xs:List V}:Rd H a (.lst xs)->¬ B a->Reps K H μ B ds xs->Rep K H μ B (.lst ds) (.ref a)
 |ref {n:Nat}{a:Addr}:μ[n]?=some a->Rep K H μ B (.ref n) (.ref a)
 |kl {ds:List D}{a:Addr}{xs:List V}:KL K H a xs->Reps K H μ B ds xs->Rep K H μ B (.kl ds) (.ref a)
 |dic {ks vs:List D}{a:Addr}{kvs:List (PyData×V)}:Rd H a (.dT kvs)->¬ B a->C7 ks=kvs.map (·.1)->Reps K H μ B vs (kvs.map (·.2))->Rep K H μ B (.dic ks vs) (.ref a)
 |fn {i:Nat}{l:Lam}{a:Addr}:FnK K H a i l->Rep K H μ B (.fn i l) (.ref a)
 |dks {ks:List Str}{vs:List D}{a:Addr}{kvs:List (Key×V)}:Rd H a (.dK kvs)->¬ B a->ks.map Sum.inr=kvs.map (·.1)->Reps K H μ B vs (kvs.map (·.2))->Rep K H μ B (.dks ks vs) (.ref a)
 |fz {φ:Fz}{ss:List Str}{ps:List PyData}{is:List Int}{a:Addr}{o:Obj}{u:HO}:H a=some (.frz o u)->φ ss ps is K H a (.frz o u)->FzM φ->Rep K H μ B (.fz φ ss ps is) (.ref a)
inductive Reps (K:W.Frag) (H:Hp) (μ:List Addr) (B:Addr->Prop):List D->List V->Prop where
 |nil:Reps K H μ B [] []
 |cons {d:D}{v:V}{ds:List D}{vs:List V}:Rep K H μ B d v->Reps K H μ B ds vs->Reps K H μ B (d::ds) (v::vs)
end
section
variable {K:W.Frag}{H H':Hp}{μ μ':List Addr}{B B':Addr->Prop}
theorem SqT.up (hk:∀ a o,Kpt o->H a=some o->H' a=some o) (h:SqT K H a xs):SqT K H' a xs:=by
 rcases h with (h|⟨o,h⟩)|h
 ·exact .inl (.inl (hk _ _ trivial h))
 ·exact .inl (.inr ⟨o,hk _ _ trivial h⟩)
 ·exact .inr h
theorem FnAt.up (hk:∀ a o,Kpt o->H a=some o->H' a=some o) {l:Lam} (h:FnAt H a l):FnAt H' a l :=
 let ⟨o,u,c,oc,u',h1,h2,h3,h4⟩:=h;⟨o,u,c,oc,u',hk _ _ trivial h1,h2,hk _ _ trivial h3,h4⟩
theorem FnK.up (hk:∀ a o,Kpt o->H a=some o->H' a=some o) {l:Lam} (h:FnK K H a i l):FnK K H' a i l:=h.imp (fun⟨h1,h2⟩=>⟨h1,h2.up hk⟩) id
theorem KL.up (hk:∀ a o,Kpt o->H a=some o->H' a=some o) (h:KL K H a xs):KL K H' a xs:=by
 rcases h with ⟨o,h⟩|h
 ·exact .inl ⟨o,hk _ _ trivial h⟩
 ·exact .inr h
mutual
theorem Rep.up (hk:∀ a o,Kpt o->H a=some o->H' a=some o) (hl:∀ a u,Lk u->Rd H a u->¬ B a->Rd H' a u/\¬ B' a) (hm:∀ (n:Nat) (a:Addr),μ[n]?=some a->μ'[n]?=some a)
  {d:D}{v:V} (r:Rep K H μ B d v):Rep K H' μ' B' d v:=by
 cases r with
 |non=>exact .non
 |bl b=>exact .bl b
 |int b=>exact .int b
 |str b h=>exact .str b h
 |tup h r=>exact .tup (SqT.up hk h) (Reps.up hk hl hm r)
 |lst h b r=>have z:=hl _ (.lst _) trivial h b;exact .lst z.1 z.2 (Reps.up hk hl hm r)
 |ref h=>exact .ref (hm _ _ h)
 |kl h r=>exact .kl (KL.up hk h) (Reps.up hk hl hm r)
 |dic h b e r=>have z:=hl _ (.dT _) trivial h b;exact .dic z.1 z.2 e (Reps.up hk hl hm r)
 |fn h=>exact .fn (h.up hk)
 |dks h b e r=>have z:=hl _ (.dK _) trivial h b;exact .dks z.1 z.2 e (Reps.up hk hl hm r)
 |fz h q f=>exact .fz (hk _ _ trivial h) (f _ _ _ _ _ _ _ _ hk q) f
theorem Reps.up (hk:∀ a o,Kpt o->H a=some o->H' a=some o) (hl:∀ a u,Lk u->Rd H a u->¬ B a->Rd H' a u/\¬ B' a) (hm:∀ (n:Nat) (a:Addr),μ[n]?=some a->μ'[n]?=some a)
  {ds:List D}{vs:List V} (r:Reps K H μ B ds vs):Reps K H' μ' B' ds vs:=by
 cases r with
 |nil=>exact .nil
 |cons h r=>exact .cons (Rep.up hk hl hm h) (Reps.up hk hl hm r)
end
theorem Same.rd (e:Same H H') (h:Rd H a u):Rd H' a u:=by
 rcases h with h|⟨o,h⟩
 ·exact .inl (e _ _ h)
 ·exact .inr ⟨o,e _ _ h⟩
theorem Rep.same (e:Same H H') {d:D}{v:V} (h:Rep K H μ B d v):Rep K H' μ B d v:=h.up (fun _ _ _ h=>e _ _ h) (fun _ _ _ h b=>⟨Same.rd e h,b⟩) fun _ _ h=>h
theorem Reps.same (e:Same H H') {d:List D}{v:List V} (h:Reps K H μ B d v):Reps K H' μ B d v:=h.up (fun _ _ _ h=>e _ _ h) (fun _ _ _ h b=>⟨Same.rd e h,b⟩) fun _ _ h=>h
theorem Reps.length:∀ {ds:List D}{vs:List V},Reps K H μ B ds vs->ds.length=vs.length
 |_,_,.nil=>rfl
 |_,_,.cons _ r=>by simp[Reps.length r]
theorem Reps.get:∀ {ds:List D}{vs:List V}{i:Nat}{d:D},Reps K H μ B ds vs->ds[i]?=some d->∃ v,vs[i]?=some v/\Rep K H μ B d v
 |_,_,_,_,.nil,e=>by simp at e
 |_,_,0,_,.cons h _,e=>by simp at e;subst e;exact⟨_,rfl,h⟩
 |_,_,i+1,d,.cons _ r,e=>by
  obtain⟨v,h1,h2⟩:=Reps.get (i:=i) (d:=d) r (by simpa using e)
  exact⟨v,by simpa using h1,h2⟩
theorem Reps.getV:∀ {ds:List D}{vs:List V}{i:Nat}{v:V},Reps K H μ B ds vs->vs[i]?=some v->∃ d,ds[i]?=some d/\Rep K H μ B d v
 |_,_,_,_,.nil,e=>by simp at e
 |_,_,0,_,.cons h _,e=>by simp at e;subst e;exact⟨_,rfl,h⟩
 |_,_,i+1,d,.cons _ r,e=>by
  obtain⟨v,h1,h2⟩:=Reps.getV (i:=i) (v:=d) r (by simpa using e)
  exact⟨v,by simpa using h1,h2⟩
theorem Reps.append:∀ {ds es:List D}{vs ws:List V},Reps K H μ B ds vs->Reps K H μ B es ws->Reps K H μ B (ds++es) (vs++ws)
 |_,_,_,_,.nil,s=>s
 |_,_,_,_,.cons h r,s=>.cons h (Reps.append r s)
theorem Reps.take:∀ {ds:List D}{vs:List V} (n:Nat),Reps K H μ B ds vs->Reps K H μ B (ds.take n) (vs.take n)
 |_,_,0,_=>.nil
 |_,_,_+1,.nil=>.nil
 |_,_,n+1,.cons h r=>.cons h (Reps.take n r)
theorem Reps.drop:∀ {ds:List D}{vs:List V} (n:Nat),Reps K H μ B ds vs->Reps K H μ B (ds.drop n) (vs.drop n)
 |_,_,0,h=>h
 |_,_,_+1,.nil=>.nil
 |_,_,n+1,.cons h r=>Reps.drop n r
theorem Reps.set {d:D} (h:Rep K H μ B d v):∀ {ds:List D}{vs:List V} (i:Nat),Reps K H μ B ds vs->Reps K H μ B (ds.set i d) (vs.set i v)
 |_,_,_,.nil=>.nil
 |_,_,0,.cons _ r=>.cons h r
 |_,_,i+1,.cons q r=>.cons q (Reps.set h i r)
theorem Reps.reverse:∀ {ds:List D}{vs:List V},Reps K H μ B ds vs->Reps K H μ B ds.reverse vs.reverse
 |_,_,.nil=>.nil
 |_,_,.cons h r=>by
  rw[Atl,Atl]
  exact (Reps.reverse r).append (.cons h .nil)
end
noncomputable def OR (K:W.Frag) (H:Hp) (μ:List Addr) (a:Addr):MObj->Prop
 |.lst ds=>∃ xs,H a=some (.lst xs)/\Reps K H μ (·∈μ) ds xs
 |.dct ks vs=>∃ kvs,H a=some (.dT kvs)/\C7 ks=kvs.map (·.1)/\Reps K H μ (·∈μ) vs (kvs.map (·.2))
 |.dcs ks vs=>∃ kvs,H a=some (.dK kvs)/\ks.map Sum.inr=kvs.map (·.1)/\Reps K H μ (·∈μ) vs (kvs.map (·.2))
structure Sim (K:W.Frag) (H:Hp) (μ:List Addr) (m:MH):Prop where
 nd:μ.Nodup
 len:μ.length=m.length
 obj:∀ (n:Nat) (a:Addr) (o:MObj),μ[n]?=some a->m[n]?=some o->OR K H μ a o
structure Step (H:Hp) (μ:List Addr) (H':Hp) (μ':List Addr):Prop where
 pre:∃ l,μ'=μ++l/\∀ b∈l,H b=none
 keep:∀ b o,H b=some o->b∉μ->H' b=some o
structure EnvRep (K:W.Frag) (H:Hp) (μ:List Addr) (σ:St) (env:Ba):Prop where
 len:σ.length=env.length
 get:∀ (i:Nat) (d:D),env[i]?=some (some d)->∃ v,σ[i]?=some (some v)/\Rep K H μ (·∈μ) d v
section
variable {K:W.Frag}{H H' H'':Hp}{μ μ' μ'':List Addr}{m m':MH}
theorem Sim.at (S:Sim K H μ m) (h:a∈μ):∃ (n:Nat) (o:MObj),μ[n]?=some a/\m[n]?=some o/\OR K H μ a o:=by
 obtain⟨n,hn⟩:=Asv h
 have hl:n < m.length:=by rw[<- S.len];exact (List.getElem?_eq_some_iff.mp hn).1
 exact⟨n,m[n],hn,by simp[hl],S.obj n a _ hn (by simp[hl])⟩
theorem Sim.trk (S:Sim K H μ m) (h:a∈μ):∃ o,H a=some o/\Lk o:=by
 obtain⟨n,o,_,_,q⟩:=S.at h
 cases o with
 |lst ds=>obtain⟨xs,e,_⟩:=q;exact⟨_,e,trivial⟩
 |dct ks vs=>obtain⟨kvs,e,_⟩:=q;exact⟨_,e,trivial⟩
 |dcs ks vs=>obtain⟨kvs,e,_⟩:=q;exact⟨_,e,trivial⟩
theorem Sim.nkpt (S:Sim K H μ m) (k:Kpt o) (h:H a=some o):a∉μ:=fun q=>by
 obtain⟨xs,e,l⟩:=S.trk q
 rw[e] at h
 cases h
 cases o<;>first|exact l|exact k
theorem Sim.nnone (S:Sim K H μ m) (h:H a=none):a∉μ:=fun q=>by
 obtain⟨xs,e,l⟩:=S.trk q
 rw[e] at h;cases h
theorem Step.refl:Step H μ H μ:=⟨⟨[],by simp,by simp⟩,fun _ _ h _=>h⟩
theorem Step.trans (a:Step H μ H' μ') (b:Step H' μ' H'' μ'') (hm:∀ c,H' c=none->H c=none):Step H μ H'' μ'':=by
 obtain⟨l,rfl,h1⟩:=a.pre
 obtain⟨l',rfl,h2⟩:=b.pre
 refine⟨⟨l++l',by simp,fun c hc=>?_⟩,fun c o e n=>?_⟩
 ·rcases List.mem_append.mp hc with z|z
  ·exact h1 c z
  ·exact hm c (h2 c z)
 ·refine b.keep c o (a.keep c o e n) fun z=>?_
  rcases List.mem_append.mp z with z|z
  ·exact n z
  ·rw[h1 c z] at e;cases e
theorem Step.none (S:Sim K H μ m) (S':Sim K H' μ' m') (a:Step H μ H' μ'):∀ c,H' c=none->H c=none:=fun c h=>by
 cases e:H c with
 |none=>rfl
 |some o =>
  by_cases q:c∈μ
  ·obtain⟨l,rfl,_⟩:=a.pre
   exact absurd (Arx _ q) (S'.nnone h)
  ·rw[a.keep c o e q] at h;cases h
theorem Step.of_same (e:Same H H'):Step H μ H' μ:=⟨⟨[],by simp,by simp⟩,fun b o h _=>e b o h⟩
theorem Step.rd (s:Step H μ H' μ') (h:Rd H a u) (n:a∉μ):Rd H' a u:=by
 rcases h with h|⟨o,h⟩
 ·exact .inl (s.keep _ _ h n)
 ·exact .inr ⟨o,s.keep _ _ h n⟩
theorem Step.nin (s:Step H μ H' μ') (h:Rd H a u) (n:a∉μ):a∉μ':=by
 obtain⟨l,rfl,hn⟩:=s.pre
 intro z
 rcases List.mem_append.mp z with z|z
 ·exact n z
 ·have:=hn a z
  rcases h with h|⟨o,h⟩<;>rw[this] at h<;>cases h
theorem Step.ix (s:Step H μ H' μ') {n:Nat}{a:Addr} (h:μ[n]?=some a):μ'[n]?=some a:=by
 obtain⟨l,rfl,_⟩:=s.pre
 rw[Arm (List.getElem?_eq_some_iff.mp h).1]
 exact h
theorem Rep.step (S:Sim K H μ m) (s:Step H μ H' μ') {d:D}{v:V} (h:Rep K H μ (·∈μ) d v):Rep K H' μ' (·∈μ') d v :=
 h.up (fun a o k q=>s.keep a o q (S.nkpt k q)) (fun _ _ _ q b=>⟨s.rd q b,s.nin q b⟩) fun _ _=>s.ix
theorem Reps.step (S:Sim K H μ m) (s:Step H μ H' μ') {d:List D}{v:List V} (h:Reps K H μ (·∈μ) d v):Reps K H' μ' (·∈μ') d v :=
 h.up (fun a o k q=>s.keep a o q (S.nkpt k q)) (fun _ _ _ q b=>⟨s.rd q b,s.nin q b⟩) fun _ _=>s.ix
theorem EnvRep.step (S:Sim K H μ m) (s:Step H μ H' μ') (h:EnvRep K H μ σ env):EnvRep K H' μ' σ env :=
 ⟨h.len,fun i d e=>let ⟨v,h1,h2⟩:=h.get i d e;⟨v,h1,h2.step S s⟩⟩
theorem Sim.same (S:Sim K H μ m) (e:Same H H'):Sim K H' μ m:=⟨S.nd,S.len,fun n a o h1 h2=>by
 have q:=S.obj n a o h1 h2
 cases o with
 |lst ds=>obtain⟨xs,q1,q2⟩:=q;exact⟨xs,e _ _ q1,q2.same e⟩
 |dcs ks vs=>obtain⟨xs,q1,q2,q3⟩:=q;exact⟨xs,e _ _ q1,q2,q3.same e⟩
 |dct ks vs=>obtain⟨xs,q1,q2,q3⟩:=q;exact⟨xs,e _ _ q1,q2,q3.same e⟩⟩
theorem EnvRep.same (e:Same H H') {σ:St}{env:Ba} (h:EnvRep K H μ σ env):EnvRep K H' μ σ env :=
 ⟨h.len,fun i d q=>let ⟨v,h1,h2⟩:=h.get i d q;⟨v,h1,h2.same e⟩⟩
theorem EnvRep.set (h:EnvRep K H μ σ env) (i:Nat) {d:D} (r:Rep K H μ (·∈μ) d v):EnvRep K H μ (σ.set i (some v)) (env.set i (some d)):=by
 refine⟨by simpa using h.len,fun j d' e=>?_⟩
 by_cases q:j=i
 ·subst q
  have hj:j < env.length:=by
   have:=(List.getElem?_eq_some_iff.mp e).1
   simpa using this
  rw[Ar0 hj] at e
  cases e
  exact⟨v,by rw[Ar0 (by rw[h.len];exact hj)],r⟩
 ·rw[Asa (Asc q)] at e ⊢
  exact h.get j d' e
end
abbrev FE:=Ba->MH->Option D
abbrev FL:=Ba->MH->Option (List D)
abbrev FB:=Ba->MH->Option Bool
inductive tE (K:W.Frag) (f:FE) (σ:St) (H:Hp) (Q:VK):Prop
 |mk (env:Ba) (μ:List Addr) (m:MH) (d:D) (S:Sim K H μ m) (E:EnvRep K H μ σ env) (h:f env m=some d) (q:∀ v H',Same H H'->Rep K H' μ (·∈μ) d v->Q v H')
def nw (μ:List Addr) (a:Addr):Addr->Prop:=fun b=>b∈μ\/b=a
inductive tF (K:W.Frag) (f:FL) (σ:St) (H:Hp) (Q:VK):Prop
 |mk (env:Ba) (μ:List Addr) (m:MH) (ds:List D) (S:Sim K H μ m) (E:EnvRep K H μ σ env) (h:f env m=some ds) (q:∀ a xs H',Same H H'->H a=none->H' a=some (.lst xs)->Reps K H' μ (nw μ a) ds xs->Q (.ref a) H')
inductive tB' (K:W.Frag) (f:FB) (σ:St) (H:Hp) (Q:Bool->Hp->Prop):Prop
 |mk (env:Ba) (μ:List Addr) (m:MH) (b:Bool) (S:Sim K H μ m) (E:EnvRep K H μ σ env) (h:f env m=some b) (q:∀ H',Same H H'->Q b H')
inductive tL (K:W.Frag) (f:FL) (σ:St) (H:Hp) (Q:List V->Hp->Prop):Prop
 |mk (env:Ba) (μ:List Addr) (m:MH) (ds:List D) (S:Sim K H μ m) (E:EnvRep K H μ σ env) (h:f env m=some ds) (q:∀ vs H',Same H H'->Reps K H' μ (·∈μ) ds vs->Q vs H')
abbrev PD (X:Cx) (e:Expr) (f:FE):Prop:=PE X e (tE X.K f)
abbrev PF (X:Cx) (e:Expr) (f:FL):Prop:=PE X e (tF X.K f)
abbrev PB (X:Cx) (e:Expr) (f:FB):Prop:=PT X e (tB' X.K f)
abbrev PL (X:Cx) (es:List Expr) (f:FL):Prop:=PA X es (tL X.K f)
theorem Reps.fresh {K:W.Frag}{H:Hp}{μ:List Addr}{p:Addr}{o:HO}{ds:List D}{vs:List V} (r:Reps K H μ (·∈μ) ds vs) (hp:H p=none):Reps K (upd H p o) μ (nw μ p) ds vs:=by
 have s:Same H (upd H p o):=fun b u e=>by rw[Aw (Aq e hp)];exact e
 refine r.up (fun _ _ _ h=>s _ _ h) (fun a u _ h b=>⟨Same.rd s h,fun z=>?_⟩) fun _ _ h=>h
 rcases z with z|z
 ·exact b z
 ·subst z
  rcases h with h|⟨o,h⟩
  ·exact nomatch (hp.symm.trans h)
  ·exact nomatch (hp.symm.trans h)
theorem Reps.unw {K:W.Frag}{H:Hp}{μ:List Addr}{p:Addr}{ds:List D}{vs:List V} (r:Reps K H μ (nw μ p) ds vs):Reps K H μ (·∈μ) ds vs :=
 r.up (fun _ _ _ h=>h) (fun _ _ _ h b=>⟨h,fun z=>b (.inl z)⟩) fun _ _ h=>h
theorem PE.imp {t t':TE} (h:PE X e t) (i:∀ σ H Q,t' σ H Q->t σ H Q):PE X e t':=fun pins s σ H Q I q=>h pins s σ H Q I (i σ H Q q)
theorem PT.imp {t t':TT} (h:PT X e t) (i:∀ σ H Q,t' σ H Q->t σ H Q):PT X e t':=fun pins s σ H Q I q=>h pins s σ H Q I (i σ H Q q)
theorem PA.imp {t t':TA} (h:PA X e t) (i:∀ σ H Q,t' σ H Q->t σ H Q):PA X e t':=fun pos pins s σ H Q I q=>h pos pins s σ H Q I (i σ H Q q)
inductive BS {α β:Type} (o:Option α) (f:α->Option β) (b:β):Prop where
 |mk (a:α) (h1:o=some a) (h2:f a=some b)
theorem bind_some {α β:Type}{o:Option α}{f:α->Option β}{b:β} (h:o.bind f=some b):BS o f b:=by
 cases o with
 |none=>cases h
 |some a=>exact⟨a,rfl,h⟩
section
variable {X:Cx}{a b c e:Expr}{es:List Expr}{pos:Pos}
theorem tE.bin {K:W.Frag}{f g:FE}{o:D->D->MH->Option D}{σ:St}{H:Hp}{Q:VK} (h:tE K (fun env m=>(f env m).bind fun x=>(g env m).bind fun y=>o x y m) σ H Q)
  (r:R2) (hr:∀ μ m x y z v u H' (Q:VK),Sim K H' μ m->Rep K H' μ (·∈μ) x v->Rep K H' μ (·∈μ) y u->o x y m=some z->(∀ w H2,Same H' H2->Rep K H2 μ (·∈μ) z w->Q w H2)->r v u H' Q) :
  tOp r (tE K f) (tE K g) σ H Q:=by
 obtain⟨env,μ,m,d,S,E,h,q⟩:=h
 obtain⟨x,hx,h⟩:=bind_some h
 obtain⟨y,hy,h⟩:=bind_some h
 refine⟨env,μ,m,x,S,E,hx,fun v H1 s1 r1=>⟨env,μ,m,y,S.same s1,E.same s1,hy,fun u H2 s2 r2=>?_⟩⟩
 exact hr μ m x y d v u H2 Q (S.same (s1.trans s2)) (r1.same s2) r2 h fun w H3 s3 r3=>q w H3 ((s1.trans s2).trans s3) r3
noncomputable def Ai (i:Nat):FE:=fun env _=>(env[i]?).bind id
theorem Aai (i:Nat) {pos:Pos} (hN:X.N[i]?=some x) (hv:Vis X.env.scope x) (hd:(x == ("__debug__":Str))=false) (hcd:(x == ("__classdict__":Str))=false):PD X (.Name x pos) (Ai i) :=
 PE.imp (Ajn hN hv hd hcd) fun σ H Q ⟨env,μ,m,d,S,E,h,q⟩=>by
  unfold Ai at h
  obtain⟨o,h1,h2⟩:=bind_some h
  have h2:o=some d:=h2
  subst h2
  obtain⟨v,e,r⟩:=E.get i d h1
  exact⟨v,e,q v H (Same.refl H) r⟩
noncomputable def fC (d:D):FE:=fun _ _=>some d
theorem Ajc {i j pos}:PD X (.Constant (.int i) j pos) (fC (.int i)):=PE.imp Aaj fun σ H Q ⟨env,μ,m,d,S,E,h,q⟩=>by cases h;exact q _ H (Same.refl H) (.int i)
theorem An1 {i j pos}:PD X (.Constant (.bool i) j pos) (fC (.bl i)):=PE.imp An5 fun σ H Q ⟨env,μ,m,d,S,E,h,q⟩=>by cases h;exact q _ H (Same.refl H) (.bl i)
theorem Aje {j pos}:PD X (.Constant .none j pos) (fC .non):=PE.imp Um fun σ H Q ⟨env,μ,m,d,S,E,h,q⟩=>by cases h;exact q _ H (Same.refl H) .non
theorem Ajg {i j pos} (ok:PyData.strOk i=true):PD X (.Constant (.str i) j pos) (fC (.str i)):=PE.imp Ajl fun σ H Q ⟨env,μ,m,d,S,E,h,q⟩=>by cases h;exact q _ H (Same.refl H) (.str i ok)
theorem Adr {d:D}{pos:Pos} (hg:Gl X x) (hm:X.mg x=some u) (r:RelV v u) (hr:∀ H,Rep X.K H [] (fun _=>True) d v) (hd:(x == ("__debug__":Str))=false:=by decide):PD X (.Name x pos) (fC d) :=
 PE.imp (Adt hg hm r hd) fun σ H Q ⟨env,μ,m,d',S,E,h,q⟩=>by
  cases h
  exact q _ H (Same.refl H) ((hr H).up (fun _ _ _ h=>h) (fun _ _ _ _ b=>absurd trivial b) fun n a h=>by simp at h)
noncomputable def oI (g:Int->Int->Option D):D->D->MH->Option D
 |.int i,.int j,_=>g i j
 |_,_,_=>none
noncomputable def Bu:D->D->MH->Option D
 |.int i,.int j,_=>some (.int (i+j))
 |.str i,.str j,_=>if i.length+j.length<=1000000 then some (.str (i++j)) else none
 |.tup i,.tup j,_=>if i.length+j.length<=1000000 then some (.tup (i++j)) else none
 |_,_,_=>none
def Pv:D->D->MH->Option D:=oI fun i j=>some (.int (i - j))
def Ho:D->D->MH->Option D:=oI fun i j=>if (-(2 ^ 64) < i/\i < 2 ^ 64)\/(-(2 ^ 64) < j/\j < 2 ^ 64) then some (.int (i * j)) else none
def Vj:D->D->MH->Option D:=oI fun i j=>if 0 < j/\j < 1073741824 then some (.int (i / j)) else none
def L5:D->D->MH->Option D:=oI fun i j=>if 0 < j then some (.int (i % j)) else none
def Alf:D->D->MH->Option D:=oI fun i j=>if 0<=j/\j<=1000000/\i.natAbs < 2 ^ 64 then some (.int (i ^ j.toNat)) else none
def Ah9:D->D->MH->Option D:=oI fun i j=>if 0<=j then some (.int (i / 2 ^ j.toNat)) else none
noncomputable def f2 (o:D->D->MH->Option D) (f g:FE):FE:=fun env m=>(f env m).bind fun x=>(g env m).bind fun y=>o x y m
noncomputable def f1 (o:D->MH->Option D) (f:FE):FE:=fun env m=>(f env m).bind fun x=>o x m
def OpD (X:Cx) (o:D->D->MH->Option D) (r:R2):Prop :=
 ∀ (μ:List Addr) (m:MH) (x y z:D) (v u:V) (H:Hp) (Q:VK),Sim X.K H μ m->Rep X.K H μ (·∈μ) x v->Rep X.K H μ (·∈μ) y u->o x y m=some z->(∀ w H2,Same H H2->Rep X.K H2 μ (·∈μ) z w->Q w H2)->r v u H Q
set_option tactic.hygienic true in
theorem OpD.int {C:Int->Int->Prop}{g:Int->Int->V}{k:Int->Int->Option D} (h:∀ i j z,k i j=some z->C i j/\∀ H μ B,Rep X.K H μ B z (g i j)):OpD X (oI k) (rI C g):=by
 intro μ m x y z v u H Q S rx ry e q
 cases rx<;>first|exact Ag e|skip
 cases ry<;>first|exact Ag e|skip
 rename_i i j
 obtain⟨hc,hr⟩:=h i j z e
 exact⟨i,j,rfl,rfl,hc,q _ H (Same.refl H) (hr H μ _)⟩
set_option tactic.hygienic true in
theorem OpD.int0 (h:∀ i j z,k i j=some z->∀ H μ B,Rep X.K H μ B z (g i j)):OpD X (oI k) (rI0 g):=by
 intro μ m x y z v u H Q S rx ry e q
 cases rx<;>first|exact Ag e|skip
 cases ry<;>first|exact Ag e|skip
 rename_i i j
 exact⟨i,j,rfl,rfl,q _ H (Same.refl H) (h i j z e H μ _)⟩
theorem Adm:OpD X Pv (rI0 fun i j=>.int (i - j)):=OpD.int0 fun i j z e H μ B=>by cases e;exact .int _
theorem Adj:OpD X Ho (rI CMul fun i j=>.int (i * j)):=OpD.int fun i j z e=>by
 split at e
 ·cases e;exact⟨by assumption,fun _ _ _=>.int _⟩
 ·cases e
theorem Adh:OpD X Vj (rI Aox fun i j=>.int (i / j)):=OpD.int fun i j z e=>by
 split at e
 ·cases e;exact⟨by assumption,fun _ _ _=>.int _⟩
 ·cases e
theorem Adi:OpD X L5 (rI (fun _ j=>0 < j) fun i j=>.int (i % j)):=OpD.int fun i j z e=>by
 split at e
 ·cases e;exact⟨by assumption,fun _ _ _=>.int _⟩
 ·cases e
theorem Adk:OpD X Alf (rI Aoy fun i j=>.int (i ^ j.toNat)):=OpD.int fun i j z e=>by
 split at e
 ·cases e;exact⟨by assumption,fun _ _ _=>.int _⟩
 ·cases e
theorem Adl:OpD X Ah9 (rI (fun _ j=>0<=j) fun i j=>.int (i / 2 ^ j.toNat)):=OpD.int fun i j z e=>by
 split at e
 ·cases e;exact⟨by assumption,fun _ _ _=>.int _⟩
 ·cases e
end
mutual
def Bm:D->Bool
 |.ref _=>false
 |.tup ds=>Ar ds
 |.lst ds=>Ar ds
 |.kl ds=>Ar ds
 |.dic _ _=>false
 |.dks _ _=>false
 |.fz _ _ _ _=>false
 |.fn _ _=>false
 |_=>true
def Ar:List D->Bool
 |[]=>true
 |d::ds=>Bm d&&Ar ds
def dep:D->Nat
 |.tup ds=>Da ds+1
 |.lst ds=>Da ds+1
 |.kl ds=>Da ds+1
 |_=>0
def Da:List D->Nat
 |[]=>0
 |d::ds=>max (dep d) (Da ds)
end
noncomputable def Ca (m:MH):D->Option D
 |.ref n=>match m[n]? with
  |some (.lst ds)=>if Ar ds=true then some (.lst ds) else none
  |_=>none
 |d=>if Bm d=true then some d else none
def Cd (m:MH):List D->Option (List D)
 |[]=>some []
 |d::ds=>(Ca m d).bind fun d'=>(Cd m ds).bind fun ds'=>some (d'::ds')
noncomputable def sq (m:MH):D->Option (List D)
 |.tup ds=>some ds
 |.lst ds=>some ds
 |.kl ds=>some ds
 |.ref n=>match m[n]? with
  |some (.lst ds)=>some ds
  |_=>none
 |_=>none
section
variable {K:W.Frag}{H H':Hp}{μ μ':List Addr}{B B':Addr->Prop}{m:MH}
mutual
theorem Rep.noref (hk:∀ a u,Rd H a (.lst u)->¬ B a->¬ B' a) {d:D}{v:V} (r:Rep K H μ B d v) (e:Bm d=true):Rep K H μ' B' d v:=by
 cases r with
 |non=>exact .non
 |bl b=>exact .bl b
 |int b=>exact .int b
 |str b h=>exact .str b h
 |tup h r=>exact .tup h (Reps.noref hk r e)
 |lst h b r=>exact .lst h (hk _ _ h b) (Reps.noref hk r e)
 |kl h r=>exact .kl h (Reps.noref hk r e)
 |_=>exact Bn e
theorem Reps.noref (hk:∀ a u,Rd H a (.lst u)->¬ B a->¬ B' a) {ds:List D}{vs:List V} (r:Reps K H μ B ds vs) (e:Ar ds=true):Reps K H μ' B' ds vs:=by
 cases r with
 |nil=>exact .nil
 |cons h r =>
  have e':=(Bool.and_eq_true_iff.mp e)
  exact .cons (Rep.noref hk h e'.1) (Reps.noref hk r e'.2)
end
theorem Bh (S:Sim K H μ m) {d d':D} (r:Rep K H μ (·∈μ) d v) (h:Ca m d=some d'):Rep K H [] (fun _=>False) d' v/\Bm d'=true:=by
 cases r with
 |@ref n a e =>
  unfold Ca at h
  cases q:m[n]? with
  |none=>simp[q] at h
  |some o =>
   simp only[q] at h
   cases o with
   |dcs _ _=>cases h
   |dct _ _=>cases h
   |lst ds =>
    simp only at h
    split at h
    ·rename_i hn
     cases h
     obtain⟨xs,e1,e2⟩:=S.obj n a _ e q
     exact⟨.lst (.inl e1) (fun z=>z) (e2.noref (fun _ _ _ _ z=>z) hn),hn⟩
    ·cases h
 |non=>unfold Ca at h;simp[Bm] at h;subst h;exact⟨.non,rfl⟩
 |bl b=>unfold Ca at h;simp[Bm] at h;subst h;exact⟨.bl b,rfl⟩
 |int b=>unfold Ca at h;simp[Bm] at h;subst h;exact⟨.int b,rfl⟩
 |str b ok=>unfold Ca at h;simp[Bm] at h;subst h;exact⟨.str b ok,rfl⟩
 |@tup ds a xs h1 h2 =>
  unfold Ca at h
  simp only at h
  split at h
  ·rename_i hn
   cases h
   exact⟨(Rep.tup h1 h2).noref (fun _ _ _ _ z=>z) hn,hn⟩
  ·cases h
 |@lst ds a xs h1 h3 h2 =>
  unfold Ca at h
  simp only at h
  split at h
  ·rename_i hn
   cases h
   exact⟨(Rep.lst h1 h3 h2).noref (fun _ _ _ _ z=>z) hn,hn⟩
  ·cases h
 |@kl ds a xs h1 h2 =>
  unfold Ca at h
  simp only at h
  split at h
  ·rename_i hn
   cases h
   exact⟨(Rep.kl h1 h2).noref (fun _ _ _ _ z=>z) hn,hn⟩
  ·exact Ag h
 |dic h1 h2 h3 h4=>unfold Ca at h;simp[Bm] at h
 |dks _ _ _ _=>unfold Ca at h;simp[Bm] at h
 |fz _ _ _=>unfold Ca at h;simp[Bm] at h
 |fn _=>unfold Ca at h;simp[Bm] at h
theorem C3 (S:Sim K H μ m):∀ {ds ds':List D}{vs:List V},Reps K H μ (·∈μ) ds vs->Cd m ds=some ds'->Reps K H [] (fun _=>False) ds' vs
 |_,_,_,.nil,h=>by cases h;exact .nil
 |_,_,_,.cons r rs,h=>by
  unfold Cd at h
  obtain⟨d',h1,h⟩:=bind_some h
  obtain⟨ds',h2,h⟩:=bind_some h
  cases h
  exact .cons (Bh S r h1).1 (C3 S rs h2)
theorem Ou (S:Sim K H μ m) {d:D} (r:Rep K H μ (·∈μ) d v) (h:sq m d=some ds):∃ a xs,v=.ref a/\(SqL K H a xs\/SqT K H a xs)/\Reps K H μ (·∈μ) ds xs:=by
 cases r with
 |@ref n a e =>
  unfold sq at h
  cases q:m[n]? with
  |none=>simp[q] at h
  |some o =>
   simp only[q] at h
   cases o with
   |dcs _ _=>cases h
   |dct _ _=>cases h
   |lst ds =>
    cases h
    obtain⟨xs,e1,e2⟩:=S.obj n a _ e q
    exact⟨a,xs,rfl,.inl (SqL.of e1),e2⟩
 |@tup ds a xs h1 h2=>cases h;exact⟨a,xs,rfl,.inr h1,h2⟩
 |@lst ds a xs h1 h3 h2=>cases h;exact⟨a,xs,rfl,.inl (.inl h1),h2⟩
 |@kl ds a xs h1 h2=>cases h;exact⟨a,xs,rfl,.inl h1.sq,h2⟩
 |non=>exact Ag h
 |bl b=>exact Ag h
 |int b=>exact Ag h
 |str b ok=>exact Ag h
 |dic h1 h2 h3 h4=>exact Ag h
 |dks _ _ _ _=>exact Ag h
 |fz _ _ _=>exact Ag h
 |fn _=>exact Ag h
end
mutual
theorem C1 {H:Hp}{s:Shared} (I:Inv X pins σ H s) {d:D}{v:V}{u:Value} (q:Rep X.K H μ B d v) (e:Bm d=true) (r:RelV v u):∃ as,Reads s.heap u (pyD d) as:=by
 cases q with
 |non=>cases r;exact⟨_,.none⟩
 |bl b=>cases r;exact⟨_,.bool b⟩
 |int i=>obtain⟨t,rfl⟩:=r;exact⟨_,.int i t⟩
 |str x _=>obtain⟨t,rfl⟩:=r;exact⟨_,.str x t⟩
 |tup h rs =>
  cases r
  obtain⟨its,rv,⟨o,ho,hc,n,hd⟩,hz⟩:=I.tuple h
  obtain⟨as,ra⟩:=C0 I rs e rv
  exact⟨_,.tuple ho hc hd ra⟩
 |lst h b rs =>
  cases r
  obtain⟨its,rv,⟨o,n,ho,hc,_,hd⟩,hz⟩:=I.list (.inl h)
  obtain⟨as,ra⟩:=C0 I rs e rv
  exact⟨_,.list ho hc hd ra⟩
 |kl h rs =>
  cases r
  obtain⟨its,rv,⟨o,n,ho,hc,_,hd⟩,hz⟩:=I.list h.sq
  obtain⟨as,ra⟩:=C0 I rs e rv
  exact⟨_,.list ho hc hd ra⟩
 |_=>cases e
theorem C0 {H:Hp}{s:Shared} (I:Inv X pins σ H s) {ds:List D}{vs:List V}{us:List Value} (q:Reps X.K H μ B ds vs) (e:Ar ds=true) (r:Vals vs us):∃ as,ReadsAll s.heap us (C7 ds) as:=by
 cases q with
 |nil=>cases r;exact⟨_,.nil⟩
 |cons h rs =>
  cases r with
  |cons r rv =>
  have e':=(Bool.and_eq_true_iff.mp e)
  obtain⟨as,h1⟩:=C1 I h e'.1 r
  obtain⟨bs,h2⟩:=C0 I rs e'.2 rv
  exact⟨_,.cons h1 h2⟩
end
mutual
theorem Dy {K:W.Frag}{H:Hp}{μ:List Addr}{B:Addr->Prop}{d:D}{v:V} (r:Rep K H μ B d v):(pyD d).canLay0=true:=by
 cases r with
 |str _ h=>exact h
 |tup _ rs=>exact E2 rs
 |lst _ _ rs=>exact E2 rs
 |kl _ rs=>exact E2 rs
 |_=>rfl
theorem E2 {K:W.Frag}{H:Hp}{μ:List Addr}{B:Addr->Prop}{ds:List D}{vs:List V} (r:Reps K H μ B ds vs):PyData.canLayAll0 (C7 ds)=true:=by
 cases r with
 |nil=>rfl
 |cons r rs=>rw[C7,PyData.canLayAll0,Dy r,E2 rs];rfl
end
mutual
theorem Gk:∀ d:D,(pyD d).depth=dep d
 |.non=>rfl
 |.bl _=>rfl
 |.int _=>rfl
 |.str _=>rfl
 |.tup ds=>by rw[pyD,PyData.depth,dep,Ex ds]
 |.lst ds=>by rw[pyD,PyData.depth,dep,Ex ds]
 |.kl ds=>by rw[pyD,PyData.depth,dep,Ex ds]
 |.ref _=>rfl
 |.dic _ _=>rfl
 |.dks _ _=>rfl
 |.fz _ _ _ _=>rfl
 |.fn _ _=>rfl
theorem Ex:∀ ds:List D,PyData.depthAll (C7 ds)=Da ds
 |[]=>rfl
 |d::ds=>by rw[C7,PyData.depthAll,Gk d,Ex ds,Da]
end
noncomputable def deq (x y:D):Bool:=PyData.eqv (pyD x) (pyD y)
def eqO (m:MH) (x y:D):Option Bool:=(Ca m x).bind fun x'=>(Ca m y).bind fun y'=>if dep x'<=60 then some (deq x' y') else none
def oEq:D->D->MH->Option D:=fun x y m=>(eqO m x y).bind fun b=>some (.bl b)
def oNe:D->D->MH->Option D:=fun x y m=>(eqO m x y).bind fun b=>some (.bl (!b))
section
variable {X:Cx}{a b c e:Expr}{es:List Expr}{pos:Pos}
def OpM (X:Cx) (f:Value->Value->Sem Value) (o:D->D->MH->Option D):Prop :=
 ∀ (pins:List (Addr×Obj)) (s:Shared) (σ:St) (H:Hp) (μ:List Addr) (m:MH) (x y z:D) (v u:V) (v' u':Value) (Q:VK),Inv X pins σ H s->Sim X.K H μ m->Rep X.K H μ (·∈μ) x v->Rep X.K H μ (·∈μ) y u->RelV v v'->RelV u u'->o x y m=some z ->
  (∀ w H2,Same H H2->Rep X.K H2 μ (·∈μ) z w->Q w H2)->wpAny (model X.prog X.w) X.A (f v' u') (EP X pins σ Q) X.xe s
theorem OpM.of (h:OpR X f r) (d:OpD X o r):OpM X f o :=
 fun pins s σ H μ m x y z v u v' u' Q I S rx ry r1 r2 e q=>h pins s σ H v u v' u' Q I r1 r2 (d μ m x y z v u H Q S rx ry e q)
theorem Bd {H:Hp} (h:H p=none):Same H (upd H p o):=fun b u e=>by
 rw[Aw (Aq e h)];exact e
theorem tE.two {K:W.Frag}{f g:FE}{o:D->D->MH->Option D}{σ:St}{H:Hp}{Q:VK} (h:tE K (f2 o f g) σ H Q) :
  ∃ env μ m x y z,Sim K H μ m/\EnvRep K H μ σ env/\f env m=some x/\g env m=some y/\o x y m=some z/\∀ v H',Same H H'->Rep K H' μ (·∈μ) z v->Q v H':=by
 obtain⟨env,μ,m,d,S,E,h,q⟩:=h
 obtain⟨x,hx,h⟩:=bind_some h
 obtain⟨y,hy,h⟩:=bind_some h
 exact⟨env,μ,m,x,y,d,S,E,hx,hy,h,q⟩
theorem Amv (ho:OpM X k o) (ha:PD X a f) (hb:PD X b g) {s:Shared}{H:Hp} (I:Inv X pins σ H s) (h:tE X.K (f2 o f g) σ H Q) :
  wpAny (model X.prog X.w) X.A (eval a X.env) (fun v s₁=>wpAny (model X.prog X.w) X.A (eval b X.env) (fun u s₂=>wpAny (model X.prog X.w) X.A (k v u) (EP X pins σ Q) X.xe s₂) X.xe s₁) X.xe s:=by
 obtain⟨env,μ,m,x,y,z,S,E,hx,hy,hz,q⟩:=h.two
 refine thn (ha pins s σ H (fun v H1=>Same H H1/\Rep X.K H1 μ (·∈μ) x v) I ⟨env,μ,m,x,S,E,hx,fun v H1 s1 r1=>⟨s1,r1⟩⟩) fun v' s1 ⟨v,H1,I1,r1,s1',rx⟩=>?_
 refine thn (hb pins s1 σ H1 (fun u H2=>Same H1 H2/\Rep X.K H2 μ (·∈μ) y u) I1 ⟨env,μ,m,y,S.same s1',E.same s1',hy,fun v H1 s1 r1=>⟨s1,r1⟩⟩) fun u' s2 ⟨u,H2,I2,r2,s2',ry⟩=>?_
 exact ho pins s2 σ H2 μ m x y z v u v' u' Q I2 (S.same (s1'.trans s2')) (rx.same s2') ry r1 r2 hz fun w H3 s3 r3=>q w H3 ((s1'.trans s2').trans s3) r3
theorem Aja (ho:OpM X (binaryOp op) o) (ha:PD X a f) (hb:PD X b g):PD X (.BinOp a op b pos) (f2 o f g) :=
 fun pins s σ H Q I h=>wpAny_BinOp (Amv ho ha hb I h)
theorem Ajb (ho:OpM X (compareOp op) o) (ha:PD X a f) (hb:PD X b g) (hm:behindInMarks op b=false):PD X (.Compare a [op] [b] pos) (f2 o f g) :=
 fun pins s σ H Q I h=>wpAny_Compare1 (Amv ho ha hb I h) hm
noncomputable def asB:D->Option Bool
 |.bl b=>some b
 |_=>none
def Au (f:FE):FB:=fun env m=>(f env m).bind asB
theorem N2 {d:D}{b:Bool} (h:asB d=some b):d=.bl b:=by
 cases d<;>first|(cases h;rfl)|cases h
theorem tB'.val {K:W.Frag}{f:FE}{σ:St}{H:Hp}{Q:Bool->Hp->Prop} (h:tB' K (Au f) σ H Q):tE K f σ H fun x H'=>∃ k,x=.bl k/\Q k H':=by
 obtain⟨env,μ,m,b,S,E,h,q⟩:=h
 obtain⟨d,h1,h2⟩:=bind_some h
 cases N2 h2
 exact⟨env,μ,m,_,S,E,h1,fun v H' s r=>by cases r;exact⟨_,rfl,q H' s⟩⟩
theorem Ai2 (ho:OpM X (compareOp op) o) (ha:PD X a f) (hb:PD X b g) (hm:behindInMarks op b=false):PB X (.Compare a [op] [b] pos) (Au (f2 o f g)):=by
 intro pins s σ H Q I h
 refine wpAny_isTrue_Compare1 (thn (Amv ho ha hb I h.val) fun v s1 h1=>thn h1 fun u s2 h2=>thn h2 fun c s3 ⟨x,H1,I1,r1,k,e,q⟩=>?_) hm
 subst e
 cases r1
 exact Asn ⟨H1,I1,q⟩
theorem big {n:Nat} (h:n<=1000000):n<=sizeLine:=Arl h (by rw[Aso];decide)
def Afm (m:MH):D->Option Bool
 |.non=>some false
 |.bl b=>some b
 |.int i=>some (i != 0)
 |.str y=>if y.length<=1000000 then some ((y.length:Int) != 0) else none
 |d=>(sq m d).bind fun ds=>some (!ds.isEmpty)
def V9 (f:FE):FB:=fun env m=>(f env m).bind (Afm m)
theorem Reps.isEmpty {K:W.Frag}{H:Hp}{μ:List Addr}{B:Addr->Prop}{ds:List D}{vs:List V} (r:Reps K H μ B ds vs):ds.isEmpty=vs.isEmpty:=by cases r<;>rfl
theorem Afe {K:W.Frag}{H:Hp}{μ:List Addr}{m:MH} (S:Sim K H μ m) {d:D}{v:V}{k:Bool} (r:Rep K H μ (·∈μ) d v) (h:Afm m d=some k):Ak7 K v H k:=by
 have seq:∀ {a:Addr},v=.ref a->(∃ ds,sq m d=some ds/\k=!ds.isEmpty)->Ak7 K v H k:=fun {a} e ⟨ds,h1,h2⟩=>by
  obtain⟨a',xs,e',hq,rs⟩:=Ou S r h1
  subst e'
  subst h2
  rw[rs.isEmpty]
  rcases hq with hq|hq
  ·exact .inl ⟨xs,hq,rfl⟩
  ·exact .inr (.inl ⟨xs,hq,rfl⟩)
 have sq':∀ {x:D},((sq m x).bind fun ds=>some (!ds.isEmpty))=some k->∃ ds,sq m x=some ds/\k=!ds.isEmpty:=fun {x} h=>by
  obtain⟨ds,h1,h2⟩:=bind_some h
  exact⟨ds,h1,(Arn h2).symm⟩
 cases r with
 |non=>cases h;rfl
 |bl b=>cases h;rfl
 |int b=>cases h;rfl
 |str b ok =>
  unfold Afm at h
  simp only at h
  split at h
  ·cases h;exact⟨big (by assumption),rfl⟩
  ·exact Ag h
 |@tup ds a xs h1 h2=>exact seq rfl (sq' h)
 |@lst ds a xs h1 h3 h2=>exact seq rfl (sq' h)
 |@kl ds a xs h1 h2=>exact seq rfl (sq' h)
 |@ref n a e=>exact seq rfl (sq' h)
 |dic h1 h2 h3 h4=>exact Ag h
 |dks _ _ _ _=>exact Ag h
 |fz _ _ _=>exact Ag h
 |fn _=>exact Ag h
theorem Ai5 (ha:PD X a f) (he:∀ whole,isTrue a X.env whole=(do let v <- whole;standAt a.pos;holding [v] (truthy v))):PB X a (V9 f) :=
 PT.imp (Yn ha he) fun σ H Q ⟨env,μ,m,b,S,E,h,q⟩=>by
  obtain⟨d,h1,h2⟩:=bind_some h
  exact⟨env,μ,m,d,S,E,h1,fun v H' s r=>⟨b,Afe (S.same s) r h2,q H' s⟩⟩
noncomputable def Z0 (f g:FB):FB:=fun env m=>(f env m).bind fun c=>if c=true then g env m else some false
noncomputable def fOr (f g:FB):FB:=fun env m=>(f env m).bind fun c=>if c=true then some true else g env m
noncomputable def Ab4 (f:FB):FB:=fun env m=>(f env m).bind fun c=>some (!c)
abbrev PWB (X:Cx) (e:Expr) (f:FB):Prop:=PW X e (tB' X.K f)
theorem PW.imp {t t':TT} (h:PW X e t) (i:∀ σ H Q,t' σ H Q->t σ H Q):PW X e t':=fun w pins s σ H Q I q=>h w pins s σ H Q I (i σ H Q q)
theorem tB'.and {K:W.Frag}{f g:FB}{σ:St}{H:Hp}{Q:Bool->Hp->Prop} (h:tB' K (Z0 f g) σ H Q):Apn (tB' K f) (tB' K g) σ H Q:=by
 obtain⟨env,μ,m,b,S,E,h,q⟩:=h
 obtain⟨c,h1,h2⟩:=bind_some h
 refine⟨env,μ,m,c,S,E,h1,fun H1 s1=>?_⟩
 cases c with
 |true =>
  rw[Aq4 rfl] at h2 ⊢
  exact⟨env,μ,m,b,S.same s1,E.same s1,h2,fun H2 s2=>q H2 (s1.trans s2)⟩
 |false =>
  rw[Aq7 Arc] at h2 ⊢
  cases h2
  exact q H1 s1
theorem tB'.or {K:W.Frag}{f g:FB}{σ:St}{H:Hp}{Q:Bool->Hp->Prop} (h:tB' K (fOr f g) σ H Q):tOr (tB' K f) (tB' K g) σ H Q:=by
 obtain⟨env,μ,m,b,S,E,h,q⟩:=h
 obtain⟨c,h1,h2⟩:=bind_some h
 refine⟨env,μ,m,c,S,E,h1,fun H1 s1=>?_⟩
 cases c with
 |false =>
  rw[Aq7 Arc] at h2 ⊢
  exact⟨env,μ,m,b,S.same s1,E.same s1,h2,fun H2 s2=>q H2 (s1.trans s2)⟩
 |true =>
  rw[Aq4 rfl] at h2 ⊢
  cases h2
  exact q H1 s1
variable {rest:List Expr}
theorem Yp (ha:PB X a f):PWB X (.BoolOp .And [a] pos) f:=Aef ha
theorem Aej (ha:PB X a f):PWB X (.BoolOp .Or [a] pos) f:=Ajz ha
theorem Aei (ha:PB X a f) (hb:PWB X (.BoolOp .And (b::rest) pos) g):PWB X (.BoolOp .And (a::b::rest) pos) (Z0 f g):=PW.imp (Ajx ha hb) fun _ _ _ h=>h.and
theorem Aj0 (ha:PB X a f) (hb:PWB X (.BoolOp .Or (b::rest) pos) g):PWB X (.BoolOp .Or (a::b::rest) pos) (fOr f g):=PW.imp (Aob ha hb) fun _ _ _ h=>h.or
theorem Ado (h:PWB X (.BoolOp op es pos) f):PB X (.BoolOp op es pos) f:=h.pt
theorem Ai4 (ha:PB X a f):PB X (.UnaryOp .Not a pos) (Ab4 f):=PT.imp (Ajw ha) fun σ H Q ⟨env,μ,m,b,S,E,h,q⟩=>by
 obtain⟨c,h1,h2⟩:=bind_some h
 cases h2
 exact⟨env,μ,m,c,S,E,h1,fun H1 s1=>q H1 s1⟩
def Pa (f g:FE):FE:=fun env m=>(Au f env m).bind fun c=>if c=true then g env m else some (.bl false)
theorem Ajf {op} (h:PD X a f):PD X (.BoolOp op [a] pos) f:=Ajk h
theorem Ai9 {f g:FE} (ha:PD X a f) (hb:PD X (.BoolOp .And (b::rest) pos) g):PD X (.BoolOp .And (a::b::rest) pos) (Pa f g):=PE.imp (Aji ha hb) fun σ H Q ⟨env,μ,m,z,S,E,h,q⟩=>by
 obtain⟨c,h1,h2⟩:=bind_some h
 obtain⟨d,h0,h1⟩:=bind_some h1
 cases N2 h1
 refine⟨env,μ,m,_,S,E,h0,fun v H1 s1 r1=>⟨c,by cases r1;rfl,?_⟩⟩
 cases c with
 |true =>
  rw[Aq4 rfl] at h2 ⊢
  exact⟨env,μ,m,z,S.same s1,E.same s1,h2,fun v H2 s2 r2=>q v H2 (s1.trans s2) r2⟩
 |false =>
  rw[Aq7 Arc] at h2 ⊢
  cases h2
  exact q _ H1 s1 (.bl false)
noncomputable def fIf (t:FB) (f g:FE):FE:=fun env m=>(t env m).bind fun c=>if c=true then f env m else g env m
theorem An2 {t:FB} (hc:PB X c t) (ha:PD X a f) (hb:PD X b g):PD X (.IfExp c a b pos) (fIf t f g):=PE.imp (Ol hc ha hb) fun σ H Q ⟨env,μ,m,z,S,E,h,q⟩=>by
 obtain⟨c,h1,h2⟩:=bind_some h
 refine⟨env,μ,m,c,S,E,h1,fun H1 s1=>?_⟩
 cases c with
 |true =>
  rw[Aq4 rfl] at h2 ⊢
  exact⟨env,μ,m,z,S.same s1,E.same s1,h2,fun v H2 s2 r2=>q v H2 (s1.trans s2) r2⟩
 |false =>
  rw[Aq7 Arc] at h2 ⊢
  exact⟨env,μ,m,z,S.same s1,E.same s1,h2,fun v H2 s2 r2=>q v H2 (s1.trans s2) r2⟩
theorem B8 (hr:Room k X.A):OpM X (compareOp .Eq) oEq:=by
 intro pins s σ H μ m x y z v u v' u' Q I S rx ry r1 r2 e q
 obtain⟨b,h1,h2⟩:=bind_some e
 obtain⟨x',e1,h1⟩:=bind_some h1
 obtain⟨y',e2,h1⟩:=bind_some h1
 split at h1
 ·rename_i hd
  cases h1
  cases h2
  obtain⟨a1,n1⟩:=Bh S rx e1
  obtain⟨a2,n2⟩:=Bh S ry e2
  obtain⟨as,ra⟩:=C1 I a1 n1 r1
  obtain⟨bs,rb⟩:=C1 I a2 n2 r2
  have hu:=hr.units
  refine SeqAt.compareEq_reads ra rb (Dy a1) (Dy a2) ?_ ⟨.bl (deq x' y'),H,I,rfl,q _ H (Same.refl H) (.bl _)⟩
  rw[Gk]
  lia
 ·cases h1
theorem X6 (hr:Room k X.A):OpM X (compareOp .NotEq) oNe:=by
 intro pins s σ H μ m x y z v u v' u' Q I S rx ry r1 r2 e q
 obtain⟨b,h1,h2⟩:=bind_some e
 obtain⟨x',e1,h1⟩:=bind_some h1
 obtain⟨y',e2,h1⟩:=bind_some h1
 split at h1
 ·rename_i hd
  cases h1
  cases h2
  obtain⟨a1,n1⟩:=Bh S rx e1
  obtain⟨a2,n2⟩:=Bh S ry e2
  obtain⟨as,ra⟩:=C1 I a1 n1 r1
  obtain⟨bs,rb⟩:=C1 I a2 n2 r2
  have hu:=hr.units
  refine SeqAt.compareNe_reads ra rb (Dy a1) (Dy a2) ?_ ⟨.bl (!deq x' y'),H,I,rfl,q _ H (Same.refl H) (.bl _)⟩
  rw[Gk]
  lia
 ·cases h1
noncomputable def oLt:D->D->MH->Option D
 |.int i,.int j,_=>some (.bl (decide (i < j)))
 |.str i,.str j,_=>some (.bl (decide (i.cps.toList < j.cps.toList)))
 |_,_,_=>none
def oGt:D->D->MH->Option D:=oI fun i j=>some (.bl (decide (j < i)))
def oGe:D->D->MH->Option D:=oI fun i j=>some (.bl (decide (j<=i)))
theorem X5:OpM X (compareOp .Lt) oLt:=OpM.of (op_lt.or Uk) fun μ m x y z v u H Q S rx ry e q=>by
 cases rx<;>first|exact Ag e|skip
 all_goals cases ry<;>first|exact Ag e|skip
 ·cases e;exact .inl ⟨_,_,rfl,rfl,q _ H (Same.refl H) (.bl _)⟩
 ·cases e;exact .inr ⟨_,_,rfl,rfl,q _ H (Same.refl H) (.bl _)⟩
theorem G1:OpM X (compareOp .Gt) oGt:=OpM.of An0 (OpD.int0 fun i j z e H μ B=>by cases e;exact .bl _)
theorem Anu:OpM X (compareOp .GtE) oGe:=OpM.of Anz (OpD.int0 fun i j z e H μ B=>by cases e;exact .bl _)
theorem D9:OpM X (binaryOp .Sub) Pv:=OpM.of Ai0 Adm
theorem Ct:OpM X (binaryOp .Mult) Ho:=OpM.of Aix Adj
theorem G0:OpM X (binaryOp .FloorDiv) Vj:=OpM.of Adf Adh
theorem Cf:OpM X (binaryOp .Mod) L5:=OpM.of Aiw Adi
theorem Ais:OpM X (binaryOp .Pow) Alf:=OpM.of Aiy Adk
theorem Ait:OpM X (binaryOp .RShift) Ah9:=OpM.of Aiz Adl
noncomputable def Og:D->MH->Option D:=fun x _=>match x with|.non=>some (.bl true)|_=>some (.bl false)
noncomputable def Pu:D->MH->Option D:=fun x _=>match x with|.non=>some (.bl false)|_=>some (.bl true)
theorem Acw {K:W.Frag}{H:Hp}{μ:List Addr}{B:Addr->Prop}{d z:D}{v:V}{m:MH} (r:Rep K H μ B d v) (h:Og d m=some z):z=.bl (decide (v=.non)):=by
 cases r<;>(cases h;simp)
theorem X3 {K:W.Frag}{H:Hp}{μ:List Addr}{B:Addr->Prop}{d z:D}{v:V}{m:MH} (r:Rep K H μ B d v) (h:Pu d m=some z):z=.bl (!decide (v=.non)):=by
 cases r<;>(cases h;simp)
theorem Ai3 {f:FE} {j pos'} (ha:PD X a f):PB X (.Compare a [.Is] [.Constant .none j pos'] pos) (Au (f1 Og f)):=PT.imp (Uy Aiv ha Um (Aab _)) fun σ H Q h=>by
 obtain⟨env,μ,m,z,S,E,h,q⟩:=h.val
 obtain⟨d,h1,h2⟩:=bind_some h
 exact⟨env,μ,m,d,S,E,h1,fun v H1 s1 r1=>⟨rfl,q _ H1 s1 (by rw[Acw r1 h2];exact .bl _)⟩⟩
theorem Adp {f:FE} {j pos'} (ha:PD X a f):PB X (.Compare a [.IsNot] [.Constant .none j pos'] pos) (Au (f1 Pu f)):=PT.imp (Uy Adg ha Um (Aab _)) fun σ H Q h=>by
 obtain⟨env,μ,m,z,S,E,h,q⟩:=h.val
 obtain⟨d,h1,h2⟩:=bind_some h
 exact⟨env,μ,m,d,S,E,h1,fun v H1 s1 r1=>⟨rfl,q _ H1 s1 (by rw[X3 r1 h2];exact .bl _)⟩⟩
end
theorem Hc:PyData.strOk x=true ↔ ∀ c∈x.cps.toList,c < 0x110000:=by
 unfold PyData.strOk
 rw[Array.all_eq_true']
 simp
theorem Mq (hx:PyData.strOk x=true) (hy:PyData.strOk y=true):PyData.strOk (x++y)=true:=by
 rw[Hc] at *
 intro c hc
 have:(x++y).cps.toList=x.cps.toList++y.cps.toList:=by
  show (x.cps++y.cps).toList=_
  simp
 rw[this] at hc
 rcases List.mem_append.mp hc with h|h
 ·exact hx c h
 ·exact hy c h
theorem Hd (hx:PyData.strOk x=true) (h:∀ c∈y.cps.toList,c∈x.cps.toList):PyData.strOk y=true:=by
 rw[Hc] at *
 exact fun c hc=>hx c (h c hc)
theorem Vf (hx:PyData.strOk x=true) (h:atI x.cps.toList i=some c):PyData.strOk ⟨#[c]⟩=true:=by
 refine Hd hx fun c' hc=>?_
 have e:c'=c:=by simpa using hc
 subst e
 obtain⟨j,_,h2,_⟩:=Jb h
 exact Ard h2
theorem Nv {x:Str}{lo hi:Option Int} (hx:PyData.strOk x=true):PyData.strOk (Txt.slice x lo hi)=true:=by
 unfold Txt.slice
 split
 ·exact hx
 ·refine Hd hx fun c hc=>?_
  simp only[List.toList_toArray] at hc
  obtain⟨i,_,h⟩:=List.mem_filterMap.mp hc
  have:=Array.mem_of_getElem? h
  simpa using this
section
variable {X:Cx}{a b c e:Expr}{es:List Expr}{pos p:Pos}{x:Str}{id T:String}
noncomputable def Ae:FL:=fun _ _=>some []
noncomputable def Aa (f:FE) (g:FL):FL:=fun env m=>(f env m).bind fun x=>(g env m).bind fun xs=>some (x::xs)
theorem Ajs:PL X [] Ae:=PA.imp Aah fun σ H Q ⟨env,μ,m,ds,S,E,h,q⟩=>by cases h;exact q [] H (Same.refl H) .nil
theorem Ad1 (ha:PD X e f) (hr:PL X es g) (hs:starEach (e::es) X.env=(false,eval e X.env)::starEach es X.env):PL X (e::es) (Aa f g) :=
 PA.imp (Nh ha hr hs) fun σ H Q ⟨env,μ,m,ds,S,E,h,q⟩=>by
  obtain⟨d,h1,h⟩:=bind_some h
  obtain⟨ds',h2,h⟩:=bind_some h
  cases h
  exact⟨env,μ,m,d,S,E,h1,fun v H1 s1 r1=>⟨env,μ,m,ds',S.same s1,E.same s1,h2,fun vs H2 s2 r2=>q _ H2 (s1.trans s2) (.cons (r1.same s2) r2)⟩⟩
noncomputable def Co (g:FL):FE:=fun env m=>(g env m).bind fun ds=>some (.lst ds)
theorem Ya (h:PF X e g):PD X e (Co g):=PE.imp h fun σ H Q ⟨env,μ,m,d,S,E,h,q⟩=>by
 obtain⟨ds,h1,h⟩:=bind_some h
 cases h
 exact⟨env,μ,m,ds,S,E,h1,fun a xs H' s1 hn ha r=>q _ H' s1 (.lst (.inl ha) (S.nnone hn) r.unw)⟩
noncomputable def Bk (g:FL):FE:=fun env m=>(g env m).bind fun ds=>if ds.length<=1000000 then some (.tup ds) else none
noncomputable def Bc (g:FL):FL:=fun env m=>(g env m).bind fun ds=>if ds.length<=1000000 then some ds else none
theorem Ajh {x1} (h:PL X es g):PD X (.Tuple es x1 pos) (Bk g):=PE.imp (Ajm h) fun σ H Q ⟨env,μ,m,d,S,E,h,q⟩=>by
 obtain⟨ds,h1,h⟩:=bind_some h
 split at h
 ·rename_i hl
  cases h
  refine⟨env,μ,m,ds,S,E,h1,fun vs H1 s1 r1=>⟨by rw[<- r1.length];exact big hl,fun p hp=>q _ _ (s1.trans (Bd hp)) (.tup (.inl (.inl A9)) (r1.same (Bd hp)))⟩⟩
 ·cases h
theorem Ajp (h:PL X es g):PF X (.List es pos) (Bc g):=PE.imp (Ajj h) fun σ H Q ⟨env,μ,m,d,S,E,h,q⟩=>by
 obtain⟨ds,h1,h⟩:=bind_some h
 split at h
 ·rename_i hl
  cases h
  refine⟨env,μ,m,_,S,E,h1,fun vs H1 s1 r1=>⟨by rw[<- r1.length];exact big hl,fun p hp=>q _ vs _ (s1.trans (Bd hp)) (s1.free hp) A9 (r1.fresh hp)⟩⟩
 ·cases h
def oIx:D->D->MH->Option D:=fun x y m=>match y with
 |.int i=>(match x with
  |.str z=>if z.length<=1000000 then (atI z.cps.toList i).bind fun c=>some (.str ⟨#[c]⟩) else none
  |x=>(sq m x).bind fun ds=>atI ds i)
 |_=>none
theorem Reps.atI {K:W.Frag}{H:Hp}{μ:List Addr}{B:Addr->Prop}{ds:List D}{vs:List V}{i:Int}{d:D} (r:Reps K H μ B ds vs) (h:L2.atI ds i=some d):∃ v,L2.atI vs i=some v/\Rep K H μ B d v:=by
 unfold L2.atI at *
 rw[r.length] at h
 obtain⟨j,h1,h2⟩:=bind_some h
 obtain⟨v,h3,h4⟩:=r.get h2
 exact⟨v,by rw[h1];exact h3,h4⟩
set_option tactic.hygienic true in
theorem Ai1:OpD X oIx (rIx X.K):=by
 intro μ m x y z v u H Q S rx ry e q
 cases ry<;>first|exact Ag e|skip
 rename_i i
 have seq:((sq m x).bind fun ds=>atI ds i)=some z->rIx X.K v (.int i) H Q:=fun e=>by
  obtain⟨ds,h1,h2⟩:=bind_some e
  obtain⟨a,xs,rfl,hq,rs⟩:=Ou S rx h1
  obtain⟨w,h3,h4⟩:=rs.atI h2
  rcases hq with hq|hq
  ·exact .inl ⟨a,xs,i,w,rfl,rfl,hq,h3,q w H (Same.refl H) h4⟩
  ·exact .inr (.inl ⟨a,xs,i,w,rfl,rfl,hq,h3,q w H (Same.refl H) h4⟩)
 cases rx with
 |str zz ok =>
  unfold oIx at e
  simp only at e
  split at e
  ·obtain⟨c,h1,h2⟩:=bind_some e
   cases h2
   exact .inr (.inr ⟨zz,i,c,rfl,rfl,big (by assumption),h1,q _ H (Same.refl H) (.str _ (Vf ok h1))⟩)
  ·cases e
 |non=>exact seq e
 |bl _=>exact seq e
 |int _=>exact seq e
 |tup h1 h2=>exact seq e
 |lst h1 h2 h3=>exact seq e
 |kl h1 h2=>exact seq e
 |dic h1 h2 h3 h4=>exact seq e
 |dks _ _ _ _=>exact seq e
 |fz _ _ _=>exact seq e
 |fn _=>exact seq e
 |ref h=>exact seq e
theorem An3 (ha:PD X a f) (hb:PD X b g) (hs:Mv b):PD X (.Subscript a b pos) (f2 oIx f g):=PE.imp (An7 Ahm ha hb hs) fun σ H Q h=>tE.bin h _ Ai1
abbrev FO:=Ba->MH->Option (Option Int)
inductive tO' (K:W.Frag) (f:FO) (σ:St) (H:Hp) (Q:Option Int->Hp->Prop):Prop
 |mk (env:Ba) (μ:List Addr) (m:MH) (o:Option Int) (S:Sim K H μ m) (E:EnvRep K H μ σ env) (h:f env m=some o) (q:∀ H',Same H H'->Q o H')
abbrev PO' (X:Cx) (e:Option Expr) (f:FO):Prop:=PO X e (tO' X.K f)
theorem PO.imp {X:Cx}{e:Option Expr}{t t':TO} (h:PO X e t) (i:∀ σ H Q,t' σ H Q->t σ H Q):PO X e t':=fun pins s σ H Q I q=>h pins s σ H Q I (i σ H Q q)
noncomputable def fNo:FO:=fun _ _=>some none
noncomputable def asI:D->Option Int
 |.int i=>some i
 |_=>none
def C6 (f:FE):FO:=fun env m=>(f env m).bind fun d=>(asI d).bind fun i=>some (some i)
theorem Yf:PO' X none fNo:=PO.imp Ad2 fun σ H Q ⟨env,μ,m,o,S,E,h,q⟩=>by cases h;exact q H (Same.refl H)
theorem Yg (h:PD X e f):PO' X (some e) (C6 f):=PO.imp (Ad3 h) fun σ H Q ⟨env,μ,m,o,S,E,h,q⟩=>by
 obtain⟨d,h1,h⟩:=bind_some h
 obtain⟨i,h2,h⟩:=bind_some h
 cases h
 refine⟨env,μ,m,d,S,E,h1,fun v H' s r=>?_⟩
 cases r<;>first|(cases h2;exact⟨_,rfl,q H' s⟩)|cases h2
def C8 {α:Type} (xs:List α) (lo hi:Option Int):List α:=(xs.drop (HT.sIx xs.length 0 lo)).take (HT.sIx xs.length xs.length hi - HT.sIx xs.length 0 lo)
theorem Reps.cut {K:W.Frag}{H:Hp}{μ:List Addr}{B:Addr->Prop}{ds:List D}{vs:List V} (r:Reps K H μ B ds vs) (lo hi:Option Int):Reps K H μ B (C8 ds lo hi) (Zs vs lo hi):=by
 unfold C8 Zs
 rw[r.length]
 exact (r.drop _).take _
theorem sl_str:SlR X (fun x lo hi H Q=>∃ z,x=.str z/\z.length<=sizeLine/\Q (.str (Txt.slice z lo hi)) H):=by
 intro pins s σ H x v vl vu lo hi sl Q I rx hs pl pu h
 obtain⟨z,rfl,hz,q⟩:=h
 obtain⟨t,rfl⟩:=rx
 refine⟨"str",_,F.slot_str_getitem.lookup,typeIs_str _ _ _,?_⟩
 cases pl with
 |none =>
  cases pu with
  |none=>exact As3 (l:=none) (u:=none) (st:=none) hs rfl (post_val_or_str ⟨Arl (Txt.slice_le z _ _) hz,fun t' k=>⟨.str (Txt.slice z _ _),H,I.tok _,⟨_,rfl⟩,q⟩⟩)
  |int j t'=>exact As3 (l:=none) (u:=some (j,t')) (st:=none) hs rfl (post_val_or_str ⟨Arl (Txt.slice_le z _ _) hz,fun t' k=>⟨.str (Txt.slice z _ _),H,I.tok _,⟨_,rfl⟩,q⟩⟩)
 |int i t1 =>
  cases pu with
  |none=>exact As3 (l:=some (i,t1)) (u:=none) (st:=none) hs rfl (post_val_or_str ⟨Arl (Txt.slice_le z _ _) hz,fun t' k=>⟨.str (Txt.slice z _ _),H,I.tok _,⟨_,rfl⟩,q⟩⟩)
  |int j t'=>exact As3 (l:=some (i,t1)) (u:=some (j,t')) (st:=none) hs rfl (post_val_or_str ⟨Arl (Txt.slice_le z _ _) hz,fun t' k=>⟨.str (Txt.slice z _ _),H,I.tok _,⟨_,rfl⟩,q⟩⟩)
def oSl:D->Option Int->Option Int->Option D
 |.str z,lo,hi=>if z.length<=1000000 then some (.str (Txt.slice z lo hi)) else none
 |.tup ds,lo,hi=>some (.tup (C8 ds lo hi))
 |_,_,_=>none
def fSl (f:FE) (l h:FO):FE:=fun env m=>(f env m).bind fun x=>(l env m).bind fun lo=>(h env m).bind fun hi=>oSl x lo hi
def Tb (f:FE) (l h:FO):FL:=fun env m=>(f env m).bind fun x=>(l env m).bind fun lo=>(h env m).bind fun hi=>match x with
 |.tup _=>none
 |x=>(sq m x).bind fun ds=>some (C8 ds lo hi)
end
theorem Dw {prog:Program}{w:World}{A:Around}{E:Value->Shared->Prop}{s:Shared}{t sl:Addr}{items:Array Value}{vl vu:Value}{lo hi:Option Int}{Q:Value->Shared->Prop} (ht:IsTup s.heap t items) (hs:s.heap.IsSliceOf sl vl vu .none) (pl:IsPart vl lo) (pu:IsPart vu hi)
  (hw:HT.sIx items.size 0 lo=0/\HT.sIx items.size items.size hi=items.size) (h:Q (.ref t) s):wpAny (model prog w) A (getItem (.ref t) (.ref sl)) Q E s:=by
 obtain⟨os,hos,hcs,hds⟩:=id hs
 have hTs:s.TypeIs (.ref sl) "slice":=⟨os,hos,hcs⟩
 unfold getItem
 try with_reducible refine Arw ?_
 first|refine Aqx (Aq0 ?_)|skip
 refine Aqx (wpAny_sequenceKey ht.typeIs (by decide) ?_)
 refine Aqx (Ase (name:=Str.ofString "__getitem__") ht.typeIs PyProof.Rows.slot_tuple_getitem
  (Asb PyProof.Rows.slot_tuple_getitem ht.typeIs entry_tuple_getitem ?_ (args_tuple_getitem _ _)))
 show wpAny _ _ (Builtin.Tuple.tupleItemsOf (.ref t) >>= _) _ _ s
 refine Aqx (tupleItemsOf_ ht ?_)
 refine Aqx (wpAny_typeOf hTs ?_)
 rw[Aq4 (by decide)]
 refine Aqx (HT.sliceApplied_gen hs pl pu ?_)
 have hyes:(((HT.sIx items.size 0 lo:Nat):Int) == 0&&(1:Int) == 1&&(HT.sIx items.size items.size hi - HT.sIx items.size 0 lo) == items.size)=true:=by
  rw[hw.1,hw.2]
  simp
 show wpAny _ _ (if (((HT.sIx items.size 0 lo:Nat):Int) == 0&&(1:Int) == 1&&(HT.sIx items.size items.size hi - HT.sIx items.size 0 lo) == items.size)=true then _ else _) _ _ s
 rw[Aq4 hyes]
 unfold Builtin.Tuple.tupleIsExact
 refine Aqx (Aqx (wpAny_typeOf ht.typeIs (Aq0 ?_)))
 rw[Aq4 (by decide)]
 exact Aqx (wpAny_rule (Aq0 ⟨_,rfl,Aq0 h⟩))
theorem Vi {α:Type}{xs:List α}{lo hi:Option Int} (h:HT.sIx xs.length 0 lo=0/\HT.sIx xs.length xs.length hi=xs.length):C8 xs lo hi=xs:=by
 unfold C8
 rw[h.1,h.2]
 simp
section
variable {X:Cx}{a b c e:Expr}{es:List Expr}{pos p:Pos}{x:Str}{id T:String}
theorem Ae4:SlR X (fun x lo hi H Q=>∃ a xs,x=.ref a/\SqT X.K H a xs/\(HT.sIx xs.length 0 lo=0/\HT.sIx xs.length xs.length hi=xs.length)/\Q (.ref a) H):=by
 intro pins s σ H x v vl vu lo hi sl Q I rx hs pl pu h
 obtain⟨a,xs,rfl,hx,hw,q⟩:=h
 cases rx
 obtain⟨its,r,ht,hz⟩:=I.tuple hx
 have hlen:its.toArray.size=xs.length:=by rw[Aq3];exact r.length.symm
 refine⟨"tuple",_,PyProof.Rows.slot_tuple_getitem.lookup,ht.typeIs,?_⟩
 exact Dw ht hs pl pu (by rw[hlen];exact hw) ⟨.ref a,H,I,rfl,q⟩
theorem An4 {f:FE}{l h:FO}{lo hi:Option Expr}{p2:Pos} (ha:PD X a f) (hl:PO' X lo l) (hh:PO' X hi h):PD X (.Subscript a (.Slice lo hi none p2) pos) (fSl f l h) :=
 PE.imp (Om (sl_str.or (sl_tup.or Ae4)) ha hl hh) fun σ H Q ⟨env,μ,m,d,S,E,h,q⟩=>by
  obtain⟨x,h1,h⟩:=bind_some h
  obtain⟨lo,h2,h⟩:=bind_some h
  obtain⟨hi,h3,h⟩:=bind_some h
  refine⟨env,μ,m,x,S,E,h1,fun v H1 s1 r1=>⟨env,μ,m,lo,S.same s1,E.same s1,h2,fun H2 s2=>⟨env,μ,m,hi,S.same (s1.trans s2),E.same (s1.trans s2),h3,fun H3 s3=>?_⟩⟩⟩
  have s':=(s1.trans s2).trans s3
  have r3:=(r1.same s2).same s3
  cases r3 with
  |str z ok =>
   unfold oSl at h
   simp only at h
   split at h
   ·cases h
    exact .inl ⟨z,rfl,big (by assumption),q _ H3 s' (.str _ (Nv ok))⟩
   ·cases h
  |@tup ds a xs hq rs =>
   cases h
   by_cases hw:HT.sIx xs.length 0 lo=0/\HT.sIx xs.length xs.length hi=xs.length
   ·exact .inr (.inr ⟨a,xs,rfl,hq,hw,q _ H3 s' (by rw[Vi (by rw[rs.length];exact hw)];exact .tup hq rs)⟩)
   ·exact .inr (.inl ⟨a,xs,rfl,hq,hw,fun p hp=>q _ _ (s'.trans (Bd hp)) (.tup (.inl (.inl A9)) ((rs.cut lo hi).same (Bd hp)))⟩)
  |non=>cases h
  |bl _=>exact Ag h
  |int _=>exact Ag h
  |lst _ _ _=>exact Ag h
  |kl _ _=>exact Ag h
  |ref _=>exact Ag h
  |dic _ _ _ _=>exact Ag h
  |dks _ _ _ _=>exact Ag h
  |fz _ _ _=>exact Ag h
  |fn _=>exact Ag h
theorem An9 {f:FE}{l h:FO}{lo hi:Option Expr}{p2:Pos} (ha:PD X a f) (hl:PO' X lo l) (hh:PO' X hi h):PF X (.Subscript a (.Slice lo hi none p2) pos) (Tb f l h) :=
 PE.imp (Om Ae3 ha hl hh) fun σ H Q ⟨env,μ,m,d,S,E,h,q⟩=>by
  obtain⟨x,h1,h⟩:=bind_some h
  obtain⟨lo,h2,h⟩:=bind_some h
  obtain⟨hi,h3,h⟩:=bind_some h
  refine⟨env,μ,m,x,S,E,h1,fun v H1 s1 r1=>⟨env,μ,m,lo,S.same s1,E.same s1,h2,fun H2 s2=>⟨env,μ,m,hi,S.same (s1.trans s2),E.same (s1.trans s2),h3,fun H3 s3=>?_⟩⟩⟩
  have s':=(s1.trans s2).trans s3
  have r3:=(r1.same s2).same s3
  have fin:∀ {a:Addr}{xs:List V}{ds:List D},v=.ref a->SqL X.K H3 a xs->Reps X.K H3 μ (·∈μ) ds xs->d=C8 ds lo hi->Apl X.K v lo hi H3 Q:=fun {a xs ds} e hq rs e2=>by
   subst e
   subst e2
   exact⟨a,xs,rfl,hq,fun p hp=>q p _ _ (s'.trans (Bd hp)) (s'.free hp) A9 ((rs.cut lo hi).fresh hp)⟩
  cases r3 with
  |@lst ds a xs hq _ rs=>cases h;exact fin rfl (.inl hq) rs rfl
  |@kl ds a xs hq rs=>cases h;exact fin rfl hq.sq rs rfl
  |@ref n a e =>
   simp only at h
   obtain⟨ds,h4,h⟩:=bind_some h
   cases h
   unfold sq at h4
   cases q':m[n]? with
   |none=>simp[q'] at h4
   |some o =>
    simp only[q'] at h4
    cases o with
    |dcs _ _=>cases h4
    |dct _=>cases h4
    |lst ds' =>
     cases h4
     obtain⟨xs,e1,e2⟩:=(S.same s').obj n a _ e q'
     exact fin rfl (SqL.of e1) e2 rfl
  |_=>cases h
theorem My {s:Shared}{A:Around}{prog:Program}{w:World}{E:Value->Shared->Prop}{t b:Addr}{ws:List Value}{Q:Value->Shared->Prop} (ht:IsTup s.heap t #[]) (hb:IsTup s.heap b ws.toArray) (h:Q (.ref b) s) :
  wpAny (model prog w) A (binaryOp .Add (.ref t) (.ref b)) Q E s:=by
 obtain⟨⟨cls,dd,data,sl⟩,ho,hc,n,hd⟩:=id ht
 obtain⟨⟨cls2,dd2,data2,sl2⟩,ho2,hc2,n2,hd2⟩:=id hb
 simp only at hc hd hc2 hd2
 subst hc hd hc2 hd2
 exact concat_meets ⟨_,ho,rfl⟩ ⟨_,ho2,rfl⟩ noFill_tuple_add seq_tuple_add PySem.F.slot_tuple_add PySem.F.entry_tuple_add (PySem.F.args_tuple_add_2 _ _)
   (tuple_addW0 t b #[] ws.toArray n n2 dd dd2 sl sl2 (by simp)) ⟨ho,ho2,h⟩
theorem X8:OpR X (binaryOp .Add) (fun x y H Q=>∃ a b ys,x=.ref a/\y=.ref b/\SqT X.K H a []/\SqT X.K H b ys/\Q (.ref b) H):=by
 intro pins s σ H x y v u Q I rx ry h
 obtain⟨a,b,ys,rfl,rfl,ha,hb,q⟩:=h
 cases rx
 cases ry
 obtain⟨its,r1,p1,_⟩:=I.tuple ha
 cases r1
 obtain⟨its2,r2,p2,_⟩:=I.tuple hb
 exact My p1 p2 ⟨.ref b,H,I,rfl,q⟩
set_option tactic.hygienic true in
theorem Ao:OpM X (binaryOp .Add) Bu:=OpM.of (op_add.or (op_add_str.or (op_catT.or X8))) fun μ m x y z v u H Q S rx ry e q=>by
 cases rx<;>first|exact Ag e|skip
 all_goals cases ry<;>first|exact Ag e|skip
 ·cases e;exact .inl ⟨_,_,rfl,rfl,q _ H (Same.refl H) (.int _)⟩
 ·rename_i i ok j ok'
  unfold Bu at e
  simp only at e
  split at e
  ·cases e;exact .inr (.inl ⟨_,_,rfl,rfl,big (by assumption),q _ H (Same.refl H) (.str _ (Mq ok ok'))⟩)
  ·cases e
 ·rename_i ds a xs hq rs es b ys hq' rs'
  unfold Bu at e
  simp only at e
  split at e
  ·rename_i hl
   cases e
   by_cases hx:xs=[]
   ·subst hx
    cases rs
    exact .inr (.inr (.inr ⟨a,b,ys,rfl,rfl,hq,hq',q _ H (Same.refl H) (by rw[List.nil_append];exact .tup hq' rs')⟩))
   ·refine .inr (.inr (.inl ⟨a,b,xs,ys,rfl,rfl,hq,hq',hx,by rw[<- rs.length,<- rs'.length];exact big hl,fun hy=>?_,fun hy p hp=>?_⟩))
    ·subst hy
     cases rs'
     exact q _ H (Same.refl H) (by rw[Ar4];exact .tup hq rs)
    ·exact q _ _ (Bd hp) (.tup (.inl (.inl A9)) ((rs.append rs').same (Bd hp)))
  ·cases e
def sqL (m:MH):D->Option (List D)
 |.tup _=>none
 |d=>sq m d
def V7 (f g:FE):FL:=fun env m=>(f env m).bind fun x=>(g env m).bind fun y=>(sqL m x).bind fun xs=>(sqL m y).bind fun ys=>if xs.length+ys.length<=1000000 then some (xs++ys) else none
theorem Ha {K:W.Frag}{H:Hp}{μ:List Addr}{m:MH} (S:Sim K H μ m) {d:D}{v:V}{ds:List D} (r:Rep K H μ (·∈μ) d v) (h:sqL m d=some ds):∃ a xs,v=.ref a/\SqL K H a xs/\Reps K H μ (·∈μ) ds xs:=by
 cases r with
 |@ref n a e =>
  unfold sqL sq at h
  cases q:m[n]? with
  |none=>simp[q] at h
  |some o =>
   simp only[q] at h
   cases o with
   |dcs _ _=>cases h
   |dct _=>cases h
   |lst ds =>
    cases h
    obtain⟨xs,e1,e2⟩:=S.obj n a _ e q
    exact⟨a,xs,rfl,SqL.of e1,e2⟩
 |@lst ds a xs h1 h3 h2=>cases h;exact⟨a,xs,rfl,.inl h1,h2⟩
 |@kl ds a xs h1 h2=>cases h;exact⟨a,xs,rfl,h1.sq,h2⟩
 |_=>exact Ag h
theorem Ade:OpR X (binaryOp .Add) (fun x y H Q=>∃ l b xs zs,x=.ref l/\y=.ref b/\SqL X.K H l xs/\SqL X.K H b zs/\xs.length+zs.length<=sizeLine/\∀ p,H p=none->Q (.ref p) (upd H p (.lst (xs++zs)))):=by
 intro pins s σ H x y v u Q I rx ry h
 obtain⟨l,b,xs,zs,rfl,rfl,hl,hb,hz,q⟩:=h
 cases rx
 cases ry
 obtain⟨its,r,⟨⟨cls,dd,data,sl⟩,n,ho,hc,hdd,hd⟩,z⟩:=I.list hl
 obtain⟨its2,r2,⟨⟨cls2,dd2,data2,sl2⟩,n2,ho2,hc2,hdd2,hd2⟩,z2⟩:=I.list hb
 simp only at hc hd hc2 hd2 hdd hdd2
 subst hc hd hc2 hd2 hdd hdd2
 have hl:=r.length
 have hl2:=r2.length
 refine concat_meets ⟨_,ho,rfl⟩ ⟨_,ho2,rfl⟩ noFill_list_add seq_list_add PySem.F.slot_list_add PySem.F.entry_list_add (PySem.F.args_list_add_2 _ _)
   (list_addW l b its.toArray its2.toArray n n2 none none sl sl2 (by rw[Aq3,Aq3];lia)) ⟨ho,ho2,?_⟩
 have ea:its.toArray++its2.toArray=(its++its2).toArray:=by simp
 rw[ea]
 exact⟨.ref _,_,I.lnew (t':=s.toks) (r.append r2) (by rw[Arz];lia),rfl,q _ I.fresh⟩
theorem Ajo {f g:FE} (ha:PD X a f) (hb:PD X b g):PF X (.BinOp a .Add b pos) (V7 f g):=PE.imp (Adu Ade ha hb) fun σ H Q ⟨env,μ,m,d,S,E,h,q⟩=>by
 obtain⟨x,h1,h⟩:=bind_some h
 obtain⟨y,h2,h⟩:=bind_some h
 obtain⟨xs,h3,h⟩:=bind_some h
 obtain⟨ys,h4,h⟩:=bind_some h
 split at h
 ·rename_i hl
  cases h
  refine⟨env,μ,m,x,S,E,h1,fun v H1 s1 r1=>⟨env,μ,m,y,S.same s1,E.same s1,h2,fun u H2 s2 r2=>?_⟩⟩
  obtain⟨l,vs,rfl,e1,rs⟩:=Ha (S.same (s1.trans s2)) (r1.same s2) h3
  obtain⟨b,ws,rfl,e2,rs'⟩:=Ha (S.same (s1.trans s2)) r2 h4
  exact⟨l,b,vs,ws,rfl,rfl,e1,e2,by rw[<- rs.length,<- rs'.length];exact big hl,fun p hp=>q p _ _ ((s1.trans s2).trans (Bd hp)) ((s1.trans s2).free hp) A9 ((rs.append rs').fresh hp)⟩
 ·cases h
def Iw (X:Cx) (f:Value) (o:List D->MH->Option D):Prop :=
 ∀ (pins:List (Addr×Obj)) (s:Shared) (σ:St) (H:Hp) (μ:List Addr) (m:MH) (xs:List D) (z:D) (vs:List V) (us:List Value) (Q:VK),Inv X pins σ H s->Sim X.K H μ m->Reps X.K H μ (·∈μ) xs vs->Vals vs us->o xs m=some z ->
  (∀ w H2,Same H H2->Rep X.K H2 μ (·∈μ) z w->Q w H2)->wpAny (model X.prog X.w) X.A (call f us) (EP X pins σ Q) X.xe s
noncomputable def A3 (o:List D->MH->Option D) (g:FL):FE:=fun env m=>(g env m).bind fun xs=>o xs m
noncomputable def C4 (o:List D->MH->Option (List D)) (g:FL):FL:=fun env m=>(g env m).bind fun xs=>o xs m
theorem Ag8 (ho:Iw X k o) (ha:PL X es g) {s:Shared}{H:Hp} (I:Inv X pins σ H s) (h:tE X.K (A3 o g) σ H Q) :
  wpAny (model X.prog X.w) X.A (spliced (backTo pos (starEach es X.env))) (fun us s1=>wpAny (model X.prog X.w) X.A (call k us) (EP X pins σ Q) X.xe s1) X.xe s:=by
 obtain⟨env,μ,m,d,S,E,h,q⟩:=h
 obtain⟨xs,h1,h2⟩:=bind_some h
 refine thn (ha pos pins s σ H (fun vs H1=>Same H H1/\Reps X.K H1 μ (·∈μ) xs vs) I ⟨env,μ,m,xs,S,E,h1,fun v H1 s1 r1=>⟨s1,r1⟩⟩) fun us s1 ⟨vs,H1,I1,r1,s1',rx⟩=>?_
 exact ho pins s1 σ H1 μ m xs d vs us Q I1 (S.same s1') rx r1 h2 fun w H2 s2 r2=>q w H2 (s1'.trans s2) r2
theorem Js (hc:Iw X (.builtin id) o) (hg:Gl X x) (hm:X.mg x=none) (hv:bootBuiltins x=some (.builtin id)) (ha:PL X (e::es) g) (hn:x≠"__name__") (hdb:(x == ("__debug__":Str))=false) (he:starEach (e::es) X.env=(false,eval e X.env)::starEach es X.env) (hpl:(backTo pos (starEach es X.env)).any (·.1)=false):PD X (.Call (.Name x p) (e::es) [] pos) (A3 o g):=by
 intro pins s σ H Q I h
 refine Asu (Dq I hg hm hv ?_ hn hdb)
 exact PyProof.Rows.callWith_builtin1 (Ag8 hc ha I h) he hpl
theorem G3 (hc:Iw X (.type T) o) (hg:Gl X x) (hm:X.mg x=none) (hv:bootBuiltins x=some (.type T)) (ha:PL X (e::es) g) (hn:x≠"__name__") (hdb:(x == ("__debug__":Str))=false) (he:starEach (e::es) X.env=(false,eval e X.env)::starEach es X.env) (hpl:(backTo pos (starEach es X.env)).any (·.1)=false):PD X (.Call (.Name x p) (e::es) [] pos) (A3 o g):=by
 intro pins s σ H Q I h
 refine Asu (Dq I hg hm hv ?_ hn hdb)
 exact PyProof.Rows.callWith_type1 (Ag8 hc ha I h) he hpl
inductive R1 (K:W.Frag) (H:Hp) (μ:List Addr) (B:Addr->Prop) (d:D) (vs:List V):Prop where
 |mk (v:V) (e:vs=[v]) (r:Rep K H μ B d v)
theorem Reps.one {K:W.Frag}{H:Hp}{μ:List Addr}{B:Addr->Prop}{d:D}{vs:List V} (r:Reps K H μ B [d] vs):R1 K H μ B d vs:=by
 cases r with
 |cons h r=>cases r;exact⟨_,rfl,h⟩
theorem Reps.two {K:W.Frag}{H:Hp}{μ:List Addr}{B:Addr->Prop}{d d':D}{vs:List V} (r:Reps K H μ B [d,d'] vs):∃ v v',vs=[v,v']/\Rep K H μ B d v/\Rep K H μ B d' v':=by
 cases r with
 |cons h r =>
  cases r with
  |cons h' r=>cases r;exact⟨_,_,rfl,h,h'⟩
def Anm (m:MH):D->Option Nat
 |.str z=>if z.length<=1000000 then some z.length else none
 |d=>(sq m d).bind fun ds=>some ds.length
def Ec:List D->MH->Option D:=fun xs m=>match xs with
 |[d]=>(Anm m d).bind fun n=>some (.int n)
 |_=>none
theorem Ac1 {K:W.Frag}{H:Hp}{μ:List Addr}{m:MH} (S:Sim K H μ m) {d:D}{v:V}{n:Nat} (r:Rep K H μ (·∈μ) d v) (h:Anm m d=some n):Alk K v H n:=by
 have seq:((sq m d).bind fun ds=>some ds.length)=some n->Alk K v H n:=fun h=>by
  obtain⟨ds,h1,h2⟩:=bind_some h
  cases h2
  obtain⟨a,xs,rfl,hq,rs⟩:=Ou S r h1
  rcases hq with hq|hq
  ·exact .inl ⟨xs,hq,rs.length⟩
  ·exact .inr ⟨xs,hq,rs.length⟩
 cases r with
 |str z ok =>
  unfold Anm at h
  simp only at h
  split at h
  ·cases h;exact⟨big (by assumption),rfl⟩
  ·exact Ag h
 |non=>exact seq h
 |bl _=>exact seq h
 |int _=>exact seq h
 |tup h1 h2=>exact seq h
 |lst h1 h2 h3=>exact seq h
 |kl h1 h2=>exact seq h
 |dic h1 h2 h3 h4=>exact seq h
 |dks _ _ _ _=>exact seq h
 |fz _ _ _=>exact seq h
 |fn _=>exact seq h
 |ref h'=>exact seq h
theorem Ahb:Iw X (.builtin "len") Ec:=by
 intro pins s σ H μ m xs z vs us Q I S rx rv e q
 match xs,e with
 |[d],e =>
  obtain⟨n,h1,h2⟩:=bind_some e
  cases h2
  obtain⟨v,rfl,r⟩:=rx.one
  exact Vv pins s σ H [v] us Q I rv ⟨v,n,rfl,Ac1 S r h1,q _ H (Same.refl H) (.int _)⟩
noncomputable def Ac9:List D->MH->Option D:=fun xs _=>match xs with
 |[.int i]=>some (.int i)
 |[.bl b]=>some (.int (if b then 1 else 0))
 |[.str z]=>if z.length<=640 then (PySem.intText? z).bind fun i=>some (.int i) else none
 |_=>none
theorem Uj {α:Type}{o:List D->Option α}{xs:List D}{z:α} (hn:o []=none) (hc:∀ a b l,o (a::b::l)=none) (e:o xs=some z):∃ d,xs=[d]:=by
 cases xs with
 |nil=>rw[hn] at e;exact Ag e
 |cons a l =>
  cases l with
  |nil=>exact⟨a,rfl⟩
  |cons b l=>rw[hc] at e;exact Ag e
theorem Aha:Iw X (.type "int") Ac9:=by
 intro pins s σ H μ m xs z vs us Q I S rx rv e q
 obtain⟨d,rfl⟩:=Uj (o:=(Ac9 · m)) rfl (fun a _ _=>by cases a<;>rfl) e
 obtain⟨v,rfl,r⟩:=rx.one
 cases r with
 |int i =>
  cases e
  exact Le pins s σ H _ us Q I rv (.inl ⟨i,rfl,q _ H (Same.refl H) (.int _)⟩)
 |bl b =>
  cases e
  exact Le pins s σ H _ us Q I rv (.inr ⟨b,rfl,q _ H (Same.refl H) (.int _)⟩)
 |str x _ =>
  unfold Ac9 at e
  simp only at e
  split at e
  ·obtain⟨i,h1,h2⟩:=bind_some e
   cases h2
   obtain⟨u,rfl,t,rfl⟩:=J2 rv
   exact W.KIN.call_text h1 (by assumption) ⟨.int i,H,I.tok _,⟨_,rfl⟩,q _ H (Same.refl H) (.int _)⟩
  ·cases e
 |_=>exact Ag e
theorem Bf (z:String):PyData.strOk (Str.ofString z)=true:=by
 rw[Hc]
 intro c hc
 rw[Str.ofString_eq_toList] at hc
 have:c∈z.toList.map Char.toNat:=by simpa using hc
 obtain⟨k,_,rfl⟩:=List.mem_map.mp this
 have:=k.valid
 rcases this with h|h
 ·show k.val.toNat < _
  lia
 ·show k.val.toNat < _
  lia
def Gy:List D->MH->Option D:=fun xs m=>match xs with
 |[d]=>(sq m d).bind fun ds=>some (.tup ds)
 |_=>none
theorem Vz:Iw X (.type "tuple") Gy:=by
 intro pins s σ H μ m xs z vs us Q I S rx rv e q
 match xs,e with
 |[d],e =>
  obtain⟨ds,h1,h2⟩:=bind_some e
  cases h2
  obtain⟨v,rfl,r⟩:=rx.one
  obtain⟨a,ys,rfl,hq,rs⟩:=Ou S r h1
  refine Jd pins s σ H _ us Q I rv ⟨a,ys,rfl,?_⟩
  rcases hq with hq|hq
  ·exact .inl ⟨hq,fun l hl=>q _ _ (Bd hl) (.tup (.inl (.inl A9)) (rs.same (Bd hl)))⟩
  ·exact .inr ⟨hq,q _ H (Same.refl H) (.tup hq rs)⟩
noncomputable def tyD (m:MH):D->Option String
 |.non=>some "NoneType"|.bl _=>some "bool"|.int _=>some "int"|.str _=>some "str"|.tup _=>some "tuple"|.lst _=>some "list"|.kl _=>some "list"
 |.ref n=>match m[n]? with
  |some (.lst _)=>some "list"
  |some (.dct _ _)=>none
  |some (.dcs _ _)=>none
  |none=>none
 |.dic _ _=>none
 |.dks _ _=>none
 |.fz _ _ _ _=>none
 |.fn _ _=>none
noncomputable def Pj (T U:String):Option Bool:=if U="int"\/U="bool"\/U="str"\/U="tuple"\/U="list" then some (T == U||(T == "bool"&&U == "int")) else none
theorem Hm (K:W.Frag) {T U:String}{b:Bool} (hT:T="NoneType"\/T="bool"\/T="int"\/T="str"\/T="tuple"\/T="list") (h:Pj T U=some b):W.kitOne K (.type T) (.type U)=some b:=by
 unfold Pj at h
 split at h
 ·rename_i hU
  cases h
  rcases hT with rfl|rfl|rfl|rfl|rfl|rfl<;>rcases hU with rfl|rfl|rfl|rfl|rfl<;>kernel_rfl
 ·cases h
def Ab3 (U:String) (f:FE):FE:=fun env m=>(f env m).bind fun d=>(tyD m d).bind fun T=>(Pj T U).bind fun b=>some (.bl b)
end
section
variable {X:Cx}{a b c e o':Expr}{es:List Expr}{pos p p' apos cpos:Pos}{x:Str}{id T:String}
theorem Acx {pins:List (Addr×Obj)}{σ:St}{H:Hp}{s:Shared}{A:Around}{E:Value->Shared->Prop}{Q:Value->Shared->Prop}{a:Addr}{xs:List V}{c:Value}{b:Bool} (I:Inv X pins σ H s) (h:SqT X.K H a xs) (e:W.kitOne X.K (.type "tuple") c=some b) (q:∀ tk,Q (.bool b) { s with toks:=tk }) :
  wpAny (model X.prog X.w) A (call (.builtin "isinstance") [.ref a,c]) Q E s:=by
 obtain⟨its,_,⟨o,h1,h2,_⟩,_⟩:=I.tuple h
 exact W.kia_one W.kitx_tuple I.kIn ⟨o,h1,h2⟩ e (fun z=>nomatch z) q
theorem Ank {pins:List (Addr×Obj)}{σ:St}{H:Hp}{s:Shared}{A:Around}{E:Value->Shared->Prop}{Q:Value->Shared->Prop}{μ:List Addr}{m:MH}{d:D}{v:V}{u:Value}{T U:String}{b:Bool} (I:Inv X pins σ H s) (S:Sim X.K H μ m) (r:Rep X.K H μ (·∈μ) d v) (ru:RelV v u)
  (h:tyD m d=some T) (hb:Pj T U=some b) (q:∀ tk,Q (.bool b) { s with toks:=tk }):wpAny (model X.prog X.w) A (call (.builtin "isinstance") [u,.type U]) Q E s:=by
 cases r with
 |non=>cases h;exact B5 I ru .non (Hm X.K (by simp) hb) q
 |bl b=>cases h;exact B5 I ru (.bl b) (Hm X.K (by simp) hb) q
 |int b=>cases h;exact B5 I ru (.int b) (Hm X.K (by simp) hb) q
 |str b _=>cases h;exact B5 I ru (.str b) (Hm X.K (by simp) hb) q
 |tup h1 h2=>cases h;cases ru;exact Acx I h1 (Hm X.K (by simp) hb) q
 |lst h1 h2 h3 =>
  cases h
  rcases h1 with h1|⟨o,h1⟩
  ·exact B5 I ru (.lst h1) (Hm X.K (by simp) hb) q
  ·exact B5 I ru (.frz h1) (Hm X.K (by simp) hb) q
 |kl h1 h2 =>
  cases h
  cases ru
  rcases h1 with ⟨o,h1⟩|⟨o,its,n,hk,hc,_⟩
  ·exact B5 (x:=.ref _) (u:=.ref _) I rfl (.frz h1) (Hm X.K (by simp) hb) q
  ·exact W.kia_one W.kitx_list I.kIn ⟨o,I.kIn _ _ hk,hc⟩ (Hm X.K (by simp) hb) (fun z=>nomatch z) q
 |dic h1 h2 h3 h4=>exact Ag h
 |dks _ _ _ _=>exact Ag h
 |fz _ _ _=>exact Ag h
 |fn _=>exact Ag h
 |@ref n a e =>
  unfold tyD at h
  cases q':m[n]? with
  |none=>simp[q'] at h
  |some ob =>
   simp only[q'] at h
   cases ob with
   |dcs _ _=>cases h
   |dct _ _=>cases h
   |lst ds =>
    cases h
    obtain⟨xs,e1,e2⟩:=S.obj n a _ e q'
    exact B5 I ru (.lst e1) (Hm X.K (by simp) hb) q
theorem Ajd (ha:PD X e f) (hg:Gl X "isinstance") (hm:X.mg "isinstance"=none) (hg':Gl X y) (hm':X.mg y=none) (hv':bootBuiltins y=some (.type U)) (hn:y≠"__name__") (hdb:(y == ("__debug__":Str))=false) (hv:bootBuiltins "isinstance"=some (.builtin "isinstance")) (he:starEach [e,.Name y p'] X.env=(false,eval e X.env)::starEach [.Name y p'] X.env) (he':starEach [.Name y p'] X.env=(false,eval (.Name y p') X.env)::starEach [] X.env) (hpl:(backTo pos (starEach [.Name y p'] X.env)).any (·.1)=false) :
  PD X (.Call (.Name "isinstance" p) [e,.Name y p'] [] pos) (Ab3 U f):=by
 intro pins s σ H Q I h
 obtain⟨env,μ,m,z,S,E,h,q⟩:=h
 obtain⟨d,h1,h⟩:=bind_some h
 obtain⟨T,h2,h⟩:=bind_some h
 obtain⟨b,h3,h⟩:=bind_some h
 cases h
 have hA:PA X [e,.Name y p'] (Afb (tE X.K f) (Afb (tC (.ty U)) Apo)):=Nh ha (Nh (Ads hg' hm' hv' rfl hn hdb) Aah he') he
 refine Asu (Dq I hg hm hv ?_ (by decide) (by decide))
 refine PyProof.Rows.callWith_builtin1 (thn (hA pos pins s σ H (fun vs H1=>∃ v,vs=[v,.ty U]/\Same H H1/\Rep X.K H1 μ (·∈μ) d v) I ⟨env,μ,m,d,S,E,h1,fun v H1 s1 r1=>⟨v,rfl,s1,r1⟩⟩) fun us s1 ⟨vs,H1,I1,rv,v,e1,s1',rx⟩=>?_) he hpl
 subst e1
 obtain⟨u,w,rfl,r1,r2⟩:=Ak1 rv
 cases r2
 have S1:=S.same s1'
 have fin:∀ tk,EP X pins σ Q (.bool b) { s1 with toks:=tk }:=fun tk=>⟨.bl b,H1,I1.tok _,rfl,q _ H1 s1' (.bl b)⟩
 exact Ank I1 S1 rx r1 h2 h3 fin
def inO (m:MH) (x y:D):Option Bool:=match y with
 |.str z=>(match x with
  |.str w=>some (!(Builtin.Str.occurrences z w 0 z.length 1).isEmpty)
  |_=>none)
 |y=>(Ca m x).bind fun x'=>(Ca m y).bind fun y'=>(sq [] y').bind fun ds=>if dep x'<=50 then some (ds.any fun d=>deq d x') else none
def oIn:D->D->MH->Option D:=fun x y m=>(inO m x y).bind fun b=>some (.bl b)
def L6:D->D->MH->Option D:=fun x y m=>(inO m x y).bind fun b=>some (.bl (!b))
mutual
theorem Ta {pins:List (Addr×Obj)}{σ:St}{H:Hp}{s:Shared}{A:Around}{d d':D}{v v':V}{u u':Value}{μ:List Addr}{B:Addr->Prop} (I:Inv X pins σ H s) (r:Rep X.K H μ B d v) (r':Rep X.K H μ B d' v') (n:Bm d=true) (n':Bm d'=true) (ru:RelV v u) (ru':RelV v' u') (hu:A.units+dep d' < cLine) :
  SeqAt.EqAt A s u u' (deq d d'):=by
 obtain⟨as,ra⟩:=C1 I r n ru
 obtain⟨bs,rb⟩:=C1 I r' n' ru'
 refine SeqAt.eqAt_reads _ _ _ _ _ _ _ _ ra rb (Dy r) (Dy r') ?_
 rw[Gk,Gk]
 lia
end
theorem Bw:∀ {ds:List D}{d:D},Ar ds=true->d∈ds->Bm d=true
 |_::_,_,h,.head _=>(Bool.and_eq_true_iff.mp h).1
 |_::_,_,h,.tail _ q=>Bw (Bool.and_eq_true_iff.mp h).2 q
theorem Rep.tl {pins:List (Addr×Obj)}{σ:St}{H:Hp}{s:Shared}{a:Addr}{xs ys:List V} (I:Inv X pins σ H s) (h:SqT X.K H a xs) (h':SqL X.K H a ys):False:=by
 obtain⟨its,_,p,_⟩:=I.tuple h
 obtain⟨its',_,p',_⟩:=I.list h'
 exact SeqAt.ne_of_list_tuple p'.isList p rfl
mutual
theorem Vb {H:Hp}{s:Shared} (I:Inv X pins σ H s) {d d':D}{v:V} (r:Rep X.K H μ B d v) (q:Rep X.K H μ B d' v) (n:Bm d=true) (n':Bm d'=true):pyD d=pyD d':=by
 cases r with
 |non=>cases q;rfl
 |bl _=>cases q;rfl
 |int _=>cases q;rfl
 |str _ _=>cases q;rfl
 |ref _=>exact Bn n
 |dic _ _ _ _=>exact Bn n
 |dks _ _ _ _=>exact Bn n
 |fz _ _ _=>exact Bn n
 |fn _=>exact Bn n
 |tup h r =>
  cases q with
  |tup h' r' =>
   cases I.tuple_inj h h'
   exact Asd PyData.tuple (Dk I r r' n n')
  |lst h' _ r'=>exact (Rep.tl I h (.inl h')).elim
  |kl h' r'=>exact (Rep.tl I h h'.sq).elim
  |_=>exact Bn n'
 |lst h _ r =>
  cases q with
  |tup h' r'=>exact (Rep.tl I h' (.inl h)).elim
  |lst h' _ r' =>
   cases I.list_inj (.inl h) (.inl h')
   exact Asd PyData.list (Dk I r r' n n')
  |kl h' r' =>
   cases I.list_inj (.inl h) h'.sq
   exact Asd PyData.list (Dk I r r' n n')
  |_=>exact Bn n'
 |kl h r =>
  cases q with
  |tup h' r'=>exact (Rep.tl I h' h.sq).elim
  |lst h' _ r' =>
   cases I.list_inj h.sq (.inl h')
   exact Asd PyData.list (Dk I r r' n n')
  |kl h' r' =>
   cases I.list_inj h.sq h'.sq
   exact Asd PyData.list (Dk I r r' n n')
  |_=>exact Bn n'
theorem Dk {H:Hp}{s:Shared} (I:Inv X pins σ H s) {d d':List D}{v:List V} (r:Reps X.K H μ B d v) (q:Reps X.K H μ B d' v) (n:Ar d=true) (n':Ar d'=true):C7 d=C7 d':=by
 cases r with
 |nil=>cases q;rfl
 |cons h r =>
  cases q with
  |cons h' r' =>
  have e:=Bool.and_eq_true_iff.mp n
  have e':=Bool.and_eq_true_iff.mp n'
  rw[C7,C7,Vb I h h' e.1 e'.1,Dk I r r' e.2 e'.2]
end
theorem Jk {pins:List (Addr×Obj)}{σ:St}{H:Hp}{s:Shared}{A:Around}{μ:List Addr}{B:Addr->Prop}{x:D}{vx:V}{ux:Value} (I:Inv X pins σ H s) (rx:Rep X.K H μ B x vx) (nx:Bm x=true) (rux:RelV vx ux) (hu:A.units+dep x < cLine)
  {ds:List D}{vs:List V}{us:List Value} (rs:Reps X.K H μ B ds vs) (ns:Ar ds=true) (rv:Vals vs us) :
  ∃ e:Value->Bool,(∀ y∈us,SeqAt.EqAt A s y ux (e y))/\us.any e=ds.any fun d=>deq d x:=by
 have key:∀ y,∃ b:Bool,∀ (i:Nat) (d:D),us[i]?=some y->ds[i]?=some d->b=deq d x:=fun y=>by
  by_cases h:∃ (i:Nat) (d:D),us[i]?=some y/\ds[i]?=some d
  ·obtain⟨i,d,h1,h2⟩:=h
   refine⟨deq d x,fun j d' h3 h4=>?_⟩
   obtain⟨v,e1,r1⟩:=rs.get h2
   obtain⟨v',e2,r2⟩:=rs.get h4
   obtain⟨u,e3,r3⟩:=rv.get e1
   obtain⟨u',e4,r4⟩:=rv.get e2
   rw[h1] at e3;cases e3
   rw[h3] at e4;cases e4
   cases r3.inj r4
   unfold deq
   rw[Vb I r1 r2 (Bw ns (Ard h2)) (Bw ns (Ard h4))]
  ·exact⟨false,fun i d h1 h2=>absurd ⟨i,d,h1,h2⟩ h⟩
 refine⟨fun y=>Classical.choose (key y),fun y hy=>?_,?_⟩
 ·obtain⟨i,hi⟩:=Asv hy
  have hil:i < ds.length:=by
   have:=(List.getElem?_eq_some_iff.mp hi).1
   rw[rs.length,rv.length];exact this
  obtain⟨v,e1,r1⟩:=rs.get (i:=i) (d:=ds[i]) (by simp[hil])
  obtain⟨u,e3,r3⟩:=rv.get e1
  rw[hi] at e3;cases e3
  have ec:=Classical.choose_spec (key y) i ds[i] hi (by simp[hil])
  show SeqAt.EqAt A s y ux (Classical.choose (key y))
  rw[ec]
  exact Ta I r1 rx (Bw ns (Ar9 hil)) nx r3 rux hu
 ·have aux:∀ (f:Value->Bool) (ds:List D) (us:List Value),us.length=ds.length->(∀ (i:Nat) (y:Value) (d:D),us[i]?=some y->ds[i]?=some d->f y=deq d x)->us.any f=ds.any fun d=>deq d x:=fun f=>by
   intro ds
   induction ds with
   |nil=>intro us hl _;cases us with
    |nil=>rfl
    |cons _ _=>cases hl
   |cons d ds ih =>
    intro us hl h
    cases us with
    |nil=>cases hl
    |cons y us =>
     rw[List.any_cons,List.any_cons,h 0 y d rfl rfl,ih us (by simpa using hl) fun i y d h1 h2=>h (i+1) y d (by simpa using h1) (by simpa using h2)]
  exact aux _ ds us (by rw[rs.length,rv.length]) fun i y d h1 h2=>Classical.choose_spec (key y) i d h1 h2
theorem Ts {k:Nat} (hr:Room k X.A) {pins:List (Addr×Obj)}{s:Shared}{σ:St}{H:Hp}{μ:List Addr}{m:MH}{x y:D}{v u:V}{v' u':Value}{b:Bool}{R:Bool->Prop} (I:Inv X pins σ H s) (S:Sim X.K H μ m) (rx:Rep X.K H μ (·∈μ) x v) (ry:Rep X.K H μ (·∈μ) y u) (r1:RelV v v') (r2:RelV u u')
  (e:inO m x y=some b):(∃ z w t t',v'=.str w t/\u'=.str z t'/\b=!(Builtin.Str.occurrences z w 0 z.length 1).isEmpty) \/
   ∃ (p:Addr) (its:List Value) (e:Value->Bool),u'=.ref p/\(s.heap.IsList p its.toArray\/s.heap.IsTuple p its.toArray)/\(∀ y∈its,SeqAt.EqAt X.A.in1 s y v' (e y))/\its.any e=b:=by
 have seq:((Ca m x).bind fun x'=>(Ca m y).bind fun y'=>(sq [] y').bind fun ds=>if dep x'<=50 then some (ds.any fun d=>deq d x') else none)=some b ->
   ∃ (p:Addr) (its:List Value) (e:Value->Bool),u'=.ref p/\(s.heap.IsList p its.toArray\/s.heap.IsTuple p its.toArray)/\(∀ y∈its,SeqAt.EqAt X.A.in1 s y v' (e y))/\its.any e=b:=fun h=>by
  obtain⟨x',h1,h⟩:=bind_some h
  obtain⟨y',h2,h⟩:=bind_some h
  obtain⟨ds,h3,h⟩:=bind_some h
  split at h
  ·rename_i hd
   cases h
   obtain⟨a1,n1⟩:=Bh S rx h1
   obtain⟨a2,n2⟩:=Bh S ry h2
   have hu:=hr.units
   have hu':X.A.in1.units+dep x' < cLine:=by show X.A.units+1+dep x' < cLine;lia
   cases a2 with
   |@tup es a xs hq rs =>
    cases h3
    cases r2
    obtain⟨its,rv,p,_⟩:=I.tuple hq
    obtain⟨f,h4,h5⟩:=Jk I a1 n1 r1 hu' rs n2 rv
    exact⟨a,its,f,rfl,.inr p,h4,h5⟩
   |@lst es a xs hq _ rs =>
    cases h3
    cases r2
    obtain⟨its,rv,p,_⟩:=I.list (.inl hq)
    obtain⟨f,h4,h5⟩:=Jk I a1 n1 r1 hu' rs n2 rv
    exact⟨a,its,f,rfl,.inl p.isList,h4,h5⟩
   |@kl es a xs hq rs =>
    cases h3
    cases r2
    obtain⟨its,rv,p,_⟩:=I.list hq.sq
    obtain⟨f,h4,h5⟩:=Jk I a1 n1 r1 hu' rs n2 rv
    exact⟨a,its,f,rfl,.inl p.isList,h4,h5⟩
   |_=>cases h3
  ·cases h
 cases ry with
 |str z ok =>
  cases rx with
  |str w ok' =>
   cases e
   obtain⟨t,rfl⟩:=r1
   obtain⟨t',rfl⟩:=r2
   exact .inl ⟨z,w,t,t',rfl,rfl,rfl⟩
  |_=>cases e
 |non=>exact .inr (seq e)
 |bl _=>exact .inr (seq e)
 |int _=>exact .inr (seq e)
 |tup h1 h2=>exact .inr (seq e)
 |lst h1 h2 h3=>exact .inr (seq e)
 |kl h1 h2=>exact .inr (seq e)
 |dic _ _ _ _=>exact .inr (seq e)
 |dks _ _ _ _=>exact .inr (seq e)
 |fz _ _ _=>exact .inr (seq e)
 |fn _=>exact .inr (seq e)
 |ref h'=>exact .inr (seq e)
theorem Anv (hr:Room k X.A):OpM X (compareOp .In) oIn:=by
 intro pins s σ H μ m x y z v u v' u' Q I S rx ry r1 r2 e q
 obtain⟨b,h1,h2⟩:=bind_some e
 cases h2
 have fin:EP X pins σ Q (.bool b) s:=⟨.bl b,H,I,rfl,q _ H (Same.refl H) (.bl b)⟩
 rcases Ts (R:=fun _=>True) hr I S rx ry r1 r2 h1 with ⟨z,w,t,t',rfl,rfl,hb⟩|⟨p,its,f,rfl,hp,hf,hb⟩
 ·subst hb;exact in_str fin
 ·subst hb
  rcases hp with hp|hp
  ·exact SeqAt.in_listAt f hp (fun y hy=>hf y (by simpa using hy)) (by simpa using fin)
  ·exact SeqAt.in_tupleAt f hp (fun y hy=>hf y (by simpa using hy)) (by simpa using fin)
theorem X7 (hr:Room k X.A):OpM X (compareOp .NotIn) L6:=by
 intro pins s σ H μ m x y z v u v' u' Q I S rx ry r1 r2 e q
 obtain⟨b,h1,h2⟩:=bind_some e
 cases h2
 have fin:EP X pins σ Q (.bool (!b)) s:=⟨.bl (!b),H,I,rfl,q _ H (Same.refl H) (.bl (!b))⟩
 rcases Ts (R:=fun _=>True) hr I S rx ry r1 r2 h1 with ⟨z,w,t,t',rfl,rfl,hb⟩|⟨p,its,f,rfl,hp,hf,hb⟩
 ·subst hb;exact notIn_str fin
 ·subst hb
  rcases hp with hp|hp
  ·exact SeqAt.notIn_listAt f hp (fun y hy=>hf y (by simpa using hy)) (by simpa using fin)
  ·exact SeqAt.notIn_tupleAt f hp (fun y hy=>hf y (by simpa using hy)) (by simpa using fin)
end
open Classical in
noncomputable section
inductive Out where
 |nx (env:Ba) (m:MH)|rt (d:D) (m:MH)|bk (env:Ba) (m:MH)|ct (env:Ba) (m:MH)
abbrev FS:=Ba->MH->Option Out
def FinS (K:W.Frag) (H:Hp) (μ:List Addr) (o:Out) (Dn:Ends):Prop:=match o with
 |.nx env' m'=>∀ σ' H' μ',Step H μ H' μ'->Sim K H' μ' m'->EnvRep K H' μ' σ' env'->Dn.nx σ' H'
 |.bk env' m'=>∀ σ' H' μ',Step H μ H' μ'->Sim K H' μ' m'->EnvRep K H' μ' σ' env'->Dn.bk σ' H'
 |.ct env' m'=>∀ σ' H' μ',Step H μ H' μ'->Sim K H' μ' m'->EnvRep K H' μ' σ' env'->Dn.ct σ' H'
 |.rt d m'=>∀ v H' μ',Step H μ H' μ'->Sim K H' μ' m'->Rep K H' μ' (·∈μ') d v->Dn.rt v H'
inductive tS (K:W.Frag) (g:FS) (Dn:Ends) (σ:St) (H:Hp):Prop
 |mk (env:Ba) (μ:List Addr) (m:MH) (o:Out) (S:Sim K H μ m) (E:EnvRep K H μ σ env) (h:g env m=some o) (q:FinS K H μ o Dn)
abbrev PSD (X:Cx) (st:Stmt) (g:FS):Prop:=PS X st (tS X.K g)
abbrev Vm (X:Cx) (st:List Stmt) (g:FS):Prop:=PSs X st (tS X.K g)
theorem PS.imp {t t':TS} (h:PS X e t) (i:∀ D σ H,t' D σ H->t D σ H):PS X e t':=fun pins s σ H D I q=>h pins s σ H D I (i D σ H q)
theorem PSs.imp {t t':TS} (h:PSs X e t) (i:∀ D σ H,t' D σ H->t D σ H):PSs X e t':=fun pins s σ H D I q=>h pins s σ H D I (i D σ H q)
theorem PG.imp {t t':TG} (h:PG X e t) (i:∀ v σ H Q,t' v σ H Q->t v σ H Q):PG X e t':=fun pins s σ H v u Q I r q=>h pins s σ H v u Q I r (i v σ H Q q)
theorem FinS.step {K:W.Frag}{H H1:Hp}{μ μ1:List Addr}{m m1:MH}{o:Out}{Dn:Ends} (S:Sim K H μ m) (S1:Sim K H1 μ1 m1) (s:Step H μ H1 μ1) (f:FinS K H μ o Dn):FinS K H1 μ1 o Dn:=by
 have hn:=s.none S S1
 cases o with
 |nx e m'=>exact fun σ' H' μ' s' S' E'=>f σ' H' μ' (s.trans s' hn) S' E'
 |bk e m'=>exact fun σ' H' μ' s' S' E'=>f σ' H' μ' (s.trans s' hn) S' E'
 |ct e m'=>exact fun σ' H' μ' s' S' E'=>f σ' H' μ' (s.trans s' hn) S' E'
 |rt e m'=>exact fun σ' H' μ' s' S' E'=>f σ' H' μ' (s.trans s' hn) S' E'
section
variable {X:Cx}{a b c e:Expr}{es:List Expr}{pos p p':Pos}{x:Str}{st:Stmt}{rest:List Stmt}
noncomputable def Cg:FS:=fun env m=>some (.nx env m)
noncomputable def A8 (f g:FS):FS:=fun env m=>(f env m).bind fun o=>match o with
 |.nx env' m'=>g env' m'
 |o=>some o
theorem Ad8:Vm X [] Cg:=PSs.imp Aeb fun D σ H ⟨env,μ,m,o,S,E,h,f⟩=>by
 cases h
 exact f σ H μ Step.refl S E
theorem tS.seq {K:W.Frag}{f g:FS}{Dn:Ends}{σ:St}{H:Hp} (h:tS K (A8 f g) Dn σ H):App (tS K f) (tS K g) Dn σ H:=by
 obtain⟨env,μ,m,o,S,E,h,q⟩:=h
 obtain⟨o1,h1,h2⟩:=bind_some h
 refine⟨env,μ,m,o1,S,E,h1,?_⟩
 cases o1 with
 |nx env' m'=>exact fun σ' H' μ' s' S' E'=>⟨env',μ',m',o,S',E',h2,q.step S S' s'⟩
 |rt d m'=>cases h2;exact q
 |bk d m'=>cases h2;exact q
 |ct d m'=>cases h2;exact q
theorem Yi (h1:PSD X st f) (h2:Vm X rest g):Vm X (st::rest) (A8 f g):=PSs.imp (Ym h1 h2) fun _ _ _ h=>h.seq
theorem Ad9 (h1:PSD X st f):Vm X [st] f:=Aec h1
noncomputable def Mj:FS:=fun env m=>some (.bk env m)
theorem Uu:PSD X (.Break pos) Mj:=PS.imp Yh fun D σ H ⟨env,μ,m,o,S,E,h,f⟩=>by
 cases h
 exact f σ H μ Step.refl S E
noncomputable def Cn (f:FE):FS:=fun env m=>(f env m).bind fun d=>some (.rt d m)
theorem Aea (he:PD X e f):PSD X (.Return (some e) pos) (Cn f):=PS.imp (Aal he) fun D σ H ⟨env,μ,m,o,S,E,h,q⟩=>by
 obtain⟨d,h1,h2⟩:=bind_some h
 cases h2
 exact⟨env,μ,m,d,S,E,h1,fun v H' s r=>q v H' μ (Step.of_same s) (S.same s) r⟩
theorem Sim.push {K:W.Frag}{H H':Hp}{μ:List Addr}{m:MH}{a:Addr}{ds:List D}{xs:List V} (S:Sim K H μ m) (s:Same H H') (hn:H a=none) (ha:H' a=some (.lst xs)) (r:Reps K H' μ (nw μ a) ds xs) :
  Step H μ H' (μ++[a])/\Sim K H' (μ++[a]) (m++[.lst ds]):=by
 have st:Step H μ H' (μ++[a]):=⟨⟨[a],rfl,fun b hb=>by rw[show b=a by simpa using hb];exact hn⟩,fun b o e _=>s b o e⟩
 have na:a∉μ:=S.nnone hn
 refine⟨st,?_,?_,fun n b o h1 h2=>?_⟩
 ·rw[List.nodup_append]
  exact⟨S.nd,by simp,fun b hb c hc z=>na (by rw[<- show c=a by simpa using hc,<- z];exact hb)⟩
 ·simp[S.len]
 ·by_cases hl:n < μ.length
  ·rw[Arm hl] at h1
   rw[Arm (by rw[<- S.len];exact hl)] at h2
   have q:=S.obj n b o h1 h2
   cases o with
   |lst es=>obtain⟨ys,q1,q2⟩:=q;exact⟨ys,s _ _ q1,q2.step S st⟩
   |dcs ks vs=>obtain⟨ys,q1,q2,q3⟩:=q;exact⟨ys,s _ _ q1,q2,q3.step S st⟩
   |dct ks vs=>obtain⟨ys,q1,q2,q3⟩:=q;exact⟨ys,s _ _ q1,q2,q3.step S st⟩
  ·have e:n=μ.length:=by
    have:=(List.getElem?_eq_some_iff.mp h1).1
    rw[Arz,As8] at this
    lia
   subst e
   rw[Aru (Aq5 _)] at h1
   rw[S.len,Aru (Aq5 _)] at h2
   simp at h1 h2
   subst h1
   subst h2
   refine⟨xs,ha,r.up (fun _ _ _ h=>h) (fun c u _ h b=>⟨h,fun z=>b ?_⟩) fun _ _ h=>st.ix h⟩
   rcases List.mem_append.mp z with z|z
   ·exact .inl z
   ·exact .inr (by simpa using z)
noncomputable def Eb (f:FL):FS:=fun env m=>(f env m).bind fun ds=>some (.rt (.ref m.length) (m++[.lst ds]))
theorem Nq {K:W.Frag}{H:Hp}{μ:List Addr}{B:Addr->Prop}{m:MH}{a:Addr} (hl:μ.length=m.length):Rep K H (μ++[a]) B (.ref m.length) (.ref a):=.ref (by rw[<- hl];simp)
theorem Yk {f:FL} (he:PF X e f):PSD X (.Return (some e) pos) (Eb f):=PS.imp (Aal he) fun D σ H ⟨env,μ,m,o,S,E,h,q⟩=>by
 obtain⟨ds,h1,h2⟩:=bind_some h
 cases h2
 refine⟨env,μ,m,ds,S,E,h1,fun a xs H' s hn ha r=>?_⟩
 obtain⟨st,S'⟩:=S.push s hn ha r
 exact q _ H' _ st S' (Nq S.len)
noncomputable def sIf (t:FB) (f g:FS):FS:=fun env m=>(t env m).bind fun c=>if c=true then f env m else g env m
theorem Ajv {t:FB} (hc:PB X c t) (ha:Vm X sa f) (hb:Vm X sb g):PSD X (.If c sa sb pos) (sIf t f g):=PS.imp (Aoa hc ha hb) fun D σ H ⟨env,μ,m,o,S,E,h,q⟩=>by
 obtain⟨b,h1,h2⟩:=bind_some h
 refine⟨env,μ,m,b,S,E,h1,fun H1 s1=>?_⟩
 have st:=Step.of_same (μ:=μ) s1
 cases b with
 |true =>
  rw[Aq4 rfl] at h2
  exact Apf ⟨env,μ,m,o,S.same s1,E.same s1,h2,q.step S (S.same s1) st⟩
 |false =>
  rw[Aq7 Arc] at h2
  exact Ape ⟨env,μ,m,o,S.same s1,E.same s1,h2,q.step S (S.same s1) st⟩
abbrev FG:=D->Ba->Option Ba
inductive tG (K:W.Frag) (g:FG) (v:V) (σ:St) (H:Hp) (Q:St->Hp->Prop):Prop
 |mk (env:Ba) (μ:List Addr) (m:MH) (d:D) (env':Ba) (S:Sim K H μ m) (E:EnvRep K H μ σ env) (r:Rep K H μ (·∈μ) d v) (h:g d env=some env') (q:∀ σ',EnvRep K H μ σ' env'->Q σ' H)
inductive tGs (K:W.Frag) (g:List D->Ba->Option Ba) (vs:List V) (σ:St) (H:Hp) (Q:St->Hp->Prop):Prop
 |mk (env:Ba) (μ:List Addr) (m:MH) (ds:List D) (env':Ba) (S:Sim K H μ m) (E:EnvRep K H μ σ env) (r:Reps K H μ (·∈μ) ds vs) (h:g ds env=some env') (q:∀ σ',EnvRep K H μ σ' env'->Q σ' H)
abbrev PGD (X:Cx) (e:Expr) (g:FG):Prop:=PG X e (tG X.K g)
abbrev Afo (X:Cx) (es:List Expr) (g:List D->Ba->Option Ba):Prop:=PGs X es (tGs X.K g)
theorem PGs.imp {X:Cx}{e:List Expr}{t t':TGs} (h:PGs X e t) (i:∀ v σ H Q,t' v σ H Q->t v σ H Q):PGs X e t':=fun pins s σ H v u Q I r q=>h pins s σ H v u Q I r (i v σ H Q q)
noncomputable def Bb (i:Nat):FG:=fun d env=>some (env.set i (some d))
theorem Jt (hN:X.N.Nodup) (hi:X.N[i]?=some x) (hx:Loc X.env.scope x) (hf:X.fn x=true\/X.env.scope.names.lookup x=some .local):PGD X (.Name x pos) (Bb i):=PG.imp (Adx hN hi hx hf) fun v σ H Q ⟨env,μ,m,d,env',S,E,r,h,q⟩=>by
 cases h
 exact q _ (E.set i r)
noncomputable def Zu:List D->Ba->Option Ba:=fun ds env=>match ds with|[]=>some env|_=>none
noncomputable def Eg (g:FG) (h:List D->Ba->Option Ba):List D->Ba->Option Ba:=fun ds env=>match ds with
 |d::ds=>(g d env).bind fun env'=>h ds env'
 |[]=>none
theorem Yd:Afo X [] Zu:=PGs.imp Adz fun v σ H Q ⟨env,μ,m,ds,env',S,E,r,h,q⟩=>by
 cases r with
 |nil=>cases h;exact⟨rfl,q _ E⟩
 |cons _ _=>exact Ag h
theorem Up {g:FG}{h:List D->Ba->Option Ba} (h1:PGD X e g) (h2:Afo X es h) (hs:(assignEach (e::es) X.env).map (·.2)=assign e X.env::(assignEach es X.env).map (·.2)):Afo X (e::es) (Eg g h) :=
 PGs.imp (Yc h1 h2 hs) fun v σ H Q ⟨env,μ,m,ds,env',S,E,r,h,q⟩=>by
  cases r with
  |nil=>exact Ag h
  |cons r rs =>
   obtain⟨env1,h1,h2⟩:=bind_some h
   exact⟨_,_,rfl,env,μ,m,_,env1,S,E,r,h1,fun σ' E'=>⟨env1,μ,m,_,env',S,E',rs,h2,q⟩⟩
noncomputable def Mu (n:Nat) (g:List D->Ba->Option Ba):FG:=fun d env=>match d with
 |.tup ds=>if ds.length=n then g ds env else none
 |_=>none
theorem Ady (hc:X.calm=true) (h:Afo X es g) (hn:(assignEach es X.env).length=n) (hst:(assignEach es X.env).findIdx? (·.1)=none):PGD X (.Tuple es k pos) (Mu n g) :=
 PG.imp (Ajr hc h hn hst) fun v σ H Q ⟨env,μ,m,d,env',S,E,r,h,q⟩=>by
  cases r with
  |@tup ds a xs hq rs =>
   unfold Mu at h
   simp only at h
   split at h
   ·rename_i hl
    exact⟨a,xs,rfl,hq,by rw[<- rs.length];exact hl,env,μ,m,ds,env',S,E,rs,h,q⟩
   ·exact Ag h
  |_=>exact Ag h
noncomputable def Bv (i:Nat) (f:FE):FS:=fun env m=>(f env m).bind fun d=>some (.nx (env.set i (some d)) m)
theorem Uw (hN:X.N.Nodup) (hi:X.N[i]?=some x) (hx:Loc X.env.scope x) (he:PD X e f) (hs:swapsWith e (some (.Name x p')) pos.line X.env=pure false) (hf:X.fn x=true\/X.env.scope.names.lookup x=some .local) :
  PSD X (.Assign [.Name x p'] e pos) (Bv i f):=PS.imp (Aam hN hi hx he hs hf) fun D σ H ⟨env,μ,m,o,S,E,h,q⟩=>by
 obtain⟨d,h1,h2⟩:=bind_some h
 cases h2
 exact⟨env,μ,m,d,S,E,h1,fun v H' s r=>q _ H' μ (Step.of_same s) (S.same s) ((E.same s).set i r)⟩
noncomputable def G7 (i:Nat) (f:FL):FS:=fun env m=>(f env m).bind fun ds=>some (.nx (env.set i (some (.ref m.length))) (m++[.lst ds]))
theorem Uv {i:Nat}{f:FL} (hN:X.N.Nodup) (hi:X.N[i]?=some x) (hx:Loc X.env.scope x) (he:PF X e f) (hs:swapsWith e (some (.Name x p')) pos.line X.env=pure false) (hf:X.fn x=true\/X.env.scope.names.lookup x=some .local) :
  PSD X (.Assign [.Name x p'] e pos) (G7 i f):=PS.imp (Aam hN hi hx he hs hf) fun D σ H ⟨env,μ,m,o,S,E,h,q⟩=>by
 obtain⟨ds,h1,h2⟩:=bind_some h
 cases h2
 refine⟨env,μ,m,ds,S,E,h1,fun a xs H' s hn ha r=>?_⟩
 obtain⟨st,S'⟩:=S.push s hn ha r
 exact q _ H' _ st S' ((E.step S st).set i (Nq S.len))
noncomputable def Akg (f:FE) (g:FG):FS:=fun env m=>(f env m).bind fun d=>(g d env).bind fun env'=>some (.nx env' m)
theorem Ad5 (he:PD X e f) (hg:PGD X tg g) (hs:swapsWithSole [tg] e pos.line X.env=pure false) (hw:swappedStores [tg] e X.env=pure none) (h1:(assignEach [tg] X.env).map (·.2)=[assign tg X.env]) :
  PSD X (.Assign [tg] e pos) (Akg f g):=PS.imp (Aak he hg hs hw h1) fun D σ H ⟨env,μ,m,o,S,E,h,q⟩=>by
 obtain⟨d,h1,h2⟩:=bind_some h
 obtain⟨env',hg',h3⟩:=bind_some h2
 cases h3
 exact⟨env,μ,m,d,S,E,h1,fun v H' s r=>⟨env,μ,m,d,env',S.same s,E.same s,r,hg',fun σ' E'=>q σ' H' μ (Step.of_same s) (S.same s) E'⟩⟩
end
end
open Classical
noncomputable section
section
variable {X:Cx}{a b c e:Expr}{es:List Expr}{pos p p':Pos}{x:Str}{st:Stmt}{rest:List Stmt}
noncomputable def Hi (chk:MH->Prop) (g:FG) (b:FS):List D->Ba->MH->Option Out
 |[],env,m=>if chk m then some (.nx env m) else none
 |d::ds,env,m=>if chk m then (g d env).bind fun env1=>(b env1 m).bind fun o=>match o with
   |.nx env2 m2=>Hi chk g b ds env2 m2
   |.ct env2 m2=>Hi chk g b ds env2 m2
   |.bk env2 m2=>some (.nx env2 m2)
   |.rt d m2=>some (.rt d m2)
  else none
structure Src (K:W.Frag) (J:It) (all:List D) (chk:MH->Prop) (src:Hp->List Addr->MH->Prop):Prop where
 go:∀ H μ m (i:Nat) d,Sim K H μ m->src H μ m->chk m->all[i]?=some d->J.go i H/\∀ x H',J.yld i H x H'->Same H H'/\Rep K H' μ (·∈μ) d x
 stop:∀ H μ m,Sim K H μ m->src H μ m->chk m->J.stop all.length H
 keep:∀ H μ m H' μ' m',src H μ m->Sim K H μ m->Step H μ H' μ'->Sim K H' μ' m'->src H' μ' m'
theorem Xb {K:W.Frag}{J:It}{all:List D}{chk:MH->Prop}{src:Hp->List Addr->MH->Prop} (hs:Src K J all chk src) {g:FG}{b:FS}{Dn:Ends}{σ:St}{H:Hp}{env:Ba}{μ:List Addr}{m:MH}{o:Out}
  (S:Sim K H μ m) (E:EnvRep K H μ σ env) (h0:src H μ m) (h:Hi chk g b all env m=some o) (f:FinS K H μ o Dn) :
  ∃ W:Nat->Nat->St->Hp->Prop,(∃ m,W 0 m σ H)/\∀ i m σ H,W i m σ H ->
   (J.stop i H/\Dn.nx σ H)\/(J.go i H/\∃ N:St->Hp->Prop,(∀ σ' H',N σ' H'->∃ m',m' < m/\W (i+1) m' σ' H')/\∀ x H',J.yld i H x H'->tG K g x σ H' fun σ2 H2=>tS K b { Dn with nx:=N,ct:=N,bk:=Dn.nx } σ2 H2):=by
 refine⟨fun i k σ H=>k=all.length - i/\i<=all.length/\∃ env μ m,Sim K H μ m/\EnvRep K H μ σ env/\src H μ m/\Hi chk g b (all.drop i) env m=some o/\FinS K H μ o Dn,⟨all.length,by simp,Ar8 _,env,μ,m,S,E,h0,by simpa using h,f⟩,?_⟩
 rintro i k σ1 H1 ⟨rfl,hi,env1,μ1,m1,S1,E1,h1,e1,f1⟩
 by_cases hlt:i < all.length
 ·have hd:all.drop i=all[i]::all.drop (i+1):=Asl hlt
  rw[hd] at e1
  unfold Hi at e1
  split at e1
  ·rename_i hc
   obtain⟨env2,e2,e1⟩:=bind_some e1
   obtain⟨o2,e3,e4⟩:=bind_some e1
   obtain⟨go,yl⟩:=hs.go H1 μ1 m1 i all[i] S1 h1 hc (by simp[hlt])
   refine .inr ⟨go,fun σ' H'=>all.length - (i+1) < all.length - i/\i+1<=all.length/\∃ env μ m,Sim K H' μ m/\EnvRep K H' μ σ' env/\src H' μ m/\Hi chk g b (all.drop (i+1)) env m=some o/\FinS K H' μ o Dn,fun σ' H' ⟨l1,l2,q⟩=>⟨_,l1,rfl,l2,q⟩,fun x H2 y=>?_⟩
   obtain⟨s2,r2⟩:=yl x H2 y
   have S2:=S1.same s2
   refine⟨env1,μ1,m1,all[i],env2,S2,E1.same s2,r2,e2,fun σ' E'=>⟨env2,μ1,m1,o2,S2,E',e3,?_⟩⟩
   have f2:=f1.step S1 S2 (Step.of_same s2)
   have h2:=hs.keep H1 μ1 m1 H2 μ1 m1 h1 S1 (Step.of_same s2) S2
   cases o2 with
   |nx env3 m3=>exact fun σ3 H3 μ3 st3 S3 E3=>⟨by lia,hlt,env3,μ3,m3,S3,E3,hs.keep _ _ _ _ _ _ h2 S2 st3 S3,e4,f2.step S2 S3 st3⟩
   |ct env3 m3=>exact fun σ3 H3 μ3 st3 S3 E3=>⟨by lia,hlt,env3,μ3,m3,S3,E3,hs.keep _ _ _ _ _ _ h2 S2 st3 S3,e4,f2.step S2 S3 st3⟩
   |bk env3 m3=>cases e4;exact f2
   |rt d m3=>cases e4;exact f2
  ·cases e1
 ·have e:i=all.length:=by lia
  subst e
  rw[List.drop_length] at e1
  unfold Hi at e1
  split at e1
  ·rename_i hc
   cases e1
   exact .inl ⟨hs.stop H1 μ1 m1 S1 h1 hc,f1 σ1 H1 μ1 Step.refl S1 E1⟩
  ·exact Ag e1
structure Wk where
 all:List D
 chk:MH->Prop
abbrev FW:=Ba->MH->Option Wk
inductive tW (K:W.Frag) (f:FW) (σ:St) (H:Hp) (R:It->Hp->Prop):Prop
 |mk (env:Ba) (μ:List Addr) (m:MH) (w:Wk) (S:Sim K H μ m) (E:EnvRep K H μ σ env) (h:f env m=some w) (q:∀ H' J src,Same H H'->Src K J w.all w.chk src->src H' μ m->R J H')
abbrev PW' (X:Cx) (tg e:Expr) (f:FW):Prop:=PI X tg e (tW X.K f)
def J3 (f:FW) (g:FG) (b:FS):FS:=fun env m=>(f env m).bind fun w=>Hi w.chk g b w.all env m
theorem PI.imp {t t':TI} (h:PI X tg e t) (i:∀ σ H Q,t' σ H Q->t σ H Q):PI X tg e t':=fun pins s σ H Q I q=>h pins s σ H Q I (i σ H Q q)
theorem Ad6 {tg iter:Expr}{body:List Stmt}{f:FW}{g:FG}{b:FS} (hp:PassesOwn (model X.prog X.w) X.A X.env X.xe) (hc:X.calm=true) (hi:PW' X tg iter f) (hg:PGD X tg g) (hb:Vm X body b)
  (hs:∀ x,foldedSetIterable iter X.env x=pure x):PSD X (.For tg iter body [] pos) (J3 f g b):=PS.imp (Aju hp hc hi hg hb hs) fun D σ H ⟨env,μ,m,o,S,E,h,q⟩=>by
 obtain⟨w,h1,h2⟩:=bind_some h
 exact⟨env,μ,m,w,S,E,h1,fun H' J src s hsrc h0=>Xb hsrc (S.same s) (E.same s) h0 h2 (q.step S (S.same s) (Step.of_same s))⟩
def Av:MH->Prop:=fun _=>True
theorem Ae8 {K:W.Frag}{a:Addr}{ds:List D}:Src K (Itt K a) ds Av (fun H μ m=>Rep K H μ (·∈μ) (.tup ds) (.ref a)) where
 go:=fun H μ m i d S h _ e=>by
  cases h with
  |tup hq rs =>
   obtain⟨v,e1,r⟩:=rs.get e
   exact⟨⟨_,v,hq,e1⟩,fun x H' ⟨h1,h2⟩=>by subst h1;rw[h2 _ hq] at e1;cases e1;exact⟨Same.refl _,r⟩⟩
 stop:=fun H μ m S h _=>by
  cases h with
  |tup hq rs=>exact⟨_,hq,by rw[rs.length];exact Aq5 _⟩
 keep:=fun H μ m H' μ' m' h S st S'=>h.step S st
theorem Ae5 {K:W.Frag}{a:Addr}{ds:List D}:Src K (Itl K a) ds Av (fun H μ m=>Rep K H μ (·∈μ) (.lst ds) (.ref a)) where
 go:=fun H μ m i d S h _ e=>by
  cases h with
  |lst hq _ rs =>
   obtain⟨v,e1,r⟩:=rs.get e
   exact⟨⟨_,v,.inl hq,e1⟩,fun x H' ⟨h1,h2⟩=>by subst h1;rw[h2 _ (.inl hq)] at e1;cases e1;exact⟨Same.refl _,r⟩⟩
 stop:=fun H μ m S h _=>by
  cases h with
  |lst hq _ rs=>exact⟨_,.inl hq,by rw[rs.length];exact Aq5 _⟩
 keep:=fun H μ m H' μ' m' h S st S'=>h.step S st
theorem Akl {K:W.Frag}{a:Addr}{ds:List D}:Src K (Itl K a) ds Av (fun H μ m=>Rep K H μ (·∈μ) (.kl ds) (.ref a)) where
 go:=fun H μ m i d S h _ e=>by
  cases h with
  |kl hq rs =>
   obtain⟨v,e1,r⟩:=rs.get e
   exact⟨⟨_,v,hq.sq,e1⟩,fun x H' ⟨h1,h2⟩=>by subst h1;rw[h2 _ hq.sq] at e1;cases e1;exact⟨Same.refl _,r⟩⟩
 stop:=fun H μ m S h _=>by
  cases h with
  |kl hq rs=>exact⟨_,hq.sq,by rw[rs.length];exact Aq5 _⟩
 keep:=fun H μ m H' μ' m' h S st S'=>h.step S st
theorem Ae6 {K:W.Frag}{a:Addr}{ds:List D}{n:Nat}:Src K (Itl K a) ds (fun m=>m[n]?=some (.lst ds)) (fun H μ m=>μ[n]?=some a) where
 go:=fun H μ m i d S h hc e=>by
  obtain⟨xs,e1,rs⟩:=S.obj n a _ h hc
  obtain⟨v,e2,r⟩:=rs.get e
  exact⟨⟨_,v,SqL.of e1,e2⟩,fun x H' ⟨h1,h2⟩=>by subst h1;rw[h2 _ (SqL.of e1)] at e2;cases e2;exact⟨Same.refl _,r⟩⟩
 stop:=fun H μ m S h hc=>by
  obtain⟨xs,e1,rs⟩:=S.obj n a _ h hc
  exact⟨_,SqL.of e1,by rw[rs.length];exact Aq5 _⟩
 keep:=fun H μ m H' μ' m' h S st S'=>st.ix h
noncomputable def Bx (lo:Int) (n:Nat):List D:=(List.range n).map fun (i:Nat)=>.int (lo+i)
theorem Mn {K:W.Frag}{lo:Int}{n:Nat}:Src K (Itr lo n) (Bx lo n) Av (fun _ _ _=>True) where
 go:=fun H μ m i d S h _ e=>by
  unfold Bx at e
  rw[Ari] at e
  cases q:(List.range n)[i]? with
  |none=>rw[q] at e;cases e
  |some j =>
   rw[q] at e
   cases e
   have hi:=(List.getElem?_eq_some_iff.mp q).1
   rw[List.length_range] at hi
   rw[List.getElem?_range hi] at q
   cases q
   exact⟨hi,fun x H' ⟨h1,h2⟩=>by subst h1;subst h2;exact⟨Same.refl _,.int _⟩⟩
 stop:=fun H μ m S h _=>by show n<=(Bx lo n).length;unfold Bx;simp
 keep:=fun H μ m H' μ' m' h S st S'=>trivial
def En (g:FL):FW:=fun env m=>(g env m).bind fun ds=>match ds with
 |[.int j]=>if -(2 ^ 62)<=j/\j < 2 ^ 62 then some ⟨Bx 0 j.toNat,Av⟩ else none
 |_=>none
def Nw (g:FL):FW:=fun env m=>(g env m).bind fun ds=>match ds with
 |[.int i,.int j]=>if -(2 ^ 62)<=i/\i < 2 ^ 62/\-(2 ^ 62)<=j/\j < 2 ^ 62 then some ⟨Bx i (j - i).toNat,Av⟩ else none
 |_=>none
theorem Uz (hg:Gl X "range") (hm:X.mg "range"=none) (ha:PL X [a] g) (hs:starEach [a] X.env=[(false,eval a X.env)]):PW' X tg (.Call (.Name "range" p) [a] [] pos) (En g):=PI.imp (Uq hg hm ha hs) fun σ H R ⟨env,μ,m,w,S,E,h,q⟩=>by
 obtain⟨ds,h1,h2⟩:=bind_some h
 refine⟨env,μ,m,ds,S,E,h1,fun vs H' s rs=>?_⟩
 obtain⟨j,rfl⟩:∃ j,ds=[.int j]:=by
  cases ds with
  |nil=>cases h2
  |cons d ds =>
   cases ds with
   |cons _ _=>cases d<;>cases h2
   |nil =>
    cases d with
    |int j=>exact⟨j,rfl⟩
    |_=>cases h2
 simp only at h2
 split at h2
 ·rename_i hc
  cases h2
  obtain⟨v,rfl,r⟩:=rs.one
  cases r
  exact⟨j,rfl,hc.1,hc.2,q H' _ _ s Mn trivial⟩
 ·exact Ag h2
theorem U0 (hg:Gl X "range") (hm:X.mg "range"=none) (ha:PL X [a,b] g) (hs:starEach [a,b] X.env=[(false,eval a X.env),(false,eval b X.env)]) (hs2:starEach [b] X.env=[(false,eval b X.env)]):PW' X tg (.Call (.Name "range" p) [a,b] [] pos) (Nw g):=PI.imp (Ur hg hm ha hs hs2) fun σ H R ⟨env,μ,m,w,S,E,h,q⟩=>by
 obtain⟨ds,h1,h2⟩:=bind_some h
 refine⟨env,μ,m,ds,S,E,h1,fun vs H' s rs=>?_⟩
 obtain⟨i,j,rfl⟩:∃ i j,ds=[.int i,.int j]:=by
  cases ds with
  |nil=>exact Ag h2
  |cons d ds =>
   cases d with
   |int i =>
    cases ds with
    |nil=>exact Ag h2
    |cons d ds =>
     cases ds with
     |cons _ _=>cases d<;>cases h2
     |nil =>
      cases d with
      |int j=>exact⟨i,j,rfl⟩
      |_=>cases h2
   |_=>cases h2
 simp only at h2
 split at h2
 ·rename_i hc
  cases h2
  obtain⟨v,v',rfl,r,r'⟩:=rs.two
  cases r
  cases r'
  exact⟨i,j,rfl,hc,q H' _ _ s Mn trivial⟩
 ·exact Ag h2
end
mutual
/-- without lists -/
def Be:D->Bool
 |.lst _=>false
 |.kl _=>false
 |.ref _=>false
 |.dic _ _=>false
 |.dks _ _=>false
 |.fz _ _ _ _=>false
 |.fn _ _=>false
 |.tup ds=>Ay ds
 |_=>true
def Ay:List D->Bool
 |[]=>true
 |d::ds=>Be d&&Ay ds
end
noncomputable def xp1 (m:MH):D->Option D
 |.ref n=>match m[n]? with
  |some (.lst ds)=>if Ay ds=true then some (.lst ds) else none
  |_=>none
 |_=>none
def xpL (m:MH):List D->Option (List D)
 |[]=>some []
 |d::ds=>(xp1 m d).bind fun e=>(xpL m ds).bind fun es=>some (e::es)
mutual
/-- what is handed back: the mirror's own lists,as they stand -/
def Bz (m:MH):D->Option D
 |.ref n=>match m[n]? with
  |some (.lst ds)=>if Ay ds=true then some (.lst ds) else (xpL m ds).bind fun es=>some (.lst es)
  |some (.dct ks vs)=>if Ay vs=true then some (.dic ks vs) else none
  |some (.dcs ks vs)=>if Ay vs=true then some (.dks ks vs) else none
  |_=>none
 |.lst _=>none
 |.kl _=>none
 |.dic _ _=>none
 |.dks _ _=>none
 |.fz _ _ _ _=>none
 |.fn _ _=>none
 |.tup ds=>(Cv m ds).bind fun es=>some (.tup es)
 |.non=>some .non
 |.bl b=>some (.bl b)
 |.int i=>some (.int i)
 |.str x=>some (.str x)
def Cv (m:MH):List D->Option (List D)
 |[]=>some []
 |d::ds=>(Bz m d).bind fun e=>(Cv m ds).bind fun es=>some (e::es)
end
section
variable {K:W.Frag}{H H':Hp}{μ μ':List Addr}{B B':Addr->Prop}{m:MH}
mutual
theorem Rep.nolst {d:D}{v:V} (r:Rep K H μ B d v) (e:Be d=true):Rep K H μ' B' d v:=by
 cases r with
 |non=>exact .non
 |bl b=>exact .bl b
 |int b=>exact .int b
 |str b h=>exact .str b h
 |tup h r=>exact .tup h (Reps.nolst r e)
 |_=>exact Bn e
theorem Reps.nolst {ds:List D}{vs:List V} (r:Reps K H μ B ds vs) (e:Ay ds=true):Reps K H μ' B' ds vs:=by
 cases r with
 |nil=>exact .nil
 |cons h r =>
  have e':=(Bool.and_eq_true_iff.mp e)
  exact .cons (Rep.nolst h e'.1) (Reps.nolst r e'.2)
end
theorem Afi (S:Sim K H μ m) (hn:∀ a∈μ,B a->False) {d d':D}{v:V} (r:Rep K H μ (·∈μ) d v) (h:xp1 m d=some d'):Rep K H [] B d' v:=by
 cases r with
 |@ref n a e =>
  unfold xp1 at h
  cases q:m[n]? with
  |none=>simp[q] at h
  |some o =>
   simp only[q] at h
   cases o with
   |dcs _ _=>exact Ag h
   |dct _ _=>exact Ag h
   |lst ds =>
    simp only at h
    split at h
    ·rename_i hl
     cases h
     obtain⟨xs,e1,e2⟩:=S.obj n a _ e q
     exact .lst (.inl e1) (hn a (Ard e)) (e2.nolst hl)
    ·exact Ag h
 |_=>exact Ag h
theorem Afj (S:Sim K H μ m) (hn:∀ a∈μ,B a->False) {ds ds':List D}{vs:List V} (r:Reps K H μ (·∈μ) ds vs) (h:xpL m ds=some ds'):Reps K H [] B ds' vs:=by
 induction ds generalizing ds' vs with
 |nil=>cases r;cases h;exact .nil
 |cons d ds ih =>
  cases r with
  |cons r rs =>
  obtain⟨e,h1,h⟩:=bind_some h
  obtain⟨es,h2,h⟩:=bind_some h
  cases h
  exact .cons (Afi S hn r h1) (ih rs h2)
mutual
theorem Mt (S:Sim K H μ m) (hn:∀ a∈μ,B a->False):∀ {d d':D}{v:V},Rep K H μ (·∈μ) d v->Bz m d=some d'->Rep K H [] B d' v
 |_,_,_,.non,h=>by cases h;exact .non
 |_,_,_,.bl b,h=>by cases h;exact .bl b
 |_,_,_,.int b,h=>by cases h;exact .int b
 |_,_,_,.str b ok,h=>by cases h;exact .str b ok
 |_,_,_,.tup hq r,h=>by
  rw[Bz] at h
  obtain⟨es,h1,h2⟩:=bind_some h
  cases h2
  exact .tup hq (Iv S hn r h1)
 |_,_,_,.lst _ _ _,h=>nomatch h
 |_,_,_,.kl _ _,h=>Ag h
 |_,_,_,.dic _ _ _ _,h=>Ag h
 |_,_,_,.fn _,h=>nomatch h
 |_,_,_,.dks _ _ _ _,h=>nomatch h
 |_,_,_,.fz _ _ _,h=>nomatch h
 |.ref n,_,_,.ref (a:=a) e,h=>by
  rw[Bz] at h
  cases q:m[n]? with
  |none=>simp[q] at h
  |some o =>
   simp only[q] at h
   cases o with
   |dct ks vs =>
    simp only at h
    split at h
    ·rename_i hl
     cases h
     obtain⟨xs,e1,e2,e3⟩:=S.obj n a _ e q
     exact .dic (.inl e1) (hn a (Ard e)) e2 (e3.nolst hl)
    ·cases h
   |dcs ks vs =>
    simp only at h
    split at h
    ·rename_i hl
     cases h
     obtain⟨xs,e1,e2,e3⟩:=S.obj n a _ e q
     exact .dks (.inl e1) (hn a (Ard e)) e2 (e3.nolst hl)
    ·cases h
   |lst ds =>
    simp only at h
    split at h
    ·rename_i hl
     cases h
     obtain⟨xs,e1,e2⟩:=S.obj n a _ e q
     exact .lst (.inl e1) (hn a (Ard e)) (e2.nolst hl)
    ·obtain⟨es,h1,h⟩:=bind_some h
     cases h
     obtain⟨xs,e1,e2⟩:=S.obj n a _ e q
     exact .lst (.inl e1) (hn a (Ard e)) (Afj S hn e2 h1)
theorem Iv (S:Sim K H μ m) (hn:∀ a∈μ,B a->False):∀ {ds ds':List D}{vs:List V},Reps K H μ (·∈μ) ds vs->Cv m ds=some ds'->Reps K H [] B ds' vs
 |_,_,_,.nil,h=>by cases h;exact .nil
 |_,_,_,.cons r rs,h=>by
  rw[Cv] at h
  obtain⟨d',h1,h⟩:=bind_some h
  obtain⟨ds',h2,h⟩:=bind_some h
  cases h
  exact .cons (Mt S hn r h1) (Iv S hn rs h2)
end
end
def old (H H':Hp):Addr->Prop:=fun a=>H a≠none\/∃ o u,H' a=some (.frz o u)
inductive spP (K:W.Frag) (n:Nat) (fn:List D->Option D) (vs:List V) (H:Hp) (Q:VK) (E:XK):Prop
 |mk (ds:List D) (d:D) (r:Reps K H [] (fun _=>False) ds vs) (l:ds.length=n) (h:fn ds=some d) (q:∀ v H',Same H H'->Rep K H' [] (old H H') d v->Q v H')
noncomputable def Ds (n:Nat) (g:FS):List D->Option D:=fun ds=>(g (ds.map some++List.replicate (n - ds.length) none) []).bind fun o=>match o with
 |.rt d m=>Bz m d
 |.nx _ _=>some .non
 |_=>none
theorem Ll {K:W.Frag}{H:Hp}{N:List Str}{ds:List D}{vs:List V} (r:Reps K H [] (fun _=>False) ds vs):EnvRep K H [] (Hb N vs) (ds.map some++List.replicate (N.length - ds.length) none):=by
 refine⟨by unfold Hb;simp[r.length],fun i d e=>?_⟩
 by_cases hi:i < ds.length
 ·rw[Arm (by simpa using hi),Ari] at e
  cases q:ds[i]? with
  |none=>rw[q] at e;cases e
  |some d' =>
   rw[q] at e
   cases e
   obtain⟨v,h1,h2⟩:=r.get q
   refine⟨v,?_,h2.up (fun _ _ _ h=>h) (fun _ _ _ h _=>⟨h,by simp⟩) fun _ _ h=>h⟩
   unfold Hb
   rw[Arm (by simpa [r.length] using hi),Ari,h1]
   rfl
 ·rw[Aru (by simpa using hi),Ar3] at e
  split at e<;>cases e
theorem Ab7 {P:Program}{w:World}{K:W.Frag}{mg:Str->Option Value}{base:Heap}{x qual:Str}{st:Stmt}{f:Addr}{fd:FuncData}{N ps:List Str}{k:Nat}{g:FS} (F:Fun K x qual st f fd) (S:FnScope N ps (A6 st))
  (hbody:∀ (cdv:Value) (A:Around) (outer:List Env) (s:Shared) (H:Hp) (E:XK),Room k (A.deeper (envOfC qual (A6 st) s.heap.objs.size f cdv)) ->
   Vm (V4 CX0 P w K mg base N qual (A6 st) f cdv A outer s H E).nox (Cc st) g):FnOk P w K mg base CX0 (k+1) f fd ps (spP K ps.length (Ds N.length g)):=by
 refine F.ok S (fun vs H Q E h=>?_) (fun cdv A outer s H vs Q E hr h=>?_)
 ·obtain⟨ds,d,r,hl,_⟩:=h
  rw[<- r.length];exact hl
 ·obtain⟨ds,d,r,hl,h,q⟩:=h
  refine⟨_,hbody cdv A outer s H E hr,?_⟩
  obtain⟨o,h1,h2⟩:=bind_some h
  have S0:Sim K H [] []:=⟨List.nodup_nil,rfl,fun n a o h=>by simp at h⟩
  refine⟨_,[],[],o,S0,Ll r,h1,?_⟩
  have fin:∀ {H':Hp}{μ':List Addr}{m':MH},Step H [] H' μ'->Sim K H' μ' m'->Same H H'/\∀ a∈μ',old H H' a->False:=fun {H' μ' m'} st S'=>by
   obtain⟨l,e,hl⟩:=st.pre
   refine⟨fun b o e=>st.keep b o e (by simp),fun a ha z=>?_⟩
   rcases z with hne|⟨o,u,z⟩
   ·rw[e] at ha
    exact hne (hl a (by simpa using ha))
   ·obtain⟨xs,e',l⟩:=S'.trk ha
    rw[e'] at z
    cases z
    exact l
  cases o with
  |rt d' m'=>exact fun v H' μ' st S' r'=>q v H' (fin st S').1 (Mt S' (fin st S').2 r' h2)
  |nx env m'=>cases h2;exact fun σ' H' μ' st S' E'=>q _ H' (fin st S').1 .non
  |bk _ _=>exact Ag h2
  |ct _ _=>exact Ag h2
section
variable {X:Cx}{a b c e:Expr}{es:List Expr}{pos p p':Pos}{x:Str}
def Eu (n:Nat) (fn:List D->Option D):List D->MH->Option D:=fun ds m=>(Cd m ds).bind fun ds'=>if ds'.length=n then fn ds' else none
theorem Rep.ofCall {K:W.Frag}{H H':Hp}{μ:List Addr}{m:MH}{d:D}{v:V} (S:Sim K H μ m) (r:Rep K H' [] (old H H') d v):Rep K H' μ (·∈μ) d v :=
 r.up (fun _ _ _ h=>h) (fun a u _ h b=>⟨h,fun z=>b (.inl (by obtain⟨xs,e,_⟩:=S.trk z;rw[e];simp))⟩) fun n a h=>by simp at h
theorem Adq {fd:FuncData}{E:XK} (F:FnOk X.prog X.w X.K X.mg X.base CX k f fd ps (spP X.K n fn)) (hr:Room k X.A) (hg:Gl X x) (hm:X.mg x=some (.ref f)) (hk:W.keepIn X.K (.ref f)=true) (hb:Binds X.K fd ps []) (hx:J4 CX X E) (ha:PL X (e::es) g) (hdb:(x == ("__debug__":Str))=false) (he:starEach (e::es) X.env=(false,eval e X.env)::starEach es X.env) (hpl:(backTo pos (starEach es X.env)).any (·.1)=false) :
  PD X (.Call (.Name x p) (e::es) [] pos) (A3 (Eu n fn) g):=PE.imp (Nj F hr hg hm hk hb .nil hx ha hdb he hpl) fun σ H Q ⟨env,μ,m,d,S,E,h,q⟩=>by
 obtain⟨ds,h1,h⟩:=bind_some h
 obtain⟨ds',h2,h⟩:=bind_some h
 split at h
 ·rename_i hl
  refine⟨env,μ,m,ds,S,E,h1,fun vs H1 s1 rs=>⟨ds',d,by rw[Ar4];exact C3 (S.same s1) rs h2,hl,h,fun v H' s' r=>q v H' (s1.trans s') (Rep.ofCall (S.same s1) r)⟩⟩
 ·exact Ag h
def Jc (n:Nat) (fn:List D->Option D):List D->MH->Option (List D):=fun ds m=>(Eu n fn ds m).bind fun d=>match d with|.lst es=>if Ay es=true then some es else none|_=>none
theorem Adv {fd:FuncData}{E:XK} (F:FnOk X.prog X.w X.K X.mg X.base CX k f fd ps (spP X.K n fn)) (hr:Room k X.A) (hg:Gl X x) (hm:X.mg x=some (.ref f)) (hk:W.keepIn X.K (.ref f)=true) (hb:Binds X.K fd ps []) (hx:J4 CX X E) (ha:PL X (e::es) g) (hdb:(x == ("__debug__":Str))=false) (he:starEach (e::es) X.env=(false,eval e X.env)::starEach es X.env) (hpl:(backTo pos (starEach es X.env)).any (·.1)=false) :
  PF X (.Call (.Name x p) (e::es) [] pos) (C4 (Jc n fn) g):=PE.imp (Nj F hr hg hm hk hb .nil hx ha hdb he hpl) fun σ H Q ⟨env,μ,m,d,S,E,h,q⟩=>by
 obtain⟨ds,h1,h⟩:=bind_some h
 obtain⟨z,h2,h⟩:=bind_some h
 obtain⟨ds',h2,h3⟩:=bind_some h2
 split at h3
 ·rename_i hl
  refine⟨env,μ,m,ds,S,E,h1,fun vs H1 s1 rs=>⟨ds',z,by rw[Ar4];exact C3 (S.same s1) rs h2,hl,h3,fun v H' s' r=>?_⟩⟩
  cases r with
  |@lst es a xs hq hb rs' =>
   simp only at h
   split at h
   ·rename_i hl'
    cases h
    have hn:H1 a=none:=Atj fun z=>hb (.inl z)
    rcases hq with hq|⟨o,hq⟩
    ·exact q a xs H' (s1.trans s') (s1.free hn) hq (rs'.nolst hl')
    ·exact absurd (.inr ⟨o,_,hq⟩) hb
   ·cases h
  |_=>exact Ag h
 ·exact Ag h3
end
end
end ML
end L2
end S_ML1
section S_ML6
namespace L2
namespace ML
open PySem PySem.Spec PyProof.Rows
open Classical
noncomputable section
theorem Ee {scope:Scope}{env:Env}:∀ (names:List (Str×NameKind)) (cs:List (Str×Addr)),(∀ y∈names,y.2=.free->∃ c,env.cells.lookup y.1=some c)->∃ cl:List (Str×Addr),
  (forIn names cs fun (y:Str×NameKind) cs=>if (y.2 == .free)=true then (do let c <- cellOf env y.1;pure (ForInStep.yield ((y.1,c)::cs))) else (pure (ForInStep.yield cs):Sem _))=pure cl /\
   (∀ x c,cl.lookup x=some c->cs.lookup x=some c\/env.cells.lookup x=some c)/\(∀ x,((x,NameKind.free)∈names\/∃ c,cs.lookup x=some c)->∃ c,cl.lookup x=some c)
 |[],cs,_=>⟨cs,rfl,fun x c h=>.inl h,fun x h=>by
   rcases h with h|h
   ·exact absurd h (by simp)
   ·exact h⟩
 |(n,k)::names,cs,h=>by
  have h':∀ y∈names,y.2=.free->∃ c,env.cells.lookup y.1=some c:=fun y hy=>h y (Aq6 _ hy)
  rw[List.forIn_cons]
  by_cases hk:k=.free
  ·subst hk
   obtain⟨c,hc⟩:=h (n,.free) Aq8 rfl
   obtain⟨cl,e1,e2,e3⟩:=Ee (scope:=scope) (env:=env) names ((n,c)::cs) h'
   refine⟨cl,?_,fun x c' hx=>?_,fun x hx=>?_⟩
   ·have ec:cellOf env n=pure c:=by unfold cellOf;rw[hc]
    simp only[beq_self_eq_true,Ate,ec]
    exact e1
   ·rcases e2 x c' hx with q|q
    ·rw[Asi] at q
     by_cases hxn:(x == n)=true
     ·simp only[hxn] at q
      cases q
      rw[eq_of_beq hxn]
      exact .inr hc
     ·simp only[Bool.not_eq_true] at hxn
      simp only[hxn] at q
      exact .inl q
    ·exact .inr q
   ·refine e3 x ?_
    by_cases hxn:(x == n)=true
    ·exact .inr ⟨c,by rw[Asi];simp only[hxn]⟩
    ·simp only[Bool.not_eq_true] at hxn
     rcases hx with hx|⟨c',hx⟩
     ·rcases List.mem_cons.mp hx with z|z
      ·have:x=n:=by injection z
       rw[this,beq_self_eq_true] at hxn
       cases hxn
      ·exact .inl z
     ·exact .inr ⟨c',by rw[Asi];simp only[hxn];exact hx⟩
  ·obtain⟨cl,e1,e2,e3⟩:=Ee (scope:=scope) (env:=env) names cs h'
   refine⟨cl,?_,e2,fun x hx=>e3 x ?_⟩
   ·have ek:(k == NameKind.free)=false:=by simpa using hk
    simp only[ek,Ar7,As1]
    exact e1
   ·rcases hx with hx|hx
    ·rcases List.mem_cons.mp hx with z|z
     ·injection z with z1 z2
      exact absurd z2.symm hk
     ·exact .inl z
    ·exact .inr hx
theorem Je (h:∀ y∈scope.names,y.2=.free->∃ c,env.cells.lookup y.1=some c):∃ cl:List (Str×Addr),closureFor scope env=pure cl /\
  (∀ x c,cl.lookup x=some c->env.cells.lookup x=some c)/\∀ x,(x,NameKind.free)∈scope.names->∃ c,cl.lookup x=some c:=by
 obtain⟨cl,e1,e2,e3⟩:=Ee (scope:=scope) (env:=env) scope.names [] h
 refine⟨cl,?_,fun x c hx=>(e2 x c hx).elim (fun z=>by exact Ag z) id,fun x hx=>e3 x (.inl hx)⟩
 have e:closureFor scope env=((forIn scope.names [] fun (y:Str×NameKind) cs=>if (y.2 == .free)=true then (do let c <- cellOf env y.1;pure (ForInStep.yield ((y.1,c)::cs))) else (pure (ForInStep.yield cs):Sem _)) >>= fun cs=>pure cs):=rfl
 rw[e,e1]
 rfl
theorem Rr:∀ (names:List (Str×NameKind)) (h:Heap) (acc:List (Str×Addr)),(∀ x c,acc.lookup x=some c->c < h.objs.size)->(∀ x y c,acc.lookup x=some c->acc.lookup y=some c->x=y) ->
  (∀ x c,(cellsFrom h.objs.size names acc).lookup x=some c->(acc.lookup x=some c/\(x,NameKind.cell)∉names)\/((x,NameKind.cell)∈names/\h.objs.size<=c/\(pushCells h names).IsCell c none)\/(acc.lookup x=some c/\h.IsCell c none/\False)) /\
  (∀ x y c,(cellsFrom h.objs.size names acc).lookup x=some c->(cellsFrom h.objs.size names acc).lookup y=some c->x=y)/\(∀ x,((x,NameKind.cell)∈names\/∃ c,acc.lookup x=some c)->∃ c,(cellsFrom h.objs.size names acc).lookup x=some c)
 |[],h,acc,h1,h2=>⟨fun x c e=>.inl ⟨e,by simp⟩,h2,fun x e=>e.elim (fun z=>absurd z (by simp)) id⟩
 |(n,k)::r,h,acc,h1,h2=>by
  by_cases hk:k=.cell
  ·subst hk
   have hs:(h.push { cls:=.type "cell",data:=.cell none }).objs.size=h.objs.size+1:=Atd ..
   have lk:∀ x c,((n,h.objs.size)::acc).lookup x=some c->(x=n/\c=h.objs.size)\/(x≠n/\acc.lookup x=some c):=fun x c e=>by
    rw[Asi] at e
    by_cases hx:(x == n)=true
    ·simp only[hx] at e
     cases e
     exact .inl ⟨eq_of_beq hx,rfl⟩
    ·have hx':(x == n)=false:=by simpa using hx
     simp only[hx'] at e
     exact .inr ⟨fun z=>hx (by rw[z];exact beq_self_eq_true _),e⟩
   obtain⟨i1,i2,i3⟩:=Rr r (h.push { cls:=.type "cell",data:=.cell none }) ((n,h.objs.size)::acc) (fun x c e=>by
    rw[hs]
    rcases lk x c e with ⟨_,z⟩|⟨_,z⟩
    ·rw[z];exact Nat.lt_succ_self _
    ·exact Asr (h1 x c z)) (fun x y c e1 e2=>by
    rcases lk x c e1 with ⟨z1,w1⟩|⟨_,z1⟩<;>rcases lk y c e2 with ⟨z2,w2⟩|⟨_,z2⟩
    ·rw[z1,z2]
    ·exact absurd (h1 y c z2) (by rw[w1];exact Ary _)
    ·exact absurd (h1 x c z1) (by rw[w2];exact Ary _)
    ·exact h2 x y c z1 z2)
   have ec:cellsFrom h.objs.size ((n,NameKind.cell)::r) acc=cellsFrom (h.push { cls:=.type "cell",data:=.cell none }).objs.size r ((n,h.objs.size)::acc):=by rw[hs];rfl
   have ep:pushCells h ((n,NameKind.cell)::r)=pushCells (h.push { cls:=.type "cell",data:=.cell none }) r:=rfl
   rw[ec,ep]
   refine⟨fun x c e=>?_,i2,fun x e=>i3 x ?_⟩
   ·rcases i1 x c e with ⟨z,w⟩|⟨z1,z2,z3⟩|⟨_,_,z⟩
    ·rcases lk x c z with ⟨rfl,rfl⟩|⟨hne,z⟩
     ·exact .inr (.inl ⟨Aq8,Aq5 _,⟨_,pushCells_keeps _ _ _ _ (Are _ rfl),rfl⟩⟩)
     ·exact .inl ⟨z,fun y=>by
       rcases List.mem_cons.mp y with y|y
       ·exact hne (Prod.mk.inj y).1
       ·exact w y⟩
    ·exact .inr (.inl ⟨Aq6 _ z1,Nat.le_of_succ_le (by rw[hs] at z2;exact z2),z3⟩)
    ·exact z.elim
   ·by_cases hx:x=n
    ·exact .inr ⟨_,by rw[Asi,hx,beq_self_eq_true]⟩
    ·have hx':(x == n)=false:=by simpa using hx
     rcases e with e|⟨c,e⟩
     ·rcases List.mem_cons.mp e with e|e
      ·exact absurd (Prod.mk.inj e).1 hx
      ·exact .inl e
     ·exact .inr ⟨c,by rw[Asi,hx'];exact e⟩
  ·obtain⟨i1,i2,i3⟩:=Rr r h acc h1 h2
   have hk':(k == NameKind.cell)=false:=by simpa using hk
   have ec:cellsFrom h.objs.size ((n,k)::r) acc=cellsFrom h.objs.size r acc:=by rw[cellsFrom,hk'];rfl
   have ep:pushCells h ((n,k)::r)=pushCells h r:=by rw[pushCells,hk'];rfl
   have em:∀ x,(x,NameKind.cell)∈(n,k)::r ↔ (x,NameKind.cell)∈r:=fun x=>⟨fun z=>by
    rcases List.mem_cons.mp z with z|z
    ·exact absurd (Prod.mk.inj z).2.symm hk
    ·exact z,Aq6 _⟩
   rw[ec,ep]
   refine⟨fun x c e=>?_,i2,fun x e=>i3 x ?_⟩
   ·rcases i1 x c e with ⟨z,w⟩|⟨z1,z2,z3⟩|⟨_,_,z⟩
    ·exact .inl ⟨z,fun y=>w ((em x).mp y)⟩
    ·exact .inr (.inl ⟨(em x).mpr z1,z2,z3⟩)
    ·exact z.elim
   ·exact e.imp (em x).mp id
theorem Nb {E:Value->Shared->Prop}{s:Shared} (hQ:∀ h',h'.Ns s.heap.objs.size (fun _=>none)->(∀ b o,s.heap.get? b=some o->h'.get? b=some o)->h'=pushCells (s.heap.push { cls:=.type "dict",data:=.dict #[] }) scope.names ->
   Q { scope,locals:=s.heap.objs.size,globals,cells:=cellsFrom (s.heap.objs.size+1) scope.names cl,qual,func:=none,code:=env.code,frame:=env.frame,builtins:=env.builtins } { s with heap:=h' }) :
  wpAny M A (newFunctionEnv scope globals cl [] qual none .none (some env)) Q E s:=by
 simp only[newFunctionEnv,Option.isSome_some,Ate]
 refine Aqx (wpAny_alloc ?_)
 refine Aqx (wpAny_layCells _ (fun name kind cells=>by cases hkc:kind == NameKind.cell<;>simp[hkc]) _ _ _ _ ?_)
 rw[show ({ s with heap:=s.heap.push { cls:=.type "dict",data:=.dict #[] } }:Shared).heap.objs.size=s.heap.objs.size+1 from Atd ..]
 rw[List.forIn_nil]
 refine Aqx (Aq0 (Aq0 ?_))
 exact hQ _ ((Heap.Ns.new s.heap (.type "dict")).keeps (pushCells_keeps _ _)) (fun b o e=>pushCells_keeps _ _ b o (Aq1 _ e)) rfl
noncomputable def A2 (X:Cx) (N':List Str) (scope:Scope) (cl:List (Str×Addr)) (C:Addr) (s₀:Shared) (H₀:Hp) (ex:List Addr) (pn:List (Addr×Obj)):Cx where
 prog:=X.prog
 w:=X.w
 K:=X.K
 mg:=X.mg
 base:=X.base
 A:=X.A
 N:=N'
 s₀:=s₀
 H₀:=H₀
 env:=compEnvC scope cl C X.env
 outer:=X.stack
 stack:=X.stack
 ex:=ex
 fn:=fun x=>match scope.names.lookup x with
  |some .cell=>true
  |_=>false
 calm:=X.calm
 pn:=pn
 xe:=fun _ _=>False
noncomputable def capσ (cap:List Nat) (k:Nat) (σ:St):St:=cap.map (fun i=>(σ[i]?).bind id)++List.replicate k none
def Rf (cap:List Nat) (k:Nat) (env:Ba):Ba:=cap.map (fun i=>(env[i]?).bind id)++List.replicate k none
structure CompOk (X:Cx) (scope:Scope) (cap:List Nat) (N':List Str):Prop where
 kind:scope.kind=.function
 cell:∀ y∈scope.names,y.2=.cell->scope.names.lookup y.1=some .cell
 names:∀ y∈scope.names,y.2=.local->scope.names.lookup y.1=some .local
 free:∀ y∈scope.names,y.2=.free->X.env.scope.names.lookup y.1=some .cell\/X.env.scope.names.lookup y.1=some .free
 nd:N'.Nodup
 le:cap.length<=N'.length
 cap:∀ (j i:Nat) (x:Str),cap[j]?=some i->N'[j]?=some x->X.N[i]?=some x/\scope.names.lookup x=some .free
theorem Cj {env:Env}:∀ {names:List (Str×NameKind)}{x:Str}{k:NameKind},(names.map fun (n,k)=>if (k == NameKind.free&&env.scope.kind == .function&&env.kindOf n == some .cell) then (n,NameKind.cell) else (n,k)).lookup x=some k ->
  (names.lookup x=some k/\(k=.free->env.kindOf x≠some .cell\/env.scope.kind≠.function))\/(names.lookup x=some .free/\k=.cell)
 |[],_,_,h=>by simp at h
 |(n,k)::r,x,k',h=>by
  have ih:=@Cj env r x k'
  rw[Ara] at h
  by_cases hc:(k == NameKind.free&&env.scope.kind == .function&&env.kindOf n == some .cell)=true
  ·simp only[hc,Ate] at h
   rw[Asi] at h ⊢
   cases hx:x == n with
   |true =>
    simp only[hx] at h ⊢
    cases h
    have:k=.free:=by simp at hc;exact hc.1.1
    exact .inr ⟨by rw[this],rfl⟩
   |false =>
    simp only[hx] at h ⊢
    exact ih h
  ·simp only[Aq7 hc] at h
   rw[Asi] at h ⊢
   cases hx:x == n with
   |true =>
    simp only[hx] at h ⊢
    cases h
    refine .inl ⟨rfl,fun z=>?_⟩
    subst z
    have e:=eq_of_beq hx
    subst e
    simp at hc
    by_cases q:env.scope.kind=.function
    ·exact .inl fun z=>hc q z
    ·exact .inr q
   |false =>
    simp only[hx] at h ⊢
    exact ih h
section
variable {X:Cx}{elt tg iter:Expr}{ifs:List Expr}{scope:Scope}{pos:Pos}{cap:List Nat}{N':List Str}
theorem V0 {pins:List (Addr×Obj)}{σ:St}{H2 H3:Hp}{s2:Shared}{h₁:Heap}{tk:Nat}{fp:List Addr}{cl:List (Str×Addr)}{C:Addr}{ys:List V} (ok:CompOk X scope cap N') (I2:Inv X pins σ H2 s2) (f2:∀ b∈fp,Vl X pins H2 b) (fo:∀ b∈fp,∃ o,s2.heap.get? b=some o)
  (hcl:∀ x c,cl.lookup x=some c->(X.env.cells.lookup x=some c/\scope.names.lookup x≠some .cell)\/(scope.names.lookup x=some .cell/\C < c/\h₁.IsCell c none/\H3 c=none)) (hinj:∀ x y c,cl.lookup x=some c->cl.lookup y=some c->x=y)
  (hcl2:∀ x,((x,NameKind.free)∈scope.names\/(x,NameKind.cell)∈scope.names)->∃ c,cl.lookup x=some c)
  (hC:s2.heap.objs.size<=C) (hns:∃ m,h₁.Ns C m) (hk:∀ b o,s2.heap.get? b=some o->h₁.get? b=some o) (hH:∀ b o,s2.heap.get? b=some o->H2 b=none->H3 b=none) (hS:Same H2 H3) (hC3:H3 C=none) (hok:HOk X.prog X.w X.K H3 h₁) :
  Inv (A2 X N' scope cl C s2 H2 fp (X.pn++pins)) [] (capσ cap (N'.length - cap.length) σ) H3 { s2 with heap:=h₁,toks:=tk }:=by
 have lt:∀ b o,s2.heap.get? b=some o->b≠C:=fun b o e=>Aro (Arb (Aq9 e) hC)
 have kin:∀ x,(A2 X N' scope cl C s2 H2 fp (X.pn++pins)).env.kindOf x=some .cell\/(A2 X N' scope cl C s2 H2 fp (X.pn++pins)).env.kindOf x=some .free->(x,NameKind.free)∈scope.names\/(x,NameKind.cell)∈scope.names:=fun x h=>by
  have key:∀ k,(relabel scope X.env).names.lookup x=some k->k=.cell\/k=.free->(x,NameKind.free)∈scope.names\/(x,NameKind.cell)∈scope.names:=fun k hk hkk=>by
   rcases Cj hk with ⟨q,_⟩|⟨q,_⟩
   ·rcases hkk with rfl|rfl
    ·exact .inr (Arv q)
    ·exact .inl (Arv q)
   ·exact .inl (Arv q)
  rcases h with h|h
  ·exact key _ h (.inl rfl)
  ·exact key _ h (.inr rfl)
 have fpx:∀ b∈fp,∀ o,X.base.get? b=some o->False:=fun b hb o e=>by
  obtain⟨_,_,_,q,_,_⟩:=f2 b hb
  rcases q with q|q
  ·exact I2.ok.noex b o e q
  ·exact absurd (Arb (Aq9 e) (Arl I2.ok.bsz q)) (Ary _)
 refine⟨⟨I2.ok.mod,ok.kind,I2.ok.glob,I2.ok.blt,hC,?_,?_,?_,I2.ok.hd,I2.ok.frames,.inl rfl,?_,I2.bs,Arl I2.ok.bsz I2.sz,?_,?_,I2.stack,I2.stkFree⟩,rfl,I2.bare,⟨?_,?_,?_,?_,?_,?_,?_⟩,?_,?_,hC3,?_,?_,hok,?_⟩
 ·exact hinj
 ·exact fun x h=>hcl2 x (kin x h)
 ·intro x c h e
  have h:(match scope.names.lookup x with|some .cell=>true|_=>false)=true:=h
  rcases hcl x c e with ⟨_,z⟩|⟨_,z,_⟩
  ·split at h
   ·rename_i q;exact absurd q z
   ·exact Bn h
  ·exact As4 (Nat.lt_of_le_of_lt hC z)
 ·intro b hb
  obtain⟨o,e⟩:=fo b hb
  refine⟨lt b o e,fun x c h=>?_⟩
  rcases hcl x c h with ⟨z,_⟩|⟨_,z,_⟩
  ·exact (f2 b hb).2.2.2.2.1 x c z
  ·exact Asz (Nat.lt_trans (Arb (Aq9 e) hC) z)
 ·exact fun b o e hb=>fpx b hb o e
 ·intro b hb hfs
  have z:b∈X.env.locals::X.fs:=I2.stkSub b hfs
  rcases List.mem_cons.mp z with z|z
  ·exact (f2 b hb).2.1 z
  ·exact (f2 b hb).2.2.1 z
 ·exact fun b o e n _ _=>hk b o e
 ·exact fun b o e n _ _=>⟨o.slots,hk b o e⟩
 ·exact fun b o e n _=>hH b o e n
 ·exact fun b o e _=>⟨o,hk b o e⟩
 ·exact fun b xs e=>hS b _ e
 ·exact fun b o u e=>hS b _ e
 ·exact fun b ps e=>⟨#[],by rw[hS b _ e];simp⟩
 ·obtain⟨m,hm⟩:=hns
  refine⟨m,hm,fun j x v e1 e2 e3=>?_⟩
  have hj:j < cap.length:=by
   apply Atj
   intro hj
   unfold capσ at e2
   rw[Aru (by simpa using hj),Ar3] at e2
   split at e2<;>cases e2
  obtain⟨i,hi⟩:∃ i,cap[j]?=some i:=⟨cap[j],by simp[hj]⟩
  obtain⟨q1,q2⟩:=ok.cap j i x hi e1
  have e4:σ[i]?=some (some v):=by
   unfold capσ at e2
   rw[Arm (by simpa using hj),Ari,hi] at e2
   simp only[Option.map_some,Option.some.injEq] at e2
   obtain⟨o,h1,h2⟩:=bind_some e2
   have h2:o=some v:=h2
   rw[h1,h2]
  have hfr:=ok.free (x,.free) (Arv q2) rfl
  have vis:Vis X.env.scope x:=.inr hfr
  obtain⟨m0,hn0,hl⟩:=I2.loc
  obtain⟨u,r,l⟩:=hl i x v q1 e4 vis
  refine⟨u,r,.inr ?_⟩
  rcases l with ⟨l1,_⟩|⟨l1,c,l2,l3⟩
  ·have l1:X.env.scope.names.lookup x=some .local:=l1
   rcases hfr with z|z<;>rw[l1] at z<;>cases z
  ·obtain⟨c',hc'⟩:=hcl2 x (.inl (Arv q2))
   have:c'=c:=by
    rcases hcl x c' hc' with ⟨z,_⟩|⟨z,_⟩
    ·rw[l2] at z;exact (Arn z).symm
    ·rw[q2] at z;cases z
   subst this
   refine⟨?_,c',hc',?_⟩
   ·rcases e3 with z|z|z
    ·have z':(relabel scope X.env).names.lookup x=some .local:=z
     rcases Cj z' with ⟨q,_⟩|⟨q,w⟩
     ·rw[q2] at q;cases q
     ·cases w
    ·exact .inl z
    ·exact .inr z
   ·obtain⟨oc,ho,hd⟩:=l3
    exact⟨oc,hk _ _ ho,hd⟩
 ·intro x c h
  rcases hcl x c h with ⟨z,_⟩|⟨_,_,z,_⟩
  ·obtain⟨v,oc,ho,hd⟩:=I2.cell x c z
   exact⟨v,oc,hk _ _ ho,hd⟩
  ·exact⟨none,z⟩
 ·intro x c h
  rcases hcl x c h with ⟨z,_⟩|⟨_,_,_,z⟩
  ·obtain⟨v,oc,ho,hd⟩:=I2.cell x c z
   exact hH c oc ho (I2.freeC x c z)
  ·exact z
 ·intro p hp
  have hp':p∈X.pn++pins:=by
   have:p∈(X.pn++pins)++[]:=hp
   simpa using this
  obtain⟨e,n,ne,nf,d⟩:=I2.pin p hp'
  refine⟨hk _ _ e,hH _ _ e n,lt _ _ e,?_,d⟩
  intro z
  have z:p.1∈X.env.locals::X.fs:=I2.stkSub p.1 z
  rcases List.mem_cons.mp z with z|z
  ·exact ne z
  ·exact nf z
 ·unfold capσ
  show _=N'.length
  rw[Arz,Arj,List.length_replicate]
  have:=ok.le
  lia
end
end
end ML
end L2
end S_ML6
section S_ML7
namespace L2
namespace ML
open PySem PySem.Spec PyProof.Rows
open Classical
noncomputable section
noncomputable def Ef (g:FG) (t:FB) (fe:FE) (m:MH) (env:Ba):List D->Option (List D)
 |[]=>some []
 |d::ds=>(g d env).bind fun env1=>(t env1 m).bind fun ok=>if ok=true then (fe env1 m).bind fun y=>(Ef g t fe m env ds).bind fun ys=>some (y::ys) else Ef g t fe m env ds
noncomputable def Z1:FB:=fun _ _=>some true
def PTs (X:Cx) (ifs:List Expr) (f:FB):Prop:=∀ (pins:List (Addr×Obj)) (s:Shared) (σ:St) (H:Hp) (Q:Bool->Hp->Prop),Inv X pins σ H s->tB' X.K f σ H Q ->
 wpAny (model X.prog X.w) X.A (forIn ifs true fun c r=>if r=true then do let ok <- isTrue c X.env (eval c X.env);pure (ForInStep.yield ok) else pure (ForInStep.yield r)) (TP X pins σ Q) X.xe s
theorem Aed:PTs X [] Z1:=fun pins s σ H Q I ⟨env,μ,m,b,S,E,h,q⟩=>by
 cases h
 exact wpAny_tests_nil ⟨H,I,q H (Same.refl H)⟩
theorem Aee (h:PB X c f):PTs X [c] f:=fun pins s σ H Q I q=>wpAny_tests_one (h pins s σ H Q I q)
theorem Lf {s:Shared}{pos:Pos} (I:Nat->Shared->Prop) (turn:∀ n s,I n s->wpAny (model prog w) A (pyNext it) (fun r s₁=>match r with
   |none=>R (.ok .next) s₁
   |some v=>wpAny (model prog w) A (letOwnedTupleGo target it v) (fun _ s₁'=>wpAny (model prog w) A (assign target env v) (fun _ s₂ =>
     wpAny (model prog w) A (forIn ifs true fun c r=>if r=true then do let ok <- isTrue c env (eval c env);pure (ForInStep.yield ok) else pure (ForInStep.yield r)) (fun ok s₃ =>
      if ok=true then wpAny (model prog w) A (eval elt env) (fun x s₄ =>
       wpAny (model prog w) A (call (.builtin "list.append") [acc,x]) (fun _ s₅=>∃ m,m < n/\I m s₅) (fun _ _=>False) s₄) (fun _ _=>False) s₃
      else ∃ m,m < n/\I m s₃) (fun _ _=>False) s₂) (fun _ _=>False) s₁') (fun _ _=>False) s₁) (fun _ _=>False) s) (n:Nat) (h:I n s):codeAny (model prog w) A (.compLoop (.ListComp elt [⟨target,iter,ifs,0⟩] scope pos) 0 it acc env) R s:=by
 have no:∀ {E:Value->Shared->Prop} (e:Value) (s:Shared),False->E e s:=fun _ _ h=>h.elim
 refine codeAny_loop rfl I (fun n s hI=>?_) n h
 show wpAny _ A ((compTurn (.ListComp elt [⟨target,iter,ifs,0⟩] scope pos) 0 it acc env).onRaise (fun x=>do noteFrame x env;theTreesLotGoes x)) _ _ s
 refine wpAny_noted ?_
 rw[compTurn_list]
 refine Aqx (wpAny_standAt (Aqx (Asm (turn n s hI) (fun r s₁ h₁=>?_) no)))
 cases r with
 |none=>exact Aq0 h₁
 |some v =>
  refine Aqx (Asm h₁ (fun _ s₁' h₁'=>?_) no)
  refine Aqx (Asm h₁' (fun _ s₂ h₂=>Aqx (Asm h₂ (fun ok s₃ h₃=>?_) no)) no)
  cases ok with
  |false=>exact Aq0 ⟨rfl,h₃⟩
  |true =>
   exact Aqx (Aqx (Asm h₃ (fun x s₄ h₄=>Aqx (Asm h₄ (fun _ s₅ h₅=>Aq0 (Aq0 ⟨rfl,h₅⟩)) no)) no))
theorem Vx {K:W.Frag}{H:Hp}{μ:List Addr}{σ:St}{env:Ba} (h:EnvRep K H μ σ env) (cap:List Nat) (k:Nat):EnvRep K H μ (capσ cap k σ) (Rf cap k env):=by
 refine⟨by unfold capσ Rf;simp,fun j d e=>?_⟩
 have hj:j < cap.length:=by
  apply Atj
  intro hj
  unfold Rf at e
  rw[Aru (by simpa using hj),Ar3] at e
  split at e<;>cases e
 unfold Rf at e
 rw[Arm (by simpa using hj),Ari] at e
 have hi:cap[j]?=some cap[j]:=by simp[hj]
 rw[hi] at e
 simp only[Option.map_some,Option.some.injEq] at e
 obtain⟨o,h1,h2⟩:=bind_some e
 have h2:o=some d:=h2
 subst h2
 obtain⟨v,q1,q2⟩:=h.get _ _ h1
 refine⟨v,?_,q2⟩
 unfold capσ
 rw[Arm (by simpa using hj),Ari,hi]
 simp[q1]
section
variable {X:Cx}{elt tg iter:Expr}{ifs:List Expr}{scope:Scope}{pos:Pos}{cap:List Nat}{N':List Str}{fw:FW}{g:FG}{t:FB}{fe:FE}
def Ce (cap:List Nat) (k:Nat) (fw:FW) (g:FG) (t:FB) (fe:FE):FL:=fun env m=>(fw env m).bind fun w=>if w.chk m/\w.all.length<=1000000 then Ef g t fe m (Rf cap k env) w.all else none
structure CompEnd (X:Cx) (pins:List (Addr×Obj)) (σ:St) (H:Hp) (μ:List Addr) (zs:List D) (D C:Addr) (s':Shared):Prop where
 out:∃ H' ys,Same H H'/\H D=none/\H' D=some (.lst ys)/\Reps X.K H' μ (nw μ D) zs ys/\Inv X pins σ H' s'/\H' C=none/\∀ σ' s'' h',Inv X pins σ' H' s''->Heap.SameBut C s''.heap h'->Inv X pins σ' H' { s'' with heap:=h' }
 ns:∃ m,s'.heap.Ns C m
 lc:C≠X.env.locals
 cc:∀ x c,X.env.cells.lookup x=some c->c≠C
inductive CI (Y:Cx) (μ:List Addr) (fp:List Addr) (tn:Nat->Heap->Prop) (Dd:Addr) (H2:Hp) (g:FG) (e0:Ba) (cd:Nat->Option (List D)) (n:Nat) (zs:List D) (s:Shared):Nat->Prop where
 |mk {i:Nat}{H3:Hp}{σ3:St}{env3:Ba}{ys:List V}{its:List Value}{na:Nat}{dn rs:List D}:i<=n->Inv Y [] σ3 H3 s->tn i s.heap->(∀ b∈fp,H3 b=none)->Same H2 H3->H3 Dd=none->EnvRep Y.K H3 μ σ3 env3->(∀ d,g d env3=g d e0) ->
  s.heap.get? Dd=some { cls:=.type "list",data:=.seq its.toArray na }->Vals ys its->Reps Y.K H3 μ (·∈μ) dn ys->cd i=some rs->dn++rs=zs->dn.length<=i->CI Y μ fp tn Dd H2 g e0 cd n zs s (n - i)
theorem Ht (ok:CompOk X scope cap N') (hc:X.calm=true) (hi:PW' X tg iter fw) (hg2:∀ d d' env e1,g d env=some e1->g d' e1=g d' env)
  {Φ:Hp->Prop} (hΦ:∀ {pins:List (Addr×Obj)}{σ:St}{H:Hp}{s:Shared},Inv X pins σ H s->Φ H) (hg:∀ cl C s₀ H₀ ex pn,Φ H₀->PGD (A2 X N' scope cl C s₀ H₀ ex pn) tg g) (ht:∀ cl C s₀ H₀ ex pn,Φ H₀->PTs (A2 X N' scope cl C s₀ H₀ ex pn) ifs t) (he:∀ cl C s₀ H₀ ex pn,Φ H₀->PD (A2 X N' scope cl C s₀ H₀ ex pn) elt fe)
  (hs:∀ x,foldedSetIterable iter X.env x=pure x) {use:Option (Value->Sem Unit)}{ipos:Pos}{pins:List (Addr×Obj)}{s:Shared}{σ:St}{H:Hp}{Q:Value->Shared->Prop} (I:Inv X pins σ H s) {env:Ba}{μ:List Addr}{m:MH}{zs:List D}
  (S:Sim X.K H μ m) (E:EnvRep X.K H μ σ env) (h:Ce cap (N'.length - cap.length) fw g t fe env m=some zs)
  (hQ:∀ D C s',CompEnd X pins σ H μ zs D C s'->compPost (model X.prog X.w) X.A X.xe use Q (.ref D) C (.ok .next) s') :
  wpAny (model X.prog X.w) X.A (comprehension (.ListComp elt [⟨tg,iter,ifs,0⟩] scope pos) scope X.env ipos (newList []) false (eval iter X.env) use) Q X.xe s:=by
 obtain⟨w,h1,h⟩:=bind_some h
 split at h
 rotate_left
 ·cases h
 rename_i hck
 obtain⟨hck,hsz⟩:=hck
 have hfr:∀ y∈scope.names,y.2=.free->∃ c,X.env.cells.lookup y.1=some c:=fun y hy hf=>I.ok.has y.1 (ok.free y hy hf)
 obtain⟨cl0,hclos,hcl0,hcl20⟩:=Je hfr
 refine wpAny_comprehension_free (g:=⟨tg,iter,ifs,0⟩) (gs:=[]) rfl hs hclos ok.kind ok.names (thn (hi pins s σ H (fun J H2=>∃ src,Same H H2/\Src X.K J w.all w.chk src/\src H2 μ m) I ⟨env,μ,m,w,S,E,h1,fun H' J src s1 hsrc h0=>⟨src,s1,hsrc,h0⟩⟩) fun v s1 h2=>thn h2 fun itv s2 h3=>?_)
 obtain⟨it,fp,tn,J,H2,e,I2,T,st2,f2,src,hS2,hsrc,h0⟩:=h3
 subst e
 refine Asf (Nb fun h₁ hns₁ hsb₁ heq₁=>?_)
 dsimp only at hns₁ hsb₁ heq₁ ⊢
 generalize hHp:s2.heap.push { cls:=.type "list",dict:=none,data:=.seq ([]:List Value).toArray }=HP at hns₁ hsb₁ heq₁ ⊢
 have hCs:HP.objs.size=s2.heap.objs.size+1:=by rw[<- hHp,Atd]
 have hDC:s2.heap.objs.size≠HP.objs.size:=by rw[hCs];exact Aro (Nat.lt_succ_self _)
 have hCle:s2.heap.objs.size<=HP.objs.size:=by rw[hCs];exact Nat.le_succ _
 have below:∀ b,b < s2.heap.objs.size->b≠HP.objs.size/\b≠s2.heap.objs.size:=fun b hb=>⟨by rw[hCs];exact Aro (Asr hb),Aro hb⟩
 have hkp:∀ b o,s2.heap.get? b=some o->h₁.get? b=some o:=fun b o e=>hsb₁ b o (hHp ▸ Aq1 _ e)
 have hacc:h₁.get? s2.heap.objs.size=some { cls:=.type "list",data:=.seq ([]:List Value).toArray 0 }:=hsb₁ _ _ (hHp ▸ Are _ rfl)
 have hDn:H2 s2.heap.objs.size=none:=I2.hok.fresh (Aq5 _)
 have hCn:H2 HP.objs.size=none:=I2.hok.fresh hCle
 have fo:∀ b∈fp,∃ o,s2.heap.get? b=some o:=fun b hb=>let ⟨o,e,_⟩:=T.obj _ _ st2 b hb;⟨o,e⟩
 have fdc:∀ b∈fp,b≠HP.objs.size/\b≠s2.heap.objs.size:=fun b hb=>let ⟨o,e⟩:=fo b hb;below b (Aq9 e)
 have hsz1:(HP.push { cls:=.type "dict",data:=.dict #[] }).objs.size=HP.objs.size+1:=Atd ..
 obtain⟨c1,c2,c3⟩:=Rr scope.names (HP.push { cls:=.type "dict",data:=.dict #[] }) cl0 (fun x c e=>by
  obtain⟨v,oc,ho,_⟩:=I2.cell x c (hcl0 x c e)
  rw[hsz1,hCs]
  exact Asr (Asr (Aq9 ho))) (fun x y c e1 e2=>I2.ok.inj x y c (hcl0 x c e1) (hcl0 y c e2))
 rw[hsz1,<- heq₁] at c1
 rw[hsz1] at c2 c3
 generalize hcle:cellsFrom (HP.objs.size+1) scope.names cl0=cl at *
 have hcl:∀ x c,cl.lookup x=some c->(X.env.cells.lookup x=some c/\scope.names.lookup x≠some .cell)\/(scope.names.lookup x=some .cell/\HP.objs.size < c/\h₁.IsCell c none/\H2 c=none):=fun x c e=>by
  rcases c1 x c e with ⟨z,w⟩|⟨z1,z2,z3⟩|⟨_,_,z⟩
  ·exact .inl ⟨hcl0 x c z,fun q=>w (Arv q)⟩
  ·exact .inr ⟨ok.cell _ z1 rfl,z2,z3,I2.hok.fresh (Arl hCle (As4 z2))⟩
  ·exact z.elim
 have hcl2:∀ x,((x,NameKind.free)∈scope.names\/(x,NameKind.cell)∈scope.names)->∃ c,cl.lookup x=some c:=fun x e=>c3 x (e.elim (fun z=>.inr (hcl20 x z)) .inl)
 generalize hDd:s2.heap.objs.size=Dd at *
 generalize hCc:HP.objs.size=C at *
 have Y0:Inv (A2 X N' scope cl C s2 H2 fp (X.pn++pins)) [] (capσ cap (N'.length - cap.length) σ) H2 { s2 with heap:=h₁,toks:=s2.toks } :=
  V0 (ys:=[]) ok I2 f2 fo hcl c2 hcl2 (by rw[hDd];exact hCle) ⟨_,hns₁⟩ hkp (fun _ _ _ n=>n) (Same.refl _) hCn (I2.hok.kept hkp)
 -- what stays true of the iterator's objects in the block
 have fpY:∀ {H':Hp}{ps:List (Addr×Obj)},(∀ b∈fp,H' b=none)->(∀ p∈ps,p.1∉fp)->∀ b∈fp,Vl (A2 X N' scope cl C s2 H2 fp (X.pn++pins)) ps H' b:=fun {H' ps} hn hps b hb=>by
  obtain⟨q0,q1,q2,q3,q4,q5⟩:=f2 b hb
  refine⟨hn b hb,(fdc b hb).1,fun z=>?_,.inl hb,fun x c e=>?_,fun p hp z=>?_⟩
  rotate_left
  ·rcases hcl x c e with ⟨z,_⟩|⟨_,z,_⟩
   ·exact q4 x c z
   ·obtain⟨o,e'⟩:=fo b hb
    exact Asz (Arb (by have:=Aq9 e';rw[hDd] at this;exact this) (Arl hCle (As4 z)))
  rotate_left
  ·have z:b∈X.env.locals::X.fs:=I2.stkSub b z
   rcases List.mem_cons.mp z with z|z
   ·exact q1 z
   ·exact q2 z
  ·rcases List.mem_append.mp hp with hp|hp
   ·exact q5 p hp z
   ·exact hps p hp (by rw[z];exact hb)
 have key:∀ s₃:Shared,s₃={ s2 with heap:=h₁,toks:=s2.toks } ->
   codeAny (model X.prog X.w) X.A (.compLoop (.ListComp elt [⟨tg,iter,ifs,0⟩] scope pos) 0 (.ref it) (.ref Dd) (compEnvC scope cl C X.env)) (compPost (model X.prog X.w) X.A X.xe use Q (.ref Dd) C) s₃:=by
  rintro s₃ rfl
  refine Lf (fun k s=>CI (A2 X N' scope cl C s2 H2 fp (X.pn++pins)) μ fp tn Dd H2 g (Rf cap (N'.length - cap.length) env) (fun i=>Ef g t fe m (Rf cap (N'.length - cap.length) env) (w.all.drop i)) w.all.length zs s k) ?_ w.all.length
   (.mk (ys:=[]) (dn:=[]) (Ar8 _) Y0 (T.keep _ _ _ st2 fun b hb o e=>hkp b o e) (fun b hb=>(f2 b hb).1) (Same.refl _) hDn (Vx (E.same hS2) cap _) (fun _=>rfl) hacc .nil .nil (by simpa using h) rfl (Ar8 _))
  intro k s3 ci
  cases ci with
  |@mk i H3 σ3 env3 ys its na dn rs hi' I3 st3 fr3 s3' hD3 E3 hg3 ha3 rv3 rr3 hc3 hz3 hl3 =>
  have S3:Sim X.K H3 μ m:=S.same (hS2.trans s3')
  have src3:src H3 μ m:=hsrc.keep _ _ _ _ _ _ h0 (S.same hS2) (Step.of_same s3') S3
  have hDfp:Dd∉fp:=fun z=>(fdc Dd z).2 rfl
  have hDne:Dd≠(A2 X N' scope cl C s2 H2 fp (X.pn++pins)).env.locals:=hDC
  have hDcell:∀ x c,(A2 X N' scope cl C s2 H2 fp (X.pn++pins)).env.cells.lookup x=some c->c≠Dd:=fun x c e z=>by
   rcases hcl x c e with ⟨w,_⟩|⟨_,w,_⟩
   ·obtain⟨v,oc,ho,_⟩:=I2.cell x c w
    exact absurd (Aq9 ho) (by rw[z,hDd];exact Ary _)
   ·exact absurd w (by rw[z];exact Nat.not_lt.mpr hCle)
  have hDpn:∀ p∈X.pn++pins,p.1≠Dd:=fun p hp z=>absurd (Aq9 (I2.pin p hp).1) (by rw[z,hDd];exact Ary _)
  have hDs:s2.heap.objs.size<=Dd:=Nat.le_of_eq hDd
  have hDfs:Dd∉(A2 X N' scope cl C s2 H2 fp (X.pn++pins)).fs:=fun z=>by
   have z:Dd∈X.env.locals::X.fs:=I2.stkSub Dd z
   rcases List.mem_cons.mp z with z|z
   ·exact absurd I2.lt (by rw[<- z,hDd];exact Ary _)
   ·exact I2.nofs hDs z
  have I3p:Inv (A2 X N' scope cl C s2 H2 fp (X.pn++pins)) [(Dd,{ cls:=.type "list",data:=.seq its.toArray na })] σ3 H3 s3:=I3.pins_of fun p hp=>by
   have e:p=(Dd,{ cls:=.type "list",data:=.seq its.toArray na }):=by simpa using hp
   subst e
   exact⟨ha3,hD3,hDne,hDfs,fun v z=>by cases z⟩
  have pfp:∀ p∈[(Dd,({ cls:=.type "list",data:=.seq its.toArray na }:Obj))],p.1∉fp:=fun p hp=>by
   have e:p=(Dd,{ cls:=.type "list",data:=.seq its.toArray na }):=by simpa using hp
   subst e
   exact hDfp
  by_cases hlt:i < w.all.length
  ·have hd:w.all.drop i=w.all[i]::w.all.drop (i+1):=Asl hlt
   rw[hd] at hc3
   unfold Ef at hc3
   obtain⟨env4,e4,hc3⟩:=bind_some hc3
   obtain⟨tb,e5,hc3⟩:=bind_some hc3
   obtain⟨go,yl⟩:=hsrc.go H3 μ m i w.all[i] S3 src3 hck (by simp[hlt])
   refine thn (T.item (A2 X N' scope cl C s2 H2 fp (X.pn++pins)) rfl rfl rfl hc i _ s3 σ3 H3 _ I3p (fpY fr3 pfp) st3 go) fun r s4 ⟨u,hr,h4⟩=>?_
   subst hr
   refine thn h4 fun _ s5 ⟨x,H5,I5,r5,y5,st5,fr5⟩=>?_
   obtain⟨s5',rx5⟩:=yl x H5 y5
   have S5:=S3.same s5'
   have E5:=E3.same s5'
   have I5':=I5.pinned (fpY fr5 pfp) (T.obj _ _ st5)
   generalize hps:[(Dd,({ cls:=.type "list",data:=.seq its.toArray na }:Obj))]++Me fp s5.heap=ps at I5'
   have pacc:(Dd,({ cls:=.type "list",data:=.seq its.toArray na }:Obj))∈ps:=by rw[<- hps];exact Arx _ (by simp)
   have pits:∀ b o,b∈fp->s5.heap.get? b=some o->(b,o)∈ps:=fun b o hb e=>by rw[<- hps];exact Aq2 _ (Ek hb e)
   refine thn (hg cl C s2 H2 fp (X.pn++pins) (hΦ I2) ps s5 σ3 H5 x u (fun σ' H'=>H'=H5/\EnvRep X.K H5 μ σ' env4) I5' r5 ⟨env3,μ,m,_,env4,S5,E5,rx5,by rw[hg3];exact e4,fun σ' E'=>⟨rfl,E'⟩⟩) fun _ s6 ⟨σ6,H6,I6,eH6,E6⟩=>?_
   subst eH6
   refine thn (ht cl C s2 H2 fp (X.pn++pins) (hΦ I2) ps s6 σ6 H6 (fun b H'=>b=tb/\Same H6 H') I6 ⟨env4,μ,m,tb,S5,E6,e5,fun H' s=>⟨rfl,s⟩⟩) fun ok s7 ⟨H7,I7,eb,s7'⟩=>?_
   subst eb
   have S7:=S5.same s7'
   have E7:=E6.same s7'
   have hg4:∀ d,g d env4=g d (Rf cap (N'.length - cap.length) env):=fun d=>by rw[hg2 _ d _ _ e4]
   cases ok with
   |false =>
    rw[Aq7 Arc] at hc3
    have pin7:=fun p hp=>I7.pin p (Aq2 _ hp)
    refine Ape ⟨w.all.length - (i+1),by lia,.mk hlt (I7.pins_of (fun p hp=>by simp at hp)) (T.keep _ _ _ st5 fun b hb o e=>(pin7 (b,o) (pits b o hb e)).1) (fun b hb=>?_) ((s3'.trans s5').trans s7') (pin7 _ pacc).2.1 E7 hg4 (pin7 _ pacc).1 rv3 (rr3.same (s5'.trans s7')) hc3 hz3 (Nat.le_succ_of_le hl3)⟩
    obtain⟨o,e,_⟩:=T.obj _ _ st5 b hb
    exact (pin7 (b,o) (pits b o hb e)).2.1
   |true =>
    rw[Aq4 rfl] at hc3
    obtain⟨y,e6,hc3⟩:=bind_some hc3
    obtain⟨rs',e7,hc3⟩:=bind_some hc3
    cases hc3
    refine Apf (thn (he cl C s2 H2 fp (X.pn++pins) (hΦ I2) ps s7 σ6 H7 (fun v H'=>Same H7 H'/\Rep X.K H' μ (·∈μ) y v) I7 ⟨env4,μ,m,y,S7,E7,e6,fun v H' s r=>⟨s,r⟩⟩) fun u8 s8 ⟨x8,H8,I8,r8,s8',rx8⟩=>?_)
    have pin8:=fun p hp=>I8.pin p (Aq2 _ hp)
    have e8:=(pin8 _ pacc).1
    have hil:its.length<=i:=by rw[<- rv3.length,<- rr3.length];exact hl3
    have hsl:sizeLine=16777216:=Aso
    refine call_meets F.slot_list_append ⟨_,e8,rfl⟩ F.entry_list_append (F.args_list_append_2 _ _) (PySem.list_append Dd its.toArray na u8 (by rw[Aq3];lia)) ⟨e8,?_⟩
    obtain⟨na',q9⟩:∃ na',(s8.heap.update Dd (Obj.mapSeq fun a=>a.push u8)).get? Dd=some { cls:=.type "list",data:=.seq (its++[u8]).toArray na' }:=by
     have q9:=PySem.IsL.update e8 (fun a=>a.push u8)
     have ea:(its.toArray.push u8)=(its++[u8]).toArray:=by simp
     rw[ea] at q9
     exact⟨_,q9⟩
    have I8':Inv (A2 X N' scope cl C s2 H2 fp (X.pn++pins)) [] σ6 H8 s8:=I8.pins_of (fun p hp=>by simp at hp)
    have I9:=I8'.turned (it:=Dd) (t':=s8.toks) (h':=s8.heap.update Dd (Obj.mapSeq fun a=>a.push u8)) (fun b o hb e=>(Arh s8.heap _ (Asc hb)).trans e) (pin8 _ pacc).2.1 hDne (.inr hDs) hDcell (fun p hp=>hDpn p (by
     have hp:p∈(X.pn++pins)++[]:=hp
     simpa using hp))
    refine⟨w.all.length - (i+1),by lia,.mk (na:=na') hlt I9 (T.keep _ _ _ st5 fun b hb o e=>?_) (fun b hb=>?_) (((s3'.trans s5').trans s7').trans s8') (pin8 _ pacc).2.1 (E7.same s8') hg4 ?_ (rv3.append (.cons r8 .nil)) ((rr3.same ((s5'.trans s7').trans s8')).append (.cons rx8 .nil)) e7 (by rw[<- hz3];simp) (by rw[Arz];simp;lia)⟩
    ·exact (Arh s8.heap _ (Asc (fdc b hb).2)).trans (pin8 (b,o) (pits b o hb e)).1
    ·obtain⟨o,e,_⟩:=T.obj _ _ st5 b hb
     exact (pin8 (b,o) (pits b o hb e)).2.1
    ·exact q9
  ·have e:i=w.all.length:=by lia
   subst e
   rw[List.drop_length] at hc3
   cases hc3
   rw[Ar4] at hz3
   subst hz3
   refine thn (T.done (A2 X N' scope cl C s2 H2 fp (X.pn++pins)) rfl rfl rfl hc _ _ s3 σ3 H3 _ I3p (fpY fr3 pfp) st3 (hsrc.stop H3 μ m S3 src3 hck)) fun r s4 ⟨hr,I4⟩=>?_
   subst hr
   have e4:=(I4.pin (Dd,_) (Aq2 _ (List.mem_singleton.mpr rfl))).1
   have hyl:ys.length<=sizeLine:=by rw[<- rr3.length];exact big (Arl hl3 hsz)
   have inv:∀ h',(∀ b o,b≠C->s4.heap.get? b=some o->h'.get? b=some o)->Inv X pins σ (upd H3 Dd (.lst ys)) { s4 with heap:=h' }:=fun h' hk=>by
    have nC:∀ b o,s2.heap.get? b=some o->b≠C/\b≠Dd:=fun b o e=>below b (by rw[<- hDd];exact Aq9 e)
    have un:Un (frs X.stack) fp H2 H3 s2.heap s4.heap:=I4.base
    refine I2.call' (s':={ s4 with heap:=h' }) (ch:=fp) I4.os ⟨fun b o e n hb hx=>hk b o (nC b o e).1 (un.keep b o e n hb hx),fun b o e n hb hx=>?_,fun b o e n hx=>?_,fun b o e hx=>?_,fun b xs e=>?_,fun b o v e=>?_,fun b ps e=>?_⟩ (fun b v e=>?_) I4.bare fun b hb=>?_
    ·obtain⟨sl,q⟩:=un.slot b o e n hb hx
     exact⟨sl,hk b _ (nC b o e).1 q⟩
    ·rw[Aw (nC b o e).2];exact un.free b o e n hx
    ·obtain⟨o',q⟩:=un.there b o e hx
     exact⟨o',hk b _ (nC b o e).1 q⟩
    ·rw[Aw (Aq e hDn)];exact un.tups b xs e
    ·rw[Aw (Aq e hDn)];exact un.frzs b o v e
    ·obtain⟨more,q⟩:=un.tbls b ps e
     exact⟨more,by rw[Aw (Aq e hDn)];exact q⟩
    ·have hCfree:H3 C=none:=I4.free
     by_cases hbD:b=Dd
     ·subst hbD
      rw[A9] at e
      cases e
      exact⟨hyl,its,na,rv3,hk _ _ hDC e4⟩
     ·rw[Aw hbD] at e
      refine (I4.hok b v e).stay (fun c o hc q=>hk c o ?_ q) (fun c q=>by rw[Aw (Aq q hD3)];exact q) (fun c xs q=>Rd.upd_none hD3 q) fun c x u q=>by rw[Aw (Aq q hD3)];exact q
      rcases hc with rfl|hc
      ·exact Aq e hCfree
      ·exact Aq hc hCfree
    ·obtain⟨q0,q1,q2,q3,q4,q5⟩:=f2 b hb
     exact⟨q3,q1,q4,q5⟩
   have hCl:C≠X.env.locals:=fun z=>absurd I2.lt (by rw[<- z,hDd];exact Nat.not_lt.mpr hCle)
   have hCc':∀ x c,X.env.cells.lookup x=some c->c≠C:=fun x c e z=>by
    obtain⟨v,oc,ho,_⟩:=I2.cell x c e
    exact absurd (Aq9 ho) (by rw[z,hDd];exact Nat.not_lt.mpr hCle)
   refine hQ Dd C s4 ⟨⟨upd H3 Dd (.lst ys),ys,(hS2.trans s3').trans (Bd hD3),hS2.free hDn,A9,rr3.fresh hD3,inv s4.heap fun _ _ _ e=>e,by rw[Aw hDC.symm];exact I4.free,fun σ' s'' h' J sb=>?_⟩,?_,hCl,hCc'⟩
   ·exact J.turned (it:=C) (t':=s''.toks) (fun b o hb e=>(sb.2 b hb).trans e) (by rw[Aw hDC.symm];exact I4.free) hCl (.inr (Arl I2.sz (by rw[hDd];exact hCle))) hCc' fun p hp z=>absurd (Aq9 (I2.pin p hp).1) (by rw[z,hDd];exact Nat.not_lt.mpr hCle)
   obtain⟨m',hm,_⟩:=I4.loc
   exact⟨m',hm⟩
 exact codeAny_compStart_list (key _ rfl) (T.self _ 0 _ _ _ (T.keep _ _ _ st2 fun b hb o e=>hkp b o e) (key _ rfl))
theorem Yb (ok:CompOk X scope cap N') (hc:X.calm=true) (hi:PW' X tg iter fw) (hg2:∀ d d' env e1,g d env=some e1->g d' e1=g d' env)
  {Φ:Hp->Prop} (hΦ:∀ {pins:List (Addr×Obj)}{σ:St}{H:Hp}{s:Shared},Inv X pins σ H s->Φ H) (hg:∀ cl C s₀ H₀ ex pn,Φ H₀->PGD (A2 X N' scope cl C s₀ H₀ ex pn) tg g) (ht:∀ cl C s₀ H₀ ex pn,Φ H₀->PTs (A2 X N' scope cl C s₀ H₀ ex pn) ifs t) (he:∀ cl C s₀ H₀ ex pn,Φ H₀->PD (A2 X N' scope cl C s₀ H₀ ex pn) elt fe)
  (hs:∀ x,foldedSetIterable iter X.env x=pure x):PF X (.ListComp elt [⟨tg,iter,ifs,0⟩] scope pos) (Ce cap (N'.length - cap.length) fw g t fe):=by
 intro pins s σ H Q I ⟨env,μ,m,zs,S,E,h,q⟩
 rw[eval_ListComp]
 refine Ht ok hc hi hg2 hΦ hg ht he hs I S E h fun D C s' ⟨⟨H',ys,h1,h2,h3,h4,h5,h6,h7⟩,⟨mm,hm⟩,_,_⟩=>?_
 exact⟨mm,hm,fun h' sb=>⟨.ref D,H',h7 σ s' h' h5 sb,rfl,q D ys H' h1 h2 h3 h4⟩⟩
variable {x:Str}{p' spos:Pos}{i:Nat}
theorem Ru (ok:CompOk X scope cap N') (hc:X.calm=true) (hi:PW' X tg iter fw) (hg2:∀ d d' env e1,g d env=some e1->g d' e1=g d' env)
  {Φ:Hp->Prop} (hΦ:∀ {pins:List (Addr×Obj)}{σ:St}{H:Hp}{s:Shared},Inv X pins σ H s->Φ H) (hg:∀ cl C s₀ H₀ ex pn,Φ H₀->PGD (A2 X N' scope cl C s₀ H₀ ex pn) tg g) (ht:∀ cl C s₀ H₀ ex pn,Φ H₀->PTs (A2 X N' scope cl C s₀ H₀ ex pn) ifs t) (he:∀ cl C s₀ H₀ ex pn,Φ H₀->PD (A2 X N' scope cl C s₀ H₀ ex pn) elt fe)
  (hs:∀ x,foldedSetIterable iter X.env x=pure x) (hsw:swapsWith (.ListComp elt [⟨tg,iter,ifs,0⟩] scope pos) (some (.Name x p')) spos.line X.env=pure true) (hN:X.N.Nodup) (hn:X.N[i]?=some x) (hx:Loc X.env.scope x) (hf:X.fn x=true\/X.env.scope.names.lookup x=some .local) :
  PS X (.Assign [.Name x p'] (.ListComp elt [⟨tg,iter,ifs,0⟩] scope pos) spos) (Afl (tF X.K (Ce cap (N'.length - cap.length) fw g t fe)) (Pf i)):=by
 intro pins s σ H Dn I ⟨env,μ,m,zs,S,E,h,q⟩
 rw[exec_Assign_Name_used _ _ _ _ hsw]
 refine Aqx (wpAny_standAt (Aqx ?_))
 show wpAny _ X.A (do let _ <- comprehension (.ListComp elt [⟨tg,iter,ifs,0⟩] scope pos) scope X.env _ (newList []) false (eval iter X.env) (some (assign (.Name x p') X.env))) _ _ s
 refine Aqx (Asm (Ht ok hc hi hg2 hΦ hg ht he hs (use:=some (assign (.Name x p') X.env)) (Q:=fun _ s'=>SP X pins Dn .next s') I S E h fun D C s' ⟨⟨H',ys,h1,h2,h3,h4,h5,h6,h7⟩,⟨mm,hm⟩,lc,cc⟩=>?_) (fun _ s' hq=>Aq0 (Aq0 hq)) fun _ _ e=>e)
 show wpAny _ X.A (assign (.Name x p') X.env (.ref D)) _ _ _
 refine wpAny_assign_Name (Mp (v:=.ref D) h5 hN hn hx rfl (fun s'' I'' ⟨a,sb,ha⟩=>?_) hf)
 refine⟨mm,hm.sameBut sb ?_,fun h' sb'=>⟨_,H',h7 _ s'' h' I'' sb',q D ys H' h1 h2 h3 h4⟩⟩
 rcases ha with ha|ha
 ·rw[ha];exact lc
 ·exact (cc x a ha).symm
theorem Adw (ok:CompOk X scope cap N') (hc:X.calm=true) (hi:PW' X tg iter fw) (hg2:∀ d d' env e1,g d env=some e1->g d' e1=g d' env)
  (hg:∀ cl C s₀ H₀ ex pn,PGD (A2 X N' scope cl C s₀ H₀ ex pn) tg g) (ht:∀ cl C s₀ H₀ ex pn,PTs (A2 X N' scope cl C s₀ H₀ ex pn) ifs t) (he:∀ cl C s₀ H₀ ex pn,PD (A2 X N' scope cl C s₀ H₀ ex pn) elt fe)
  (hs:∀ x,foldedSetIterable iter X.env x=pure x):PF X (.ListComp elt [⟨tg,iter,ifs,0⟩] scope pos) (Ce cap (N'.length - cap.length) fw g t fe) :=
 Yb (Φ:=fun _=>True) ok hc hi hg2 (fun _=>trivial) (fun a b c d e f _=>hg a b c d e f) (fun a b c d e f _=>ht a b c d e f) (fun a b c d e f _=>he a b c d e f) hs
theorem N4 (ok:CompOk X scope cap N') (hc:X.calm=true) (hi:PW' X tg iter fw) (hg2:∀ d d' env e1,g d env=some e1->g d' e1=g d' env)
  (hg:∀ cl C s₀ H₀ ex pn,PGD (A2 X N' scope cl C s₀ H₀ ex pn) tg g) (ht:∀ cl C s₀ H₀ ex pn,PTs (A2 X N' scope cl C s₀ H₀ ex pn) ifs t) (he:∀ cl C s₀ H₀ ex pn,PD (A2 X N' scope cl C s₀ H₀ ex pn) elt fe)
  (hs:∀ x,foldedSetIterable iter X.env x=pure x) (hsw:swapsWith (.ListComp elt [⟨tg,iter,ifs,0⟩] scope pos) (some (.Name x p')) spos.line X.env=pure true) (hN:X.N.Nodup) (hn:X.N[i]?=some x) (hx:Loc X.env.scope x) (hf:X.fn x=true\/X.env.scope.names.lookup x=some .local) :
  PS X (.Assign [.Name x p'] (.ListComp elt [⟨tg,iter,ifs,0⟩] scope pos) spos) (Afl (tF X.K (Ce cap (N'.length - cap.length) fw g t fe)) (Pf i)) :=
 Ru (Φ:=fun _=>True) ok hc hi hg2 (fun _=>trivial) (fun a b c d e f _=>hg a b c d e f) (fun a b c d e f _=>ht a b c d e f) (fun a b c d e f _=>he a b c d e f) hs hsw hN hn hx hf
theorem Yl (h:PS X (.Assign [.Name x p'] (.ListComp elt [⟨tg,iter,ifs,0⟩] scope pos) spos) (Afl (tF X.K (Ce cap (N'.length - cap.length) fw g t fe)) (Pf i))) :
  PSD X (.Assign [.Name x p'] (.ListComp elt [⟨tg,iter,ifs,0⟩] scope pos) spos) (Bv i (Co (Ce cap (N'.length - cap.length) fw g t fe))):=PS.imp h fun D σ H ⟨env,μ,m,o,S,E,h,q⟩=>by
 obtain⟨d,h1,h2⟩:=bind_some h
 obtain⟨ds,h0,h1⟩:=bind_some h1
 cases h1
 cases h2
 exact⟨env,μ,m,ds,S,E,h0,fun a xs H' s hn ha r=>q _ H' μ (Step.of_same s) (S.same s) ((E.same s).set i (.lst (.inl ha) (S.nnone hn) r.unw))⟩
theorem Yj (h:PS X (.Assign [.Name x p'] (.ListComp elt [⟨tg,iter,ifs,0⟩] scope pos) spos) (Afl (tF X.K (Ce cap (N'.length - cap.length) fw g t fe)) (Pf i))) :
  PSD X (.Assign [.Name x p'] (.ListComp elt [⟨tg,iter,ifs,0⟩] scope pos) spos) (G7 i (Ce cap (N'.length - cap.length) fw g t fe)):=PS.imp h fun D σ H ⟨env,μ,m,o,S,E,h,q⟩=>by
 obtain⟨ds,h1,h2⟩:=bind_some h
 cases h2
 refine⟨env,μ,m,ds,S,E,h1,fun a xs H' s hn ha r=>?_⟩
 obtain⟨st,S'⟩:=S.push s hn ha r
 exact q _ H' _ st S' ((E.step S st).set i (Nq S.len))
end
end
end ML
end L2
end S_ML7
section S_ML8
namespace L2
namespace ML
open PySem PySem.Spec PyProof.Rows
open Classical
noncomputable section
noncomputable def Its (x:Str):It:=⟨fun i _=>i < x.cps.size,fun i H v H'=>H'=H/\∃ c,x.cps[i]?=some c/\v=.str ⟨#[c]⟩,fun i _=>x.cps.size<=i⟩
theorem Za {P:Program}{w:World}{K:W.Frag}{tg:Expr} (it:Addr) (ty:String) (x:Str) (t:Tok) (hty:ty="str_ascii_iterator"\/ty="str_iterator"):Turn P w K tg (Its x) [it] it (fun i h=>h.IsStrIter it ty x t i) where
 mem:=by simp
 obj:=fun i h st b hb=>by
  have e:b=it:=by simpa using hb
  subst e
  obtain⟨o,e,c,d⟩:=st
  exact⟨o,e,fun v z=>by rw[d] at z;cases z⟩
 keep:=fun i h h' st k=>by
  obtain⟨o,e,c,d⟩:=st
  exact⟨o,k it (by simp) o e,c,d⟩
 item:=by
  intro X hP hw hK hc i pins s σ H E I hf st hg
  subst hP hw hK
  obtain⟨f0,f1,f2,f3,f4,f5⟩:=hf it (by simp)
  have hi:i < x.cps.size:=hg
  have hx:x.cps[i]?=some x.cps[i]:=by simp[hi]
  have fin:∀ h',h'.IsStrIter it ty x t (i+1)->Heap.SameBut it s.heap h'->∃ u,some (Value.str ⟨#[x.cps[i]]⟩ s.toks)=some u /\
    wpAny (model X.prog X.w) X.A (letOwnedTupleGo tg (.ref it) u) (fun _ s2=>∃ y H',Inv X pins σ H' s2/\RelV y u/\(Its x).yld i H y H'/\s2.heap.IsStrIter it ty x t (i+1)/\∀ b∈[it],H' b=none) E { s with heap:=h',toks:=s.toks+1 }:=fun h' st' sb=>by
   have I1:Inv X pins σ H { s with heap:=h',toks:=s.toks+1 }:=I.turned (fun b o hb e=>(sb.2 b hb).trans e) f0 f1 f3 f4 f5
   obtain⟨o,e,c,d⟩:=id st'
   refine⟨_,rfl,Tn (s:={ s with heap:=h',toks:=s.toks+1 }) e c d (by rcases hty with rfl|rfl<;>decide) ⟨.str ⟨#[x.cps[i]]⟩,H,I1,⟨_,rfl⟩,⟨rfl,_,hx,rfl⟩,st',fun b hb=>(hf b hb).1⟩⟩
  rcases hty with rfl|rfl
  ·exact wpAny_pyNext_ascii_item st hx fun h' st' sb=>fin h' st' sb
  ·exact wpAny_pyNext_wide_item st hx fun h' st' sb=>fin h' st' sb
 done:=by
  intro X hP hw hK hc i pins s σ H E I hf st hg
  subst hP hw hK
  obtain⟨f0,f1,f2,f3,f4,f5⟩:=hf it (by simp)
  have hi:x.cps.size<=i:=hg
  rcases hty with rfl|rfl
  ·exact wpAny_pyNext_ascii_end (I.ok.hd hc) st (by simp[hi]) fun h' eb=>⟨rfl,I.turned (t':=s.toks) (fun b o hb e=>eb b o hb e) f0 f1 f3 f4 f5⟩
  ·exact wpAny_pyNext_wide_end (I.ok.hd hc) st (by simp[hi]) fun h' eb=>⟨rfl,I.turned (t':=s.toks) (fun b o hb e=>eb b o hb e) f0 f1 f3 f4 f5⟩
 self:=fun _ _ _ _ _ st h=>by
  rcases hty with rfl|rfl
  ·exact wpAny_pyIter_striter_ascii st h
  ·exact wpAny_pyIter_striter_wide st h
noncomputable def Io (z:Str):List D:=z.cps.toList.map fun c=>.str ⟨#[c]⟩
theorem Ae7 {K:W.Frag}{z:Str} (ok:PyData.strOk z=true):Src K (Its z) (Io z) Av (fun _ _ _=>True) where
 go:=fun H μ m i d S h _ e=>by
  unfold Io at e
  rw[Ari] at e
  cases q:z.cps.toList[i]? with
  |none=>rw[q] at e;cases e
  |some c =>
   rw[q] at e
   cases e
   have hi:i < z.cps.size:=by simpa using (List.getElem?_eq_some_iff.mp q).1
   have q':z.cps[i]?=some c:=by simpa using q
   refine⟨hi,fun x H' ⟨h1,c',h2,h3⟩=>?_⟩
   subst h1
   subst h3
   rw[q'] at h2
   cases h2
   exact⟨Same.refl _,.str _ (Hd ok fun c' hc=>by rw[show c'=c by simpa using hc];exact Ard q)⟩
 stop:=fun H μ m S h _=>by show z.cps.size<=(Io z).length;unfold Io;simp
 keep:=fun H μ m H' μ' m' h S st S'=>trivial
section
variable {X:Cx}{a b c e o':Expr}{es:List Expr}{pos p p' apos cpos spos:Pos}{x:Str}{tg:Expr}{id:String}
def Zb (f:FE):FW:=fun env m=>(f env m).bind fun d=>match d with
 |.str z=>some ⟨Io z,Av⟩
 |.tup ds=>some ⟨ds,Av⟩
 |.lst ds=>some ⟨ds,Av⟩
 |.kl ds=>some ⟨ds,Av⟩
 |.ref n=>(match m[n]? with
  |some (.lst ds)=>some ⟨ds,fun m'=>m'[n]?=some (.lst ds)⟩
  |_=>none)
 |_=>none
theorem Ajy {f:FE} (h:PD X e f):PW' X tg e (Zb f):=by
 intro pins s σ H R I hw
 obtain⟨env,μ,m,w,S,E,hw,q⟩:=hw
 obtain⟨d,h1,h2⟩:=bind_some hw
 refine thn (h pins s σ H (fun v H1=>Same H H1/\Rep X.K H1 μ (·∈μ) d v) I ⟨env,μ,m,d,S,E,h1,fun v H1 s1 r1=>⟨s1,r1⟩⟩) fun u s1 ⟨v,H1,I1,r1,s1',rx⟩=>?_
 have lst:∀ {a:Addr}{xs:List V},u=.ref a->SqL X.K H1 a xs->R (Itl X.K a) H1->wpAny (model X.prog X.w) X.A (pyIter u) (PIE X pins σ tg R) X.xe s1:=fun {a xs} e hq hR=>by
  subst e
  obtain⟨its,rv,p,hz⟩:=I1.list hq
  refine wpAny_pyIter_list p.isList ?_
  refine⟨s1.heap.objs.size,[s1.heap.objs.size],_,_,H1,rfl,I1.kept (t':=s1.toks) fun b o e=>Aq1 _ e,Vg a _,⟨_,Are _ rfl,rfl,rfl⟩,fun b hb=>?_,hR⟩
  have e:b=s1.heap.objs.size:=by simpa using hb
  subst e
  exact I1.fpOk (Aq5 _) (I1.hok.fresh (Aq5 _))
 have rx0:=rx
 cases rx with
 |str z ok =>
  cases h2
  obtain⟨t,rfl⟩:=r1
  have fin:∀ ty,(ty="str_ascii_iterator"\/ty="str_iterator")->PIE X pins σ tg R (.ref s1.heap.objs.size) { s1 with heap:=s1.heap.push { cls:=.type ty,data:=.fields #[.str z t,.int 0 0] } }:=fun ty hty=>by
   refine⟨s1.heap.objs.size,[s1.heap.objs.size],_,_,H1,rfl,I1.kept (t':=s1.toks) fun b o e=>Aq1 _ e,Za _ ty z t hty,⟨_,Are _ rfl,rfl,rfl⟩,fun b hb=>?_,q H1 _ _ s1' (Ae7 ok) trivial⟩
   have e:b=s1.heap.objs.size:=by simpa using hb
   subst e
   exact I1.fpOk (Aq5 _) (I1.hok.fresh (Aq5 _))
  cases ha:z.cps.all (· < 128)
  ·exact wpAny_pyIter_wide ha (fin _ (.inr rfl))
  ·exact wpAny_pyIter_ascii ha (fin _ (.inl rfl))
 |@tup ds a xs hq rs =>
  cases h2
  cases r1
  obtain⟨its,rv,p,hz⟩:=I1.tuple hq
  refine wpAny_pyIter_tuple (show s1.heap.IsTuple a its.toArray from p) ?_
  refine⟨s1.heap.objs.size,[s1.heap.objs.size],_,_,H1,rfl,I1.kept (t':=s1.toks) fun b o e=>Aq1 _ e,Rc a _,⟨_,Are _ rfl,rfl,rfl⟩,fun b hb=>?_,q H1 _ _ s1' Ae8 rx0⟩
  have e:b=s1.heap.objs.size:=by simpa using hb
  subst e
  exact I1.fpOk (Aq5 _) (I1.hok.fresh (Aq5 _))
 |@lst ds a xs hq _ rs=>cases h2;exact lst r1 (.inl hq) (q H1 _ _ s1' Ae5 rx0)
 |@kl ds a xs hq rs=>cases h2;exact lst r1 hq.sq (q H1 _ _ s1' Akl rx0)
 |dic _ _ _ _=>cases h2
 |dks _ _ _ _=>exact Ag h2
 |fz _ _ _=>exact Ag h2
 |fn _=>exact Ag h2
 |@ref n a e =>
  simp only at h2
  cases q':m[n]? with
  |none=>simp[q'] at h2
  |some ob =>
   simp only[q'] at h2
   cases ob with
   |dcs _ _=>cases h2
   |dct _ _=>cases h2
   |lst ds =>
    cases h2
    obtain⟨xs,e1,rs⟩:=(S.same s1').obj n a _ e q'
    exact lst r1 (SqL.of e1) (q H1 _ _ s1' Ae6 e)
 |non=>exact Ag h2
 |bl _=>exact Ag h2
 |int _=>exact Ag h2
theorem Sim.write {K:W.Frag}{H:Hp}{μ:List Addr}{m:MH}{n:Nat}{a:Addr}{ds es:List D}{ys:List V} (S:Sim K H μ m) (h1:μ[n]?=some a) (h2:m[n]?=some (.lst ds)) (r:Reps K H μ (·∈μ) es ys) :
  Step H μ (upd H a (.lst ys)) μ/\Sim K (upd H a (.lst ys)) μ (m.set n (.lst es))/\∀ {d:D}{v:V},Rep K H μ (·∈μ) d v->Rep K (upd H a (.lst ys)) μ (·∈μ) d v:=by
 have ha:a∈μ:=Ard h1
 have st:Step H μ (upd H a (.lst ys)) μ:=⟨⟨[],by simp,by simp⟩,fun b o e hb=>by rw[Aw fun z=>hb (by rw[z];exact ha)];exact e⟩
 have nl:n < m.length:=(List.getElem?_eq_some_iff.mp h2).1
 refine⟨st,⟨S.nd,by simp[S.len],fun j b o h3 h4=>?_⟩,fun r=>r.step S st⟩
 by_cases hj:j=n
 ·subst hj
  rw[h1] at h3
  cases h3
  rw[Ar0 nl] at h4
  cases h4
  exact⟨ys,A9,r.step S st⟩
 ·rw[Asa (Asc hj)] at h4
  have q:=S.obj j b o h3 h4
  have hb:b≠a:=fun z=>hj (by
   subst z
   exact (List.getElem_inj S.nd).mp ((List.getElem?_eq_some_iff.mp h3).2.trans (List.getElem?_eq_some_iff.mp h1).2.symm))
  cases o with
  |lst fs=>obtain⟨zs,q1,q2⟩:=q;exact⟨zs,by rw[Aw hb];exact q1,q2.step S st⟩
  |dcs ks vs=>obtain⟨zs,q1,q2,q3⟩:=q;exact⟨zs,by rw[Aw hb];exact q1,q2,q3.step S st⟩
  |dct ks vs=>obtain⟨zs,q1,q2,q3⟩:=q;exact⟨zs,by rw[Aw hb];exact q1,q2,q3.step S st⟩
def Ao1 (X:Cx) (r:V->List V->Hp->VK->Prop) (o:List D->List D->Option (List D)):Prop :=
 ∀ (μ:List Addr) (H:Hp) (a:Addr) (xs vs:List V) (ds es fs:List D) (Q:VK),H a=some (.lst xs)->a∈μ->Reps X.K H μ (·∈μ) ds xs->Reps X.K H μ (·∈μ) es vs->o ds es=some fs->(∀ ys,Reps X.K H μ (·∈μ) fs ys->Q .non (upd H a (.lst ys)))->r (.ref a) vs H Q
noncomputable def Jz (o:List D->List D->Option (List D)) (f:FE) (g:FL):FS:=fun env m=>(f env m).bind fun d=>match d with
 |.ref n=>(g env m).bind fun es=>(match m[n]? with
  |some (.lst ds)=>(o ds es).bind fun fs=>some (.nx env (m.set n (.lst fs)))
  |_=>none)
 |_=>none
theorem Ad7 {r:V->List V->Hp->VK->Prop}{o:List D->List D->Option (List D)}{f:FE}{g:FL}{name:Str} (pa:PlainAttrs "list") (slot:Slot "list" name id) (hty:typeOf (.builtin id)=pure (.type "method_descriptor")) (hm:MtR X id r) (ho:Ao1 X r o) (hf:PD X o' f) (ha:PL X (e::es) g)
  (hbase:attributeBase o' name X.env (eval o' X.env)=eval o' X.env)
  (hfew:((backTo cpos (starEach (e::es) X.env)).all (fun x=>!x.1)&&(backToKw cpos (keywordEach [] X.env)).all (fun x=>x.1.isSome)
   &&decide ((e::es).length+([]:List Keyword).length+(if ([]:List Keyword).isEmpty then 0 else 1) < 30))=true)
  (hline:(apos.endLine == cpos.line)=true) (hs:starEach (e::es) X.env=(false,eval e X.env)::starEach es X.env) (hplain:(backTo cpos (starEach es X.env)).any (·.1)=false) :
  PSD X (.Expr (.Call (.Attribute o' name apos) (e::es) [] cpos) spos) (Jz o f g):=PS.imp (Ad4 (An6 pa slot hty hm hf ha hbase hfew hline hs hplain)) fun D σ H ⟨env,μ,m,ob,S,E,h,q⟩=>by
 obtain⟨d,h1,h⟩:=bind_some h
 refine⟨env,μ,m,d,S,E,h1,fun v H1 s1 r1=>?_⟩
 cases r1 with
 |@ref n a e =>
  simp only at h
  obtain⟨es,h2,h⟩:=bind_some h
  cases q':m[n]? with
  |none=>simp[q'] at h
  |some mo =>
   simp only[q'] at h
   cases mo with
   |dcs _ _=>cases h
   |dct _ _=>cases h
   |lst ds =>
    simp only at h
    obtain⟨fs,h3,h⟩:=bind_some h
    cases h
    obtain⟨xs,e1,rs⟩:=(S.same s1).obj n a _ e q'
    refine⟨.inl ⟨rfl,xs,SqL.of e1⟩,env,μ,m,es,S.same s1,E.same s1,h2,fun vs H2 s2 r2=>?_⟩
    have S2:=S.same (s1.trans s2)
    refine ho μ H2 a xs vs ds es fs _ (s2 _ _ e1) (Ard e) (rs.same s2) r2 h3 fun ys ry=>?_
    obtain⟨st,S3,up⟩:=S2.write e q' ry
    exact q σ _ μ ((Step.of_same (s1.trans s2)).trans st fun c hc=>(s1.trans s2).free hc) S3 ((E.same (s1.trans s2)).step S2 st)
 |_=>exact Ag h
noncomputable def Jq:List D->List D->Option (List D):=fun ds es=>match es with
 |[d]=>if ds.length < 1000000 then some (ds++[d]) else none
 |_=>none
theorem Ah5:Ao1 X Va Jq:=fun μ H a xs vs ds es fs Q h1 ha rs re h q=>by
 match es,h with
 |[d],h =>
  unfold Jq at h
  simp only at h
  split at h
  ·rename_i hl
   cases h
   obtain⟨v,rfl,r⟩:=re.one
   exact⟨a,xs,v,rfl,rfl,h1,by rw[<- rs.length];have:sizeLine=16777216:=Aso;lia,q _ (rs.append (.cons r .nil))⟩
  ·cases h
def G8 (f fo fi:FE):FS:=fun env m=>(f env m).bind fun d=>(fo env m).bind fun o=>(fi env m).bind fun i=>match o,i with
 |.ref n,.int k=>(match m[n]? with
  |some (.lst ds)=>(ixN ds.length k).bind fun j=>some (.nx env (m.set n (.lst (ds.set j d))))
  |_=>none)
 |_,_=>none
theorem Ux {f fo fi:FE} (he:PD X e f) (ho:PD X a fo) (hi:PD X b fi)
  (ha:∀ v,assign (.Subscript a b p) X.env v=(do
   let ov <- holding [v] (eval a X.env)
   let iv <- holding [v,ov] (eval b X.env)
   standAt p
   holding [v,ov,iv] (setItem ov iv v)
   release [v,ov,iv] [])) (hs:swapsWithSole [.Subscript a b p] e pos.line X.env=pure false) (hw:swappedStores [.Subscript a b p] e X.env=pure none) (h1:(assignEach [.Subscript a b p] X.env).map (·.2)=[assign (.Subscript a b p) X.env]) :
  PSD X (.Assign [.Subscript a b p] e pos) (G8 f fo fi):=PS.imp (Aak he (Ajq ho hi Yw ha) hs hw h1) fun D σ H ⟨env,μ,m,ob,S,E,h,q⟩=>by
 obtain⟨d,h1,h⟩:=bind_some h
 obtain⟨o,h2,h⟩:=bind_some h
 obtain⟨i,h3,h⟩:=bind_some h
 refine⟨env,μ,m,d,S,E,h1,fun v H1 s1 r1=>⟨env,μ,m,o,S.same s1,E.same s1,h2,fun u H2 s2 r2=>⟨env,μ,m,i,S.same (s1.trans s2),E.same (s1.trans s2),h3,fun w H3 s3 r3=>?_⟩⟩⟩
 have s':=(s1.trans s2).trans s3
 have r2':=r2.same s3
 obtain⟨n,rfl⟩:∃ n,o=.ref n:=by
  cases o with
  |ref n=>exact⟨n,rfl⟩
  |_=>cases h
 obtain⟨k,rfl⟩:∃ k,i=.int k:=by
  cases i with
  |int k=>exact⟨k,rfl⟩
  |_=>cases h
 cases r3
 cases r2' with
 |@ref _ a e =>
  simp only at h
  cases q':m[n]? with
  |none=>simp[q'] at h
  |some mo =>
   simp only[q'] at h
   cases mo with
   |dcs _ _=>cases h
   |dct _ _=>cases h
   |lst ds =>
    simp only at h
    obtain⟨j,h4,h⟩:=bind_some h
    cases h
    obtain⟨xs,e1,rs⟩:=(S.same s').obj n a _ e q'
    refine⟨a,xs,k,j,rfl,rfl,e1,by rw[<- rs.length];exact h4,?_⟩
    obtain⟨st,S3,up⟩:=(S.same s').write e q' (rs.set ((r1.same s2).same s3) j)
    exact q σ _ μ ((Step.of_same s').trans st fun c hc=>s'.free hc) S3 ((E.same s').step (S.same s') st)
end
end
end ML
end L2
end S_ML8
section S_ML8a
namespace L2
namespace ML
open PySem PySem.Spec PyProof.Rows
noncomputable def Bo:Expr->Bool
 |.Starred ..=>false
 |_=>true
noncomputable def L7:Expr->Bool
 |.ListComp ..=>false|.SetComp ..=>false|.DictComp ..=>false
 |_=>true
noncomputable def Aad:Expr->Bool
 |.UnaryOp ..=>false|.BoolOp ..=>false|.IfExp ..=>false|.Compare ..=>false
 |_=>true
noncomputable def Ano:Expr->Bool
 |.Slice ..=>false
 |_=>true
noncomputable def Er:Expr->Bool
 |.Set ..=>false
 |_=>true
noncomputable def Aac:Expr->Bool
 |.Call ..=>false
 |_=>true
theorem An (h:Bo e=true):starEach (e::es) env=(false,eval e env)::starEach es env:=by
 cases e<;>first|rfl|cases h
theorem C2 {pos:Pos}{env:Env}:∀ {es:List Expr},es.all Bo=true->(backTo pos (starEach es env)).any (·.1)=false
 |[],_=>rfl
 |e::es,h=>by
  rw[Ast,Arf] at h
  rw[An h.1]
  have ih:=C2 (pos:=pos) (env:=env) h.2
  unfold backTo at ih ⊢
  rw[Ara,List.any_cons,ih]
  rfl
theorem Ov {pos:Pos}{env:Env}:∀ {es:List Expr},es.all Bo=true->(backTo pos (starEach es env)).all (fun x=>!x.1)=true
 |[],_=>rfl
 |e::es,h=>by
  rw[Ast,Arf] at h
  rw[An h.1]
  have ih:=Ov (pos:=pos) (env:=env) h.2
  unfold backTo at ih ⊢
  rw[Ara,Ast,ih]
  rfl
theorem Y3 {pos:Pos} (h:es.all Bo=true) (hl:decide (es.length < 30)=true):((backTo pos (starEach es env)).all (fun x=>!x.1)&&(backToKw pos (keywordEach [] env)).all (fun x=>x.1.isSome)
   &&decide (es.length+([]:List Keyword).length+(if ([]:List Keyword).isEmpty then 0 else 1) < 30))=true:=by
 rw[Ov h]
 have hl:=Arp hl
 have e:es.length+([]:List Keyword).length+(if ([]:List Keyword).isEmpty then 0 else 1)=es.length:=rfl
 rw[e,Ar5 hl]
 rfl
theorem He {t:Option Expr}{l:Nat} (h:L7 e=true):swapsWith e t l env=pure false:=by
 cases e<;>first|rfl|cases h
theorem Ox {e t:Expr}{l:Nat} (h:L7 e=true):swapsWithSole [t] e l env=pure false:=He h
theorem P7 (h:Aad e=true):∀ whole,isTrue e env whole=(do let v <- whole;standAt e.pos;holding [v] (truthy v)):=by
 intro whole
 cases e<;>first|rfl|cases h
theorem N9 (h:Ano e=true):Mv e:=by
 intro o i
 cases e<;>first|rfl|cases h
theorem Di (h:Er e=true):∀ x,foldedSetIterable e env x=pure x:=by
 intro x
 cases e<;>first|rfl|cases h
theorem O7 (h:Aac e=true):attributeBase e n env (eval e env)=eval e env:=by
 cases e<;>first|rfl|cases h
theorem Ig (h:Er e=true):behindInMarks op e=false:=by
 cases e<;>first|rfl|cases h
open Classical
noncomputable section
def Gg (scope outer:Scope) (N N':List Str) (cap:List Nat):Bool :=
 scope.kind == .function&&scope.names.all (fun y=>y.2 != .cell||scope.names.lookup y.1 == some .cell)&&scope.names.all (fun y=>y.2 != .local||scope.names.lookup y.1 == some .local)
 &&scope.names.all (fun y=>y.2 != .free||(outer.names.lookup y.1 == some .cell||outer.names.lookup y.1 == some .free))&&decide N'.Nodup&&decide (cap.length<=N'.length)
 &&(List.range cap.length).all fun j=>match cap[j]?,N'[j]? with
  |some i,some x=>N[i]? == some x&&scope.names.lookup x == some .free
  |_,_=>false
theorem CompOk.of {cap:List Nat} (h:Gg scope X.env.scope X.N N' cap=true):CompOk X scope cap N':=by
 unfold Gg at h
 simp only[Arf] at h
 obtain⟨⟨⟨⟨⟨⟨h1,h2⟩,h3⟩,h4⟩,h5⟩,h6⟩,h7⟩:=h
 refine⟨by simpa using h1,fun y hy e=>?_,fun y hy e=>?_,fun y hy e=>?_,Arp h5,Arp h6,fun j i x e1 e2=>?_⟩
 ·have:=List.all_eq_true.mp h2 y hy
  rw[e] at this
  simpa using this
 ·have:=List.all_eq_true.mp h3 y hy
  rw[e] at this
  simpa using this
 ·have:=List.all_eq_true.mp h4 y hy
  rw[e] at this
  simpa using this
 ·have hj:j < cap.length:=(List.getElem?_eq_some_iff.mp e1).1
  have:=List.all_eq_true.mp h7 j (List.mem_range.mpr hj)
  rw[e1,e2] at this
  simpa using this
theorem Gi (i:Nat):∀ d d' env e1,Bb i d env=some e1->Bb i d' e1=Bb i d' env:=fun d d' env e1 h=>by
 cases h
 unfold Bb
 rw[List.set_set]
structure QD (X:Cx) (e:Expr) (f:FE):Prop where out:PD X e f
structure QF (X:Cx) (e:Expr) (f:FL):Prop where out:PF X e f
structure QB (X:Cx) (e:Expr) (f:FB):Prop where out:PB X e f
structure QWB (X:Cx) (e:Expr) (f:FB):Prop where out:PWB X e f
structure QL (X:Cx) (e:List Expr) (f:FL):Prop where out:PL X e f
structure QO (X:Cx) (e:Option Expr) (f:FO):Prop where out:PO' X e f
structure QS (X:Cx) (e:Stmt) (f:FS):Prop where out:PSD X e f
structure QSs (X:Cx) (e:List Stmt) (f:FS):Prop where out:Vm X e f
structure QG (X:Cx) (e:Expr) (f:FG):Prop where out:PGD X e f
structure QGs (X:Cx) (e:List Expr) (f:List D->Ba->Option Ba):Prop where out:Afo X e f
structure QW (X:Cx) (tg e:Expr) (f:FW):Prop where out:PW' X tg e f
structure QTs (X:Cx) (e:List Expr) (f:FB):Prop where out:PTs X e f
theorem Apg {P:Program}{w:World}{K:W.Frag}{mg:Str->Option Value}{base:Heap}{x qual:Str}{st:Stmt}{f:Addr}{fd:FuncData}{N ps:List Str}{k n:Nat} (F:Fun K x qual st f fd) (S:FnScope N ps (A6 st)) (g:FS) (fn:List D->Option D) (hfn:fn=Ds N.length g) (hn:ps.length=n)
  (hbody:∀ (cdv:Value) (A:Around) (outer:List Env) (s:Shared) (H:Hp) (E:XK),Room k (A.deeper (envOfC qual (A6 st) s.heap.objs.size f cdv)) ->
   QSs (V4 CX0 P w K mg base N qual (A6 st) f cdv A outer s H E).nox (Cc st) g):FnOk P w K mg base CX0 (k+1) f fd ps (spP K n fn):=by
 subst hfn hn
 exact Ab7 F S fun cdv A outer s H E hr=>(hbody cdv A outer s H E hr).out
theorem Oo:QTs X [] Z1:=⟨Aed⟩
theorem Oq (h:QB X c f):QTs X [c] f:=⟨Aee h.out⟩
section
variable {X:Cx}{a b c e:Expr}{es:List Expr}{pos p p' apos cpos spos:Pos}{x:Str}{tg:Expr}{id:String}
theorem Ab {i j}:QD X (.Constant (.int i) j pos) (fC (.int i)):=⟨Ajc⟩
theorem Aoc {i j}:QD X (.Constant (.bool i) j pos) (fC (.bl i)):=⟨An1⟩
theorem U6 {j}:QD X (.Constant .none j pos) (fC .non):=⟨Aje⟩
theorem Aj2 {d:D} (hm:X.mg x=some u) (r:RelV v u) (hr:∀ H,Rep X.K H [] (fun _=>True) d v) (hg:Gl X x:=by unfold Gl;kernel_rfl) (hd:(x == ("__debug__":Str))=false:=by decide):QD X (.Name x pos) (fC d):=⟨Adr hg hm r hr hd⟩
theorem Am (ho:OpM X (binaryOp op) o) (ha:QD X a f) (hb:QD X b g):QD X (.BinOp a op b pos) (f2 o f g):=⟨Aja ho ha.out hb.out⟩
theorem Aj3 {op} (h:QD X a f):QD X (.BoolOp op [a] pos) f:=⟨Ajf h.out⟩
theorem Aj1 (ha:QD X a f) (hb:QD X (.BoolOp .And (b::es) pos) g):QD X (.BoolOp .And (a::b::es) pos) (Pa f g):=⟨Ai9 ha.out hb.out⟩
theorem Aof {t:FB} (hc:QB X c t) (ha:QD X a f) (hb:QD X b g):QD X (.IfExp c a b pos) (fIf t f g):=⟨An2 hc.out ha.out hb.out⟩
theorem Ap {x1} (h:QL X es g):QD X (.Tuple es x1 pos) (Bk g):=⟨Ajh h.out⟩
theorem B4 (h:QL X es g):QF X (.List es pos) (Bc g):=⟨Ajp h.out⟩
theorem Dj (h:QF X e g):QD X e (Co g):=⟨Ya h.out⟩
theorem Ad:QL X [] Ae:=⟨Ajs⟩
theorem Ck:QO X none fNo:=⟨Yf⟩
theorem B7 (h:QD X e f):QO X (some e) (C6 f):=⟨Yg h.out⟩
theorem Aj6 {f:FE}{l h:FO}{lo hi:Option Expr} (ha:QD X a f) (hl:QO X lo l) (hh:QO X hi h):QD X (.Subscript a (.Slice lo hi none p) pos) (fSl f l h):=⟨An4 ha.out hl.out hh.out⟩
theorem P2 {f:FE}{l h:FO}{lo hi:Option Expr} (ha:QD X a f) (hl:QO X lo l) (hh:QO X hi h):QF X (.Subscript a (.Slice lo hi none p) pos) (Tb f l h):=⟨An9 ha.out hl.out hh.out⟩
theorem U2 (ha:QD X a f) (hb:QD X b g):QF X (.BinOp a .Add b pos) (V7 f g):=⟨Ajo ha.out hb.out⟩
theorem Ij {j} (ha:QD X a f):QB X (.Compare a [.Is] [.Constant .none j p] pos) (Au (f1 Og f)):=⟨Ai3 ha.out⟩
theorem Aek {j} (ha:QD X a f):QB X (.Compare a [.IsNot] [.Constant .none j p] pos) (Au (f1 Pu f)):=⟨Adp ha.out⟩
theorem Nl (ha:QB X a f):QWB X (.BoolOp .And [a] pos) f:=⟨Yp ha.out⟩
theorem Il (ha:QB X a f):QWB X (.BoolOp .Or [a] pos) f:=⟨Aej ha.out⟩
theorem U9 (ha:QB X a f) (hb:QWB X (.BoolOp .And (b::es) pos) g):QWB X (.BoolOp .And (a::b::es) pos) (Z0 f g):=⟨Aei ha.out hb.out⟩
theorem Nm (ha:QB X a f) (hb:QWB X (.BoolOp .Or (b::es) pos) g):QWB X (.BoolOp .Or (a::b::es) pos) (fOr f g):=⟨Aj0 ha.out hb.out⟩
theorem Cz (h:QWB X (.BoolOp op es pos) f):QB X (.BoolOp op es pos) f:=⟨Ado h.out⟩
theorem U1 (ha:QB X a f):QB X (.UnaryOp .Not a pos) (Ab4 f):=⟨Ai4 ha.out⟩
theorem P0 (h:QD X e f):QW X tg e (Zb f):=⟨Ajy h.out⟩
theorem Aao:QGs X [] Zu:=⟨Yd⟩
variable {st:Stmt}{rest sa sb:List Stmt}
theorem A4:QSs X [] Cg:=⟨Ad8⟩
theorem Af (h1:QS X st f) (h2:QSs X rest g):QSs X (st::rest) (A8 f g):=⟨Yi h1.out h2.out⟩
theorem Ak (h1:QS X st f):QSs X [st] f:=⟨Ad9 h1.out⟩
theorem Yv:QS X (.Break pos) Mj:=⟨Uu⟩
theorem Az (he:QD X e f):QS X (.Return (some e) pos) (Cn f):=⟨Aea he.out⟩
theorem Cm (he:QF X e f):QS X (.Return (some e) pos) (Eb f):=⟨Yk he.out⟩
theorem Bl {t:FB} (hc:QB X c t) (ha:QSs X sa f) (hb:QSs X sb g):QS X (.If c sa sb pos) (sIf t f g):=⟨Ajv hc.out ha.out hb.out⟩
theorem Aj (i:Nat) (hN:X.N[i]?=some x:=by kernel_rfl) (hv:Vis X.env.scope x:=by exact Ata (by kernel_rfl)) (hd:(x == ("__debug__":Str))=false:=by decide) (hcd:(x == ("__classdict__":Str))=false:=by decide):QD X (.Name x pos) (Ai i):=⟨Aai i hN hv hd hcd⟩
theorem Bs (i:Nat) (hN:X.N[i]?=some x:=by kernel_rfl) (hv:Vis X.env.scope x:=by exact Or.inr (Ata (by kernel_rfl))) (hd:(x == ("__debug__":Str))=false:=by decide) (hcd:(x == ("__classdict__":Str))=false:=by decide):QD X (.Name x pos) (Ai i):=⟨Aai i hN hv hd hcd⟩
theorem On {j} (ok:PyData.strOk z=true:=by exact Bf _):QD X (.Constant (.str z) j pos) (fC (.str z)):=⟨Ajg ok⟩
theorem Ah (ha:QD X e f) (hr:QL X es g) (hs':Bo e=true:=by rfl):QL X (e::es) (Aa f g):=⟨Ad1 ha.out hr.out (An hs')⟩
theorem Mf (ho:OpM X (compareOp op) o) (ha:QD X a f) (hb:QD X b g) (hm':Er b=true:=by rfl):QD X (.Compare a [op] [b] pos) (f2 o f g):=⟨Ajb ho ha.out hb.out (Ig hm')⟩
theorem As (ho:OpM X (compareOp op) o) (ha:QD X a f) (hb:QD X b g) (hm':Er b=true:=by rfl):QB X (.Compare a [op] [b] pos) (Au (f2 o f g)):=⟨Ai2 ho ha.out hb.out (Ig hm')⟩
theorem Ik (ha:QD X a f) (he':Aad a=true:=by rfl):QB X a (V9 f):=⟨Ai5 ha.out (P7 he')⟩
theorem Al (ha:QD X a f) (hb:QD X b g) (hs':Ano b=true:=by rfl):QD X (.Subscript a b pos) (f2 oIx f g):=⟨An3 ha.out hb.out (N9 hs')⟩
theorem Bt (hm:X.mg "len"=none) (ha:QL X [e] g) (hg:Gl X "len":=by unfold Gl;kernel_rfl) (he':Bo e=true:=by rfl):QD X (.Call (.Name "len" p) [e] [] pos) (A3 Ec g):=⟨Js Ahb hg hm boot_len ha.out (by decide) (by decide) (An he') rfl⟩
theorem Aan (hm:X.mg "int"=none) (ha:QL X [e] g) (hg:Gl X "int":=by unfold Gl;kernel_rfl) (he':Bo e=true:=by rfl):QD X (.Call (.Name "int" p) [e] [] pos) (A3 Ac9 g):=⟨G3 Aha hg hm (by decide +kernel) ha.out (by decide) (by decide) (An he') rfl⟩
theorem Ga (hm:X.mg "tuple"=none) (ha:QL X [e] g) (hg:Gl X "tuple":=by unfold Gl;kernel_rfl) (he':Bo e=true:=by rfl):QD X (.Call (.Name "tuple" p) [e] [] pos) (A3 Gy g):=⟨G3 Vz hg hm (by decide +kernel) ha.out (by decide) (by decide) (An he') rfl⟩
theorem U4 (ha:QD X e f) (hm:X.mg "isinstance"=none) (hm':X.mg y=none) (hv':bootBuiltins y=some (.type U)) (hn:y≠"__name__":=by decide) (hdb:(y == ("__debug__":Str))=false:=by decide) (hg:Gl X "isinstance":=by unfold Gl;kernel_rfl) (hg':Gl X y:=by unfold Gl;kernel_rfl) (he':Bo e=true:=by rfl):QD X (.Call (.Name "isinstance" p) [e,.Name y p'] [] pos) (Ab3 U f):=⟨Ajd ha.out hg hm hg' hm' hv' hn hdb (by decide +kernel) (An he') (An rfl) (C2 rfl)⟩
theorem Ael {fd:FuncData} (F:FnOk X.prog X.w X.K X.mg X.base CX0 k f fd ps (spP X.K n fn)) (hr:Room k X.A) (hm:X.mg x=some (.ref f)) (hk:W.keepIn X.K (.ref f)=true) (hb:Binds X.K fd ps []) (ha:QL X (e::es) g) (hg:Gl X x:=by unfold Gl;kernel_rfl) (hdb:(x == ("__debug__":Str))=false:=by decide) (he':Bo e=true:=by rfl) (hpl':es.all Bo=true:=by rfl) :
  QD X (.Call (.Name x p) (e::es) [] pos) (A3 (Eu n fn) g):=⟨Adq F hr hg hm hk hb (Adn (X:=X)) ha.out hdb (An he') (C2 hpl')⟩
theorem Aem {fd:FuncData} (F:FnOk X.prog X.w X.K X.mg X.base CX0 k f fd ps (spP X.K n fn)) (hr:Room k X.A) (hm:X.mg x=some (.ref f)) (hk:W.keepIn X.K (.ref f)=true) (hb:Binds X.K fd ps []) (ha:QL X (e::es) g) (hg:Gl X x:=by unfold Gl;kernel_rfl) (hdb:(x == ("__debug__":Str))=false:=by decide) (he':Bo e=true:=by rfl) (hpl':es.all Bo=true:=by rfl) :
  QF X (.Call (.Name x p) (e::es) [] pos) (C4 (Jc n fn) g):=⟨Adv F hr hg hm hk hb (Adn (X:=X)) ha.out hdb (An he') (C2 hpl')⟩
theorem De (hf:QD X a f) (ha:QL X [e] g) (hbase':Aac a=true:=by rfl) (hline:(apos.endLine == cpos.line)=true:=by kernel_rfl) (hs':Bo e=true:=by rfl) :
  QS X (.Expr (.Call (.Attribute a "append" apos) [e] [] cpos) spos) (Jz Jq f g):=⟨Ad7 PySem.F.plainAttrs_list PySem.F.slot_list_append PySem.F.type_list_append Ua Ah5 hf.out ha.out (O7 hbase') (Y3 (by rw[Ast,hs'];rfl) rfl) hline (An hs') rfl⟩
theorem A1 (hN:X.N.Nodup) (he:QD X e f) (hi:X.N[i]?=some x:=by kernel_rfl) (hx:Loc X.env.scope x:=by exact Ata (by kernel_rfl)) (hs':L7 e=true:=by rfl) (hf:X.fn x=true\/X.env.scope.names.lookup x=some .local:=by exact Ata (by kernel_rfl)) :
  QS X (.Assign [.Name x p'] e pos) (Bv i f):=⟨Uw hN hi hx he.out (He hs') hf⟩
theorem Aen (hN:X.N.Nodup) (he:QD X e f) (hi:X.N[i]?=some x:=by kernel_rfl) (hx:Loc X.env.scope x:=by exact Or.inr (by kernel_rfl)) (hs':L7 e=true:=by rfl) (hf:X.fn x=true\/X.env.scope.names.lookup x=some .local:=by exact Ata (by kernel_rfl)) :
  QS X (.Assign [.Name x p'] e pos) (Bv i f):=⟨Uw hN hi hx he.out (He hs') hf⟩
theorem G5 (hN:X.N.Nodup) (he:QF X e f) (hi:X.N[i]?=some x:=by kernel_rfl) (hx:Loc X.env.scope x:=by exact Ata (by kernel_rfl)) (hs':L7 e=true:=by rfl) (hf:X.fn x=true\/X.env.scope.names.lookup x=some .local:=by exact Ata (by kernel_rfl)) :
  QS X (.Assign [.Name x p'] e pos) (G7 i f):=⟨Uv hN hi hx he.out (He hs') hf⟩
theorem U8 (hN:X.N.Nodup) (he:QF X e f) (hi:X.N[i]?=some x:=by kernel_rfl) (hx:Loc X.env.scope x:=by exact Or.inr (by kernel_rfl)) (hs':L7 e=true:=by rfl) (hf:X.fn x=true\/X.env.scope.names.lookup x=some .local:=by exact Ata (by kernel_rfl)) :
  QS X (.Assign [.Name x p'] e pos) (G7 i f):=⟨Uv hN hi hx he.out (He hs') hf⟩
theorem P1 (hN:X.N.Nodup) (hi:X.N[i]?=some x:=by kernel_rfl) (hx:Loc X.env.scope x:=by exact Ata (by kernel_rfl)) (hf:X.fn x=true\/X.env.scope.names.lookup x=some .local:=by exact Ata (by kernel_rfl)):QG X (.Name x pos) (Bb i):=⟨Jt hN hi hx hf⟩
theorem Aoe (hN:X.N.Nodup) (hi:X.N[i]?=some x:=by kernel_rfl) (hx:Loc X.env.scope x:=by exact Or.inr (by kernel_rfl)) (hf:X.fn x=true\/X.env.scope.names.lookup x=some .local:=by exact Ata (by kernel_rfl)):QG X (.Name x pos) (Bb i):=⟨Jt hN hi hx hf⟩
theorem Jv (hN:X.N.Nodup) (hi:X.N[i]?=some x:=by kernel_rfl) (hx:Loc X.env.scope x:=by exact Ata (by kernel_rfl)) (hf:X.fn x=true\/X.env.scope.names.lookup x=some .local:=by exact Or.inr (by kernel_rfl)):QG X (.Name x pos) (Bb i):=⟨Jt hN hi hx hf⟩
theorem Ju (h1:QG X e g) (h2:QGs X es h) (hs:(assignEach (e::es) X.env).map (·.2)=assign e X.env::(assignEach es X.env).map (·.2):=by kernel_rfl):QGs X (e::es) (Eg g h):=⟨Up h1.out h2.out hs⟩
theorem Aap (hc:X.calm=true) (h:QGs X es g) (hn:(assignEach es X.env).length=n:=by kernel_rfl) (hst:(assignEach es X.env).findIdx? (·.1)=none:=by kernel_rfl):QG X (.Tuple es k pos) (Mu n g):=⟨Ady hc h.out hn hst⟩
theorem Aj5 (he:QD X e f) (hg:QG X tg g) (hs':L7 e=true:=by rfl) (hw:swappedStores [tg] e X.env=pure none:=by kernel_rfl) (h1:(assignEach [tg] X.env).map (·.2)=[assign tg X.env]:=by kernel_rfl):QS X (.Assign [tg] e pos) (Akg f g):=⟨Ad5 he.out hg.out (Ox hs') hw h1⟩
theorem Jx (he:QD X e f) (ho:QD X a fo) (hi:QD X b fi) (ha:∀ v,assign (.Subscript a b p) X.env v=(do
   let ov <- holding [v] (eval a X.env)
   let iv <- holding [v,ov] (eval b X.env)
   standAt p
   holding [v,ov,iv] (setItem ov iv v)
   release [v,ov,iv] []):=by intro _;rfl) (hs':L7 e=true:=by rfl) (hw:swappedStores [.Subscript a b p] e X.env=pure none:=by kernel_rfl) (h1:(assignEach [.Subscript a b p] X.env).map (·.2)=[assign (.Subscript a b p) X.env]:=by kernel_rfl) :
  QS X (.Assign [.Subscript a b p] e pos) (G8 f fo fi):=⟨Ux he.out ho.out hi.out ha (Ox hs') hw h1⟩
theorem C5 {iter:Expr}{body:List Stmt}{f:FW}{g:FG}{b:FS} (hp:PassesOwn (model X.prog X.w) X.A X.env X.xe) (hc:X.calm=true) (hi:QW X tg iter f) (hg:QG X tg g) (hb:QSs X body b)
  (hs':Er iter=true:=by rfl):QS X (.For tg iter body [] pos) (J3 f g b):=⟨Ad6 hp hc hi.out hg.out hb.out (Di hs')⟩
theorem Mg (hm:X.mg "range"=none) (ha:QL X [a] g) (hg:Gl X "range":=by unfold Gl;kernel_rfl) (hs':Bo a=true:=by rfl):QW X tg (.Call (.Name "range" p) [a] [] pos) (En g):=⟨Uz hg hm ha.out (An hs')⟩
theorem Aeo (hm:X.mg "range"=none) (ha:QL X [a,b] g) (hg:Gl X "range":=by unfold Gl;kernel_rfl) (hs':Bo a=true:=by rfl) (hs2':Bo b=true:=by rfl):QW X tg (.Call (.Name "range" p) [a,b] [] pos) (Nw g):=⟨U0 hg hm ha.out ((An hs').trans (Asd _ (An hs2'))) (An hs2')⟩
variable {elt iter:Expr}{ifs:List Expr}{scope:Scope}{fw:FW}{g:FG}{t:FB}{fe:FE}
theorem Em (cap:List Nat) (N':List Str) (hc:X.calm=true) (hi:QW X tg iter fw) (hg2:∀ d d' env e1,g d env=some e1->g d' e1=g d' env)
  (hg:∀ cl C s₀ H₀ ex pn,QG (A2 X N' scope cl C s₀ H₀ ex pn) tg g) (ht:∀ cl C s₀ H₀ ex pn,QTs (A2 X N' scope cl C s₀ H₀ ex pn) ifs t) (he:∀ cl C s₀ H₀ ex pn,QD (A2 X N' scope cl C s₀ H₀ ex pn) elt fe)
  (ok:Gg scope X.env.scope X.N N' cap=true:=by kernel_rfl) (hs':Er iter=true:=by rfl):QF X (.ListComp elt [⟨tg,iter,ifs,0⟩] scope pos) (Ce cap (N'.length - cap.length) fw g t fe):=⟨Adw (CompOk.of ok) hc hi.out hg2 (fun cl C s H ex pn=>(hg cl C s H ex pn).out) (fun cl C s H ex pn=>(ht cl C s H ex pn).out) (fun cl C s H ex pn=>(he cl C s H ex pn).out) (Di hs')⟩
theorem Yr (cap:List Nat) (N':List Str) (hN:X.N.Nodup) (hc:X.calm=true) (hi:QW X tg iter fw) (hg2:∀ d d' env e1,g d env=some e1->g d' e1=g d' env) (hg:∀ cl C s₀ H₀ ex pn,QG (A2 X N' scope cl C s₀ H₀ ex pn) tg g) (ht:∀ cl C s₀ H₀ ex pn,QTs (A2 X N' scope cl C s₀ H₀ ex pn) ifs t) (he:∀ cl C s₀ H₀ ex pn,QD (A2 X N' scope cl C s₀ H₀ ex pn) elt fe) (ok:Gg scope X.env.scope X.N N' cap=true:=by kernel_rfl) (hs':Er iter=true:=by rfl) (hn:X.N[i]?=some x:=by kernel_rfl) (hx:Loc X.env.scope x:=by exact Ata (by kernel_rfl)) (hf:X.fn x=true\/X.env.scope.names.lookup x=some .local:=by exact Ata (by kernel_rfl)) (hsw:swapsWith (.ListComp elt [⟨tg,iter,ifs,0⟩] scope pos) (some (.Name x p')) spos.line X.env=pure true:=by kernel_rfl):QS X (.Assign [.Name x p'] (.ListComp elt [⟨tg,iter,ifs,0⟩] scope pos) spos) (Bv i (Co (Ce cap (N'.length - cap.length) fw g t fe))):=⟨Yl (N4 (CompOk.of ok) hc hi.out hg2 (fun cl C s H ex pn=>(hg cl C s H ex pn).out) (fun cl C s H ex pn=>(ht cl C s H ex pn).out) (fun cl C s H ex pn=>(he cl C s H ex pn).out) (Di hs') hsw hN hn hx hf)⟩
theorem Yq (cap:List Nat) (N':List Str) (hN:X.N.Nodup) (hc:X.calm=true) (hi:QW X tg iter fw) (hg2:∀ d d' env e1,g d env=some e1->g d' e1=g d' env) (hg:∀ cl C s₀ H₀ ex pn,QG (A2 X N' scope cl C s₀ H₀ ex pn) tg g) (ht:∀ cl C s₀ H₀ ex pn,QTs (A2 X N' scope cl C s₀ H₀ ex pn) ifs t) (he:∀ cl C s₀ H₀ ex pn,QD (A2 X N' scope cl C s₀ H₀ ex pn) elt fe) (ok:Gg scope X.env.scope X.N N' cap=true:=by kernel_rfl) (hs':Er iter=true:=by rfl) (hn:X.N[i]?=some x:=by kernel_rfl) (hx:Loc X.env.scope x:=by exact Ata (by kernel_rfl)) (hf:X.fn x=true\/X.env.scope.names.lookup x=some .local:=by exact Ata (by kernel_rfl)) (hsw:swapsWith (.ListComp elt [⟨tg,iter,ifs,0⟩] scope pos) (some (.Name x p')) spos.line X.env=pure true:=by kernel_rfl):QS X (.Assign [.Name x p'] (.ListComp elt [⟨tg,iter,ifs,0⟩] scope pos) spos) (G7 i (Ce cap (N'.length - cap.length) fw g t fe)):=⟨Yj (N4 (CompOk.of ok) hc hi.out hg2 (fun cl C s H ex pn=>(hg cl C s H ex pn).out) (fun cl C s H ex pn=>(ht cl C s H ex pn).out) (fun cl C s H ex pn=>(he cl C s H ex pn).out) (Di hs') hsw hN hn hx hf)⟩
end
end
end ML
end L2
end S_ML8a
section S_ML10
namespace L2
namespace ML
open PySem PySem.Spec PyProof.Rows
section
variable {X:Cx}{a b c e e' o':Expr}{es:List Expr}{pos p p' apos cpos spos:Pos}{x:Str}
noncomputable def Ue:D->MH->Option D:=fun x _=>match x with
 |.int i=>some (.int (-i))
 |_=>none
theorem Jw (ha:QD X a f):QD X (.UnaryOp .USub a pos) (f1 Ue f):=⟨PE.imp (An8 Ak0 ha.out) fun σ H Q ⟨env,μ,m,d,S,E,h,q⟩=>by
 obtain⟨x,h1,h2⟩:=bind_some h
 refine⟨env,μ,m,x,S,E,h1,fun v H' s r=>?_⟩
 cases r<;>first|(cases h2;done)|skip
 cases h2
 exact⟨_,rfl,q _ H' s (.int _)⟩⟩
noncomputable def Jy {α:Type} (xs:List α) (n:Nat):List α:=(List.replicate n xs).flatten
theorem Aeq {xs:List Value}{n:Nat}:List.foldl (fun x1 x2=>x1++x2) #[] (List.replicate (if xs.toArray.isEmpty=true then 0 else n) xs.toArray)=(Jy xs n).toArray:=by
 have gen:∀ (k:Nat) (acc:Array Value),List.foldl (fun x1 x2=>x1++x2) acc (List.replicate k xs.toArray)=acc++(Jy xs k).toArray:=by
  intro k
  induction k with
  |zero=>intro acc;simp[Jy]
  |succ k ih=>intro acc;rw[List.replicate_succ,List.foldl_cons,ih];simp[Jy,List.replicate_succ]
 cases xs with
 |nil=>simp[Jy]
 |cons y ys=>rw[Aq7 (by simp),gen];simp
theorem Vals.rep (r:Vals xs us) (n:Nat):Vals (Jy xs n) (Jy us n):=by
 unfold Jy
 induction n with
 |zero=>exact .nil
 |succ k ih=>rw[List.replicate_succ,List.replicate_succ,List.flatten_cons,List.flatten_cons];exact Vals.append r ih
theorem Reps.rep {K:W.Frag}{H:Hp}{μ:List Addr}{B:Addr->Prop}{ds:List D}{vs:List V} (r:Reps K H μ B ds vs) (n:Nat):Reps K H μ B (Jy ds n) (Jy vs n):=by
 unfold Jy
 induction n with
 |zero=>exact .nil
 |succ k ih=>rw[List.replicate_succ,List.replicate_succ,List.flatten_cons,List.flatten_cons];exact Reps.append r ih
theorem Nr:(Jy xs n).length=xs.length * n:=by
 unfold Jy
 induction n with
 |zero=>rfl
 |succ k ih=>rw[List.replicate_succ,List.flatten_cons,Arz,ih,Nat.mul_succ];lia
theorem Aag:OpR X (binaryOp .Mult) (fun x y H Q=>∃ l xs i,x=.ref l/\y=.int i/\H l=some (.lst xs)/\0<=i/\i < 2 ^ 62/\xs.length * i.toNat<=1000000/\∀ p,H p=none->Q (.ref p) (upd H p (.lst (Jy xs i.toNat)))):=by
 intro pins s σ H x y v u Q I rx ry h
 obtain⟨l,xs,i,rfl,rfl,hl,h0,h1,hz,q⟩:=h
 cases rx
 obtain⟨t,rfl⟩:=ry
 obtain⟨z,its,n,r,hl',e⟩:=I.lstM hl
 refine wpAny_binaryOp_repeat_ref (T:="list") (U:="int") (by decide) ⟨_,e,rfl⟩ (fun s'=>typeIs_int s' i t) noFill_list_mul F.fills_int_mul F.slot_int_rmul repeat_list F.slot_int_index.lookup
  (call_meets F.slot_int_rmul (typeIs_int s i t) F.entry_int_rmul (F.args_int_rmul_2 _ _) (int___rmul___int_list i t l its.toArray n)
   ⟨e,rfl,⟨_,e,rfl⟩,call_meets F.slot_list_mul ⟨_,e,rfl⟩ F.entry_list_mul (F.args_list_mul_2 _ _)
    (AutoListH.list___mul___list_int_3 l its.toArray n i t (by simp[Builtin.List.listFitsIndex];lia) (by rw[Aq3,<- r.length];lia) (by rw[Aq3,<- r.length];simp[Builtin.List.listTooLong,sizeLine];lia))
    ⟨e,?_⟩⟩)
 rw[Aeq]
 exact⟨.ref _,_,I.lnew (t':=s.toks) (Vals.rep r i.toNat) (by rw[Nr];exact big hz),rfl,q _ I.fresh⟩
def V8 (g:FL) (f:FE):FL:=fun env m=>(g env m).bind fun xs=>(f env m).bind fun y=>match y with
 |.int i=>if 0<=i/\i < 2 ^ 62/\xs.length * i.toNat<=1000000 then some (Jy xs i.toNat) else none
 |_=>none
theorem Aj4 {g:FL}{i:Int} {j} (ha:QF X a g):QF X (.BinOp a .Mult (.Constant (.int i) j p) pos) (V8 g (fC (.int i))):=⟨PE.imp (Adu Aag ha.out Aaj) fun σ H Q ⟨env,μ,m,d,S,E,h,q⟩=>by
 obtain⟨xs,h1,h⟩:=bind_some h
 obtain⟨y,h2,h⟩:=bind_some h
 cases h2
 simp only at h
 split at h
 ·rename_i hl
  cases h
  refine⟨env,μ,m,xs,S,E,h1,fun a ys H1 s1 hn ha1 r1=>?_⟩
  refine⟨a,ys,i,rfl,rfl,ha1,hl.1,hl.2.1,by rw[<- r1.length];exact hl.2.2,fun p hp=>q p _ _ (s1.trans (Bd hp)) (s1.free hp) A9 ?_⟩
  exact Reps.fresh ((Reps.rep r1 _).up (fun _ _ _ h=>h) (fun a u _ h b=>⟨h,fun z=>b (.inl z)⟩) (fun _ _ h=>h)) hp
 ·cases h⟩
end
end ML
end L2
end S_ML10
section S_ML11
namespace L2
namespace ML
open PySem PySem.Spec PyProof.Rows PySem.SeqAt
def LtAt (A:Around) (s:Shared) (x y:Value) (k:Bool):Prop :=
 ∀ (prog:Program) (w:World) (E:Value->Shared->Prop) (Q:Value->Shared->Prop),Q (.bool k) s->wpAny (model prog w) A (richCompare .Lt x y) Q E s
inductive LexAt (A:Around) (s:Shared):List Value->List Value->Bool->Prop where
 |nil:LexAt A s [] [] false
 |short {y ys}:LexAt A s [] (y::ys) true
 |long {x xs}:LexAt A s (x::xs) [] false
 |same {x y xs ys k}:EqAt A s x y true->LexAt A s xs ys k->LexAt A s (x::xs) (y::ys) k
 |diff {x y xs ys k}:EqAt A s x y false->LtAt A s x y k->LexAt A s (x::xs) (y::ys) k
theorem LexAt.end1 {s:Shared} (h:LexAt A s xs ys k) (e:xs.zip ys=[]):k=decide (xs.length < ys.length):=by
 cases h with
 |nil=>rfl
 |short=>simp
 |long=>simp
 |same _ _=>simp at e
 |diff _ _=>simp at e
theorem P9 (l b:Addr) (xs ys:Array Value) (n n2:Nat) (dd dd2:Option Addr) (sl sl2:Array (Option Value)) (k:Bool) :
  Meets (Builtin.«tuple.__lt__» ⟨[.ref l,.ref b],[]⟩)
   (fun A R s=>(s.heap.get? l=some { cls:=.type "tuple",dict:=dd,data:=.seq xs n,slots:=sl }/\s.heap.get? b=some { cls:=.type "tuple",dict:=dd2,data:=.seq ys n2,slots:=sl2 }) /\
    LexAt A.in1 s xs.toList ys.toList k/\R (.ok (.ret (.bool k))) s) :=
 .of_wp fun prog w A R s h=>by
  obtain⟨hp,g,d,tk,os⟩:=s
  obtain⟨⟨hl,hb⟩,hx,hR⟩:=h
  have f2:=AutoSeq1.sub_tuple_tuple
  wp_walk using wpAny_loadPart' hl,wpAny_loadPart' hb,wpAny_forIn_list _ (fun rest b s'=>b.1=none/\s'=⟨hp,g,d,tk,os⟩/\∃ us ws,rest=us.zip ws/\us.length+ys.size=ws.length+xs.size/\LexAt A.in1 ⟨hp,g,d,tk,os⟩ us ws k) _
  case turn =>
   rintro ⟨y,x⟩ rest b s' ⟨hb1,rfl,us,ws,hz,hn,hx⟩
   cases hx with
   |nil=>cases hz
   |short=>cases hz
   |long=>cases hz
   |@same u v us ws _ he hx =>
    cases hz
    refine Aqx (he prog w _ _ ?_)
    wp_walk
    exact⟨rfl,rfl,us,ws,rfl,by simp only[Ark] at hn;lia,hx⟩
   |@diff u v us ws _ he hk =>
    cases hz
    refine Aqx (he prog w _ _ ?_)
    have hk2:∀ {E:Value->Shared->Prop}{Q:Value->Shared->Prop},Q (.bool k) ⟨hp,g,d,tk,os⟩->wpAny (model prog w) A.in1 (richCompare .Lt y x) Q E ⟨hp,g,d,tk,os⟩:=fun q=>hk prog w _ _ q
    wp_walk using hk2
    exact⟨_,rfl,hR⟩
  case fin =>
   rintro ⟨b1,b2⟩ s' ⟨hb1,rfl,us,ws,hz,hn,hx⟩
   simp only at hb1
   subst hb1
   have e:=hx.end1 hz.symm
   subst e
   wp_walk
   refine⟨_,rfl,?_⟩
   have e2:decide (us.length < ws.length)=decide (xs.size < ys.size):=by rw[Asg];lia
   rw[e2] at hR
   simpa [Builtin.Tuple.tupleCompareSizes] using hR
  case h =>
   exact⟨rfl,rfl,xs.toList,ys.toList,rfl,by simp[Nat.add_comm],hx⟩
theorem LtAt.tuples {s:Shared}{l b:Addr} (hl:s.heap.IsTuple l xs) (hb:s.heap.IsTuple b ys) (hu:A.units < cLine) (hx:LexAt A.in1 s xs.toList ys.toList k):LtAt A s (.ref l) (.ref b) k:=fun prog w E Q h=>by
 obtain⟨⟨cls,dd,data,sl⟩,ho,hc,n,hd⟩:=id hl
 obtain⟨⟨cls2,dd2,data2,sl2⟩,ho2,hc2,n2,hd2⟩:=id hb
 simp only at hc hd hc2 hd2
 subst hc hd hc2 hd2
 refine richCompare_meets_room (op:=.Lt) ⟨_,ho,rfl⟩ ⟨_,ho2,rfl⟩ F.slot_tuple_lt F.entry_tuple_lt (F.args_tuple_lt_2 _ _) (P9 l b xs ys n n2 dd dd2 sl sl2 k) ⟨⟨ho,ho2⟩,hx,?_⟩ hu
 exact⟨(fun x=>nomatch x),h⟩
theorem T6 (l b:Addr) (xs ys:Array Value) (n n2:Nat) (dd dd2:Option Addr) (sl sl2:Array (Option Value)) (k:Bool):∀ (us ws:List Value) (i:Nat),xs.toList.drop i=us->ys.toList.drop i=ws->i<=xs.size->i<=ys.size ->
  Meets (Builtin.«list.__eq__.loop» ⟨[.ref l,.ref b,rawInt i,rawInt 0],[]⟩)
   (fun A R s=>(s.heap.get? l=some { cls:=.type "list",dict:=dd,data:=.seq xs n,slots:=sl }/\s.heap.get? b=some { cls:=.type "list",dict:=dd2,data:=.seq ys n2,slots:=sl2 })/\LexAt A.in1 s us ws k/\R (.ok (.ret (.bool k))) s):=by
 have none_at:∀ {zs:Array Value}{i:Nat},zs.toList.drop i=[]->zs[((i:Nat):Int).toNat]?=none:=fun {zs i} h=>by
  have:=List.drop_eq_nil_iff.mp h
  simp at this ⊢
  exact this
 have some_at:∀ {zs:Array Value}{i:Nat}{z:Value}{r:List Value},zs.toList.drop i=z::r->zs[((i:Nat):Int).toNat]?=some z/\zs.toList.drop (i+1)=r/\i+1<=zs.size:=fun {zs i z r} h=>by
  have hl:i < zs.toList.length:=by
   rcases Nat.lt_or_ge i zs.toList.length with q|q
   ·exact q
   ·rw[Atn q] at h;cases h
  have e:=Asl hl
  rw[h] at e
  obtain⟨e1,e2⟩:=List.cons.inj e
  have hl':i < zs.size:=by simpa using hl
  refine⟨?_,e2.symm,hl'⟩
  rw[e1]
  simp[hl']
 intro us
 induction us with
 |nil =>
  intro ws i hx hy hi1 hi2 prog w A R s h
  obtain⟨hp,g,d,tk,os⟩:=s
  obtain⟨⟨hl,hb⟩,hL,hR⟩:=h
  have e1:=none_at hx
  have z1:xs.size=i:=by have:=List.drop_eq_nil_iff.mp hx;simp at this;lia
  have hk:k=decide (xs.size < ys.size):=by
   cases hL with
   |nil =>
    have:ys.size=i:=by have:=List.drop_eq_nil_iff.mp hy;simp at this;lia
    rw[z1,this];simp
   |short =>
    have:=(some_at hy).2.2
    rw[Ar5 (by lia)]
  subst hk
  wp_walk using wpAny_loadPart' hl,wpAny_loadPart' hb
  rw[e1]
  wp_walk using wpAny_loadPart' hl,wpAny_loadPart' hb
  exact hR
 |cons u us ih =>
  intro ws i hx hy hi1 hi2 prog w A R s h
  obtain⟨hp,g,d,tk,os⟩:=s
  obtain⟨⟨hl,hb⟩,hL,hR⟩:=h
  obtain⟨e1,x2,x3⟩:=some_at hx
  cases hL with
  |long =>
   have e2:=none_at hy
   have hk:decide (xs.size < ys.size)=false:=by
    have:ys.size=i:=by have:=List.drop_eq_nil_iff.mp hy;simp at this;lia
    rw[Art (by lia)]
   rw[<- hk] at hR
   wp_walk using wpAny_loadPart' hl,wpAny_loadPart' hb
   rw[e1,e2]
   wp_walk using wpAny_loadPart' hl,wpAny_loadPart' hb
   exact hR
  |@same _ y _ ws _ he hx' =>
   obtain⟨e2,y2,y3⟩:=some_at hy
   have hc:((i:Int)+1)=((i+1:Nat):Int):=by push_cast;rfl
   wp_walk using wpAny_loadPart' hl,wpAny_loadPart' hb
   rw[e1,e2]
   refine Aqx (he prog w _ _ ?_)
   wp_walk
   rw[hc]
   exact⟨plainId_quiet As5 _,codeAny_builtin MeetsSeq3.entry_eq_loop (by
    rw[Around.under_plainId As5 _]
    exact ih ws (i+1) x2 y2 x3 y3 prog w A R _ ⟨⟨hl,hb⟩,hx',hR⟩)⟩
  |@diff _ y _ ws _ he hk =>
   obtain⟨e2,y2,y3⟩:=some_at hy
   wp_walk using wpAny_loadPart' hl,wpAny_loadPart' hb
   rw[e1,e2]
   refine Aqx (he prog w _ _ ?_)
   have hk2:∀ {E:Value->Shared->Prop}{Q:Value->Shared->Prop},Q (.bool k) ⟨hp,g,d,tk,os⟩->wpAny (model prog w) A.in1 (richCompare .Lt u y) Q E ⟨hp,g,d,tk,os⟩:=fun q=>hk prog w _ _ q
   wp_walk using wpAny_loadPart' hl,wpAny_loadPart' hb
   rw[e1,e2]
   wp_walk using hk2
   exact hR
theorem T2 (l b:Addr) (xs ys:Array Value) (n n2:Nat) (dd dd2:Option Addr) (sl sl2:Array (Option Value)) (k:Bool) :
  Meets (Builtin.«list.__lt__» ⟨[.ref l,.ref b],[]⟩)
   (fun A R s=>(s.heap.get? l=some { cls:=.type "list",dict:=dd,data:=.seq xs n,slots:=sl }/\s.heap.get? b=some { cls:=.type "list",dict:=dd2,data:=.seq ys n2,slots:=sl2 })/\LexAt A.in1 s xs.toList ys.toList k/\R (.ok (.ret (.bool k))) s):=by
 intro prog w A R s h
 obtain⟨hp,g,d,tk,os⟩:=s
 obtain⟨⟨hl,hb⟩,hL,hR⟩:=h
 have f3:=AutoSeq1.sub_list_list
 wp_walk using wpAny_loadPart' hl,wpAny_loadPart' hb
 exact⟨plainId_quiet As5 _,codeAny_builtin MeetsSeq3.entry_eq_loop (by
  rw[Around.under_plainId As5 _]
  exact T6 l b xs ys n n2 dd dd2 sl sl2 k _ _ 0 rfl rfl (Ar8 _) (Ar8 _) prog w A R _ ⟨⟨hl,hb⟩,by simpa using hL,hR⟩)⟩
theorem LtAt.lists {s:Shared}{l b:Addr} (hl:s.heap.IsList l xs) (hb:s.heap.IsList b ys) (hu:A.units < cLine) (hx:LexAt A.in1 s xs.toList ys.toList k):LtAt A s (.ref l) (.ref b) k:=fun prog w E Q h=>by
 obtain⟨⟨cls,dd,data,sl⟩,ho,hc,n,hd⟩:=id hl
 obtain⟨⟨cls2,dd2,data2,sl2⟩,ho2,hc2,n2,hd2⟩:=id hb
 simp only at hc hd hc2 hd2
 subst hc hd hc2 hd2
 refine richCompare_meets_room (op:=.Lt) ⟨_,ho,rfl⟩ ⟨_,ho2,rfl⟩ F.slot_list_lt F.entry_list_lt (F.args_list_lt_2 _ _) (T2 l b xs ys n n2 dd dd2 sl sl2 k) ⟨⟨ho,ho2⟩,hx,?_⟩ hu
 exact⟨(fun x=>nomatch x),h⟩
mutual
def ltD:D->D->Option Bool
 |.int i,.int j=>some (decide (i < j))
 |.str i,.str j=>some (decide (i.cps.toList < j.cps.toList))
 |.tup xs,.tup ys=>Dz xs ys
 |.lst xs,.lst ys=>Dz xs ys
 |_,_=>none
def Dz:List D->List D->Option Bool
 |[],[]=>some false
 |[],_::_=>some true
 |_::_,[]=>some false
 |x::xs,y::ys=>if deq x y=true then Dz xs ys else ltD x y
end
section
variable {X:Cx}{pins:List (Addr×Obj)}{σ:St}{H:Hp}{s:Shared}{μ:List Addr}{B:Addr->Prop}
set_option tactic.hygienic true in
mutual
theorem Z9 (I:Inv X pins σ H s):∀ (d d':D) {A:Around}{v v':V}{u u':Value}{k:Bool},Rep X.K H μ B d v->Rep X.K H μ B d' v'->Bm d=true->Bm d'=true->RelV v u->RelV v' u'->A.units+dep d+dep d' < cLine->ltD d d'=some k->LtAt A s u u' k
 |.int i,d',A,v,v',u,u',k,r,r',n,n',q,q',hu,h=>by
  cases d'<;>first|(simp[ltD] at h;done)|skip
  cases r;cases r'
  obtain⟨t,rfl⟩:=q
  obtain⟨t2,rfl⟩:=q'
  rw[ltD] at h
  cases h
  intro prog w E Q q
  exact lt_int q
 |.str i,d',A,v,v',u,u',k,r,r',n,n',q,q',hu,h=>by
  cases d'<;>first|(simp[ltD] at h;done)|skip
  cases r;cases r'
  obtain⟨t,rfl⟩:=q
  obtain⟨t2,rfl⟩:=q'
  rw[ltD] at h
  cases h
  intro prog w E Q q
  exact lt_str q
 |.tup ds,d',A,v,v',u,u',k,r,r',n,n',q,q',hu,h=>by
  cases d'<;>first|(simp[ltD] at h;done)|skip
  rename_i es
  cases r with
  |tup h1 r1 =>
  cases r' with
  |tup h2 r2 =>
  cases q
  cases q'
  obtain⟨its,rv,p,hz⟩:=I.tuple h1
  obtain⟨its',rv',p',hz'⟩:=I.tuple h2
  rw[ltD] at h
  rw[dep,dep] at hu
  refine LtAt.tuples p p' (by lia) ?_
  rw[Bm] at n n'
  exact E4 I ds es r1 r2 n n' rv rv' (by show A.units+1+_+_ < _;lia) h
 |.non,d',A,v,v',u,u',k,r,r',n,n',q,q',hu,h=>by simp[ltD] at h
 |.bl _,d',A,v,v',u,u',k,r,r',n,n',q,q',hu,h=>by simp[ltD] at h
 |.lst ds,d',A,v,v',u,u',k,r,r',n,n',q,q',hu,h=>by
  cases d'<;>first|(simp[ltD] at h;done)|skip
  rename_i es
  cases r with
  |lst h1 _ r1 =>
  cases r' with
  |lst h2 _ r2 =>
  cases q
  cases q'
  obtain⟨its,rv,p,hz⟩:=I.list (.inl h1)
  obtain⟨its',rv',p',hz'⟩:=I.list (.inl h2)
  rw[ltD] at h
  rw[dep,dep] at hu
  refine LtAt.lists p.isList p'.isList (by lia) ?_
  rw[Bm] at n n'
  exact E4 I ds es r1 r2 n n' rv rv' (by show A.units+1+_+_ < _;lia) h
 |.kl _,d',A,v,v',u,u',k,r,r',n,n',q,q',hu,h=>by simp[ltD] at h
 |.ref _,d',A,v,v',u,u',k,r,r',n,n',q,q',hu,h=>by simp[ltD] at h
 |.dic _ _,d',A,v,v',u,u',k,r,r',n,n',q,q',hu,h=>by simp[ltD] at h
 |.dks _ _,d',A,v,v',u,u',k,r,r',n,n',q,q',hu,h=>by simp[ltD] at h
 |.fz _ _ _ _,d',A,v,v',u,u',k,r,r',n,n',q,q',hu,h=>by simp[ltD] at h
 |.fn _ _,d',A,v,v',u,u',k,r,r',n,n',q,q',hu,h=>by simp[ltD] at h
theorem E4 (I:Inv X pins σ H s):∀ (ds es:List D) {A:Around}{vs vs':List V}{us us':List Value}{k:Bool},Reps X.K H μ B ds vs->Reps X.K H μ B es vs'->Ar ds=true->Ar es=true->Vals vs us->Vals vs' us'->A.units+Da ds+Da es < cLine->Dz ds es=some k->LexAt A s us us' k
 |[],es,A,vs,vs',us,us',k,r,r',n,n',q,q',hu,h=>by
  cases r
  cases q
  cases es with
  |nil=>cases r';cases q';rw[Dz] at h;cases h;exact .nil
  |cons e es =>
   cases r' with
   |cons r1 r2=>cases q' with
    |cons q1 q2=>rw[Dz] at h;cases h;exact .short
 |d::ds,es,A,vs,vs',us,us',k,r,r',n,n',q,q',hu,h=>by
  cases r with
  |cons r1 rs =>
  cases q with
  |cons q1 qs =>
  cases es with
  |nil=>cases r';cases q';rw[Dz] at h;cases h;exact .long
  |cons e es =>
   cases r' with
   |cons r2 rs2=>cases q' with
    |cons q2 qs2 =>
     rw[Dz] at h
     rw[Ar,Arf] at n n'
     rw[Da,Da] at hu
     have he:=Ta (A:=A) I r1 r2 n.1 n'.1 q1 q2 (by lia)
     by_cases hd:deq d e=true
     ·rw[Aq4 hd] at h
      rw[hd] at he
      exact .same he (E4 I ds es rs rs2 n.2 n'.2 qs qs2 (by lia) h)
     ·rw[Aq7 hd] at h
      rw[Bool.eq_false_iff.mpr hd] at he
      exact .diff he (Z9 I d e r1 r2 n.1 n'.1 q1 q2 (by lia) h)
end
end
section
variable {X:Cx}
end
end ML
end L2
end S_ML11
section S_ML12
namespace L2
namespace ML
open PySem PySem.Spec PyProof.Rows
section
variable {X:Cx}{a b c e e' o':Expr}{es:List Expr}{pos p p' apos cpos spos:Pos}{x:Str}
theorem Aj8 {K:W.Frag}{H:Hp}{μ:List Addr}{B:Addr->Prop}{a:Addr}{sl:Array (Option Value)}{n:Nat}{its:List Value}{ds:List D}{vs:List V} (h:K.lookup a=some ⟨.type "tuple",none,.seq its.toArray n,sl⟩) (hl:its.length<=1000000) (rv:Vals vs its) (rs:Reps K H μ B ds vs):Rep K H μ B (.tup ds) (.ref a) :=
 .tup (.inr ⟨_,its.toArray,n,h,rfl,rfl,by rw[Aq3];exact big hl,rv,rfl⟩) rs
end
noncomputable def Ak5 (lo st:Int) (n:Nat):It:=⟨fun i _=>i < n,fun i H x H'=>H'=H/\x=.int (lo+i * st),fun i _=>n<=i⟩
theorem Hf {P:Program}{w:World}{K:W.Frag}{tg:Expr} (it:Addr) (lo st:Int) (n:Nat):Turn P w K tg (Ak5 lo st n) [it] it (fun i h=>IsRangeIter h it (lo+(i:Nat) * st) ((n:Int) - (i:Nat)) st) where
 mem:=by simp
 obj:=fun i h st b hb=>by
  have e:b=it:=by simpa using hb
  subst e
  exact⟨_,st,fun v z=>by
   have z':Data.fields _=Data.cell v:=z
   cases z'⟩
 keep:=fun i h h' st k=>k it (by simp) _ st
 item:=by
  intro X hP hw hK hc i pins s σ H E I hf hst hg
  subst hP hw hK
  obtain⟨f0,f1,f2,f3,f4,f5⟩:=hf it (by simp)
  have W:=Walks.range (prog:=X.prog) (w:=X.w) (I.ok.hd hc) it lo st n
  refine W.item i s _ _ hg hst fun v h' tk hv st' kk=>?_
  obtain⟨t,rfl⟩:=hv
  have I1:Inv X pins σ H { s with heap:=h',toks:=tk }:=I.turned (fun b o hb e=>kk b o (by simpa using hb) e) f0 f1 f3 f4 f5
  exact⟨_,rfl,Tn (s:={ s with heap:=h',toks:=tk }) (n:="range_iterator") st' rfl rfl (by decide) ⟨.int (lo+i * st),H,I1,⟨t,rfl⟩,⟨rfl,rfl⟩,st',fun b hb=>(hf b hb).1⟩⟩
 done:=by
  intro X hP hw hK hc i pins s σ H E I hf st hg
  subst hP hw hK
  obtain⟨f0,f1,f2,f3,f4,f5⟩:=hf it (by simp)
  exact wpAny_pyNext_range_end (I.ok.hd hc) st (by have:n<=i:=hg;lia) fun h' eb=>⟨rfl,I.turned (t':=s.toks) (fun b o hb e=>eb b o hb e) f0 f1 f3 f4 f5⟩
 self:=fun _ _ _ _ _ st h=>wpAny_pyIter_rangeiter st h
noncomputable def P3 (lo hi st:Int):Nat:=if lo < hi then ((hi - lo - 1) / st+1).toNat else 0
theorem Mi {lo hi st:Int} (h:0 < st):((P3 lo hi st:Nat):Int)=Builtin.Range.rangeSize lo hi st:=by
 unfold Builtin.Range.rangeSize P3
 simp only[show st > 0 from h,Ate]
 by_cases hl:lo < hi
 ·have h1:0<=(hi - lo - 1) / st:=Int.ediv_nonneg (by lia) (by lia)
  simp only[hl,Ate]
  first|lia|(rw[Aq4 hl];lia)|(rw[Aq7 (by lia)];lia)
 ·simp only[hl,As1]
  first|rfl|lia|(rw[Aq7 hl];rfl)|(rw[Aq4 (by lia)];rfl)
theorem Aer {lo hi st:Int} (h:0 < st):((P3 lo hi st:Nat):Int)<=max 0 (hi - lo):=by
 unfold P3
 by_cases hl:lo < hi
 ·rw[Aq4 hl]
  have h1:0<=(hi - lo - 1) / st:=Int.ediv_nonneg (by lia) (by lia)
  have h2:(hi - lo - 1) / st<=hi - lo - 1:=Int.ediv_le_self _ (by lia)
  lia
 ·rw[Aq7 hl];lia
theorem Yy (ha:-(2 ^ 61)<=a) (ha':a < 2 ^ 61) (hb:-(2 ^ 61)<=b) (hb':b < 2 ^ 61) (hc:0 < c) (hc':c < 2 ^ 61):Builtin.Range.small a b c=true:=by
 have h1:=Aer (lo:=a) (hi:=b) hc
 have h2:=Mi (lo:=a) (hi:=b) hc
 unfold Builtin.Range.small
 rw[<- h2]
 simp only[Builtin.Range.rangeFitsLong,Arf,Bool.or_eq_true,Asq,beq_iff_eq,show c > 0 from hc,Ate]
 lia
theorem Reps.three {K:W.Frag}{H:Hp}{μ:List Addr}{B:Addr->Prop}{x y z:D}{vs:List V} (r:Reps K H μ B [x,y,z] vs):∃ v1 v2 v3,vs=[v1,v2,v3]/\Rep K H μ B x v1/\Rep K H μ B y v2/\Rep K H μ B z v3:=by
 cases r with
 |cons a r=>cases r with
  |cons b r=>cases r with
   |cons c r=>cases r;exact⟨_,_,_,rfl,a,b,c⟩
theorem Ak2 (r:Vals [v1,v2,v3] us):∃ u1 u2 u3,us=[u1,u2,u3]/\RelV v1 u1/\RelV v2 u2/\RelV v3 u3:=by
 cases r with
 |cons a r=>cases r with
  |cons b r=>cases r with
   |cons c r=>cases r;exact⟨_,_,_,rfl,a,b,c⟩
section
variable {X:Cx}{a b c e:Expr}{tg:Expr}{p pos:Pos}
theorem Iq {K:W.Frag}{lo st:Int}{n:Nat}:Src K (Ak5 lo st n) ((List.range n).map fun (q:Nat)=>.int (lo+q * st)) Av (fun _ _ _=>True) where
 go:=fun H μ m i d S h _ e=>by
  rw[Ari] at e
  cases q:(List.range n)[i]? with
  |none=>rw[q] at e;cases e
  |some j =>
   rw[q] at e
   cases e
   have hi:=(List.getElem?_eq_some_iff.mp q).1
   rw[List.length_range] at hi
   rw[List.getElem?_range hi] at q
   cases q
   exact⟨hi,fun x H' ⟨h1,h2⟩=>by subst h1;subst h2;exact⟨Same.refl _,.int _⟩⟩
 stop:=fun H μ m S h _=>by show n<=_;simp
 keep:=fun H μ m H' μ' m' h S st S'=>trivial
end
open Classical
noncomputable section
section
variable {X:Cx}{pins:List (Addr×Obj)}{σ:St}{H:Hp}{s:Shared}{a:Addr}
theorem Lx (I:Inv X pins σ H s) (d:PyData):∀ {v:V}{u:Value},KeyH X.K H d v->RelV v u->∃ as,Reads s.heap u d as:=by
 match d with
 |.int i=>intro v u h r;cases h;obtain⟨t,rfl⟩:=r;exact⟨_,.int i t⟩
 |.str x=>intro v u h r;cases h;obtain⟨t,rfl⟩:=r;exact⟨_,.str x t⟩
 |.tuple ds =>
  intro v u h r
  cases h with
  |@tup _ b vs hs hp =>
  cases r
  obtain⟨its,rv,⟨o,ho,hc,n,hd⟩,hz⟩:=I.tuple hs
  have go:∀ (es:List PyData) (us:List V) (ws:List Value),(∀ e∈es,e∈ds)->Paired (KeyH X.K H) es us->Vals us ws->∃ as,ReadsAll s.heap ws es as:=by
   intro es
   induction es with
   |nil=>intro us ws _ q rv;cases q;cases rv;exact⟨_,.nil⟩
   |cons e es ih =>
    intro us ws hm q rv
    cases q with
    |cons h1 h2=>cases rv with
     |cons r1 r2 =>
      obtain⟨as,q1⟩:=Lx I e h1 r1
      obtain⟨bs,q2⟩:=ih _ _ (fun x hx=>hm x (Aq6 _ hx)) h2 r2
      exact⟨_,.cons q1 q2⟩
  obtain⟨as,ra⟩:=go ds vs its (fun _ h=>h) hp rv
  exact⟨as,.tuple ho hc hd (by simpa using ra)⟩
 |.none=>intro v u h;cases h
 |.bool _=>intro v u h;cases h
 |.list _=>intro v u h;cases h
 |.dict _=>intro v u h;cases h
termination_by sizeOf d
decreasing_by
 have:=Asp (hm e (Aq8 ..))
 simp;lia
theorem Tw (I:Inv X pins σ H s) {d:PyData} (h:KeyT X.K H d b):(Oz X.prog X.w).is s.heap d b:=by
 obtain⟨h1,h2,h3,h4⟩:=h
 obtain⟨as,r⟩:=Lx I d (u:=.ref b) h4 rfl
 exact⟨h1,h2,h3,as,r⟩
theorem Acv (I:Inv X pins σ H s):sysModules < s.heap.objs.size:=by
 have h:mainGlobals < s.heap.objs.size:=(I.mod.glob.keeps I.bk).lt
 exact Nat.lt_trans (by decide) h
end
noncomputable def Dx:D->Bool
 |.tup ds=>kOk (pyD (.tup ds))&&decide (Pk (pyD (.tup ds))<=6)
 |_=>false
section
variable {K:W.Frag}{H:Hp}{μ:List Addr}{B:Addr->Prop}
theorem Tv:∀ {d:D}{v:V},Rep K H μ B d v->kOk (pyD d)=true->KeyH K H (pyD d) v:=by
 intro d
 match d with
 |.int i=>intro v r _;cases r;rw[pyD];exact .int i
 |.str x=>intro v r _;cases r;rw[pyD];exact .str x
 |.tup ds =>
  intro v r hk
  cases r with
  |@tup _ a xs hq rs =>
  rw[pyD] at hk ⊢
  rw[kOk] at hk
  refine .tup hq ?_
  have go:∀ (es:List D) (us:List V),(∀ e∈es,e∈ds)->Reps K H μ B es us->Jm (C7 es)=true->Paired (KeyH K H) (C7 es) us:=by
   intro es
   induction es with
   |nil=>intro us _ q _;cases q;rw[C7];exact .nil
   |cons e es ih =>
    intro us hm q hk
    cases q with
    |cons h1 h2 =>
     rw[C7,Jm,Arf] at hk
     rw[C7]
     exact .cons (Tv h1 hk.1) (ih _ (fun x hx=>hm x (Aq6 _ hx)) h2 hk.2)
  exact go ds xs (fun _ h=>h) rs hk
 |.non=>intro v r h;simp[pyD,kOk] at h
 |.bl _=>intro v r h;simp[pyD,kOk] at h
 |.lst _=>intro v r h;simp[pyD,kOk] at h
 |.kl _=>intro v r h;simp[pyD,kOk] at h
 |.ref _=>intro v r h;simp[pyD,kOk] at h
 |.dic _ _=>intro v r h;simp[pyD,kOk] at h
 |.dks _ _=>intro v r h;simp[pyD,kOk] at h
 |.fz _ _ _ _=>intro v r h;simp[pyD,kOk] at h
 |.fn _ _=>intro v r h;simp[pyD,kOk] at h
termination_by d=>sizeOf d
decreasing_by
 have:=Asp (hm e (Aq8 ..))
 simp;lia
theorem M8 {d:D} (r:Rep K H μ B d v) (h:Dx d=true):∃ b,v=.ref b/\KeyT K H (pyD d) b:=by
 cases d with
 |tup ds =>
  unfold Dx at h
  rw[Arf] at h
  have q:=Tv r h.1
  cases r with
  |tup hq rs=>exact⟨_,rfl,h.1,Arp h.2,⟨_,by rw[pyD]⟩,q⟩
 |_=>exact Bn h
end
section
variable {X:Cx}{a b c e:Expr}{es:List Expr}{pos p p':Pos}{x:Str}
end
section
variable {X:Cx}{a b c e:Expr}{es:List Expr}{pos p p':Pos}{x:Str}
end
end
end ML
end L2
end S_ML12
section S_ML15
namespace L2
namespace ML
open PySem PySem.Spec PyProof.Rows
namespace RV
section
variable {prog:Program}{w:World}{A:Around}{E:Value->Shared->Prop}{s:Shared}
end
section
variable {prog:Program}{w:World}{A:Around}{s:Shared}{R:Result->Shared->Prop}
end
section
variable {prog:Program}{w:World}{A:Around}{E:Value->Shared->Prop}{s:Shared}
end
end RV
section
variable {X:Cx}{e:Expr}{pos pos' p p':Pos}
end
namespace RL
section
variable {prog:Program}{w:World}{A:Around}{E:Value->Shared->Prop}{s:Shared}
end
section
variable {prog:Program}{w:World}{A:Around}{s:Shared}{R:Result->Shared->Prop}
end
section
variable {prog:Program}{w:World}{A:Around}{E:Value->Shared->Prop}{s:Shared}
end
end RL
section
variable {X:Cx}{e:Expr}{pos pos' p p':Pos}
end
section
variable {X:Cx}{a e:Expr}{apos cpos:Pos}
end
section
variable {X:Cx}{a e:Expr}{apos cpos spos:Pos}
end
end ML
end L2
end S_ML15
section S_ML19
namespace L2
namespace ML
open PySem PySem.Spec PyProof.Rows PySem.SeqAt
open PySem.W (KasT kas_sort katRev KatLex)
noncomputable def evO {α:Type} (c:Nat->Nat->Option Bool):KasT α->Option α
 |.ret a=>some a
 |.ask i j k=>(c i j).bind fun b=>evO c (k b)
theorem Zz {s:Shared} (hc:∀ i j b C,c i j=some b->C b s->cmp i j C s) :
  ∀ (t:KasT α) {a:α},evO c t=some a->Q a s->t.kasWp cmp Q s
 |.ret _,_,h,q=>by cases h;exact q
 |.ask i j k,a,h,q=>by
  obtain⟨b,h1,h2⟩:=bind_some h
  exact hc i j b _ h1 (Zz hc (k b) h2 q)
theorem Ac2 {prog:Program}{w:World}{A:Around}{s:Shared}{fl fin:Bool}{Q:Bool->Shared->Prop}{n1 n2:Nat} (hf:fin=decide (n1 < n2)) {us ws:List Value}{k:Bool} (h:LexAt A s us ws k) :
  ∀ i:Nat,0 < i->us.length+n2=ws.length+n1->Q k s->KatLex prog w A fl fin Q (us.zip ws) i s:=by
 induction h with
 |nil =>
  intro i hi hn q
  show Q fin s
  rw[hf,Art (by simp at hn;lia)];exact q
 |short =>
  intro i hi hn q
  show Q fin s
  rw[hf,Ar5 (by simp at hn;lia)];exact q
 |long =>
  intro i hi hn q
  show Q fin s
  rw[hf,Art (by simp at hn;lia)];exact q
 |same he _ ih =>
  intro i hi hn q
  exact W.kat_cons (he prog w _ _ (W.kat_yes (ih (i+1) (Nat.succ_pos _) (by simp at hn;lia) q)))
 |diff he hk =>
  intro i hi hn q
  refine W.kat_cons (he prog w _ _ (W.kat_no ?_))
  rw[show (fl&&i == 0)=false by cases fl<;>simp;lia]
  exact W.kat_one _ _ (hk prog w _ _ q)
noncomputable def Acy:D->Bool
 |.tup (.int _::_)=>true
 |_=>false
theorem M7 {d:D} (h:Acy d=true):∃ i ds,d=.tup (.int i::ds):=by
 cases d with
 |tup es =>
  cases es with
  |nil=>exact Bn h
  |cons e ds =>
   cases e with
   |int i=>exact⟨i,ds,rfl⟩
   |_=>exact Bn h
 |_=>exact Bn h
section
variable {X:Cx}{pins:List (Addr×Obj)}{σ:St}{H:Hp}{s:Shared}{μ:List Addr}{B:Addr->Prop}
theorem Ac0 (I:Inv X pins σ H s) {E:Value->Shared->Prop} (r:Rep X.K H μ B (.tup (.int i::ds)) v) (r':Rep X.K H μ B (.tup (.int j::es)) v') (n:Ar ds=true) (n':Ar es=true) (ru:RelV v u) (ru':RelV v' u') (hu:A.units+Da ds+Da es+1 < cLine) (h:Dz (.int i::ds) (.int j::es)=some b) (q:Q b s):wpAny (model X.prog X.w) A (keyLt' (tuples' true) u u') Q E s:=by
 cases r with
 |tup h1 r1 =>
 cases r' with
 |tup h2 r2 =>
 cases ru
 cases ru'
 obtain⟨its,rv,⟨o,ho,hc,nn,hd⟩,hz⟩:=I.tuple h1
 obtain⟨its',rv',⟨o',ho',hc',nn',hd'⟩,hz'⟩:=I.tuple h2
 cases r1 with
 |cons x1 xs1 =>
 cases r2 with
 |cons x2 xs2 =>
 cases rv with
 |cons q1 qs1 =>
 cases rv' with
 |cons q2 qs2 =>
 have he:=Ta (A:=A) I x1 x2 rfl rfl q1 q2 (by rw[show dep (D.int j)=0 by simp[dep]];lia)
 cases x1
 cases x2
 obtain⟨t,rfl⟩:=q1
 obtain⟨t',rfl⟩:=q2
 refine W.kat_lt ho hd ho' hd' (W.kat_cons (he X.prog X.w _ _ ?_))
 rw[Dz] at h
 by_cases hdq:deq (.int i) (.int j)=true
 ·rw[Aq4 hdq] at h
  rw[hdq]
  exact W.kat_yes (Ac2 rfl (E4 (A:=A) I ds es xs1 xs2 n n' qs1 qs2 (by lia) h) 1 (by decide) (by simp;lia) q)
 ·rw[Aq7 hdq,ltD] at h
  cases h
  rw[Bool.eq_false_iff.mpr hdq]
  exact W.kat_no (oneLt_int q)
theorem Lz (I:Inv X pins σ H s):∀ {ks:List D}{vs:List V}{us:List Value},Reps X.K H μ B ks vs->Vals vs us->ks.all Acy=true->∃ fs,W.KatTups s.heap us fs/\fs.length=us.length/\∀ f∈fs,∃ i t,f=Value.int i t
 |_,_,_,.nil,.nil,_=>⟨[],.nil,rfl,fun _ h=>nomatch h⟩
 |_,_,_,.cons r rs,.cons q qs,h=>by
  rw[Ast,Arf] at h
  obtain⟨i,ds,rfl⟩:=M7 h.1
  obtain⟨fs,h1,h2,h3⟩:=Lz I rs qs h.2
  cases r with
  |tup e1 r1 =>
  cases q
  obtain⟨its,rv,⟨o,ho,hc,nn,hd⟩,hz⟩:=I.tuple e1
  cases r1 with
  |cons x1 _ =>
  cases rv with
  |cons q1 _ =>
  cases x1
  obtain⟨t,rfl⟩:=q1
  refine⟨.int i t::fs,W.KatTups.cons ho hc hd (by simp) h1,by simp[h2],fun f hf=>?_⟩
  rcases List.mem_cons.mp hf with rfl|hf
  ·exact⟨i,t,rfl⟩
  ·exact h3 f hf
theorem Inv.setPin {pre post:List (Addr×Obj)}{a:Addr}{o o':Obj}{h':Heap} (I:Inv X (pre++(a,o)::post) σ H s) (ha:X.s₀.heap.objs.size<=a) (hx:∀ p∈X.pn++(pre++post),p.1≠a)
  (k:∀ b u,b≠a->s.heap.get? b=some u->h'.get? b=some u) (ho:h'.get? a=some o') (hc:∀ v,o'.data≠.cell v):Inv X (pre++(a,o')::post) σ H { s with heap:=h' }:=by
 obtain⟨e,n,ne,nf,d⟩:=I.pin (a,o) (Aq2 _ (Aq2 _ (Aq8 ..)))
 have sub:∀ p∈pre++post,p∈pre++(a,o)::post:=fun p hp=>(List.mem_append.mp hp).elim (fun z=>Arx _ z) fun z=>Aq2 _ (Aq6 _ z)
 have I0:Inv X (pre++post) σ H s:=I.pins_of fun p hp=>I.pin p (Aq2 _ (sub p hp))
 have I1:=I0.turned (t':=s.toks) k n ne (.inr ha) (fun x c hl z=>by
  obtain⟨v,o2,e2,d2⟩:=I.cell x c hl
  rw[z] at e2
  rw[show s.heap.get? a=some o from e] at e2
  cases e2
  exact d v d2) hx
 refine I1.pins_of fun p hp=>?_
 rcases List.mem_append.mp hp with z|z
 ·exact I1.pin p (Aq2 _ (Arx _ z))
 ·rcases List.mem_cons.mp z with rfl|z
  ·exact⟨ho,n,ne,nf,hc⟩
  ·exact I1.pin p (Aq2 _ (Aq2 _ z))
theorem Inv.adopt (I:Inv X ((a,seqObj "list" its.toArray n)::pins) σ H s) (ha:X.s₀.heap.objs.size<=a) (hx:∀ p∈X.pn++pins,p.1≠a) (rv:Vals ys its) (hz:ys.length<=sizeLine) :
  Inv X pins σ (upd H a (.lst ys)) s:=by
 obtain⟨e,hn,ne,nf,d⟩:=I.pin (a,seqObj "list" its.toArray n) (Aq2 _ (Aq8 ..))
 have I0:Inv X pins σ H s:=I.pins_of fun p hp=>I.pin p (Aq2 _ (Aq6 _ hp))
 have up:∀ b u,H b=some u->upd H a (.lst ys) b=some u:=fun b u q=>by rw[Aw (Aq q hn)];exact q
 refine I0.step (g':=s.gens) (t':=s.toks) (d':=s.drawn) (h':=s.heap) (ch:=[a]) (fun b hb=>?_) (fun b o _ _ _ q _=>q) (fun b o _ _ _ q _=>⟨o.slots,q⟩) (fun b o hc q z=>?_) (fun b o _ q=>⟨o,q⟩) (fun b xs q=>up _ _ q) (fun b o u q=>up _ _ q) (fun b ps q=>⟨#[],by rw[up _ _ q];simp⟩) (fun m q=>q) (fun b u q=>?_) I0.bare
 ·have e':b=a:=by simpa using hb
  subst e'
  refine⟨.inr ha,ne,fun x c hl z=>?_,hx⟩
  obtain⟨v,o2,e2,d2⟩:=I.cell x c hl
  rw[z] at e2
  have e3:s.heap.get? b=some (seqObj "list" its.toArray n):=e
  rw[e3] at e2
  cases e2
  exact d v d2
 ·rw[Aw (fun z=>hc (by simp[z]))];exact z
 ·by_cases hb:b=a
  ·subst hb
   rw[A9] at q
   cases q
   exact⟨hz,its,n,rv,e⟩
  ·rw[Aw hb] at q
   exact (I0.hok b u q).stay (fun c v _ z=>z) (fun c z=>up _ _ z) (fun c xs z=>by
    rcases z with z|⟨o,z⟩
    ·exact .inl (up _ _ z)
    ·exact .inr ⟨o,up _ _ z⟩) fun c x w z=>up _ _ z
end
def Hl (fn:List D->Option D) (m:MH):List D->Option (List D)
 |[]=>some []
 |d::ds=>(Eu 1 fn [d] m).bind fun k=>(Hl fn m ds).bind fun ks=>some (k::ks)
theorem Ly:∀ {ds ks:List D},Hl fn m ds=some ks->ks.length=ds.length
 |[],_,h=>by cases h;rfl
 |d::ds,_,h=>by
  obtain⟨k,h1,h⟩:=bind_some h
  obtain⟨ks,h2,h⟩:=bind_some h
  cases h
  rw[Ark,Ark,Ly h2]
section
variable {X:Cx}{pins:List (Addr×Obj)}{σ:St}{H:Hp}{s:Shared}{μ:List Addr}{m:MH}{k:Nat}{f:Addr}{fd:FuncData}{ps:List Str}{fn:List D->Option D}{A':Around}
theorem Aev {us:List Value}{vs:List V}{Q:VK} (F:FnOk X.prog X.w X.K X.mg X.base CX0 k f fd ps (spP X.K 1 fn)) (hr:Room k A') (he:Env0 X.prog X.w X.K X.mg X.base A' X.stack s H) (hb:Binds X.K fd ps []) (I:Inv X pins σ H s) (r:Vals vs us) (h:spP X.K 1 fn vs H Q E0) :
  wpAny (model X.prog X.w) A' (call (.ref f) us) (EP X pins σ Q) (fun _ _=>False) s:=by
 have hl:us.length=ps.length:=by rw[<- r.length];exact F.len _ _ _ _ h
 have hb':=hb s us I.kIn (by simpa using hl)
 rw[Ar4] at hb'
 refine wpAny_call (codeAny_mono (F.run A' X.stack s H ⟨us,[]⟩ us vs Q E0 hr he hb' r h) fun r s' hq=>?_)
 cases r with
 |error e=>exact hq.elim
 |ok fl =>
  cases fl with
  |ret u=>exact I.after hq
  |next=>exact False.elim hq
  |brk=>exact False.elim hq
  |cont=>exact False.elim hq
def SK (X:Cx) (pins:List (Addr×Obj)) (σ:St) (H:Hp) (μ:List Addr) (kS D0:Addr) (e1:Nat) (keys:List D) (s':Shared):Prop :=
 ∃ H1 e kvs us,Same H H1/\Inv X ((kS,seqObj "list" (List.toArray us) e)::(D0,seqObj "list" #[] e1)::pins) σ H1 s'/\Vals kvs us/\Reps X.K H1 μ (·∈μ) keys kvs
theorem Ob {E:Value->Shared->Prop} (F:FnOk X.prog X.w X.K X.mg X.base CX0 k f fd ps (spP X.K 1 fn)) (hr:Room k A') (hA:∀ s H,Env0 X.prog X.w X.K X.mg X.base X.A X.stack s H->Env0 X.prog X.w X.K X.mg X.base A' X.stack s H) (hb:Binds X.K fd ps []) (S:Sim X.K H μ m) (hk:X.s₀.heap.objs.size<=kS) (hx:∀ p∈X.pn++pins,p.1≠kS) (hne:D0≠kS) (hbd:∀ x (s:Shared) (R:ForInStep PUnit->Shared->Prop),wpAny (model X.prog X.w) A' (call (.ref f) [x]) (fun k s1=>∃ us e,s1.heap.get? kS=some (seqObj "list" (List.toArray us) e)/\us.length < 128/\R (.yield ⟨⟩) { s1 with heap:=s1.heap.update kS (Obj.mapSeq (·.push k)) }) (fun _ _=>False) s->wpAny (model X.prog X.w) A' (body x ⟨⟩) R E s) :
  ∀ (ds:List D) {xs:List V}{us:List Value}{ks dn:List D}{s:Shared},Reps X.K H μ (·∈μ) ds xs->Vals xs us->Hl fn m ds=some ks->dn.length+ds.length < 128->SK X pins σ H μ kS D0 e1 dn s ->
   wpAny (model X.prog X.w) A' (forIn us PUnit.unit body) (fun _ s'=>SK X pins σ H μ kS D0 e1 (dn++ks) s') E s
 |[],xs,us,ks,dn,s,rs,rv,hK,hl,st=>by
  cases rs
  cases rv
  cases hK
  rw[List.forIn_nil,Ar4]
  exact Aq0 st
 |d::ds,xs,us,ks,dn,s,rs,rv,hK,hl,st=>by
  cases rs with
  |@cons _ v _ vs r rs =>
  cases rv with
  |@cons _ u _ us ru rus =>
  obtain⟨key,h1,h⟩:=bind_some hK
  obtain⟨ks',h2,h⟩:=bind_some h
  cases h
  obtain⟨H1,e,kvs,ws,s1,I,rk,rks⟩:=st
  have S1:=S.same s1
  obtain⟨ds',h3,h4⟩:=bind_some h1
  split at h4
  ·rename_i hl1
   rw[List.forIn_cons]
   refine Aqx (hbd u s _ (Asm (Aev (us:=[u]) (vs:=[v]) (Q:=fun v' H'=>Same H1 H'/\Rep X.K H' μ (·∈μ) key v') F hr (hA _ _ I.env0) hb I (.cons ru .nil) ⟨ds',key,C3 S1 (.cons (r.same s1) .nil) h3,hl1,h4,fun v' H' s' r'=>⟨s',Rep.ofCall S1 r'⟩⟩) (fun kv s2 hq=>?_) fun _ _ z=>z))
   obtain⟨v',H2,I2,rv2,s2',r2⟩:=hq
   have pk:=I2.pin (kS,_) (Aq2 _ (Aq8 ..))
   have hln:=rks.length
   have hln2:=rk.length
   refine⟨ws,e,pk.1,by rw[Ark] at hl;lia,?_⟩
   show wpAny (model X.prog X.w) A' (forIn us PUnit.unit body) _ E _
   rw[show dn++key::ks'=(dn++[key])++ks' by simp]
   refine Ob F hr hA hb S hk hx hne hbd ds rs rus h2 (by rw[Arz,As8];rw[Ark] at hl;lia) ?_
   have ea:(List.toArray ws).push kv=List.toArray (ws++[kv]):=by simp
   obtain⟨c2,hc2⟩:∃ c2,(s2.heap.update kS (Obj.mapSeq (·.push kv))).get? kS=some (seqObj "list" (List.toArray (ws++[kv])) c2):=⟨_,by rw[<- ea];exact get?_update_seq pk.1 (·.push kv)⟩
   refine⟨H2,c2,kvs++[v'],ws++[kv],s1.trans s2',?_,Vals.append rk (.cons rv2 .nil),Reps.append (rks.same s2') (.cons r2 .nil)⟩
   refine Inv.setPin (pre:=[]) I2 hk (fun p hp=>?_) (fun b o hb q=>(Arh _ _ (Asc hb)).trans q) hc2 (fun v z=>by cases z)
   rcases List.mem_append.mp hp with z|z
   ·exact hx p (Arx _ z)
   ·rcases List.mem_cons.mp z with rfl|z
    ·exact hne
    ·exact hx p (Aq2 _ z)
  ·exact Ag h4
end
def Nu (b:Bool) (ds ks:List D):Option (List D):=if ds.length < 2 then some ds else
 (evO (fun i j=>ltD ((katRev b ks).getD i .non) ((katRev b ks).getD j .non)) (kas_sort ds.length)).bind fun p=>some (katRev b (p.toList.map fun i=>(katRev b ds).getD i .non))
theorem Vals.getN (r:Vals xs us) (i:Nat):RelV (xs.getD i .non) (us.getD i Value.none):=by
 have hl:=r.length
 by_cases h:i < xs.length
 ·obtain⟨u,h1,h2⟩:=r.get (i:=i) (x:=xs[i]) (by simp[h])
  rw[Aqy,Aqy,h1,Aqz h];exact h2
 ·rw[Aqy,Aqy,Ar6 (by lia),Ar6 (by lia)];rfl
theorem Reps.getN {K:W.Frag}{H:Hp}{μ:List Addr}{B:Addr->Prop}{ds:List D}{xs:List V} (r:Reps K H μ B ds xs) (i:Nat):Rep K H μ B (ds.getD i .non) (xs.getD i .non):=by
 have hl:=r.length
 by_cases h:i < ds.length
 ·obtain⟨v,h1,h2⟩:=r.get (i:=i) (d:=ds[i]) (by simp[h])
  rw[Aqy,Aqy,h1,Aqz h];exact h2
 ·rw[Aqy,Aqy,Ar6 (by lia),Ar6 (by lia)];exact .non
theorem Vals.mapN (r:Vals xs us):∀ l:List Nat,Vals (l.map fun i=>xs.getD i .non) (l.map fun i=>us.getD i Value.none)
 |[]=>.nil
 |i::l=>.cons (Vals.getN r i) (Vals.mapN r l)
theorem Reps.mapN {K:W.Frag}{H:Hp}{μ:List Addr}{B:Addr->Prop}{ds:List D}{xs:List V} (r:Reps K H μ B ds xs):∀ l:List Nat,Reps K H μ B (l.map fun i=>ds.getD i .non) (l.map fun i=>xs.getD i .non)
 |[]=>.nil
 |i::l=>.cons (Reps.getN r i) (Reps.mapN r l)
theorem Vals.turn (r:Vals xs us) (b:Bool):Vals (katRev b xs) (katRev b us):=by
 cases b with
 |false=>exact r
 |true=>exact r.reverse
theorem Reps.turn {K:W.Frag}{H:Hp}{μ:List Addr}{B:Addr->Prop}{ds:List D}{xs:List V} (r:Reps K H μ B ds xs) (b:Bool):Reps K H μ B (katRev b ds) (katRev b xs):=by
 cases b with
 |false=>exact r
 |true=>exact r.reverse
theorem Y9 {l:List α} (h:x∈katRev b l):x∈l:=by
 cases b with
 |false=>exact h
 |true=>exact List.mem_reverse.mp h
theorem Gj:∀ {ds:List D}{d:D},d∈ds->dep d<=Da ds
 |_::_,_,.head _=>by rw[Da];lia
 |_::_,_,.tail _ h=>by have:=Gj h;rw[Da];lia
section
variable {X:Cx}{pins:List (Addr×Obj)}{σ:St}{H:Hp}{s:Shared}{μ:List Addr}{m:MH}{k:Nat}{f:Addr}{fd:FuncData}{ps:List Str}{fn:List D->Option D}{A':Around}
theorem Vu (I:Inv X pins σ H s) {ks:List D}{kvs:List V}{us:List Value} (rk:Vals kvs us) (rks:Reps X.K H μ (·∈μ) ks kvs) (hI:ks.all Acy=true) (hn:Ar ks=true) (hd:Da ks<=20) (hu:A'.units+50 < cLine) (b:Bool) (i j:Nat) (c:Bool) (C:Bool->Shared->Prop)
  (h:ltD ((katRev b ks).getD i .non) ((katRev b ks).getD j .non)=some c) (q:C c s):W.kas_ask X.prog X.w A' (tuples' true) (katRev b us) i j C s:=by
 have key:∀ i,(katRev b ks).getD i .non=.non\/(katRev b ks).getD i .non∈ks:=fun i=>by
  by_cases h:i < (katRev b ks).length
  ·right
   rw[Aqy,Aqz h]
   exact Y9 (Ar9 h)
  ·left
   rw[Aqy,Ar6 (by lia)];rfl
 have r1:=Reps.getN (Reps.turn rks b) i
 have r2:=Reps.getN (Reps.turn rks b) j
 have v1:=Vals.getN (Vals.turn rk b) i
 have v2:=Vals.getN (Vals.turn rk b) j
 have k1:=key i
 have k2:=key j
 generalize (katRev b ks).getD i .non=x at h r1 k1
 generalize (katRev b ks).getD j .non=y at h r2 k2
 rcases k1 with rfl|k1
 ·simp[ltD] at h
 ·obtain⟨i1,ds,rfl⟩:=M7 (List.all_eq_true.mp hI _ k1)
  rcases k2 with rfl|k2
  ·simp[ltD] at h
  ·obtain⟨i2,es,rfl⟩:=M7 (List.all_eq_true.mp hI _ k2)
   have d1:=Gj k1
   have d2:=Gj k2
   have n1:=Bw hn k1
   have n2:=Bw hn k2
   rw[dep,Da] at d1 d2
   rw[Bm,Ar,Arf] at n1 n2
   rw[ltD] at h
   exact Ac0 I r1 r2 n1.2 n2.2 v1 v2 (by lia) h q
end
end ML
end L2
end S_ML19
section S_ML20
namespace L2
namespace ML
open PySem PySem.Spec PyProof.Rows PySem.SeqAt
open PySem.W (KasT kas_sort katRev KatLex)
section
variable {X:Cx}{pins:List (Addr×Obj)}{σ:St}{H H1:Hp}{s:Shared}{μ:List Addr}{m:MH}{k:Nat}{f:Addr}{fd:FuncData}{ps:List Str}{fn:List D->Option D}{A':Around}{kS D0:Addr}{b:Bool}{e e1:Nat}{P:PySem.Fin->Shared->Prop}{E:Value->Shared->Prop}
theorem Ad0 (h:∀ p∈X.pn++pl,p.1≠a) (hc:c≠a):∀ p∈X.pn++((c,o)::pl),p.1≠a:=fun p hp=>by
 rcases List.mem_append.mp hp with z|z
 ·exact h p (Arx _ z)
 ·rcases List.mem_cons.mp z with rfl|z
  ·exact hc
  ·exact h p (Aq2 _ z)
theorem Ir {st:SortSt}{us outv:List Value} (hout:(arrOf st).map (·.2)=List.toArray outv) (hz:outv.length < 128) (hkz:us.length < 128) (hf:failedOf st=none) (I:Inv X ((kS,seqObj "list" (List.toArray us) e)::(D0,seqObj "list" #[] e1)::pins) σ H1 s)
  (hk:X.s₀.heap.objs.size<=kS) (hD:X.s₀.heap.objs.size<=D0) (hx:∀ p∈X.pn++pins,p.1≠kS) (hy:∀ p∈X.pn++pins,p.1≠D0) (hne:D0≠kS)
  (fin:∀ s' c,Inv X ((D0,seqObj "list" (List.toArray (katRev b outv)) c)::pins) σ H1 s'->P (.done (.ret .none)) s'):wpAny (model X.prog X.w) A' (ksk_tail D0 b e1 (.ref kS) st) P E s:=by
 have pk:=I.pin (kS,seqObj "list" (List.toArray us) e) (Aq2 _ (Aq8 ..))
 obtain⟨ck,hck⟩:∃ ck,(s.heap.update kS (Obj.mapSeq fun _=>(#[]:Array Value))).get? kS=some (seqObj "list" #[] ck):=⟨_,get?_update_seq pk.1 fun _=>#[]⟩
 have Ia:=Inv.setPin (pre:=[]) I hk (Ad0 hx hne) (fun c o hc q=>(Arh _ _ (Asc hc)).trans q) hck (fun v z=>by cases z)
 have Ib:Inv X ((D0,seqObj "list" #[] e1)::pins) σ H1 { s with heap:=s.heap.update kS (Obj.mapSeq fun _=>(#[]:Array Value)) }:=Ia.pins_of fun p hp=>Ia.pin p (Aq2 _ (Aq6 _ hp))
 have pd:=Ib.pin (D0,seqObj "list" #[] e1) (Aq2 _ (Aq8 ..))
 obtain⟨c2,hc2⟩:∃ c2,((s.heap.update kS (Obj.mapSeq fun _=>(#[]:Array Value))).update D0 (Obj.mapSeq fun _=>List.toArray (katRev b outv))).get? D0=some (seqObj "list" (List.toArray (katRev b outv)) c2):=⟨_,get?_update_seq pd.1 fun _=>List.toArray (katRev b outv)⟩
 have Ic:=Inv.setPin (pre:=[]) Ib hD hy (fun c o hc q=>(Arh _ _ (Asc hc)).trans q) hc2 (fun v z=>by cases z)
 have hsz:(List.toArray (katRev b outv)).size=outv.length:=by rw[Aq3,W.kat_len]
 have hline:sizeLine=16777216:=Aso
 unfold ksk_tail
 try dsimp only
 rw[hout,W.kat_outs]
 refine Aqx (listUpdate_at pk.1 rfl (Aqx (wpAny_letGo (Aqx (seqEpoch_at pd.1 rfl (Aqx (listUpdate_at pd.1 rfl ?_ (Ar8 _) (by rw[hsz];lia))))))) (by rw[Aq3];lia) (Ar8 _))
 rw[hf]
 simp only[bne_self_eq_false,Ar7,As1]
 exact Aq0 (fin _ c2 Ic)
theorem T4 (i:Int) (t:Tok):W.Looks M h (typeOf (.int i t)) (.type "int"):=W.Looks.of_pure rfl
def Afn (X:Cx) (pins:List (Addr×Obj)) (σ:St) (μ:List Addr) (b:Bool) (ds ks out:List D) (A':Around):Prop :=
 ∀ ⦃kS D0:Addr⦄ ⦃e e1:Nat⦄ ⦃us its:List Value⦄ ⦃xs kvs:List V⦄ ⦃H1:Hp⦄ ⦃s:Shared⦄ ⦃P:PySem.Fin->Shared->Prop⦄ ⦃E:Value->Shared->Prop⦄,Inv X ((kS,seqObj "list" (List.toArray us) e)::(D0,seqObj "list" #[] e1)::pins) σ H1 s->X.s₀.heap.objs.size<=kS->X.s₀.heap.objs.size<=D0->(∀ p∈X.pn++pins,p.1≠kS)->(∀ p∈X.pn++pins,p.1≠D0)->D0≠kS->Vals xs its->Reps X.K H1 μ (·∈μ) ds xs->Vals kvs us->Reps X.K H1 μ (·∈μ) ks kvs ->
  (∀ s' c ys ws,Inv X ((D0,seqObj "list" (List.toArray ws) c)::pins) σ H1 s'->Vals ys ws->Reps X.K H1 μ (·∈μ) out ys->P (.done (.ret .none)) s')->wpAny (model X.prog X.w) A' (ksk_end D0 b its.toArray e1 (.ref kS) (List.toArray us)) P E s
theorem R7 {ds ks out:List D} (hl:ks.length=ds.length) (h64:ds.length < 64) (hI:ks.all Acy=true) (hn:Ar ks=true) (hd:Da ks<=20) (hu:A'.units+50 < cLine) (ho:Nu b ds ks=some out):Afn X pins σ μ b ds ks out A':=by
 intro kS D0 e e1 us its xs kvs H1 s P E I hk hD hx hy hne ri rs rk rks fin
 have l1:=ri.length
 have l2:=rs.length
 have l3:=rk.length
 have l4:=rks.length
 have lu:us.length=its.length:=by lia
 have told:∀ t:Sem PySem.Fin,wpAny (model X.prog X.w) A' t P E s->wpAny (model X.prog X.w) A' (if b=true then (do let _ <- rule "list.sort.reverse";t) else t) P E s:=fun t ht=>by
  split
  ·exact Aqx (wpAny_rule ht)
  ·exact ht
 unfold ksk_end
 try dsimp only
 refine told _ ?_
 unfold Nu at ho
 by_cases h2:its.toArray.size < 2
 ·rw[Aq4 h2,Aq4 h2]
  rw[Aq3] at h2
  rw[Aq4 (by lia)] at ho
  cases ho
  refine Aqx (Aq0 ?_)
  rw[StateT.run_pure]
  refine Aqx (Aq0 ?_)
  try dsimp only
  rw[W.kat_pairs b lu]
  refine Ir (outv:=katRev b its) (b:=b) ?_ (by rw[W.kat_len];lia) (by lia) rfl I hk hD hx hy hne fun s' c I'=>fin s' c xs its ?_ ri rs
  ·show (((List.toArray (katRev b us)).zip (List.toArray (katRev b its))).map (·.2))=_
   apply Array.toList_inj.mp
   rw[Array.toList_map,ksk_zip]
   exact List.map_snd_zip (by rw[W.kat_len,W.kat_len];lia)
  ·have e2:katRev b (katRev b its)=its:=by cases b<;>simp[katRev]
   rw[e2] at I'
   exact I'
 ·rw[Aq7 h2,Aq7 h2]
  rw[Aq3] at h2
  rw[Aq7 (by lia)] at ho
  obtain⟨p,hp,ho⟩:=bind_some ho
  cases ho
  obtain⟨fs,ht,hfl,hfi⟩:=Lz I rks rk hI
  refine Aqx (W.kat_kind (T:=.type "int") ht (by lia) (fun v hv=>?_) (by decide) ?_)
  ·obtain⟨i,t,rfl⟩:=hfi v hv
   exact T4 i t
  rw[W.kat_pairs b lu]
  have lr:(katRev b us).length=(katRev b its).length:=by rw[W.kat_len,W.kat_len,lu]
  have hw:(kas_sort (katRev b its).length).kasWp (W.kas_ask X.prog X.w A' (tuples' true) (katRev b us)) (fun p' s'=>p'=p/\s'=s) s:=by
   rw[W.kat_len,show its.length=ds.length by lia]
   exact Zz (fun i j c C h q=>Vu I rk rks hI hn hd hu b i j c C h q) _ hp ⟨rfl,rfl⟩
  refine Aqx (Asm (W.kat_run (Q:=fun st' s'=>s'=s/\p.size=(katRev b its).length/\arrOf st'=p.map (W.kas_item ((List.toArray (katRev b us)).zip (List.toArray (katRev b its))))/\failedOf st'=none) lr (by rw[W.kat_len];lia) (by rw[W.kat_len];lia)
   (fun p' st' s' a1 a2 a3 ⟨a4,a5⟩=>by subst a4;exact⟨a5,a1,a2,a3⟩) hw) ?_ fun _ _ z=>z)
  rintro ⟨⟨⟩,st'⟩ s' ⟨hs,hpz,har,hf⟩
  replace hs:s'=s:=hs
  subst hs
  try dsimp only
  refine Ir (b:=b) (W.kat_snds lr har) (by rw[Arj,Asy,hpz,W.kat_len];lia) (by lia) hf I hk hD hx hy hne fun s' c I'=>fin s' c (katRev b (p.toList.map fun i=>(katRev b xs).getD i .non)) _ I' ?_ ?_
  ·exact Vals.turn (Vals.mapN (Vals.turn ri b) _) b
  ·exact Reps.turn (Reps.mapN (Reps.turn rs b) _) b
theorem P8 {ds ks out:List D} (F:FnOk X.prog X.w X.K X.mg X.base CX0 k f fd ps (spP X.K 1 fn)) (hr:Room k A') (hA:∀ s H,Env0 X.prog X.w X.K X.mg X.base X.A X.stack s H->Env0 X.prog X.w X.K X.mg X.base A' X.stack s H) (hb:Binds X.K fd ps []) (I:Inv X ((D0,seqObj "list" its.toArray n)::pins) σ H s) (S:Sim X.K H μ m) (hD:X.s₀.heap.objs.size<=D0) (hy:∀ p∈X.pn++pins,p.1≠D0) (ri:Vals xs its) (rs:Reps X.K H μ (·∈μ) ds xs) (hK:Hl fn m ds=some ks) (h64:ds.length < 128) (hE:Afn X pins σ μ b ds ks out A') (fin:∀ s' H1 c ys ws,Same H H1->Inv X ((D0,seqObj "list" (List.toArray ws) c)::pins) σ H1 s'->Vals ys ws->Reps X.K H1 μ (·∈μ) out ys->P (.done (.ret .none)) s'):wpAny (model X.prog X.w) A' (ksk_tree D0 (.ref f) b) P E s:=by
 have l1:=ri.length
 have l2:=rs.length
 have hline:sizeLine=16777216:=Aso
 have pd:=I.pin (D0,seqObj "list" its.toArray n) (Aq2 _ (Aq8 ..))
 have hd0:s.heap.get? D0=some (seqObj "list" its.toArray n):=pd.1
 have hdl:D0 < s.heap.objs.size:=Aq9 hd0
 obtain⟨e1,ho1⟩:∃ e1,(s.heap.update D0 (Obj.mapSeq fun _=>(#[]:Array Value))).get? D0=some (seqObj "list" #[] e1):=⟨_,get?_update_seq hd0 fun _=>#[]⟩
 have Ia:=Inv.setPin (pre:=[]) I hD hy (fun c o hc q=>(Arh _ _ (Asc hc)).trans q) ho1 (fun v z=>by cases z)
 have hs2:s.heap.objs.size<=((s.heap.update D0 (Obj.mapSeq fun _=>(#[]:Array Value))).push (seqObj "tuple" its.toArray 0)).objs.size:=by rw[size_push',Heap.size_update];exact Nat.le_succ _
 generalize hkS:((s.heap.update D0 (Obj.mapSeq fun _=>(#[]:Array Value))).push (seqObj "tuple" its.toArray 0)).objs.size=kS at hs2
 have Ib:=Ia.kept (t':=s.toks) (h':=((s.heap.update D0 (Obj.mapSeq fun _=>(#[]:Array Value))).push (seqObj "tuple" its.toArray 0)).push (seqObj "list" #[] 0)) fun c o q=>Aq1 _ (Aq1 _ q)
 have hx:∀ p∈X.pn++pins,p.1≠kS:=fun p hp=>Aro (Arb (Aq9 (I.pin p ((List.mem_append.mp hp).elim (fun z=>Arx _ z) fun z=>Aq2 _ (Aq6 _ z))).1) hs2)
 have hne:D0≠kS:=Aro (Arb hdl hs2)
 have hk:X.s₀.heap.objs.size<=kS:=Arl I.sz hs2
 have hgk:(((s.heap.update D0 (Obj.mapSeq fun _=>(#[]:Array Value))).push (seqObj "tuple" its.toArray 0)).push (seqObj "list" #[] 0)).get? kS=some (seqObj "list" #[] 0):=by rw[<- hkS];exact Are _ rfl
 have Ic:Inv X ((kS,seqObj "list" (List.toArray []) 0)::(D0,seqObj "list" #[] e1)::pins) σ H { s with heap:=((s.heap.update D0 (Obj.mapSeq fun _=>(#[]:Array Value))).push (seqObj "tuple" its.toArray 0)).push (seqObj "list" #[] 0) }:=Ib.pins_of fun p hp=>by
  rcases List.mem_cons.mp hp with rfl|hp
  ·exact⟨hgk,I.hok.fresh hs2,Asz (Arb I.lt hs2),I.nofs hs2,fun v z=>by cases z⟩
  ·exact Ib.pin p (Aq2 _ hp)
 unfold ksk_tree
 refine Aqx (listItems_at hd0 rfl (Aqx (listUpdate_at hd0 rfl (Aqx (seqEpoch_at ho1 rfl (Aqx (wpAny_newTuple (Aqx (wpAny_newList (Arw ?_) (Ar8 _))) (by show its.length<=_;lia))))) (by rw[Aq3];lia) (Ar8 _))))
 show wpAny (model X.prog X.w) A' (ksk_rest D0 (.ref f) b its.toArray e1 (.ref ((s.heap.update D0 (Obj.mapSeq fun _=>(#[]:Array Value))).push (seqObj "tuple" its.toArray 0)).objs.size)) P E { s with heap:=((s.heap.update D0 (Obj.mapSeq fun _=>(#[]:Array Value))).push (seqObj "tuple" its.toArray 0)).push (seqObj "list" #[] 0) }
 rw[hkS]
 unfold ksk_rest
 refine Aqx (wpAny_rule ?_)
 first
  |rw[List.forIn_toArray]
  |rw[<- Array.forIn_toList]
 refine Aqx (Asm (Ob (dn:=[]) F hr hA hb S hk hx hne (fun x s R hq=>?_) ds rs ri hK (by simpa using h64) ⟨H,0,[],[],Same.refl H,Ic,.nil,.nil⟩) (fun _ s' hq=>?_) fun _ _ z=>z)
 ·refine Aqx (wpAny_attempt (Asm hq (fun kv s1 hkv=>?_) fun _ _ hF=>hF.elim))
  obtain⟨us,e,hu,hl,hR⟩:=hkv
  try dsimp only
  exact Aqx (listUpdate_at hu rfl (Aq0 hR) (by rw[Aq3];lia) (by rw[Array.size_push,Aq3];lia))
 ·obtain⟨H1,e,kvs,us,s1,I3,rk,rks⟩:=hq
  rw[List.nil_append] at rks
  have pk:=I3.pin (kS,seqObj "list" (List.toArray us) e) (Aq2 _ (Aq8 ..))
  try dsimp only
  refine Aqx (listItems_at pk.1 rfl ?_)
  exact hE I3 hk hD hx hy hne ri (rs.same s1) rk rks fun s' c ys ws I' r1 r2=>fin s' H1 c ys ws s1 I' r1 r2
theorem O8 {l:Addr}{ds ks out:List D} (F:FnOk X.prog X.w X.K X.mg X.base CX0 k f fd ps (spP X.K 1 fn)) (hr:Room (k+2) X.A) (hb:Binds X.K fd ps []) (I:Inv X pins σ H s) (S:Sim X.K H μ m) (hL:s.heap.IsList l its.toArray) (ri:Vals xs its) (rs:Reps X.K H μ (·∈μ) ds xs) (ha1:argsOk "sorted" ⟨[.ref l],kw⟩) (ha2:∀ x,argsOk "list.sort" ⟨[.ref x],kw⟩) (ht:∀ x,Builtin.«list.sort» ⟨[.ref x],kw⟩=ksk_tree x (.ref f) b) (hK:Hl fn m ds=some ks) (h64:ds.length < 64) (hI:ks.all Acy=true) (hn:Ar ks=true) (hd:Da ks<=20) (ho:Nu b ds ks=some out) (hz0:out.length < 64) (q:∀ a ys H',Same H H'->H a=none->H' a=some (.lst ys)->Reps X.K H' μ (nw μ a) out ys->Q (.ref a) H'):wpAny (model X.prog X.w) X.A (call (.builtin "sorted") [.ref l] kw) (EP X pins σ Q) X.xe s:=by
 have l1:=ri.length
 have l2:=rs.length
 have hline:sizeLine=16777216:=Aso
 refine call_function_entry_kw kind_sorted plain_sorted entry_sorted ha1 ?_
 unfold Builtin.«sorted»
 refine Aqx (m:=checkCount "sorted" 1 1 _) (Aq0 (Aqx (collect_list hL (Aqx (wpAny_newList ?_ (by lia))) (by lia))))
 have hz:s.heap.objs.size<=((s.heap.push (seqObj "list" #[] 0)).update s.heap.objs.size (Obj.mapSeq (·++its.toArray))).objs.size:=by rw[Heap.size_update,size_push'];exact Nat.le_succ _
 have kp:∀ c o,s.heap.get? c=some o->(((s.heap.push (seqObj "list" #[] 0)).update s.heap.objs.size (Obj.mapSeq (·++its.toArray))).push (seqObj "list" its.toArray 0)).get? c=some o:=fun c o h =>
  Aq1 _ ((Arh _ _ (Asz (Aq9 h))).trans (Aq1 _ h))
 generalize hD0:((s.heap.push (seqObj "list" #[] 0)).update s.heap.objs.size (Obj.mapSeq (·++its.toArray))).objs.size=D0 at hz
 have hg:(((s.heap.push (seqObj "list" #[] 0)).update s.heap.objs.size (Obj.mapSeq (·++its.toArray))).push (seqObj "list" its.toArray 0)).get? D0=some (seqObj "list" its.toArray 0):=by rw[<- hD0];exact Are _ rfl
 have I1:=I.kept (t':=s.toks) kp
 have hfree:H D0=none:=I.hok.fresh hz
 have hy:∀ p∈X.pn++pins,p.1≠D0:=fun p hp=>Aro (Arb (Aq9 (I.pin p hp).1) hz)
 have hD:X.s₀.heap.objs.size<=D0:=Arl I.sz hz
 have I2:Inv X ((D0,seqObj "list" its.toArray 0)::pins) σ H { s with heap:=((s.heap.push (seqObj "list" #[] 0)).update s.heap.objs.size (Obj.mapSeq (·++its.toArray))).push (seqObj "list" its.toArray 0) }:=I1.pins_of fun p hp=>by
  rcases List.mem_cons.mp hp with rfl|hp
  ·exact⟨hg,hfree,Asz (Arb I.lt hz),I.nofs hz,fun v z=>by cases z⟩
  ·exact I1.pin p (Aq2 _ hp)
 show wpAny (model X.prog X.w) X.A.in1 _ _ _ { s with heap:=((s.heap.push (seqObj "list" #[] 0)).update s.heap.objs.size (Obj.mapSeq (·++its.toArray))).push (seqObj "list" its.toArray 0) }
 refine Aqx (Arw (wpAny_call_entry_kw slot_list_sort ⟨_,hg,rfl⟩ entry_list_sort ?_ (ha2 _)))
 have ht':=ht D0
 show wpAny (model X.prog X.w) X.A.in1.in1 (Builtin.«list.sort» ⟨[.ref D0],kw⟩) _ _ _
 rw[ht']
 refine P8 (s:={ s with heap:=((s.heap.push (seqObj "list" #[] 0)).update s.heap.objs.size (Obj.mapSeq (·++its.toArray))).push (seqObj "list" its.toArray 0) }) F hr.in1.in1 (fun s H e=>e.in1.in1) hb I2 S hD hy ri rs hK (by lia) (R7 (Ly hK) h64 hI hn hd (by have:=hr.in1.in1.units;lia) ho) fun s' H1 c ys ws s1 I' r1 r2=>?_
 have hf1:H1 D0=none:=(I'.pin (D0,seqObj "list" (List.toArray ws) c) (Aq2 _ (Aq8 ..))).2.1
 have lo:ys.length<=sizeLine:=by have:=r2.length;lia
 exact⟨_,rfl,Aq0 ⟨_,rfl,.ref D0,upd H1 D0 (.lst ys),Inv.adopt I' hD hy r1 lo,rfl,q D0 ys _ (s1.trans (Bd hf1)) hfree A9 (r2.fresh hf1)⟩⟩
end
section
variable {X:Cx}{e:Expr}{pos p p' kp kp' cp:Pos}{x:Str}{k:Nat}{f:Addr}{fd:FuncData}{ps:List Str}{fn:List D->Option D}{b:Bool}
def Gx (fn:List D->Option D) (b:Bool):List D->MH->Option (List D):=fun xs m=>match xs with
 |[d]=>(sqL m d).bind fun ds=>(Hl fn m ds).bind fun ks=>(Nu b ds ks).bind fun out=>if ds.length < 64/\ks.all Acy=true/\Ar ks=true/\Da ks<=20/\out.length < 64 then some out else none
 |_=>none
end
end ML
end L2
end S_ML20
section S_ML21
namespace L2
namespace ML
open PySem PySem.Spec PyProof.Rows
open PySem.Builtin PySem.Builtin.Str
section
variable {X:Cx}{a e:Expr}{apos cpos:Pos}
end
end ML
end L2
end S_ML21
section S_ML22
namespace L2
namespace ML
open PySem PySem.Spec PyProof.Rows
section
variable {X:Cx}{a e:Expr}{apos cpos:Pos}
end
section
variable {X:Cx}{e:Expr}{pos p p' kp p2 p3 p4:Pos}{x:Str}{k:Nat}{f:Addr}{fd:FuncData}{ps:List Str}{fn:List D->Option D}
theorem Uo (F:FnOk X.prog X.w X.K X.mg X.base CX0 k f fd ps (spP X.K 1 fn)) (hr:Room (k+2) X.A) (hgf:Gl X x) (hmf:X.mg x=some (.ref f)) (hb:Binds X.K fd ps []) (hdb:(x == ("__debug__":Str))=false) (hg:Gl X "sorted") (hm:X.mg "sorted"=none) (ha:PL X [e] g) (he:starEach [e] X.env=(false,eval e X.env)::starEach [] X.env) :
  PF X (.Call (.Name "sorted" p) [e] [⟨some "key",.Name x p',kp⟩] pos) (C4 (Gx fn false) g):=by
 intro pins s σ H Q I h
 obtain⟨env,μ,m,d,S,E,h,q⟩:=h
 obtain⟨xs,h1,h2⟩:=bind_some h
 refine Asu (Dq I hg hm boot_sorted ?_ (by decide) (by decide))
 refine PyProof.Rows.callWith_kw (thn (ha pos pins s σ H (fun vs H1=>Same H H1/\Reps X.K H1 μ (·∈μ) xs vs) I ⟨env,μ,m,xs,S,E,h1,fun v H1 s1 r1=>⟨s1,r1⟩⟩) fun us s1 ⟨vs,H1,I1,r1,s1',rx⟩=>?_) (by rw[he];rfl) (by rw[he];rfl) rfl rfl
 refine kws_cons (M9 I1 hgf hmf (kws_nil ?_) hdb)
 match xs,h2 with
 |[d'],h2 =>
  obtain⟨ds,h3,h2⟩:=bind_some h2
  obtain⟨ks,h4,h2⟩:=bind_some h2
  obtain⟨out,h5,h2⟩:=bind_some h2
  split at h2
  ·rename_i hc
   cases h2
   obtain⟨v,rfl,r⟩:=rx.one
   obtain⟨a,ys,rfl,hq,rs⟩:=Ha (S.same s1') r h3
   obtain⟨u,rfl,r2⟩:=J2 r1
   cases r2
   obtain⟨its,ri,pl,hz⟩:=I1.list hq
   exact O8 F hr hb I1 (S.same s1') pl.isList ri rs (ksk_s1 _ _) (fun y=>ksk_l1 _ _) (fun y=>ksk_t1 _ _) h4 hc.1 hc.2.1 hc.2.2.1 hc.2.2.2.1 h5 hc.2.2.2.2 fun a ys H' s2 hn hx rr=>q a ys H' (s1'.trans s2) (s1'.free hn) hx rr
  ·exact Ag h2
theorem Ab8 (F:FnOk X.prog X.w X.K X.mg X.base CX0 k f fd ps (spP X.K 1 fn)) (hr:Room (k+2) X.A) (hmf:X.mg x=some (.ref f)) (hb:Binds X.K fd ps []) (hm:X.mg "sorted"=none) (ha:QL X [e] g) (hg:Gl X "sorted":=by unfold Gl;kernel_rfl) (hgf:Gl X x:=by unfold Gl;kernel_rfl) (hdb:(x == ("__debug__":Str))=false:=by decide) (he':Bo e=true:=by rfl) :
  QF X (.Call (.Name "sorted" p) [e] [⟨some "key",.Name x p',kp⟩] pos) (C4 (Gx fn false) g):=⟨Uo F hr hgf hmf hb hdb hg hm ha.out (An he')⟩
end
section
variable {X:Cx}{pins:List (Addr×Obj)}{σ:St}{H:Hp}{s:Shared}{pos:Pos}
end
section
variable {X:Cx}{e:Expr}{es:List Expr}{pos p:Pos}{x:Str}
open Classical in
end
section
variable {X:Cx}{e:Expr}{es:List Expr}{pos p:Pos}{x:Str}
def Ms (m:MH):D->Option D
 |.fn i l=>some (.fn i l)
 |.dks ks vs=>if Ar vs=true then some (.dks ks vs) else none
 |.fz φ ss ps is=>some (.fz φ ss ps is)
 |d=>Ca m d
def Cb (m:MH):List D->Option (List D)
 |[]=>some []
 |d::ds=>(Ms m d).bind fun d'=>(Cb m ds).bind fun ds'=>some (d'::ds')
theorem Vh {K:W.Frag}{H:Hp}{μ:List Addr}{m:MH} (S:Sim K H μ m) {d d':D}{v:V} (r:Rep K H μ (·∈μ) d v) (h:Ms m d=some d'):Rep K H [] (fun _=>False) d' v:=by
 cases r with
 |fn hf=>cases h;exact .fn hf
 |fz h1 h2 h3=>cases h;exact .fz h1 h2 h3
 |dks h1 h2 h3 h4 =>
  unfold Ms at h
  simp only at h
  split at h
  ·rename_i hn
   cases h
   exact .dks h1 (fun z=>z) h3 (h4.noref (fun _ _ _ _ z=>z) hn)
  ·exact Ag h
 |non=>exact (Bh S .non h).1
 |bl b=>exact (Bh S (.bl b) h).1
 |int b=>exact (Bh S (.int b) h).1
 |str b ok=>exact (Bh S (.str b ok) h).1
 |tup h1 h2=>exact (Bh S (.tup h1 h2) h).1
 |lst h1 h2 h3=>exact (Bh S (.lst h1 h2 h3) h).1
 |kl h1 h2=>exact (Bh S (.kl h1 h2) h).1
 |dic h1 h2 h3 h4=>exact (Bh S (.dic h1 h2 h3 h4) h).1
 |ref h1=>exact (Bh S (.ref h1) h).1
theorem Et {K:W.Frag}{H:Hp}{μ:List Addr}{m:MH} (S:Sim K H μ m):∀ {ds ds':List D}{vs:List V},Reps K H μ (·∈μ) ds vs->Cb m ds=some ds'->Reps K H [] (fun _=>False) ds' vs
 |_,_,_,.nil,h=>by cases h;exact .nil
 |_,_,_,.cons r rs,h=>by
  unfold Cb at h
  obtain⟨d',h1,h⟩:=bind_some h
  obtain⟨ds',h2,h⟩:=bind_some h
  cases h
  exact .cons (Vh S r h1) (Et S rs h2)
def Hs (n:Nat) (fn:List D->Option D):List D->MH->Option D:=fun ds m=>(Cb m ds).bind fun ds'=>if ds'.length=n then fn ds' else none
variable {ex:Expr}{n:Nat}{fn:List D->Option D}{g:FL}{E:XK}
theorem Ni (hp:PE X ex (Akx (spP X.K n fn) [] E (tL X.K g))):PD X ex (A3 (Hs n fn) g):=PE.imp hp fun σ H Q ⟨env,μ,m,d,S,E,h,q⟩=>by
 obtain⟨ds,h1,h⟩:=bind_some h
 obtain⟨ds',h2,h⟩:=bind_some h
 split at h
 ·rename_i hl
  exact⟨env,μ,m,ds,S,E,h1,fun vs H1 s1 rs=>⟨ds',d,by rw[Ar4];exact Et (S.same s1) rs h2,hl,h,fun v H' s' r=>q v H' (s1.trans s') (Rep.ofCall (S.same s1) r)⟩⟩
 ·exact Ag h
end
section
variable {prog:Program}{w:World}{A:Around}{E:Value->Shared->Prop}{s:Shared}
end
mutual
def dOf:PyData->D
 |.none=>.non|.bool b=>.bl b|.int i=>.int i|.str x=>.str x|.tuple ds=>.tup (Ahc ds)|.list ds=>.lst (Ahc ds)|.dict _=>.non
def Ahc:List PyData->List D
 |[]=>[]
 |d::ds=>dOf d::Ahc ds
end
mutual
theorem Rz:∀ {d:D},Be d=true->dOf (pyD d)=d
 |.non,_=>rfl
 |.bl _,_=>rfl
 |.int _,_=>rfl
 |.str _,_=>rfl
 |.tup ds,h=>by rw[pyD,dOf,R0 h]
 |.lst _,h=>Bn h
 |.kl _,h=>Bn h
 |.ref _,h=>Bn h
 |.dic _ _,h=>Bn h
 |.dks _ _,h=>Bn h
 |.fz _ _ _ _,h=>Bn h
 |.fn _ _,h=>Bn h
theorem R0:∀ {ds:List D},Ay ds=true->Ahc (C7 ds)=ds
 |[],_=>rfl
 |d::ds,h=>by
  have h:=Bool.and_eq_true_iff.mp h
  rw[C7,Ahc,Rz h.1,R0 h.2]
end
section
variable {X:Cx}{pins:List (Addr×Obj)}{σ:St}{H:Hp}{s:Shared}{μ:List Addr}{m:MH}{k:Nat}{f:Addr}{fd:FuncData}{ps:List Str}{fn:List D->Option D}{b:Bool}
end
section
variable {X:Cx}{e:Expr}{pos p p' kp kp' cp:Pos}{x:Str}{k:Nat}{f:Addr}{fd:FuncData}{ps:List Str}{fn:List D->Option D}{b:Bool}
end
section
variable {X:Cx}{pins:List (Addr×Obj)}{σ:St}{H:Hp}{s:Shared}{h':Heap}
theorem Inv.turnLay {t':Nat}{fp:List Addr}{p:Addr}{o:HO} (I:Inv X pins σ H s) (hf:∀ b∈fp,Vl X pins H b) (k:∀ b o,b∉fp->s.heap.get? b=some o->h'.get? b=some o) (hp:s.heap.objs.size<=p)
  (new:ObjOk X.prog X.w X.K (upd H p o) h' p o):Inv X pins σ (upd H p o) { s with heap:=h',toks:=t' }:=by
 have hn:H p=none:=I.hok.fresh hp
 have nit:∀ b u,H b=some u->b∉fp:=fun b u e z=>by rw[(hf b z).1] at e;cases e
 have same:∀ b u,H b=some u->upd H p o b=some u:=fun b u e=>by rw[Aw (Aq e hn)];exact e
 refine I.step (g':=s.gens) (d':=s.drawn) (ch:=fp) (fun b hb=>?_) (fun b o _ _ hc e _=>k b o hc e) (fun b o _ _ hc e _=>⟨o.slots,k b o hc e⟩) (fun b o _ e n=>?_)
  (fun b o hc e=>⟨o,k b o hc e⟩) (fun b xs e=>same b _ e) (fun b x u e=>same b _ e) (fun b ps e=>⟨#[],by rw[same b _ e];simp⟩) (fun m hm=>?_) (fun b u e=>?_) I.bare
 ·obtain⟨_,q1,q2,q3,q4,q5⟩:=hf b hb
  exact⟨q3,q1,q4,q5⟩
 ·rw[Aw (Aro (Arb (Aq9 e) hp))];exact n
 ·obtain⟨o,es,ep,ho,r⟩:=hm
  exact⟨o,es,ep,k _ o (fun z=>(hf _ z).2.1 rfl) ho,r⟩
 ·by_cases hb:b=p
  ·subst hb
   rw[A9] at e
   cases e
   exact new
  ·rw[Aw hb] at e
   refine (I.hok b u e).stay (fun c v hc q=>k c v ?_ q) (fun c q=>same _ _ q) (fun c xs q=>Rd.upd_none hn q) fun c x w q=>same _ _ q
   rcases hc with z|z
   ·rw[z];exact nit b u e
   ·exact nit c _ z
end
noncomputable def Ei:Nat->List D->List D
 |_,[]=>[]
 |i,d::ds=>.tup [.int i,d]::Ei (i+1) ds
theorem Lj:∀ (i:Nat) (ds:List D),(Ei i ds).length=ds.length
 |_,[]=>rfl
 |i,_::ds=>by rw[Ei,Ark,Ark,Lj (i+1) ds]
theorem Li:∀ {i j:Nat}{ds:List D}{d:D},(Ei i ds)[j]?=some d->∃ x,ds[j]?=some x/\d=.tup [.int ((i+j:Nat):Int),x]
 |_,_,[],_,h=>by simp[Ei] at h
 |i,0,x::ds,d,h=>by simp[Ei] at h;exact⟨x,rfl,by rw[<- h];simp⟩
 |i,j+1,x::ds,d,h=>by
  rw[Ei,Arq] at h
  obtain⟨y,h1,h2⟩:=Li h
  exact⟨y,by simpa using h1,by rw[h2];congr 4;lia⟩
section
variable {X:Cx}{e:Expr}{es:List Expr}{pos p tp:Pos}{x1:Nat}{elts:List Expr}
end
section
variable {X:Cx}{a b c e:Expr}{es:List Expr}{pos p p':Pos}{x:Str}
theorem Yt {fd:FuncData} (F:FnOk X.prog X.w X.K X.mg X.base CX0 k f fd ps (spP X.K n fn)) (hr:Room k X.A) (hm:X.mg x=some (.ref f)) (hk:W.keepIn X.K (.ref f)=true) (hb:Binds X.K fd ps []) (ha:QL X (e::es) g) (hg:Gl X x:=by unfold Gl;kernel_rfl) (hdb:(x == ("__debug__":Str))=false:=by decide) (he':Bo e=true:=by rfl) (hpl':es.all Bo=true:=by rfl) :
  QD X (.Call (.Name x p) (e::es) [] pos) (A3 (Hs n fn) g):=⟨Ni (Nj F hr hg hm hk hb .nil Adn ha.out hdb (An he') (C2 hpl'))⟩
end
theorem Am0 (i j:Nat) (hij:i≠j):∀ d d' env e1,Mu 2 (Eg (Bb i) (Eg (Bb j) Zu)) d env=some e1->Mu 2 (Eg (Bb i) (Eg (Bb j) Zu)) d' e1=Mu 2 (Eg (Bb i) (Eg (Bb j) Zu)) d' env:=fun d d' env e1 h=>by
 have he:∃ a b,e1=(env.set i (some a)).set j (some b):=by
  cases d with
  |tup ds =>
   match ds,h with
   |[a,b],h =>
    have h:some ((env.set i (some a)).set j (some b))=some e1:=h
    cases h
    exact⟨a,b,rfl⟩
   |[],h=>exact absurd h (by simp[Mu])
   |[_],h=>exact absurd h (by simp[Mu])
   |_::_::_::_,h=>exact absurd h (by simp[Mu])
  |_=>exact absurd h (by simp[Mu])
 obtain⟨a,b,rfl⟩:=he
 cases d' with
 |tup ds =>
  match ds with
  |[a',b'] =>
   show some ((((env.set i (some a)).set j (some b)).set i (some a')).set j (some b'))=some ((env.set i (some a')).set j (some b'))
   rw[List.set_comm _ _ hij.symm,List.set_set,List.set_comm _ _ hij,List.set_comm _ _ hij,List.set_set]
   exact Asd some (List.set_comm _ _ hij.symm)
  |[]=>rfl
  |[_]=>rfl
  |_::_::_::_=>simp[Mu]
 |_=>rfl
section
variable {X:Cx}{st:Stmt}{sts:List Stmt}
end
section
variable {X:Cx}{o' a:Expr}{apos cpos:Pos}{T:String}{id:String}
end
section
variable {X:Cx}{pins:List (Addr×Obj)}{σ:St}{H:Hp}{s:Shared}{h':Heap}
end
section
variable {X:Cx}{e e2:Expr}{es:List Expr}{pos p tp:Pos}{x1:Nat}{elts:List Expr}
end
section
variable {X:Cx}{e ex:Expr}{es:List Expr}{pos p:Pos}{x:Str}{n:Nat}{fn:List D->Option D}{g:FL}{E:XK}
end
section
variable {X:Cx}{tg elt iter:Expr}{ifs:List Expr}{scope:Scope}{fw:FW}{g:FG}{t:FB}{fe:FE}{x:Str}{pos p' spos:Pos}
end
section
variable {X:Cx}{e:Expr}{es:List Expr}{pos p:Pos}{x:Str}
open Classical in
end
structure GC (K:W.Frag) (mg:Str->Option Value) (x:Str) (d:D):Prop where
 ex:∃ (v:V) (u:Value),mg x=some u/\RelV v u/\∀ H,Rep K H [] (fun _=>True) d v
structure FD (K:W.Frag) (mg:Str->Option Value) (x:Str) (st:Stmt) (ps:List Str):Prop where
 ex:∃ a fd,mg x=some (.ref a)/\Fun K x x st a fd/\Binds K fd ps []
structure Cl (P:Program) (w:World) (K:W.Frag) (mg:Str->Option Value) (base:Heap) (k:Nat) (x:Str) (n:Nat) (fn:List D->Option D):Prop where
 ex:∃ a fd ps,FnOk P w K mg base CX0 k a fd ps (spP K n fn)/\mg x=some (.ref a)/\W.keepIn K (.ref a)=true/\Binds K fd ps []
abbrev BH (x:Str) (st:Stmt) (ps:List Str):Prop:=∀ (kV doc pm:Value) (an:Option Addr) (cdv ct:Value) (us:List Value),us.length=ps.length->bindArgs (W.fnOf x x (Du st) (Cc st) (A6 st) .none kV doc pm an cdv ct) ⟨us,[]⟩=pure (ps.zip us)
theorem of1 {P:List Value->Prop} (h:∀ a,P [a]):∀ us:List Value,us.length=1->P us:=by
 intro us e
 cases us with
 |nil=>cases e
 |cons a us =>
  cases us with
  |nil=>exact h a
  |cons _ _=>cases e
theorem of2 {P:List Value->Prop} (h:∀ a b,P [a,b]):∀ us:List Value,us.length=2->P us:=by
 intro us e
 cases us with
 |nil=>cases e
 |cons a us=>exact of1 (P:=fun us=>P (a::us)) (h a) us (Nat.succ.inj e)
theorem of3 {P:List Value->Prop} (h:∀ a b c,P [a,b,c]):∀ us:List Value,us.length=3->P us:=by
 intro us e
 cases us with
 |nil=>cases e
 |cons a us=>exact of2 (P:=fun us=>P (a::us)) (h a) us (Nat.succ.inj e)
structure FM (K:W.Frag) (x:Str) (st:Stmt):Prop where
 ex:∃ a fd,W.nsIn K mainGlobals x=some (some (.ref a))/\Fun K x x st a fd
theorem fm_mk {K:W.Frag}{x:Str}{st:Stmt}{f:Addr}{oc:Value}{od an:Option Addr}{osl:Array (Option Value)}{kV doc pm cdv ct:Value} (n:W.nsIn K mainGlobals x=some (some (.ref f))) (l:K.lookup f=some ⟨oc,od,.func (W.fnOf x x (Du st) (Cc st) (A6 st) .none kV doc pm an cdv ct),osl⟩)
  (c:W.codeIn K cdv x=true) (k:W.keepIn K (.ref f)=true):FM K x st:=⟨f,_,n,Z4 l c k⟩
theorem FM.fd {K:W.Frag}{h:Heap}{mg:Str->Option Value}{x:Str}{st:Stmt}{ps:List Str} (F:FM K x st) (X:K.In h) (G:h.Ns mainGlobals mg)
  (hb:BH x st ps):FD K mg x st ps:=by
 obtain⟨a,fd,n,F⟩:=F.ex
 exact⟨a,fd,W.mg_of X G n,F,F.binds hb⟩
theorem FM.fd1 {K:W.Frag}{h:Heap}{mg:Str->Option Value}{x a:Str}{st:Stmt} (F:FM K x st) (X:K.In h) (G:h.Ns mainGlobals mg) (hb:BH x st [a]:=by exact fun _ _ _ _ _ _=>of1 fun _=>rfl):FD K mg x st [a]:=F.fd X G hb
theorem FM.fd2 {K:W.Frag}{h:Heap}{mg:Str->Option Value}{x a b:Str}{st:Stmt} (F:FM K x st) (X:K.In h) (G:h.Ns mainGlobals mg) (hb:BH x st [a,b]:=by exact fun _ _ _ _ _ _=>of2 fun _ _=>rfl):FD K mg x st [a,b]:=F.fd X G hb
theorem FM.fd3 {K:W.Frag}{h:Heap}{mg:Str->Option Value}{x a b c:Str}{st:Stmt} (F:FM K x st) (X:K.In h) (G:h.Ns mainGlobals mg) (hb:BH x st [a,b,c]:=by exact fun _ _ _ _ _ _=>of3 fun _ _ _=>rfl):FD K mg x st [a,b,c]:=F.fd X G hb
theorem FM.fd4 {K:W.Frag}{h:Heap}{mg:Str->Option Value}{x a b c d:Str}{st:Stmt} (F:FM K x st) (X:K.In h) (G:h.Ns mainGlobals mg) (hb:BH x st [a,b,c,d]:=by exact fun _ _ _ _ _ _ us hl=>match us,hl with|[_,_,_,_],_=>rfl):FD K mg x st [a,b,c,d]:=F.fd X G hb
theorem Ahk {K:W.Frag}{h:Heap}{mg:Str->Option Value}{x:Str}{a:Addr}{d:D} (X:K.In h) (G:h.Ns mainGlobals mg) (n:W.nsIn K mainGlobals x=some (some (.ref a))) (r:∀ H,Rep K H [] (fun _=>True) d (.ref a)):GC K mg x d :=
 ⟨.ref a,_,W.mg_of X G n,rfl,r⟩
section
variable {P:Program}{w:World}{K:W.Frag}{mg:Str->Option Value}{base:Heap}{x:Str}{st:Stmt}{ps:List Str}{k n:Nat}{tabs:List (Addr×Str)}{p:Addr}
theorem B6 (N:List Str) (T:FD K mg x st ps) (g:FS) (fn:List D->Option D)
  (hbody:∀ (f:Addr) (cdv:Value) (A:Around) (outer:List Env) (s:Shared) (H:Hp) (E:XK),Room k (A.deeper (envOfC x (A6 st) s.heap.objs.size f cdv))->N.Nodup ->
   QSs (V4 CX0 P w K mg base N x (A6 st) f cdv A outer s H E).nox (Cc st) g) (hfn:fn=Ds N.length g:=by rfl) (hn:ps.length=n:=by rfl) (S:FnScope N ps (A6 st):=by exact⟨rfl,rfl,rfl,by decide +kernel,rfl,by decide +kernel,by decide +kernel⟩):Cl P w K mg base (k+1) x n fn:=by
 obtain⟨a,fd,m,F,b⟩:=T.ex
 exact⟨a,fd,ps,Apg F S g fn hfn hn fun cdv A outer s H E hr=>hbody a cdv A outer s H E hr S.nd,m,F.kp,b⟩
end
section
variable {X:Cx}{e:Expr}{es:List Expr}{pos p p' cp:Pos}{x:Str}{k j n:Nat}{fn:List D->Option D}{g:FL}{tabs:List (Addr×Str)}{kp kp':Pos}{b:Bool}
theorem Aph {d:D} (h:GC X.K X.mg x d) (hg:Gl X x:=by unfold Gl;kernel_rfl) (hd:(x == ("__debug__":Str))=false:=by decide):QD X (.Name x pos) (fC d):=by
 obtain⟨v,u,m,r,hr⟩:=h.ex
 exact Aj2 m r hr hg hd
theorem q_c (F:Cl X.prog X.w X.K X.mg X.base k x n fn) (hr:Room j X.A) (ha:QL X (e::es) g) (hk:k<=j:=by decide) (hg:Gl X x:=by unfold Gl;kernel_rfl) (hdb:(x == ("__debug__":Str))=false:=by decide) (he':Bo e=true:=by rfl) (hpl':es.all Bo=true:=by rfl) :
  QD X (.Call (.Name x p) (e::es) [] pos) (A3 (Eu n fn) g):=by
 obtain⟨a,fd,ps,F,m,kp,b⟩:=F.ex
 exact Ael F (hr.mono hk) m kp b ha hg hdb he' hpl'
theorem Ys (F:Cl X.prog X.w X.K X.mg X.base k x n fn) (hr:Room j X.A) (ha:QL X (e::es) g) (hk:k<=j:=by decide) (hg:Gl X x:=by unfold Gl;kernel_rfl) (hdb:(x == ("__debug__":Str))=false:=by decide) (he':Bo e=true:=by rfl) (hpl':es.all Bo=true:=by rfl) :
  QF X (.Call (.Name x p) (e::es) [] pos) (C4 (Jc n fn) g):=by
 obtain⟨a,fd,ps,F,m,kp,b⟩:=F.ex
 exact Aem F (hr.mono hk) m kp b ha hg hdb he' hpl'
theorem Aqi (F:Cl X.prog X.w X.K X.mg X.base k x n fn) (hr:Room j X.A) (ha:QL X (e::es) g) (hk:k<=j:=by decide) (hg:Gl X x:=by unfold Gl;kernel_rfl) (hdb:(x == ("__debug__":Str))=false:=by decide) (he':Bo e=true:=by rfl) (hpl':es.all Bo=true:=by rfl) :
  QD X (.Call (.Name x p) (e::es) [] pos) (A3 (Hs n fn) g):=by
 obtain⟨a,fd,ps,F,m,kp,b⟩:=F.ex
 exact Yt F (hr.mono hk) m kp b ha hg hdb he' hpl'
theorem Aod (F:Cl X.prog X.w X.K X.mg X.base k x 1 fn) (hr:Room j X.A) (hm:X.mg "sorted"=none) (ha:QL X [e] g) (hk:k+2<=j:=by decide) (hg:Gl X "sorted":=by unfold Gl;kernel_rfl) (hgf:Gl X x:=by unfold Gl;kernel_rfl) (hdb:(x == ("__debug__":Str))=false:=by decide) (he':Bo e=true:=by rfl) :
  QF X (.Call (.Name "sorted" p) [e] [⟨some "key",.Name x p',kp⟩] pos) (C4 (Gx fn false) g):=by
 obtain⟨a,fd,ps,F,m,kp,b⟩:=F.ex
 exact Ab8 F (hr.mono hk) m b hm ha hg hgf hdb he'
end
def fVI (i:Nat) (k:Int):FE:=f2 oIx (Ai i) (fC (.int k))
def fC1 (fn:List D->Option D) (a:FE):FE:=A3 (Eu 1 fn) (Aa a Ae)
def fC2 (fn:List D->Option D) (a b:FE):FE:=A3 (Eu 2 fn) (Aa a (Aa b Ae))
def fC3 (fn:List D->Option D) (a b c:FE):FE:=A3 (Eu 3 fn) (Aa a (Aa b (Aa c Ae)))
def fF1 (fn:List D->Option D) (a:FE):FL:=C4 (Jc 1 fn) (Aa a Ae)
end ML
end L2
end S_ML22
section S_TS1
open Lean in
set_option hygiene false in
local macro_rules|`(tactic| sizeOf_list_dec)=>do
 let n (s:String):TSyntax `ident:=mkIdent (mkPrivateNameCore `PySem.Builtin.List.W1All (Name.str `PySem.Builtin s))
 `(tactic| delta $(n "gallop"))
namespace L2
namespace TS
open PySem PySem.W PySem.Calls PyProof.Rows
section
variable {σ:Type}{M:Model}{A:Around}{E:Value->Shared->Prop}
end
section
variable {prog:Program}{w:World}{A:Around}{E:Value->Shared->Prop}{κ:SortKind}{it:Array Keyed}
variable {N:Nat}{c:Nat->Nat->Bool}{J:Shared->Prop}
end
end TS
end L2
end S_TS1
section S_TS2
namespace L2
namespace TS
open PySem PySem.W PySem.Calls PyProof.Rows
section
variable {prog:Program}{w:World}{A:Around}{E:Value->Shared->Prop}{κ:SortKind}{it:Array Keyed}{N:Nat}{c:Nat->Nat->Bool}{J:Shared->Prop}
variable {X Y O:List Nat}{ia ib:Nat}
end
end TS
end L2
end S_TS2
section S_TS3
open Lean in
set_option hygiene false in
local macro_rules|`(tactic| sizeOf_list_dec)=>do
 let n (s:String):TSyntax `ident:=mkIdent (mkPrivateNameCore `PySem.Builtin.List.W1All (Name.str `PySem.Builtin s))
 `(tactic| delta $(n "mergeLo"))
namespace L2
namespace TS
open PySem PySem.W PySem.Calls PyProof.Rows
section
variable {prog:Program}{w:World}{A:Around}{E:Value->Shared->Prop}{κ:SortKind}{it:Array Keyed}{N:Nat}{c:Nat->Nat->Bool}{J:Shared->Prop}
end
end TS
end L2
end S_TS3
section S_TS4
namespace L2
namespace TS
open PySem PySem.W PySem.Calls PyProof.Rows
section
variable {c:Nat->Nat->Bool}
variable {X Y O:List Nat}{na nb:Nat}
end
end TS
end L2
end S_TS4
section S_TS5
open Lean in
set_option hygiene false in
local macro_rules|`(tactic| sizeOf_list_dec)=>do
 let n (s:String):TSyntax `ident:=mkIdent (mkPrivateNameCore `PySem.Builtin.List.W1All (Name.str `PySem.Builtin s))
 `(tactic| delta $(n "mergeHi"))
namespace L2
namespace TS
open PySem PySem.W PySem.Calls PyProof.Rows
section
variable {prog:Program}{w:World}{A:Around}{E:Value->Shared->Prop}{κ:SortKind}{it:Array Keyed}{N:Nat}{c:Nat->Nat->Bool}{J:Shared->Prop}
end
end TS
end L2
end S_TS5
section S_TS6
open Lean in
set_option hygiene false in
local macro_rules|`(tactic| sizeOf_list_dec)=>do
 let n (s:String):TSyntax `ident:=mkIdent (mkPrivateNameCore `PySem.Builtin.List.W1All (Name.str `PySem.Builtin s))
 `(tactic| delta $(n "mergeAt"))
namespace L2
namespace TS
open PySem PySem.W PySem.Calls PyProof.Rows
section
variable {prog:Program}{w:World}{A:Around}{E:Value->Shared->Prop}{κ:SortKind}{it:Array Keyed}{N:Nat}{c:Nat->Nat->Bool}{J:Shared->Prop}
end
end TS
end L2
end S_TS6
section S_TS7
namespace L2
namespace TS
open PySem PySem.W PySem.Calls PyProof.Rows
section
variable {α:Type}
end
section
variable {prog:Program}{w:World}{A:Around}{E:Value->Shared->Prop}{κ:SortKind}{it:Array Keyed}{N:Nat}{c:Nat->Nat->Bool}{J:Shared->Prop}
end
end TS
end L2
end S_TS7
section S_TS8
namespace L2
namespace TS
open PySem PySem.W PySem.Calls PyProof.Rows
section
variable {prog:Program}{w:World}{A:Around}{E:Value->Shared->Prop}{κ:SortKind}{it:Array Keyed}{n:Nat}{c:Nat->Nat->Bool}{J:Shared->Prop}
end
end TS
end L2
end S_TS8
section S_ML35
namespace L2
namespace ML
open PySem PySem.Spec PyProof.Rows PySem.SeqAt
open PySem.W (KasT kas_sort katRev KatLex)
open Classical in
section
variable {X:Cx}{pins:List (Addr×Obj)}{σ:St}{H H1:Hp}{s:Shared}{μ:List Addr}{m:MH}{k:Nat}{f:Addr}{fd:FuncData}{ps:List Str}{fn:List D->Option D}{A':Around}
end
section
variable {X:Cx}{e:Expr}{pos p p' kp kp' cp:Pos}{x:Str}{k:Nat}{f:Addr}{fd:FuncData}{ps:List Str}{fn:List D->Option D}{b:Bool}
end
section
variable {X:Cx}{e:Expr}{es:List Expr}{pos p p' cp:Pos}{x:Str}{k j n:Nat}{fn:List D->Option D}{g:FL}{tabs:List (Addr×Str)}{kp kp':Pos}{b:Bool}
end
section
variable {X:Cx}{e:Expr}{pos p':Pos}{x:Str}{i:Nat}{f:FE}
end
end ML
end L2
end S_ML35
section S_TX1
namespace L2
namespace TX
open PySem PySem.Spec PyProof.Rows
section
variable {prog:Program}{w:World}{A:Around}{E:Value->Shared->Prop}{s:Shared}
end
end TX
end L2
end S_TX1
section S_TX2
namespace L2
namespace TX
open PySem PySem.Spec PyProof.Rows
section
variable {prog:Program}{w:World}{A:Around}{R:Result->Shared->Prop}{I:Addr}{fp wr:List Addr}{G:Array GenState->Array GenState->Prop}{n:Nat}{P:Nat->Value->Prop}{St:Nat->Shared->Prop}
end
section
variable {prog:Program}{w:World}{A:Around}{E:Value->Shared->Prop}{s:Shared}
end
end TX
end L2
end S_TX2
section S_TX3
open Lean in
set_option hygiene false in
local macro_rules|`(tactic| sizeOf_list_dec)=>do
 let n (s:String):TSyntax `ident:=mkIdent (mkPrivateNameCore `PySem.SetOps (Name.str `PySem s))
 `(tactic| delta $(n "drawn"))
open Lean in
set_option hygiene false in
local macro_rules|`(tactic| array_get_dec)=>do
 let n (s:String):TSyntax `ident:=mkIdent (mkPrivateNameCore `PySem.SetOps (Name.str `PySem s))
 `(tactic| delta $(n "mustBeLedForItsPlaces"))
namespace L2
namespace TX
open PySem PySem.Spec PyProof.Rows
section
variable {prog:Program}{w:World}{A:Around}{E:Value->Shared->Prop}{s:Shared}
end
end TX
end L2
end S_TX3
section S_TX4
open Lean in
set_option hygiene false in
local macro_rules|`(tactic| sizeOf_list_dec)=>do
 let n (s:String):TSyntax `ident:=mkIdent (mkPrivateNameCore `PySem.SetOps (Name.str `PySem s))
 `(tactic| delta $(n "drawn"))
open Lean in
set_option hygiene false in
local macro_rules|`(tactic| array_get_dec)=>do
 let n (s:String):TSyntax `ident:=mkIdent (mkPrivateNameCore `PySem.SetOps (Name.str `PySem s))
 `(tactic| delta $(n "mustBeLedForItsPlaces"))
namespace L2
namespace TX
open PySem PySem.Spec PyProof.Rows
section
variable {prog:Program}{w:World}{A:Around}{E:Value->Shared->Prop}{s:Shared}
end
end TX
end L2
end S_TX4
section S_TX5
open Lean in
set_option hygiene false in
local macro_rules|`(tactic| sizeOf_list_dec)=>do
 let n (s:String):TSyntax `ident:=mkIdent (mkPrivateNameCore `PySem.SetOps (Name.str `PySem s))
 `(tactic| delta $(n "drawn"))
namespace L2
namespace TX
open PySem PySem.Spec PyProof.Rows
section
variable {prog:Program}{w:World}{A:Around}{E:Value->Shared->Prop}{s:Shared}
end
end TX
end L2
end S_TX5
section S_TX6
namespace L2
namespace TX
open PySem PySem.Spec PyProof.Rows
section
variable {prog:Program}{w:World}{A:Around}{E:Value->Shared->Prop}{s:Shared}
end
end TX
end L2
end S_TX6
section S_TX7
namespace L2
namespace TX
open PySem PySem.Spec PyProof.Rows
section
variable {prog:Program}{w:World}{A:Around}{E:Value->Shared->Prop}{s:Shared}
end
end TX
end L2
end S_TX7
section S_DX1
namespace L2
namespace TX
open PySem PySem.Spec PyProof.Rows
section
variable {prog:Program}{w:World}{A:Around}{E:Value->Shared->Prop}{s:Shared}
theorem Xz:typeLookup (.type "list") "keys"=pure none:=by rw[typeLookup_type,builtinLookup_eq_fast];kernel_rfl
end
end TX
end L2
end S_DX1
section S_DX2
namespace L2
namespace TX
open PySem PySem.Spec PyProof.Rows
theorem Lg:entryFor table "dict.update.loop"=some Builtin.«dict.update.loop»:=entryFor_of_tree (by kernel_rfl)
theorem Ea:plainId "dict.update.loop"=true:=by decide +kernel
structure Fills (prog:Program) (w:World) (A:Around) (d:Addr) (wr:List Addr) (n:Nat) (P:Nat->Value->Prop) (C:Heap->Prop) (Dn:Nat->Heap->Prop):Prop where
 pair:∀ i v h,i < n->P i v->C h->∃ (a:Addr) (o:Obj) (c:Nat) (k x:Value),v=.ref a/\h.get? a=some o/\o.cls=.type "tuple"/\o.data=.seq #[k,x] c /\
  ∀ (s:Shared) (Q:Unit->Shared->Prop) (E:Value->Shared->Prop),s.heap=h->Dn i h->(∀ h' tk,s.toks<=tk->Heap.SameBut d s.heap h'->Dn (i+1) h'->Q () { s with heap:=h',toks:=tk })->wpAny (model prog w) A (dictSet d k x) Q E s
 cKeep:∀ h h',C h->(∀ b o,b≠d->b∉wr->h.get? b=some o->h'.get? b=some o)->C h'
 dKeep:∀ i h h',Dn i h->(∀ b o,b∉wr->h.get? b=some o->h'.get? b=some o)->Dn i h'
section
variable {prog:Program}{w:World}{A:Around}{E:Value->Shared->Prop}{R:Result->Shared->Prop}{I:Addr}{fp wr:List Addr}{G:Array GenState->Array GenState->Prop}{n:Nat}{P:Nat->Value->Prop}{St:Nat->Shared->Prop}{C:Heap->Prop}{Dn:Nat->Heap->Prop}
theorem Jr {s:Shared}{a:Addr}{o:Obj}{c:Nat}{k x:Value}{Q:List Value->Shared->Prop} (ho:s.heap.get? a=some o) (hc:o.cls=.type "tuple") (hd:o.data=.seq #[k,x] c) (h:Q [k,x] s):wpAny (model prog w) A (Builtin.Dict.pairItems (.ref a)) Q E s:=by
 unfold Builtin.Dict.pairItems
 refine Aqx (wpAny_typeOf (T:="tuple") ⟨o,ho,hc⟩ ?_)
 rw[Aq4 (by decide)]
 refine Aqx (As0 ho hd ?_)
 exact Aq0 h
theorem R4 (W:WalksS prog w A.in1 I fp wr G n P St) (d:Addr) (hdf:d∉fp) (F:Fills prog w A.in1 d wr n P C Dn) (res:Value) :
  ∀ (k i:Nat) (s:Shared),n - i=k->i<=n->St i s->C s.heap->Dn i s.heap->(∀ s',Moved (d::wr) G s s'->Dn n s'.heap->R (.ok (.ret res)) s') ->
   codeAny (model prog w) A (.builtin "dict.update.loop" ⟨[.ref d,.ref I,rawInt i,res],[]⟩) R s:=by
 have hdw:d∉wr:=fun h=>hdf (W.sub _ h)
 have hsub:∀ b∈wr,b∈d::wr:=fun b hb=>Aq6 _ hb
 intro k
 induction k with
 |zero =>
  intro i s hk hi hst hC hD hR
  have hin:i=n:=by lia
  subst hin
  refine codeAny_builtin Lg ?_
  rw[Around.under_plainId Ea _]
  show wpAny _ A.in1 (pyNext (.ref I) >>= _) _ _ s
  refine Aqx (W.done s _ _ hst fun s' hm=>?_)
  show wpAny _ A.in1 (Builtin.Dict.addKeywords d [] >>= fun _=>ret res) _ _ s'
  refine Aqx (Aq0 ?_)
  exact Aq0 (hR s' (hm.mono hsub) (F.dKeep _ _ _ hD fun b o hb e=>hm.heap b o hb e))
 |succ k ih =>
  intro i s hk hi hst hC hD hR
  have hlt:i < n:=by lia
  refine codeAny_builtin Lg ?_
  rw[Around.under_plainId Ea _]
  show wpAny _ A.in1 (pyNext (.ref I) >>= _) _ _ s
  refine Aqx (W.item i s _ _ hlt hst fun v s' hP hst' hm=>?_)
  have hC':C s'.heap:=F.cKeep _ _ hC fun b o _ hb e=>hm.heap b o hb e
  have hD':Dn i s'.heap:=F.dKeep _ _ _ hD fun b o hb e=>hm.heap b o hb e
  obtain⟨a,o,c,kv,xv,rfl,ho,hc,hd,hset⟩:=F.pair i v s'.heap hlt hP hC'
  refine Aqx (Arw (Aqx (wpAny_tryCatch (Jr ho hc hd ?_))))
  refine Arw (hset s' _ _ rfl hD' fun h' tk htk hsb hD2=>?_)
  refine Aq0 ⟨plainId_quiet Ea _,?_⟩
  refine ih (i+1) _ (by lia) hlt (W.frame _ s' _ _ hst' htk fun b hb o e=>?_) (F.cKeep _ _ hC' fun b o hb _ e=>(hsb.2 b hb).trans e) hD2 fun s'' hm'' hD''=>?_
  ·exact (hsb.2 b (fun h:b=d=>hdf (by rw[<- h];exact hb))).trans e
  ·refine hR s'' (Moved.trans W.gtrans ((hm.mono hsub).then_heap htk fun b o hb e=>?_) hm'') hD''
   exact (hsb.2 b (fun h:b=d=>hb (by rw[h];exact Aq8))).trans e
end
end TX
end L2
end S_DX2
section S_DX3
namespace L2
namespace TX
open PySem PySem.Spec PyProof.Rows
section
variable {prog:Program}{w:World}{A:Around}{E:Value->Shared->Prop}{s:Shared}{C:Heap->Prop}{Dn:Nat->Heap->Prop}
noncomputable def Hu:Obj:={ cls:=.type "dict",data:=.dict #[] }
end
end TX
end L2
end S_DX3
section S_ML36
namespace L2
namespace ML
open PySem PySem.Spec PyProof.Rows
section
variable {K:W.Frag}{H:Hp}{μ:List Addr}{B:Addr->Prop}
end
section
variable {K:W.Frag}{H:Hp}{μ:List Addr}{B:Addr->Prop}
end
section
variable {X:Cx}{pins:List (Addr×Obj)}{σ:St}{H:Hp}{s:Shared}{a:Addr}
end
section
variable {X:Cx}{a b c e:Expr}{es:List Expr}{pos p p':Pos}{x:Str}
end
section
variable {X:Cx}{pins:List (Addr×Obj)}{σ:St}{H:Hp}{s:Shared}{μ:List Addr}{B:Addr->Prop}
end
section
variable {X:Cx}{e:Expr}{pos p p2 pos2:Pos}{k:Nat}{g:FL}
end
section
variable {X:Cx}{a b e:Expr}{pos p p2 pos2:Pos}{k:Nat}{g:FL}{f h:FE}
end
section
variable {X:Cx}{e e':Expr}{pos p:Pos}{g:FL}
noncomputable def Ng:List D->MH->Option D:=fun xs _=>match xs with
 |[.int i,.int j]=>some (.int (if j > i then j else i))
 |_=>none
theorem Abq (hc:X.calm=true):Iw X (.builtin "max") Ng:=by
 intro pins s σ H μ m xs z vs us Q I S rx rv e q
 match xs,e with
 |[.int i,.int j],e =>
  cases e
  obtain⟨v,w,rfl,r1,r2⟩:=rx.two
  cases r1
  cases r2
  exact Rp hc pins s σ H _ us Q I rv ⟨i,j,rfl,q _ H (Same.refl H) (.int _)⟩
theorem Nk (hc:X.calm=true) (hm:X.mg "max"=none) (ha:QL X [e,e'] g) (hg:Gl X "max":=by unfold Gl;kernel_rfl) (he':Bo e=true:=by rfl) (he2:Bo e'=true:=by rfl):QD X (.Call (.Name "max" p) [e,e'] [] pos) (A3 Ng g):=⟨Js (Abq hc) hg hm (by decide +kernel) ha.out (by decide) (by decide) (An he') (by rw[An he2];rfl)⟩
end
section
variable {X:Cx}{a e:Expr}{apos cpos:Pos}
end
section
variable {X:Cx}{a b c e:Expr}{es:List Expr}{pos p p' apos cpos dp:Pos}{x:Str}{i:Nat}
end
section
variable {X:Cx}{a b c e:Expr}{es:List Expr}{pos p p' dp:Pos}{x:Str}{i:Nat}{g:FL}
end
end ML
end L2
end S_ML36
section S_TY1
namespace L2
namespace TY
open PySem PySem.SetTable
end TY
end L2
end S_TY1
section S_TY2
namespace L2
namespace TY
open PySem PySem.SetTable
end TY
end L2
end S_TY2
section S_TY3
namespace L2
namespace TY
open PySem PySem.SetTable
end TY
end L2
end S_TY3
section S_TY4
namespace L2
namespace TY
open PySem PySem.Spec PyProof.Rows
section
variable {prog:Program}{w:World}{ds:List PyData}
end
end TY
end L2
end S_TY4
section S_TY5
namespace L2
namespace TY
open PySem PySem.Spec PyProof.Rows
section
variable {prog:Program}{w:World}{A:Around}{E:Value->Shared->Prop}{s:Shared}
end
end TY
end L2
end S_TY5
section S_TY6
namespace L2
namespace TY
open PySem PySem.Spec PyProof.Rows L2.TX
section
variable {prog:Program}{w:World}{A:Around}{R:Result->Shared->Prop}{I:Addr}{fp wr:List Addr}{G:Array GenState->Array GenState->Prop}{n:Nat}{P:Nat->Value->Prop}{St:Nat->Shared->Prop}
end
section
variable {prog:Program}{w:World}{A:Around}{E:Value->Shared->Prop}{s:Shared}
end
end TY
end L2
end S_TY6
section S_ML41
namespace L2
namespace ML
open PySem PySem.Spec PyProof.Rows
section
variable {X:Cx}{e:Expr}{pos p p2 pos2:Pos}{k:Nat}{g:FL}
end
section
variable {X:Cx}{e:Expr}{pos p p2 p3 p4:Pos}
end
section
variable {P:Program}{w:World}{K:W.Frag}{mg:Str->Option Value}{base:Heap}{x:Str}{st:Stmt}{ps:List Str}{k n:Nat}
end
section
variable {X:Cx}{e:Expr}{es:List Expr}{pos p:Pos}{x:Str}{k j n:Nat}{fn:List D->Option D}{g:FL}
end
end ML
end L2
end S_ML41
section S_DX4
namespace L2
namespace TX
open PySem PySem.Spec PyProof.Rows
section
variable {prog:Program}{w:World}{A:Around}{E:Value->Shared->Prop}{s:Shared}
theorem Tx {a:Addr}{o:Obj}{xs:Array Value}{k:Nat}{Q:Option Value->Shared->Prop} (hx:s.heap.get? a=some o) (hc:o.cls=.type "list") (hdat:o.data=.seq xs k) (hd:o.dict=none) (hA:A.handled=none)
  (h:∀ h' tk,(∀ b ob,s.heap.get? b=some ob->h'.get? b=some ob)->Q none { s with heap:=h',toks:=tk }):wpAny (model prog w) A (getAttr? (.ref a) "keys") Q E s:=by
 obtain⟨c,dct,dat,sl⟩:=o
 simp only at hc hdat hd
 subst hc hdat hd
 obtain⟨hp,g,d,tk,os⟩:=s
 have hT:∀ tk',(⟨hp,g,d,tk',os⟩:Shared).TypeIs (.ref a) "list":=fun _=>⟨_,hx,rfl⟩
 have f1:=sub_AttributeError
 have f3:=PySem.F.slot_list_getattribute.lookup
 have f4:=PySem.F.slot_list_getattribute.bind (.ref a)
 have f5:=am_list_getattr_none
 unfold getAttr? getAttrBy? getAttrBy
 repeat (any_goals (first|assumption|exact hT _|((with_reducible show wpAny _ _ (call (Value.builtin "list.__getattribute__") _ _) _ _ _);refine call_meets PySem.F.slot_list_getattribute (hT _) am_entry_list_getattribute (PySem.F.args_list_getattribute_2 _ _) (meets_getattribute_miss_list a xs k sl "keys" _ Xz (by decide +kernel) (by decide +kernel)) ⟨hx,hA,fun h' tk' e hx'=>?_⟩)|wp_step))
 obtain⟨t',u',he⟩:=hx'.there
 show wpAny _ _ (getattributeRaised _ _ _ _ _ _ _) _ _ _
 unfold getattributeRaised
 repeat (any_goals (first|assumption|wp_step))
 exact h _ _ hx'.keeps
end
section
variable {prog:Program}{w:World}{A:Around}{E:Value->Shared->Prop}{s:Shared}{C:Heap->Prop}{Dn:Nat->Heap->Prop}
theorem dict_list {t:Addr}{o:Obj}{items:Array Value}{c:Nat}{Q:Value->Shared->Prop} (hh:A.handled=none) (ho:s.heap.get? t=some o) (hc:o.cls=.type "list") (hdat:o.data=.seq items c) (hd:o.dict=none)
  (F:∀ I,s.heap.objs.size < I->Fills prog w A.in1.in1 s.heap.objs.size [I] items.size (fun i v=>items[i]?=some v) C Dn)
  (hC:∀ h,(∀ b ob,s.heap.get? b=some ob->h.get? b=some ob)->C h) (hD:∀ h,h.get? s.heap.objs.size=some Hu->Dn 0 h)
  (h:∀ h' tk,(∀ b ob,s.heap.get? b=some ob->h'.get? b=some ob)->Dn items.size h'->Q (.ref s.heap.objs.size) { s with heap:=h',toks:=tk }) :
  wpAny (model prog w) A (call (.type "dict") [.ref t]) Q E s:=by
 refine callType_codes (Q₁:=fun obj s₁=>obj=.ref s.heap.objs.size/\s₁={ s with heap:=s.heap.push Hu }) PySem.F.kt_called_dict (PySem.F.kt_typeCall_dict_1 _) PySem.F.entry_dict_init (kt_code_dict_new _ ⟨rfl,rfl⟩) ?_
 rintro obj s₁ ⟨rfl,rfl⟩
 have hlt:t < s.heap.objs.size:=Aq9 ho
 have hg:(s.heap.push Hu).get? s.heap.objs.size=some Hu:=Are _ rfl
 have hT:Shared.TypeIs { s with heap:=s.heap.push Hu } (.ref s.heap.objs.size) "dict":=⟨_,hg,rfl⟩
 have ho1:(s.heap.push Hu).get? t=some o:=Aq1 _ ho
 refine⟨hT,PySem.F.args_dict_init_2 _ _,?_⟩
 unfold Builtin.«dict.__init__»
 refine Aqx ?_
 unfold Builtin.Dict.selfAndRest
 refine Aqx (wpAny_notOrdered_dict hT ?_)
 show wpAny _ _ (pure (s.heap.objs.size,[Value.ref t])) _ _ _
 refine Aq0 ?_
 show wpAny _ _ (Builtin.Dict.updateFrom "dict.__init__" s.heap.objs.size (.ref t) [] .none) _ _ _
 unfold Builtin.Dict.updateFrom
 refine Aqx (wpAny_typeOf (T:="list") ⟨o,ho1,hc⟩ ?_)
 rw[Aq4 (by decide)]
 refine Aqx (Tx ho1 hc hdat hd hh fun h1 tk1 hk1=>?_)
 rw[Aq4 (show (none:Option Value).isNone=true from rfl)]
 refine Aqx (wpAny_rule ?_)
 have ht1:h1.IsList t items:=⟨o,hk1 _ _ ho1,hc,c,hdat⟩
 refine Aqx (wpAny_pyIter_list ht1 ?_)
 have hI:s.heap.objs.size < h1.objs.size:=Aq9 (hk1 _ _ hg)
 have htI:t≠h1.objs.size:=Aro (Nat.lt_trans hlt hI)
 have kp:∀ b ob,s.heap.get? b=some ob->(h1.push { cls:=.type "list_iterator",data:=.fields #[.ref t,.int 0 0] }).get? b=some ob:=fun b ob e=>Aq1 _ (hk1 _ _ (Aq1 _ e))
 refine Aq0 ⟨plainId_quiet Ea _,?_⟩
 refine R4 ((Walks.list (A:=A.in1.in1) hh h1.objs.size t htI items).toS) s.heap.objs.size (by
  simp only[Ass,Ash,or_false,not_or]
  exact⟨Aro hI,Asz hlt⟩) (F h1.objs.size hI) .none items.size 0 _ (by lia) (Ar8 _) ⟨⟨_,Are _ rfl,rfl,rfl⟩,ht1.push _⟩ (hC _ kp) (hD _ (Aq1 _ (hk1 _ _ hg))) fun s' hm hD'=>?_
 obtain⟨h',g',d',tk',os'⟩:=s'
 have eg:g'=s.gens:=hm.gens
 have ed:d'=s.drawn:=hm.drawn
 have eo:os'=s.os:=hm.os
 subst eg;subst ed;subst eo
 refine⟨rfl,h h' tk' (fun b ob e=>?_) hD'⟩
 refine hm.heap b ob (fun hb=>?_) (kp b ob e)
 have hb':=Aq9 e
 rcases List.mem_cons.mp hb with rfl|hb
 ·exact absurd hb' (Ary _)
 ·rw[List.mem_singleton.mp hb] at hb'
  exact absurd (Nat.lt_trans hI hb') (Ary _)
end
end TX
end L2
end S_DX4
section S_DX5
namespace L2
namespace TX
open PySem PySem.Spec PyProof.Rows
section
variable {prog:Program}{w:World}{A:Around}{E:Value->Shared->Prop}{s:Shared}
def O2 (prog:Program) (w:World) (A:Around) (s:Shared) (v:Value):Prop:=∀ (Q:Bool->Shared->Prop) (E:Value->Shared->Prop),Q true s->wpAny (model prog w) A (eqIsQuiet 8 v) Q E s
def Aoz (prog:Program) (w:World) (A:Around) (s:Shared) (v u:Value) (b:Bool):Prop:=∀ (Q:Bool->Shared->Prop) (E:Value->Shared->Prop),Q b s->wpAny (model prog w) A (eqBool v u) Q E s
theorem X1 {key:Value}{l:List Value}{Q:Bool->Shared->Prop} (hk:O2 prog w A s key) (hl:∀ v∈l,O2 prog w A s v) (h:Q false s):wpAny (model prog w) A (tableMayTell key l) Q E s:=by
 unfold tableMayTell
 split
 ·exact Aq0 h
 ·refine Aqx (hk _ _ ?_)
  rw[Atc,Aq7 Arc]
  refine Aqx (wpAny_forIn_list _ (fun rest r t=>t=s/\r=(none,())/\∀ v∈rest,v∈l) _ ?_ ?_ _ _ ⟨rfl,rfl,fun _ z=>z⟩)
  ·rintro x rest r t ⟨rfl,rfl,hr⟩
   refine Aqx (hl x (hr x (Aq8 ..)) _ _ ?_)
   rw[Atc,Aq7 Arc]
   exact Aq0 ⟨rfl,rfl,fun v z=>hr v (Aq6 _ z)⟩
  ·rintro r t ⟨rfl,rfl,_⟩
   exact Aq0 h
abbrev plc (es:Array DictEntry) (h:Int):List Nat:=placesWithHash es.size (fun i=>es[i]?.map (·.hash)) h
theorem plc_mem {es:Array DictEntry}{h:Int}{i:Nat}:i∈plc es h ↔ ∃ e,es[i]?=some e/\e.hash=h:=by
 unfold plc placesWithHash
 rw[List.mem_filter,Ati]
 constructor
 ·rintro ⟨h1,h2⟩
  refine⟨es[i],by simp[h1],?_⟩
  simpa [h1] using h2
 ·rintro ⟨e,h1,h2⟩
  refine⟨(Array.getElem?_eq_some_iff.mp h1).1,?_⟩
  show ((es[i]?.map (·.hash)) == some h)=true
  rw[h1];simp[h2]
theorem Ajt {es:Array DictEntry}{h:Int}:(plc es h).Nodup:=by unfold plc placesWithHash;exact (List.filter_sublist).nodup List.nodup_range
structure Finds (prog:Program) (w:World) (A:Around) (s:Shared) (key:Value) (h:Int) (es:Array DictEntry) (tt:Nat->Bool):Prop where
 qk:O2 prog w A s key
 qs:∀ (i:Nat) (e:DictEntry),es[i]?=some e->O2 prog w A s e.key
 eq:∀ (i:Nat) (e:DictEntry),es[i]?=some e->e.hash=h->Aoz prog w A s e.key key (tt i)
 un:∀ (i j:Nat) (e f:DictEntry),es[i]?=some e->es[j]?=some f->e.hash=h->f.hash=h->tt i=true->tt j=true->i=j
theorem Xa {d:Addr}{key:Value}{o:Obj}{es:Array DictEntry}{ep:Nat}{h:Int}{tt:Nat->Bool}{Q:Option Nat->Shared->Prop} (ho:s.heap.get? d=some o) (hd:o.data=.dict es ep) (F:Finds prog w A s key h es tt)
  (hkey:(∃ a,key=.ref a/\∀ e∈es,e.key=.ref a->e.hash=h)\/key=.none/\∀ e∈es,∃ b,e.key=.ref b)
  (hno:(∀ (i:Nat) (e:DictEntry),es[i]?=some e->e.hash=h->tt i=false)->Q none s) (hyes:∀ (i:Nat) (e:DictEntry),es[i]?=some e->e.hash=h->tt i=true->Q (some i) s):wpAny (model prog w) A (dictFind d key h) Q E s:=by
 have hst:∀ v∈(plc es h).filterMap (fun i=>es[i]?.map (·.key)),O2 prog w A s v:=by
  intro v hv
  obtain⟨i,hi,h2⟩:=List.mem_filterMap.mp hv
  obtain⟨e,h1,_⟩:=plc_mem.mp hi
  rw[h1] at h2
  cases h2
  exact F.qs i e h1
 unfold dictFind
 refine Arw (Aqx (wpAny_dictEntries ho hd ?_))
 have fresh:∀ {dn rest:List Nat}{x:Nat},plc es h=dn++x::rest->x∉dn:=fun {dn rest x} e z=>by
  have nd:=Ajt (es:=es) (h:=h)
  rw[e,List.nodup_append] at nd
  exact nd.2.2 x z x (Aq8 ..) rfl
 by_cases hc:key=.none/\plc es h=[]
 ·obtain⟨rfl,hemp⟩:=hc
  dsimp only
  have hemp':placesWithHash es.size (fun i=>es[i]?.map (·.hash)) h=[]:=hemp
  rw[hemp',Aq4 (by simp[carriedByValue])]
  unfold dictWalkPlain
  refine Aqx (Aq0 (Aq0 (hno fun i e h1 h2=>?_)))
  have:=plc_mem.mpr ⟨e,h1,h2⟩
  rw[hemp] at this
  exact absurd this (by simp)
 have pre:¬ ((key::(plc es h).filterMap (fun i=>es[i]?.map (·.key))).all carriedByValue)=true:=by
  rcases hkey with ⟨a,rfl,hs⟩|⟨rfl,hs⟩
  ·simp[carriedByValue]
  ·obtain⟨i,hi⟩:=List.exists_mem_of_ne_nil _ (fun z=>hc ⟨rfl,z⟩)
   obtain⟨e,h1,h2⟩:=plc_mem.mp hi
   obtain⟨b,hb⟩:=hs e (Array.mem_of_getElem? h1)
   have hin:Value.ref b∈(plc es h).filterMap (fun i=>es[i]?.map (·.key)):=List.mem_filterMap.mpr ⟨i,hi,by rw[h1];simp[hb]⟩
   intro z
   rw[Ast,Arf,List.all_eq_true] at z
   exact absurd (z.2 _ hin) (by simp[carriedByValue])
 by_cases hone:((plc es h).filterMap (fun i=>es[i]?.map (·.key)) == [key])=true<;>rcases hkey with ⟨a,rfl,hs⟩|⟨rfl,hs⟩
 all_goals (dsimp only;rw[Aq7 pre])
 all_goals try rw[Aq7 (by
   rw[<- Array.any_toList,List.any_eq_true]
   rintro ⟨e,h1,h2⟩
   rw[Arf,beq_iff_eq,bne_iff_ne] at h2
   exact h2.2 (hs e (Array.mem_toList_iff.mp h1) h2.1))]
 all_goals first|(rw[Aq4 hone];refine Aqx (Aq0 ?_))|(rw[Aq7 hone];refine Aqx (X1 F.qk hst ?_))
 all_goals
  rw[Aq7 (by simp)]
  refine Aqx (wpAny_forIn_list _ (fun rest b t=>t=s/\∃ hit dn,b=(none,hit)/\plc es h=dn++rest/\((hit=none/\∀ i∈dn,tt i=false)\/∃ j,hit=some j/\j∈dn/\tt j=true)) _ ?_ ?_ _ _ ⟨rfl,none,[],rfl,rfl,.inl ⟨rfl,by simp⟩⟩)
  ·rintro x rest b t ⟨rfl,hit,dn,rfl,hp,hH⟩
   have hx:x∈plc es h:=by rw[hp];simp
   obtain⟨e,h1,h2⟩:=plc_mem.mp hx
   have hp':plc es h=(dn++[x])++rest:=by rw[hp];simp
   rw[h1]
   dsimp only
   rw[Aq4 (by simp[h2])]
   refine Aqx (wpAny_dictEpoch ho hd (Aqx (F.eq x e h1 h2 _ _ (Aqx (wpAny_dictEpoch ho hd ?_)))))
   rw[Aq7 (by simp)]
   cases ht:tt x with
   |true =>
    have hit0:hit=none:=by
     rcases hH with ⟨z,_⟩|⟨j,_,hj,tj⟩
     ·exact z
     ·have hjm:j∈plc es h:=by rw[hp];simp[hj]
      obtain⟨f,f1,f2⟩:=plc_mem.mp hjm
      have:=F.un j x f e f1 h1 f2 h2 tj ht
      subst this
      exact absurd hj (fresh hp)
    subst hit0
    simp only[Ate,Option.isSome_none,Ar7,As1]
    refine Aqx (wpAny_rule ?_)
    split
    ·exact Aq0 (Aq0 (hyes x e h1 h2 ht))
    ·exact Aq0 ⟨rfl,some x,dn++[x],rfl,hp',.inr ⟨x,rfl,by simp,ht⟩⟩
   |false =>
    simp only[Ar7,As1]
    refine Aqx (wpAny_rule ?_)
    have nx:(hit=none/\∀ i∈dn++[x],tt i=false)\/∃ j,hit=some j/\j∈dn++[x]/\tt j=true:=by
     rcases hH with ⟨z,z2⟩|⟨j,z,hj,tj⟩
     ·refine .inl ⟨z,fun i hi=>?_⟩
      rcases List.mem_append.mp hi with q|q
      ·exact z2 i q
      ·rw[List.mem_singleton.mp q];exact ht
     ·exact .inr ⟨j,z,by simp[hj],tj⟩
    first
     |exact Aq0 ⟨rfl,hit,dn++[x],rfl,hp',nx⟩
     |(rw[Aq7 (by simp)];exact Aq0 ⟨rfl,hit,dn++[x],rfl,hp',nx⟩)
     |exact Aqx (Aq0 (Aq0 ⟨rfl,hit,dn++[x],rfl,hp',nx⟩))
  ·rintro b t ⟨rfl,hit,dn,rfl,hp,hH⟩
   rw[Ar4] at hp
   rcases hH with ⟨rfl,z⟩|⟨j,rfl,hj,tj⟩
   ·exact Aq0 (hno fun i e h1 h2=>z i (by rw[<- hp];exact plc_mem.mpr ⟨e,h1,h2⟩))
   ·obtain⟨f,f1,f2⟩:=plc_mem.mp (show j∈plc es h by rw[hp];exact hj)
    exact Aq0 (hyes j f f1 f2 tj)
end
end TX
end L2
end S_DX5
section S_DX6
namespace L2
namespace TX
open PySem PySem.Spec PyProof.Rows
noncomputable def kHN (w:World):PyData->Int
 |.none=>4238894112
 |d=>Lw w d
noncomputable def kDN:PyData->Nat
 |.none=>1
 |d=>Ep d
def KeyV (h:Heap) (d:PyData) (v:Value):Prop:=(d=.none/\v=.none)\/∃ a,v=.ref a/\Rh h d a
section
variable {prog:Program}{w:World}{A:Around}{E:Value->Shared->Prop}{s:Shared}
theorem Xg {Q:Int->Shared->Prop} (h:Q 4238894112 { s with toks:=s.toks+1 }):wpAny (model prog w) A (pyHash .none) Q E s:=by
 have hT:s.TypeIs .none "NoneType":=rfl
 unfold pyHash
 first|unfold pyHashByItsType|skip
 refine Aqx ?_
 rw[cRoomFor,Aq7 (by decide)]
 refine Aq0 (Aqx (As2 hT PySem.F.slot_NoneType_hash.lookup ?_))
 rw[Aq7 (by rw[beq_builtin_none];exact Arc)]
 refine Aqx (As2 hT PySem.F.slot_NoneType_hash.lookup ?_)
 rw[show (some (Value.builtin "NoneType.__hash__")).isNone=false from rfl,Aq7 Arc]
 refine Aqx (wpAny_callSpecialIfBoundUnlessNone?_slot hT PySem.F.slot_NoneType_hash (Asb PySem.F.slot_NoneType_hash hT PySem.F.entry_NoneType_hash ?_ (PySem.F.args_NoneType_hash_1 _)))
 unfold Builtin.«NoneType.__hash__»
 refine Aqx (wpAny_of_eq (show slotArgs "__hash__" 0 ⟨[.none],[]⟩=pure (.none,[]) from rfl) ?_)
 refine wpAny_ret_mkInt ?_
 dsimp only
 unfold pyHashByItsType.reduced
 rw[Aq4 (by decide)]
 exact Aq0 h
theorem KeyV.reads {h:Heap}{d:PyData}{v:Value} (k:KeyV h d v):(∃ as,Reads h v d as)/\d.canLay0=true/\d.depth<=7/\(kOk d=true\/d=.none):=by
 rcases k with ⟨rfl,rfl⟩|⟨a,rfl,h1,h2,_,r⟩
 ·exact⟨⟨[],.none⟩,rfl,by decide,.inr rfl⟩
 ·exact⟨r,Ej h1,by have:=Jf h1;lia,.inl h1⟩
theorem Am2 {d e:PyData} (h:kOk d=true\/d=.none) (h':kOk e=true\/e=.none):PyData.eqv d e=decide (d=e):=by
 rcases h with h|rfl
 ·rcases h' with h'|rfl
  ·exact Ab2 h h'
  ·cases d<;>first|(simp[kOk] at h;done)|(simp[PyData.eqv];done)
 ·rcases h' with h'|rfl
  ·cases e<;>first|(simp[kOk] at h';done)|(simp[PyData.eqv];done)
  ·simp[PyData.eqv]
theorem KeyV.eq {d e:PyData}{v u:Value} (hu:A.units+20 < cLine) (k:KeyV s.heap d v) (k':KeyV s.heap e u):Aoz prog w A s v u (decide (d=e)):=by
 intro Q E q
 obtain⟨⟨as,r⟩,c1,c2,c3⟩:=k.reads
 obtain⟨⟨bs,r'⟩,c1',c2',c3'⟩:=k'.reads
 refine SeqAt.eqBoolOverData _ _ _ _ _ _ _ _ _ _ _ _ r r' c1 c1' (by lia) ?_
 rw[Am2 c3 c3'];exact q
theorem KeyV.quiet {d:PyData}{v:Value} (k:KeyV s.heap d v):O2 prog w A s v:=by
 intro Q E q
 rcases k with ⟨rfl,rfl⟩|⟨a,rfl,h1,h2,_,as,r⟩
 ·rw[eqIsQuiet_byValue _ rfl];exact Aq0 q
 ·exact (Nn _).out h1 (by lia) r q
theorem KeyV.hash {d:PyData}{v:Value} (hu:A.units+20 < cLine) (k:KeyV s.heap d v) {Q:Int->Shared->Prop} (q:Q (kHN w d) { s with toks:=s.toks+kDN d }):wpAny (model prog w) A (pyHash v) Q E s:=by
 rcases k with ⟨rfl,rfl⟩|⟨a,rfl,h1,h2,⟨ds,rfl⟩,as,r⟩
 ·exact Xg q
 ·exact (To _).out h1 (by lia) r q
end
end TX
end L2
end S_DX6
section S_DX7
namespace L2
namespace TX
open PySem PySem.Spec PyProof.Rows
abbrev RowN:=PyData×Value×Value
def Ab1 (w:World) (x:RowN):DictEntry:=⟨kHN w x.1,x.2.1,x.2.2⟩
def ObN (w:World) (o:Obj) (xs:List RowN):Prop:=o.ExactDict/\∃ es ep,o.data=.dict es ep/\es.toList=xs.map (Ab1 w)/\(xs.map (·.1)).Nodup
def LayN (w:World) (h:Heap) (d:Addr) (xs:List RowN):Prop:=∃ o,h.get? d=some o/\ObN w o xs/\∀ x∈xs,KeyV h x.1 x.2.1
noncomputable def valN (xs:List RowN) (k:PyData):Option Value:=(xs.find? fun x=>decide (x.1=k)).map (·.2.2)
theorem Afg {xs:List RowN}{k:PyData} (hn:(xs.map (·.1)).Nodup) {i:Nat}{x:RowN} (h:xs[i]?=some x) (e:x.1=k):valN xs k=some x.2.2:=by
 unfold valN
 induction xs generalizing i with
 |nil=>simp at h
 |cons y ys ih =>
  rw[Ara,List.nodup_cons] at hn
  rw[List.find?_cons]
  cases i with
  |zero=>simp at h;subst h;simp[e]
  |succ i =>
   rw[Arq] at h
   have hy:¬ y.1=k:=fun z=>hn.1 (by rw[z,<- e];exact List.mem_map.mpr ⟨x,Ard h,rfl⟩)
   rw[Art hy]
   exact ih hn.2 h
theorem Afh {xs:List RowN}{k:PyData} (h:∀ x∈xs,x.1≠k):valN xs k=none:=by
 unfold valN
 rw[List.find?_eq_none.mpr (fun x hx=>by simpa using h x hx)]
 rfl
section
variable {prog:Program}{w:World}{A:Around}{E:Value->Shared->Prop}{s:Shared}
theorem Nt {es:Array DictEntry}{xs:List RowN} (h:es.toList=xs.map (Ab1 w)) (i:Nat):es[i]?=(xs[i]?).map (Ab1 w):=by
 rw[<- Array.getElem?_toList,h,Ari]
theorem Z2 {d:Addr}{key:Value}{k:PyData}{o:Obj}{xs:List RowN}{Q:Option Nat->Shared->Prop} (hu:A.units+20 < cLine) (ho:s.heap.get? d=some o) (hb:ObN w o xs) (hx:∀ x∈xs,KeyV s.heap x.1 x.2.1) (hk:KeyV s.heap k key) (hn:k=.none->∀ x∈xs,x.1≠.none)
  (hno:(∀ x∈xs,x.1≠k)->Q none s) (hyes:∀ (i:Nat) x,xs[i]?=some x->x.1=k->Q (some i) s):wpAny (model prog w) A (dictFind d key (kHN w k)) Q E s:=by
 obtain⟨_,es,ep,hd,he,nd⟩:=hb
 have at':∀ {i:Nat}{e:DictEntry},es[i]?=some e->∃ x,xs[i]?=some x/\x∈xs/\e=Ab1 w x:=fun {i e} h=>by
  rw[Nt he] at h
  obtain⟨x,h1,h2⟩:=Option.map_eq_some_iff.mp h
  exact⟨x,h1,Ard h1,h2.symm⟩
 have inj:∀ {i j:Nat}{x y:RowN},xs[i]?=some x->xs[j]?=some y->x.1=y.1->i=j:=fun {i j x y} h1 h2 e=>by
  have g1:(xs.map (·.1))[i]?=some x.1:=by rw[Ari,h1];rfl
  have g2:(xs.map (·.1))[j]?=some x.1:=by rw[Ari,h2,e];rfl
  exact (List.getElem?_inj (List.getElem?_eq_some_iff.mp g1).1 nd).mp (g1.trans g2.symm)
 refine Xa (tt:=fun i=>((xs[i]?).map fun x=>decide (x.1=k)).getD false) ho hd ⟨hk.quiet,fun i e h=>?_,fun i e h _=>?_,fun i j e f h1 h2 _ _ t1 t2=>?_⟩ ?_ (fun hz=>hno fun x hm z=>?_) (fun i e h _ t=>?_)
 ·obtain⟨x,_,hm,rfl⟩:=at' h
  exact (hx x hm).quiet
 ·obtain⟨x,h1,hm,rfl⟩:=at' h
  rw[h1]
  exact (hx x hm).eq hu hk
 ·obtain⟨x,g1,_,rfl⟩:=at' h1
  obtain⟨y,g2,_,rfl⟩:=at' h2
  simp[g1] at t1
  simp[g2] at t2
  exact inj g1 g2 (t1.trans t2.symm)
 ·have mm:∀ e∈es,∃ x∈xs,e=Ab1 w x:=fun e h=>by
   obtain⟨i,h⟩:=Array.getElem?_of_mem h
   obtain⟨x,_,hm,z⟩:=at' h
   exact⟨x,hm,z⟩
  rcases hk with ⟨rfl,rfl⟩|⟨a,rfl,ha⟩
  ·refine .inr ⟨rfl,fun e h=>?_⟩
   obtain⟨x,hm,rfl⟩:=mm e h
   rcases hx x hm with ⟨z,_⟩|⟨b,z,_⟩
   ·exact absurd z (hn rfl x hm)
   ·exact⟨b,z⟩
  ·refine .inl ⟨a,rfl,fun e h z=>?_⟩
   obtain⟨x,hm,rfl⟩:=mm e h
   rcases hx x hm with ⟨z1,z2⟩|⟨b,z1,hb⟩
   ·have:x.2.1=.ref a:=z
    rw[z2] at this
    cases this
   ·have z:x.2.1=.ref a:=z
    rw[z1] at z
    cases z
    show kHN w x.1=kHN w k
    congr 1
    obtain⟨q1,_,_,as,r⟩:=ha
    obtain⟨q2,_,_,bs,r'⟩:=hb
    exact SeqAt.Reads.unique _ _ _ _ _ (Ej q2) r' r
 ·obtain⟨i,hi⟩:=Asv hm
  have:=hz i (Ab1 w x) (by rw[Nt he,hi];rfl) (by show kHN w x.1=_;rw[z])
  simp[hi,z] at this
 ·obtain⟨x,h1,hm,rfl⟩:=at' h
  simp[h1] at t
  exact hyes i x h1 t
theorem Ahl {d a:Addr}{k:PyData}{xs:List RowN}{Q:Option Value->Shared->Prop} (hu:A.units+20 < cLine) (L:LayN w s.heap d xs) (hk:Rh s.heap k a) (h:Q (valN xs k) { s with toks:=s.toks+kDN k }):wpAny (model prog w) A (dictGet d (.ref a)) Q E s:=by
 obtain⟨o,ho,hb,hx⟩:=L
 have hkv:KeyV s.heap k (.ref a):=.inr ⟨a,rfl,hk⟩
 have kn:k≠.none:=fun z=>by subst z;exact absurd hk.1 (by simp[kOk])
 unfold dictGet
 refine Arw (Aqx (hkv.hash hu (Aqx ?_)))
 refine Z2 (s:={ s with toks:=s.toks+kDN k }) hu ho hb hx hkv (fun z=>absurd z kn) (fun hno=>?_) (fun i x h1 h2=>?_)
 ·rw[Afh hno] at h
  exact Aq0 h
 ·obtain⟨_,es,ep,hd,he,nd⟩:=hb
  rw[Afg nd h1 h2] at h
  refine Aqx (wpAny_dictEntries (s:={ s with toks:=s.toks+kDN k }) ho hd ?_)
  rw[Nt he,h1]
  exact Aq0 h
theorem set_n {d:Addr}{key v:Value}{k:PyData}{xs:List RowN}{Q:Unit->Shared->Prop} (hu:A.units+20 < cLine) (L:LayN w s.heap d xs) (hk:KeyV s.heap k key) (hnew:∀ x∈xs,x.1≠k) (hz:xs.length < 1000000)
  (h:∀ h',Heap.SameBut d s.heap h'->LayN w h' d (xs++[(k,key,v)])->Q () { s with heap:=h',toks:=s.toks+kDN k }):wpAny (model prog w) A (dictSet d key v) Q E s:=by
 obtain⟨o,ho,hb,hx⟩:=L
 unfold dictSet
 refine Arw (Aqx (hk.hash hu ?_))
 unfold dictSetHashed
 refine Arw (Aqx ?_)
 refine Z2 (s:={ s with toks:=s.toks+kDN k }) hu ho hb hx hk (fun z x hm=>by subst z;exact hnew x hm) (fun _=>?_) (fun i x h1 h2=>absurd h2 (hnew x (Ard h1)))
 obtain⟨hc,es,ep,hd,he,nd⟩:=hb
 have hl:es.size=xs.length:=by rw[<- Asy,he,Arj]
 have kp:∀ {d':PyData}{v':Value}{h':Heap},Heap.SameBut d s.heap h'->KeyV s.heap d' v'->KeyV h' d' v':=fun {d' v' h'} sb q=>by
  rcases q with q|⟨a,q1,h1,h2,h3,as,r⟩
  ·exact .inl q
  ·exact .inr ⟨a,q1,h1,h2,h3,as,G6 ho hd sb h1 r⟩
 refine Aqx (wpAny_rule (wpAny_updateDictKeys (hz:=by have:=Aso;lia) (s:={ s with toks:=s.toks+kDN k }) ho hd ?_))
 refine h _ (Heap.SameBut.update ..) ⟨_,Asw _ ho (Obj.isFreed_of_dict (Obj.data_mapDictKeys hd _)),⟨hc.mapDictKeys _,_,ep+1,Obj.data_mapDictKeys hd _,?_,?_⟩,fun x hm=>?_⟩
 ·simp[he,Ab1]
 ·rw[List.map_append,List.nodup_append]
  refine⟨nd,by simp,fun x hx y hy=>?_⟩
  obtain⟨r,h1,rfl⟩:=List.mem_map.mp hx
  rw[Ara,As6,List.mem_singleton] at hy
  rw[hy]
  exact hnew r h1
 ·rcases List.mem_append.mp hm with hm|hm
  ·exact kp (Heap.SameBut.update ..) (hx x hm)
  ·rw[List.mem_singleton.mp hm]
   exact kp (Heap.SameBut.update ..) hk
theorem lay_type {d:Addr}{xs:List RowN} (L:LayN w s.heap d xs):s.TypeIs (.ref d) "dict":=let ⟨o,ho,hb,_⟩:=L;⟨o,ho,hb.1.1⟩
theorem in_n {d a:Addr}{k:PyData}{xs:List RowN}{Q:Value->Shared->Prop} (hu:A.units+21 < cLine) (hm:(d == sysModules)=false) (L:LayN w s.heap d xs) (hk:Rh s.heap k a) (h:Q (.bool (valN xs k).isSome) { s with toks:=s.toks+kDN k }):wpAny (model prog w) A (compareOp .In (.ref a) (.ref d)) Q E s:=by
 have hT:=lay_type L
 show wpAny _ _ (do return .bool (<- contains (.ref d) (.ref a))) Q E s
 refine Aqx ?_
 unfold contains
 refine Arw (Aqx (As2 hT slot_dict_contains.lookup ?_))
 dsimp only
 rw[Aq7 (by rw[beq_builtin_none];exact Arc)]
 refine Aqx (wpAny_callSpecialUnlessNone?_slot (name:=Str.ofString "__contains__") hT slot_dict_contains (Asb slot_dict_contains hT entry_dict_contains ?_ (args_dict_contains _ _)))
 show wpAny _ _ (dictGet d (.ref a) >>= _) _ _ s
 refine Aqx (Ahl (by show A.units+1+_ < _;lia) L hk ?_)
 cases q:valN xs k with
 |some p =>
  rw[q] at h
  exact Aq0 ⟨_,rfl,Asn (Aq0 h)⟩
 |none =>
  rw[q] at h
  exact Aqx (wpAny_pendingKey_other hm (Aq0 ⟨_,rfl,Asn (Aq0 h)⟩))
theorem item_n {d a:Addr}{k:PyData}{v:Value}{xs:List RowN}{Q:Value->Shared->Prop} (hu:A.units+21 < cLine) (L:LayN w s.heap d xs) (hk:Rh s.heap k a) (hv:valN xs k=some v) (h:Q v { s with toks:=s.toks+kDN k }):wpAny (model prog w) A (getItem (.ref d) (.ref a)) Q E s:=by
 have hT:=lay_type L
 unfold getItem
 refine Arw (Aqx (wpAny_sequenceKey hT (by decide) ?_))
 refine Aqx (Ase (name:=Str.ofString "__getitem__") hT slot_dict_getitem (Asb slot_dict_getitem hT entry_dict_getitem ?_ (args_dict_getitem _ _)))
 show wpAny _ _ (dictGet d (.ref a) >>= _) _ _ s
 refine Aqx (Ahl (by show A.units+1+_ < _;lia) L hk ?_)
 rw[hv]
 exact Aq0 ⟨v,rfl,Aq0 h⟩
end
end TX
end L2
end S_DX7
section S_MNa
namespace L2
namespace TX
open PySem PySem.Spec PyProof.Rows
section
variable {prog:Program}{w:World}{A:Around}{R:Result->Shared->Prop}{I S:Addr}{fp wr:List Addr}{n:Nat}{P:Nat->Value->Prop}{St:Nat->Heap->Prop}{C:Shared->Prop}{bt:Nat->Nat->Bool}
structure CmpC (prog:Program) (w:World) (A:Around) (P:Nat->Value->Prop) (bt:Nat->Nat->Bool) (C:Shared->Prop) (wr:List Addr) (S:Addr):Prop where
 cmp:∀ i j vi vj (s:Shared) (Q:Value->Shared->Prop) (E:Value->Shared->Prop),C s->P i vi->P j vj->Q (.bool (bt i j)) s->wpAny (model prog w) A (richCompare .Lt vi vj) Q E s
 keep:∀ s h' tk,C s->(∀ b o,b∉wr->b≠S->s.heap.get? b=some o->h'.get? b=some o)->C { s with heap:=h',toks:=tk }
theorem X2:(toString "min"++toString ".loop":String)="min.loop":=by decide
theorem Ahx (W:Walks prog w A.in1 I fp wr n P St) (K:CmpC prog w A.in1 P bt C wr S) (hSf:S∉fp):∀ (k j:Nat) (s:Shared) (vb:Value) (c:Nat),n - (j+1)=k->j+1<=n->St (j+1) s.heap->C s->P (argBest bt j) vb ->
  s.heap.get? S=some { cls:=.type "list",dict:=none,data:=.seq #[vb,vb] c,slots:=#[] } ->
  (∀ v h' tk,P (argBest bt (n - 1)) v->(∀ b o,b∉wr->b≠S->s.heap.get? b=some o->h'.get? b=some o)->R (.ok (.ret v)) { s with heap:=h',toks:=tk }) ->
  codeAny (model prog w) A (.builtin "min.loop" ⟨[.ref I,.none,.ref S],[]⟩) R s:=by
 have hSw:S∉wr:=fun h=>hSf (W.sub _ h)
 intro k
 induction k with
 |zero =>
  intro j s vb c hk hj hst hC hPb hS hR
  have hin:j+1=n:=by lia
  refine codeAny_builtin PySem.F.entry_min_loop ?_
  rw[Around.under_plainId PySem.F.plain_min_loop _]
  refine Aqx (As0 hS rfl (Aqx (wpAny_tryCatch (W.done s _ _ (hin ▸ hst) fun h' tk hk'=>Aqx (wpAny_updateSeq (hk' S _ hSw hS) rfl (Aqx (wpAny_letGo (Aq0 ?_))))))))
  exact hR vb _ tk (by rw[<- hin];exact hPb) fun b o hbw hbS e=>(Arh _ _ (Asc hbS)).trans (hk' b o hbw e)
 |succ k ih =>
  intro j s vb c hk hj hst hC hPb hS hR
  have hlt:j+1 < n:=by lia
  refine codeAny_builtin PySem.F.entry_min_loop ?_
  rw[Around.under_plainId PySem.F.plain_min_loop _]
  refine Aqx (As0 hS rfl (Aqx (wpAny_tryCatch (W.item (j+1) s _ _ hlt hst fun v h' tk hP hst' hk'=>?_))))
  have hS':=hk' S _ hSw hS
  have hC':C { s with heap:=h',toks:=tk }:=K.keep s h' tk hC fun b o hb _ e=>hk' b o hb e
  refine Aqx (Aq0 (Aqx (wpAny_tryCatch (Arw (Aqx (K.cmp (j+1) (argBest bt j) v vb _ _ _ hC' hP hPb ?_))))))
  refine Aqx (Arw (Asn (Aqx (wpAny_letGo (Aq0 ?_)))))
  cases hb:bt (j+1) (argBest bt j) with
  |true =>
   rw[Aq4 rfl]
   refine Aqx (wpAny_updateSeq hS' rfl (Aqx (wpAny_letGo ?_)))
   rw[X2]
   refine Aq0 ⟨plainId_quiet PySem.F.plain_min_loop _,ih (j+1) _ v _ (by lia) hlt (W.frame _ _ _ hst' fun b hbf o e=>?_) (K.keep _ _ tk hC' fun b o _ hbS e=>(Arh _ _ (Asc hbS)).trans e) (by simp only[argBest,hb,Ate];exact hP) (Asw _ hS' rfl)
    fun v' h'' tk'' hP' hk''=>hR v' h'' tk'' hP' fun b o hbw hbS e=>hk'' b o hbw hbS ((Arh _ _ (Asc hbS)).trans (hk' b o hbw e))⟩
   exact (Arh _ _ (fun h:S=b=>hSf (by rw[h];exact hbf))).trans e
  |false =>
   rw[Aq7 Arc]
   refine Aqx (wpAny_letGo ?_)
   rw[X2]
   exact Aq0 ⟨plainId_quiet PySem.F.plain_min_loop _,ih (j+1) _ vb c (by lia) hlt hst' hC' (by simp only[argBest,hb,Ar7,As1];exact hPb) hS' fun v' h'' tk'' hP' hk''=>hR v' h'' tk'' hP' fun b o hbw hbS e=>hk'' b o hbw hbS (hk' b o hbw e)⟩
end
section
variable {prog:Program}{w:World}{A:Around}{E:Value->Shared->Prop}{s:Shared}
theorem min_list {l:Addr}{its:Array Value}{bt:Nat->Nat->Bool}{Q:Value->Shared->Prop} (hh:A.handled=none) (hl:s.heap.IsList l its) (hn:0 < its.size)
  (hc:∀ i j vi vj (s':Shared) (Q:Value->Shared->Prop) (E:Value->Shared->Prop),(∃ h' tk,s'={ s with heap:=h',toks:=tk }/\∀ b o,s.heap.get? b=some o->h'.get? b=some o)->its[i]?=some vi->its[j]?=some vj->Q (.bool (bt i j)) s'->wpAny (model prog w) A.in1 (richCompare .Lt vi vj) Q E s')
  (h:∀ v h' tk,its[argBest bt (its.size - 1)]?=some v->(∀ b o,s.heap.get? b=some o->h'.get? b=some o)->Q v { s with heap:=h',toks:=tk }):wpAny (model prog w) A (call (.builtin "min") [.ref l]) Q E s:=by
 refine call_function_tree PySem.F.kind_min PySem.F.plain_min PySem.F.entry_min (PySem.F.args_min1 _) ?_
 refine Aqx (wpAny_of_eq (show Builtin.Builtins.bindParams "min" ["key","default"] 0 ⟨[],[]⟩=pure [none,none] from rfl) (Aqx (Aq0 (Aqx (wpAny_pyIter_list hl ?_)))))
 refine Aqx (Asf ?_)
 rw[X2]
 have hlt:l < s.heap.objs.size:=by obtain⟨o,e,_⟩:=hl;exact Aq9 e
 have hps:∀ o:Obj,(s.heap.push o).objs.size=s.heap.objs.size+1:=fun o=>by simp[Heap.push]
 have W:=Walks.list (prog:=prog) (w:=w) (A:=A.in1) hh s.heap.objs.size l (Aro hlt) its
 have hl2:∀ b,b∈[s.heap.objs.size,l]->b < s.heap.objs.size+1:=fun b hb=>by
  rcases List.mem_cons.mp hb with h|h
  ·exact Nat.lt_succ_of_le (Nat.le_of_eq h)
  ·rw[List.mem_singleton.mp h];exact Asr hlt
 generalize hit:(⟨.type "list_iterator",none,.fields #[.ref l,.int 0 0],#[]⟩:Obj)=oi
 have hSz:(s.heap.push oi).objs.size∉[s.heap.objs.size,l]:=fun h=>by have:=hl2 _ h;rw[hps] at this;exact Ary _ this
 have hkp:∀ b o,s.heap.get? b=some o->((s.heap.push oi).push { cls:=.type "list",data:=.seq #[] }).get? b=some o:=fun b o e=>Aq1 _ (Aq1 _ e)
 have hlow:∀ b o,s.heap.get? b=some o->b∉[s.heap.objs.size]/\b≠(s.heap.push oi).objs.size:=fun b o e=>by
  have:=Aq9 e
  rw[hps]
  refine⟨fun z=>?_,Aro (Asr this)⟩
  rw[List.mem_singleton.mp z] at this
  exact Ary _ this
 refine Aq0 ⟨plainId_quiet PySem.F.plain_min_loop _,?_⟩
 have hS:((s.heap.push oi).push { cls:=.type "list",data:=.seq #[] }).get? (s.heap.push oi).objs.size=some { cls:=.type "list",data:=.seq #[] }:=Are _ rfl
 refine codeAny_builtin PySem.F.entry_min_loop ?_
 rw[Around.under_plainId PySem.F.plain_min_loop _]
 refine Aqx (As0 hS rfl (Aqx (wpAny_tryCatch (W.item 0 _ _ _ hn ⟨⟨oi,Aq1 _ (Are _ (by rw[<- hit];rfl)),by rw[<- hit],by rw[<- hit];rfl⟩,?_⟩ fun v h' tk hP hst' hk'=>?_))))
 ·exact hl.at fun o e=>hkp _ _ e
 have hS':=hk' _ _ (fun z=>hSz (List.mem_cons.mpr (.inl (List.mem_singleton.mp z)))) hS
 refine Aqx (Aq0 (Aqx (wpAny_updateSeq hS' rfl ?_)))
 rw[X2]
 refine Aq0 ⟨plainId_quiet PySem.F.plain_min_loop _,?_⟩
 refine Ahx (C:=fun s'=>∃ h' tk,s'={ s with heap:=h',toks:=tk }/\∀ b o,s.heap.get? b=some o->h'.get? b=some o) W ⟨hc,fun s' h2 tk2 ⟨h3,tk3,e1,e2⟩ kp=>?_⟩ hSz _ 0 _ v _ rfl hn (W.frame _ _ _ hst' fun b hbf o e=>?_) ⟨_,_,rfl,fun b o e=>?_⟩ hP (Asw _ hS' rfl) fun v' h'' tk'' hP' hk''=>?_
 ·subst e1
  exact⟨h2,tk2,rfl,fun b o e=>kp b o (hlow b o e).1 (hlow b o e).2 (e2 b o e)⟩
 ·exact (Arh _ _ (fun h:_=b=>hSz (by rw[h];exact hbf))).trans e
 ·exact (Arh _ _ (Asc (hlow b o e).2)).trans (hk' b o (hlow b o e).1 (hkp b o e))
 ·exact h v' h'' tk'' hP' fun b o e=>hk'' b o (hlow b o e).1 (hlow b o e).2 ((Arh _ _ (Asc (hlow b o e).2)).trans (hk' b o (hlow b o e).1 (hkp b o e)))
end
end TX
end L2
end S_MNa
section S_ENT
namespace L2
namespace TX
open PySem PySem.Spec PyProof.Rows
open AutoSeq1 (wpAny_loadPart')
section
variable {prog:Program}{w:World}{A:Around}{E:Value->Shared->Prop}{s:Shared}
theorem Pr {it t:Addr}{i:Nat}{items:Array Value}{x:Value}{Q:Value->Shared->Prop} (hit:s.heap.IsTupleIter it t i) (ht:s.heap.IsTuple t items) (hx:items[i]?=some x)
  (q:∀ h',h'.IsTupleIter it t (i+1)->Heap.SameBut it s.heap h'->Q x { s with heap:=h' }):wpAny (model prog w) A (Builtin.SmallTypes.nextOf (.ref it)) Q E s:=by
 obtain⟨o,ho,hc,hd⟩:=id hit
 obtain⟨ol,hol,_,nl,hdl⟩:=ht
 unfold Builtin.SmallTypes.nextOf
 refine Aqx (Ase (name:=Str.ofString "__next__") hit.typeIs PySem.F.slot_tuple_iterator_next (Asb PySem.F.slot_tuple_iterator_next hit.typeIs PySem.F.entry_tuple_iterator_next ?_ (PySem.F.args_tuple_iterator_next_1 _)))
 refine Aqx (wpAny_of_eq (show slotArgs "__next__" 0 ⟨[.ref it],[]⟩=pure (.ref it,[]) from rfl) (Aqx (Atb ho hd (x:=.ref t) rfl ?_)))
 dsimp only
 rw[Aq7 (show ¬ ((Value.ref t == Value.none)=true) from Arc)]
 refine Aqx (Atb ho hd (x:=.int i 0) rfl (Aqx (As0 hol hdl ?_)))
 simp only[Int.toNat_natCast,hx]
 refine Aqx (wpAny_setField ho hd (by simp) (Aq0 ⟨x,rfl,Aq0 (q _ ⟨_,Asw _ ho (Obj.isFreed_of_fields (Obj.data_mapFields hd _)),(Obj.cls_mapFields ..).trans hc,?_⟩ (Heap.SameBut.update ..))⟩))
 rw[Obj.data_mapFields hd];simp[rawInt]
theorem L1 {it t:Addr}{i:Nat}{items:Array Value}{Q:Value->Shared->Prop} (hh:A.handled=none) (hit:s.heap.IsTupleIter it t i) (ht:s.heap.IsTuple t items) (hx:items[i]?=none)
  (q:∀ h' e,Heap.ExtBut it s.heap h'->(∃ o,h'.get? e=some o/\o.cls=.type "StopIteration")->E (.ref e) { s with heap:=h' }):wpAny (model prog w) A (Builtin.SmallTypes.nextOf (.ref it)) Q E s:=by
 obtain⟨o,ho,hc,hd⟩:=id hit
 obtain⟨ol,hol,_,nl,hdl⟩:=ht
 unfold Builtin.SmallTypes.nextOf
 refine Aqx (Ase (name:=Str.ofString "__next__") hit.typeIs PySem.F.slot_tuple_iterator_next (Asb PySem.F.slot_tuple_iterator_next hit.typeIs PySem.F.entry_tuple_iterator_next ?_ (PySem.F.args_tuple_iterator_next_1 _)))
 refine Aqx (wpAny_of_eq (show slotArgs "__next__" 0 ⟨[.ref it],[]⟩=pure (.ref it,[]) from rfl) (Aqx (Atb ho hd (x:=.ref t) rfl ?_)))
 dsimp only
 rw[Aq7 (show ¬ ((Value.ref t == Value.none)=true) from Arc)]
 refine Aqx (Atb ho hd (x:=.int i 0) rfl (Aqx (As0 hol hdl ?_)))
 simp only[Int.toNat_natCast,hx]
 refine Aqx (wpAny_rule (Aqx (wpAny_setField ho hd (by simp) (Aqx ?_))))
 simp only[newExc,newTuple]
 refine Aqx (Asf (Aqx (m:=firstArgMember _ _) (wpAny_of_eq (a:=Value.none) (by first|rfl|(simp only[firstArgMember];rfl)) (Asf ?_ (by size_fits)))) (by size_fits))
 simp only[raiseNew]
 refine Aqx (wpAny_handled ?_)
 first|rw[show A.in1.handled=none from hh]|rw[hh]
 exact Aqx (Aq0 (wpAny_throw (q _ _ (((Heap.SameBut.update ..).extBut.push _).push _) ⟨_,Are _ rfl,rfl⟩)))
theorem draws_tup (hh:A.handled=none) (it t:Addr) (hne:t≠it) (items:Array Value):Draws prog w A it [it,t] items.size (fun i v=>items[i]?=some v) (fun i h=>h.IsTupleIter it t i/\h.IsTuple t items) where
 live:=fun _ _ st=>let ⟨o,ho,_⟩:=st.1;⟨o,ho⟩
 frame:=fun _ _ _ st hk=>⟨st.1.at fun o e=>hk it (by simp) o e,st.2.at fun o e=>hk t (by simp) o e⟩
 item:=fun i s Q E hi st hQ=>Pr st.1 st.2 (x:=items[i]) (by simp[hi]) fun h' hit' hs'=>hQ _ h' s.toks (by simp[hi]) ⟨hit',st.2.at fun o e=>(hs'.2 t hne).trans e⟩ hs'
 done:=fun s Q E st hE=>L1 hh st.1 st.2 (by simp) hE
end
set_option tactic.hygienic true in
theorem R9 (l:Addr) (items:Array Value) (n:Nat) (dct:Option Addr) (sl:Array (Option Value)) :
  Meets (Builtin.«enumerate.__new__» ⟨[.type "enumerate",.ref l],[]⟩) (fun _ R s=>s.heap.get? l=some { cls:=.type "tuple",dict:=dct,data:=.seq items n,slots:=sl } /\
   R (.ok (.ret (.ref (s.heap.push { cls:=.type "tuple_iterator",data:=.fields #[.ref l,.int 0 0] }).objs.size)))
    { s with heap:=(s.heap.push { cls:=.type "tuple_iterator",data:=.fields #[.ref l,.int 0 0] }).push { cls:=.type "enumerate",data:=.fields #[.none,.bool false,.ref s.heap.objs.size,rawInt 0,.none,.none] } }) :=
 .of_wp fun prog w A R s h=>by
  obtain⟨hp,g,d,tk,os⟩:=s;obtain⟨hl,h⟩:=h
  have hsub:=sub_enumerate
  have hL:Heap.IsTuple (Shared.heap ⟨hp,g,d,tk,os⟩) l items:=⟨_,hl,rfl,n,rfl⟩
  wp_walk using wpAny_loadPart' hl
  refine wpAny_stack_any fun st=>Aq0 ?_
  split
  ·rename_i c _ _ _ _ _
   cases (c == Value.type "enumerate")<;>(wp_walk using wpAny_loadPart' hl,wpAny_pyIter_tuple hL;exact⟨_,rfl,h⟩)
  ·wp_walk using wpAny_loadPart' hl,wpAny_pyIter_tuple hL
   exact⟨_,rfl,h⟩
section
variable {prog:Program}{w:World}{A:Around}{E:Value->Shared->Prop}{s:Shared}
theorem call_enumT {l:Addr}{items:Array Value}{Q:Value->Shared->Prop} (hL:s.heap.IsTuple l items)
  (h:∀ h',IsEnum h' (s.heap.objs.size+1) s.heap.objs.size 0 .none->h'.IsTupleIter s.heap.objs.size l 0->h'.objs.size=s.heap.objs.size+2 ->
   (∀ b o,s.heap.get? b=some o->h'.get? b=some o)->Q (.ref (s.heap.objs.size+1)) { s with heap:=h' }):wpAny (model prog w) A (call (.type "enumerate") [.ref l]) Q E s:=by
 obtain⟨⟨c,dct,dt,sl⟩,hl,hc,n,hd⟩:=hL
 replace hc:c=.type "tuple":=hc
 replace hd:dt=.seq items n:=hd
 subst hc hd
 refine callType_new PySem.F.called_enumerate (by decide) (PySem.F.typeCall_enumerate_1 _) (PySem.F.newCall_enumerate_1 _) (fun obj=>PySem.F.args_object_init_2 obj _) PySem.F.entry_enumerate_new (R9 l items n dct sl) ⟨hl,?_⟩
 have hz:(s.heap.push { cls:=.type "tuple_iterator",data:=.fields #[.ref l,.int 0 0] }).objs.size=s.heap.objs.size+1:=Atd ..
 show _/\_
 rw[hz]
 have he:IsEnum ((s.heap.push { cls:=.type "tuple_iterator",data:=.fields #[.ref l,.int 0 0] }).push { cls:=.type "enumerate",data:=.fields #[.none,.bool false,.ref s.heap.objs.size,rawInt 0,.none,.none] }) (s.heap.objs.size+1) s.heap.objs.size 0 .none:=by
  have q:=Are (s.heap.push { cls:=.type "tuple_iterator",data:=.fields #[.ref l,.int 0 0] }) (o:={ cls:=.type "enumerate",data:=.fields #[.none,.bool false,.ref s.heap.objs.size,rawInt 0,.none,.none] }) rfl
  rw[hz] at q;exact q
 exact⟨⟨_,he,rfl⟩,h _ he ⟨_,Aq1 _ (Are _ rfl),rfl,rfl⟩ (by rw[Atd,hz]) fun b o x=>Aq1 _ (Aq1 _ x)⟩
theorem enumT_end {e it t:Addr}{i:Nat}{items:Array Value}{old:Value}{Q:Option Value->Shared->Prop} (hh:A.handled=none) (he:IsEnum s.heap e it i old) (hit:s.heap.IsTupleIter it t i) (ht:s.heap.IsTuple t items) (hx:items[i]?=none)
  (q:∀ h',Heap.ExtBut it s.heap h'->Q none { s with heap:=h' }):wpAny (model prog w) A (pyNext (.ref e)) Q E s:=by
 have hT:s.TypeIs (.ref e) "enumerate":=⟨_,he,rfl⟩
 unfold pyNext
 refine Aqx (wpAny_attempt (Ase (name:=Str.ofString "__next__") hT PySem.F.slot_enumerate_next (Asb PySem.F.slot_enumerate_next hT PySem.F.entry_enumerate_next ?_ (PySem.F.args_enumerate_next_1 _))))
 show wpAny _ _ (field (.ref e) 2 >>= _) _ _ _
 refine Aqx (Atb he rfl (x:=.ref it) rfl (Aqx (L1 (show A.in1.handled=none from hh) hit ht hx fun h' x he' hx'=>?_)))
 obtain⟨o,ho,hc⟩:=hx'
 exact Aqx (wpAny_isInstance (T:="StopIteration") (b:=true) ⟨o,ho,hc⟩ isSubtype_stop (Aq0 (q _ he')))
end
end TX
end L2
end S_ENT
section S_ML44
namespace L2
namespace ML
open PySem PySem.Spec PyProof.Rows
section
variable {X:Cx}{a b c e:Expr}{es:List Expr}{pos p:Pos}{f:FE}{g h:FL}
def Ale:D->D->MH->Option D:=oI fun i j=>some (.int (Builtin.bitAnd i j))
theorem Aiq:OpM X (binaryOp .BitAnd) Ale:=OpM.of Aiu (OpD.int0 fun i j z e H μ B=>by cases e;exact .int _)
set_option tactic.hygienic true in
theorem U7 {g:FL}{f:FE} (ha:QF X a g) (hb:QD X b f):QF X (.BinOp a .Mult b pos) (V8 g f):=⟨PE.imp (Adu Aag ha.out hb.out) fun σ H Q ⟨env,μ,m,d,S,E,h,q⟩=>by
 obtain⟨xs,h1,h⟩:=bind_some h
 obtain⟨y,h2,h⟩:=bind_some h
 cases y<;>first|exact Ag h|skip
 rename_i i
 simp only at h
 split at h
 ·rename_i hl
  cases h
  refine⟨env,μ,m,xs,S,E,h1,fun a ys H1 s1 hn ha1 r1=>⟨env,μ,m,.int i,S.same s1,E.same s1,h2,fun v H2 s2 r2=>?_⟩⟩
  cases r2
  refine⟨a,ys,i,rfl,rfl,s2 _ _ ha1,hl.1,hl.2.1,by rw[<- r1.length];exact hl.2.2,fun p hp=>q p _ _ ((s1.trans s2).trans (Bd hp)) ((s1.trans s2).free hp) A9 ?_⟩
  exact Reps.fresh (((Reps.rep r1 _).up (fun _ _ _ h=>h) (fun a u _ h b=>⟨h,fun z=>b (.inl z)⟩) (fun _ _ h=>h)).same s2) hp
 ·cases h⟩
noncomputable def Ala (t:FB) (f g:FL):FL:=fun env m=>(t env m).bind fun b=>if b=true then f env m else g env m
theorem Aog {t:FB} (hc:QB X c t) (ha:QF X a g) (hb:QF X b h):QF X (.IfExp c a b pos) (Ala t g h):=⟨PE.imp (Ol hc.out ha.out hb.out) fun σ H Q ⟨env,μ,m,z,S,E,h,q⟩=>by
 obtain⟨c,h1,h2⟩:=bind_some h
 refine⟨env,μ,m,c,S,E,h1,fun H1 s1=>?_⟩
 cases c with
 |true =>
  rw[Aq4 rfl] at h2 ⊢
  exact⟨env,μ,m,z,S.same s1,E.same s1,h2,fun a xs H2 s2 hn hl r2=>q a xs H2 (s1.trans s2) (s1.free hn) hl r2⟩
 |false =>
  rw[Aq7 Arc] at h2 ⊢
  exact⟨env,μ,m,z,S.same s1,E.same s1,h2,fun a xs H2 s2 hn hl r2=>q a xs H2 (s1.trans s2) (s1.free hn) hl r2⟩⟩
end
noncomputable def Na:D->List D->Option D
 |b,[]=>some b
 |b,d::ds=>(ltD d b).bind fun c=>Na (if c=true then d else b) ds
def Hn:List D->MH->Option D:=fun xs m=>match xs with
 |[x]=>(sqL m x).bind fun ds=>match ds with
  |d::ds=>if Ar (d::ds)=true/\Da (d::ds)<=20/\(∀ x∈d::ds,∀ y∈d::ds,ltD x y≠none) then Na d ds else none
  |[]=>none
 |_=>none
noncomputable def btD (L:List D) (i j:Nat):Bool:=(ltD (L.getD i .non) (L.getD j .non)).getD false
theorem Hr (bt:Nat->Nat->Bool):∀ j,argBest bt j<=j
 |0=>Aq5 _
 |j+1=>by
  rw[argBest]
  split
  ·exact Aq5 _
  ·exact Nat.le_succ_of_le (Hr bt j)
theorem Pp {L:List D} (hc:∀ x∈L,∀ y∈L,ltD x y≠none):∀ (k j:Nat),L.length - (j+1)=k->j < L.length->Na (L.getD (argBest (btD L) j) .non) (L.drop (j+1))=some (L.getD (argBest (btD L) (L.length - 1)) .non):=by
 have gm:∀ i,i < L.length->L.getD i .non∈L:=fun i hi=>by rw[Aqy,Aqz hi];exact Ar9 hi
 intro k
 induction k with
 |zero =>
  intro j hk hj
  have e:j=L.length - 1:=by lia
  rw[Atn (by lia),Na,e]
 |succ k ih =>
  intro j hk hj
  have hj1:j+1 < L.length:=by lia
  have hb:=Hr (btD L) j
  rw[Asl hj1,Na]
  have e1:L[j+1]=L.getD (j+1) .non:=by rw[Aqy,Aqz hj1];rfl
  rw[e1]
  cases q:ltD (L.getD (j+1) .non) (L.getD (argBest (btD L) j) .non) with
  |none=>exact absurd q (hc _ (gm _ hj1) _ (gm _ (by lia)))
  |some c =>
   have hbt:btD L (j+1) (argBest (btD L) j)=c:=by show (ltD _ _).getD false=c;rw[q];rfl
   rw[Ars,<- ih (j+1) (by lia) hj1]
   congr 1
   rw[argBest,hbt]
   cases c<;>rfl
section
variable {X:Cx}{e:Expr}{pos p:Pos}{g:FL}
theorem Abr (hr:Room k X.A):Iw X (.builtin "min") Hn:=by
 intro pins s σ H μ m xs z vs us Q I S rx rv e q
 obtain⟨x,rfl⟩:=Uj (o:=(Hn · m)) rfl (fun a _ _=>rfl) e
 obtain⟨L,h1,h2⟩:=bind_some e
 cases L with
 |nil=>cases h2
 |cons d ds =>
  simp only at h2
  split at h2
  ·rename_i hc
   obtain⟨v,rfl,r⟩:=rx.one
   obtain⟨u,rfl,ru⟩:=J2 rv
   obtain⟨ad,ys,rfl,hq,rs⟩:=Ha S r h1
   cases ru
   obtain⟨its,ri,hl,hz⟩:=I.list hq
   have hlen:its.length=(d::ds).length:=by rw[<- ri.length,<- rs.length]
   have hu:=hr.units
   have best:=Pp hc.2.2 ((d::ds).length - 1) 0 (by lia) (by simp)
   rw[show (d::ds).drop (0+1)=ds from rfl,show (d::ds).getD (argBest (btD (d::ds)) 0) .non=d from rfl,h2] at best
   have hz:z=(d::ds).getD (argBest (btD (d::ds)) ((d::ds).length - 1)) .non:=Arn best
   have at':∀ (i:Nat) (w:Value),its.toArray[i]?=some w->∃ y dd,ys[i]?=some y/\RelV y w/\(d::ds)[i]?=some dd/\Rep X.K H μ (·∈μ) dd y:=fun i w hw=>by
    have hi:i < its.length:=by
     have:=(Array.getElem?_eq_some_iff.mp hw).1
     simpa using this
    have hy:i < ys.length:=by rw[ri.length];exact hi
    obtain⟨w',e1,e2⟩:=ri.get (Aqz hy)
    obtain⟨dd,e3,e4⟩:=rs.getV (Aqz hy)
    have:w'=w:=by
     rw[List.getElem?_toArray] at hw
     rw[hw] at e1
     exact (Arn e1).symm
    subst this
    exact⟨_,dd,Aqz hy,e2,e3,e4⟩
   refine TX.min_list (bt:=btD (d::ds)) hr.hd hl.isList (by rw[Aq3,hlen];simp) (fun i j vi vj s' Q' E' hs hi hj hQ=>?_) fun v h' tk hv hk=>?_
   ·obtain⟨h',tk,rfl,hk⟩:=hs
    obtain⟨y1,d1,_,ry1,g1,rd1⟩:=at' i vi hi
    obtain⟨y2,d2,_,ry2,g2,rd2⟩:=at' j vj hj
    have m1:=Ard g1
    have m2:=Ard g2
    cases q2:ltD d1 d2 with
    |none=>exact absurd q2 (hc.2.2 _ m1 _ m2)
    |some c =>
     have hb:btD (d::ds) i j=c:=by
      unfold btD
      rw[Aqy,Aqy,g1,g2]
      show (ltD d1 d2).getD false=c
      rw[q2];rfl
     rw[hb] at hQ
     have p1:=Gj m1
     have p2:=Gj m2
     exact Z9 (I.kept (h':=h') (t':=tk) hk) d1 d2 rd1 rd2 (Bw hc.1 m1) (Bw hc.1 m2) ry1 ry2 (by have:=hc.2.1;show X.A.units+1+_+_ < _;lia) q2 _ _ _ _ hQ
   ·obtain⟨y,dd,_,ry,g1,rd⟩:=at' _ v hv
    have I1:Inv X pins σ H { s with heap:=h',toks:=tk }:=I.kept hk
    refine⟨y,H,I1,ry,q y H (Same.refl H) ?_⟩
    rw[hz]
    rw[Aq3,hlen] at g1
    rw[Aqy,g1]
    exact rd
  ·cases h2
theorem U5 (hr:Room k X.A) (hm:X.mg "min"=none) (ha:QL X [e] g) (hg:Gl X "min":=by unfold Gl;kernel_rfl) (he':Bo e=true:=by rfl):QD X (.Call (.Name "min" p) [e] [] pos) (A3 Hn g):=⟨Js (Abr hr) hg hm (by decide +kernel) ha.out (by decide) (by decide) (An he') rfl⟩
end
def Ao0 (K:W.Frag) (a:Addr):It :=
 ⟨fun i H=>∃ xs x,SqT K H a xs/\xs[i]?=some x,fun i H x H'=>∃ p y,H p=none/\x=.ref p/\H'=upd H p (.tup [.int i,y])/\∀ xs,SqT K H a xs->xs[i]?=some y,fun i H=>∃ xs,SqT K H a xs/\xs.length<=i⟩
theorem Ra {P:Program}{w:World}{K:W.Frag}{elts:List Expr}{x1:Nat}{pos:Pos} (a e it:Addr) (hne:e≠it):Turn P w K (.Tuple elts x1 pos) (Ao0 K a) [e,it] e (fun i h=>∃ old,IsEnum h e it i old/\h.IsTupleIter it a i) where
 mem:=by simp
 obj:=fun i h st b hb=>by
  obtain⟨old,he,o,e1,c,d⟩:=st
  rcases List.mem_cons.mp hb with z|hb
  ·subst z
   exact⟨_,he,fun v z=>by cases z⟩
  ·have z:b=it:=by simpa using hb
   subst z
   exact⟨o,e1,fun v z=>by rw[d] at z;cases z⟩
 keep:=fun i h h' st k=>by
  obtain⟨old,he,hi⟩:=st
  exact⟨old,k e (by simp) _ he,hi.at fun o e=>k it (by simp) o e⟩
 item:=by
  intro X hP hw hK hc i pins s σ H E I hf st hg
  subst hP hw hK
  obtain⟨old,he,hi⟩:=st
  obtain⟨xs,x,hq,hx⟩:=hg
  obtain⟨its,rv,p,hz⟩:=I.tuple hq
  obtain⟨u,hu,ru⟩:=rv.get hx
  have hilt:i < its.toArray.size:=by rw[Aq3];exact (List.getElem?_eq_some_iff.mp hu).1
  obtain⟨ot,hot,hct,nt,hdt⟩:=id p
  have n1:a≠it:=fun z=>by
   obtain⟨o,h1,h2,_⟩:=id hi
   rw[z] at hot
   rw[h1] at hot
   cases hot
   rw[h2] at hct
   exact absurd hct (by decide)
  have n2:e∉[it,a]:=fun z=>by
   rcases List.mem_cons.mp z with z|z
   ·exact hne z
   ·rw[List.mem_singleton.mp z] at he
    have:=he.symm.trans hot
    cases this
    exact absurd (show (Value.type "enumerate")=.type "tuple" from hct) (by decide)
  refine wpAny_pyNext_enum_itemD (TX.draws_tup (A:=X.A.in1) (I.ok.hd hc) it a n1 its.toArray) he ⟨hi,p⟩ hilt hne n2 fun x2 h1 tk hP ho1 hi1 ht1 hz1 hk1=>⟨_,rfl,?_⟩
  have e2:x2=u:=by
   have hP:its.toArray[i]?=some x2:=hP
   rw[List.getElem?_toArray,hu] at hP
   exact (Arn hP).symm
  subst e2
  refine wpAny_letOwnedTupleGo_enum ho1 fun h2 he2 hs2=>?_
  have hs2:Heap.SameBut e h1 h2:=hs2
  have hlt:e < s.heap.objs.size:=Aq9 he
  have ht2:h2.get? s.heap.objs.size=some { cls:=.type "tuple",data:=.seq #[.int i tk,x2] }:=(hs2.2 _ (Asz hlt)).trans ht1
  have I1:Inv X pins σ (upd H s.heap.objs.size (.tup [.int i,x])) { s with heap:=h2,toks:=tk+1 } :=
   Inv.turnLay (t':=tk+1) I hf (fun b o hb z=>(hs2.2 b (fun q=>hb (by simp[q]))).trans (hk1 b o (fun q=>hb (by simp[q])) (fun q=>hb (by simp[q])) z)) (Aq5 _)
    ⟨by simp[Aso],[.int i tk,x2],.cons ⟨_,rfl⟩ (.cons ru .nil),⟨_,ht2,rfl,_,rfl,rfl⟩⟩
  obtain⟨oi,hoi,ci,di⟩:=id hi1.1
  refine⟨.ref s.heap.objs.size,_,I1,rfl,⟨_,x,I.hok.fresh (Aq5 _),rfl,rfl,fun ys hy=>by rw[I.tuple_inj hy hq];exact hx⟩,⟨x2,he2,oi,(hs2.2 it (Asc hne)).trans hoi,ci,di⟩,fun b hb=>?_⟩
  have hbl:b < s.heap.objs.size:=by
   rcases List.mem_cons.mp hb with z|hb
   ·rw[z];exact hlt
   ·have z:b=it:=by simpa using hb
    rw[z]
    obtain⟨o,e1,_⟩:=hi
    exact Aq9 e1
  rw[Aw (Aro hbl)]
  exact (hf b hb).1
 done:=by
  intro X hP hw hK hc i pins s σ H E I hf st hg
  subst hP hw hK
  obtain⟨old,he,hi⟩:=st
  obtain⟨xs,hq,hx⟩:=hg
  obtain⟨its,rv,p,hz⟩:=I.tuple hq
  obtain⟨f0,f1,f2,f3,f4,f5⟩:=hf it (by simp)
  have hl:=rv.length
  exact TX.enumT_end (I.ok.hd hc) he hi p (by simp;lia) fun h' eb=>⟨rfl,I.turned (t':=s.toks) (fun b o hb e=>eb b o hb e) f0 f1 f3 f4 f5⟩
 self:=fun _ _ _ _ _ st h=>let ⟨_,he,_⟩:=st;wpAny_pyIter_enum he h
theorem Ve {K:W.Frag}{a:Addr}{ds:List D}:Src K (Ao0 K a) (Ei 0 ds) Av (fun H μ m=>Rep K H μ (·∈μ) (.tup ds) (.ref a)) where
 go:=fun H μ m i d S h hc e=>by
  cases h with
  |@tup _ _ xs hq rs =>
  obtain⟨y,hy,rfl⟩:=Li e
  obtain⟨v,hv,rv⟩:=rs.get hy
  refine⟨⟨xs,v,hq,hv⟩,fun x H' hy'=>?_⟩
  obtain⟨p,z,hp,rfl,rfl,hz⟩:=hy'
  have hz':=hz xs hq
  rw[hv] at hz'
  cases hz'
  exact⟨Bd hp,.tup (.inl (.inl A9)) (.cons (by rw[Nat.zero_add];exact .int _) (.cons (rv.same (Bd hp)) .nil))⟩
 stop:=fun H μ m S h hc=>by
  cases h with
  |@tup _ _ xs hq rs=>exact⟨xs,hq,by rw[Lj,rs.length];exact Aq5 _⟩
 keep:=fun H μ m H' μ' m' h S st S'=>h.step S st
section
variable {X:Cx}{e:Expr}{es:List Expr}{pos p tp:Pos}{x1:Nat}{elts:List Expr}
def O1 (g:FL):FW:=fun env m=>(g env m).bind fun xs=>match xs with
 |[.tup ds]=>some ⟨Ei 0 ds,Av⟩
 |_=>none
theorem Yo {g:FL} (hg:Gl X "enumerate") (hm:X.mg "enumerate"=none) (ha:PL X [e] g) (he:starEach [e] X.env=(false,eval e X.env)::starEach [] X.env):PW' X (.Tuple elts x1 tp) (.Call (.Name "enumerate" p) [e] [] pos) (O1 g):=by
 intro pins s σ H R I hw
 obtain⟨env,μ,m,w,S,E,hw,q⟩:=hw
 obtain⟨xs,h1,h2⟩:=bind_some hw
 refine Asu (Dq I hg hm boot_enumerate ?_ (by decide) (by decide))
 refine PyProof.Rows.callWith_type1 (thn (ha pos pins s σ H (fun vs H1=>Same H H1/\Reps X.K H1 μ (·∈μ) xs vs) I ⟨env,μ,m,xs,S,E,h1,fun v H1 s1 r1=>⟨s1,r1⟩⟩) fun us s1 ⟨vs,H1,I1,r1,s1',rx⟩=>?_) he (by rfl)
 match xs,h2 with
 |[.tup ds],h2 =>
  cases h2
  obtain⟨v,rfl,r⟩:=rx.one
  obtain⟨u,rfl,r2⟩:=J2 r1
  cases r with
  |@tup _ a ys hq rs =>
  cases r2
  obtain⟨its,rv,p,hz⟩:=I1.tuple hq
  refine TX.call_enumT p fun h' he' hi' hz' hk'=>wpAny_pyIter_enum he' ?_
  refine⟨s1.heap.objs.size+1,[s1.heap.objs.size+1,s1.heap.objs.size],_,_,H1,rfl,I1.kept (t':=s1.toks) hk',Ra a _ _ (Nat.succ_ne_self _),⟨_,he',hi'⟩,fun b hb=>?_,q H1 _ _ s1' Ve (.tup hq rs)⟩
  have hb':s1.heap.objs.size<=b:=by
   rcases List.mem_cons.mp hb with z|hb
   ·rw[z];exact Nat.le_succ _
   ·have z:b=s1.heap.objs.size:=by simpa using hb
    rw[z];exact Aq5 _
  exact I1.fpOk hb' (I1.hok.fresh hb')
theorem Zf (hm:X.mg "enumerate"=none) (ha:QL X [e] g) (hg:Gl X "enumerate":=by unfold Gl;kernel_rfl) (hs':Bo e=true:=by rfl):QW X (.Tuple elts x1 tp) (.Call (.Name "enumerate" p) [e] [] pos) (O1 g):=⟨Yo hg hm ha.out (An hs')⟩
end
open Classical
noncomputable section
def KeyR (K:W.Frag) (H:Hp) (d:PyData) (v:Value):Prop:=(d=.none/\v=.none)\/∃ b,v=.ref b/\KeyT K H d b
theorem KeyR.up {K:W.Frag}{H H':Hp} (ht:∀ b xs,Rd H b (.tup xs)->Rd H' b (.tup xs)) {d:PyData}{v:Value} (h:KeyR K H d v):KeyR K H' d v:=h.imp id fun⟨b,h1,h2⟩=>⟨b,h1,h2.up ht⟩
abbrev Ak4:Int->TX.RowN->Prop:=fun i x=>∃ t,x.2.2=.int i t
noncomputable def dN:Fz:=fun _ ps is K H a u=>(a == sysModules)=false/\∃ o xs,u=.frz o (.ext fun w _=>TX.ObN w o xs)/\xs.map (·.1)=ps/\Paired Ak4 is xs/\∀ x∈xs,KeyR K H x.1 x.2.1
theorem Amz:FzM dN:=fun ss ps is K H H' a u hk ⟨h0,o,xs,h1,h2,h3,h4⟩=>⟨h0,o,xs,h1,h2,h3,fun x hx=>(h4 x hx).up fun b ys r=>r.imp (fun z=>hk _ _ trivial z) fun⟨o,z⟩=>⟨o,hk _ _ trivial z⟩⟩
def Anl:D->Option PyData
 |.non=>some .none
 |.tup ds=>if Dx (.tup ds)=true then some (pyD (.tup ds)) else none
 |_=>none
def Mc:List D->Option (List (PyData×Int))
 |[]=>some []
 |.tup [k,.int i]::ds=>(Anl k).bind fun k=>(Mc ds).bind fun r=>some ((k,i)::r)
 |_=>none
def Gw:List D->MH->Option D:=fun xs m=>match xs with
 |[x]=>(sqL m x).bind fun ds=>(Mc ds).bind fun ps=>if (ps.map (·.1)).Nodup/\ps.length<=1000 then some (.fz dN [] (ps.map (·.1)) (ps.map (·.2))) else none
 |_=>none
noncomputable def getN:List PyData->List Int->PyData->Option Int
 |k::ks,i::is,x=>if k=x then some i else getN ks is x
 |_,_,_=>none
def Nf:D->D->MH->Option D:=fun x y _=>match x with
 |.fz φ _ ps is=>if φ=dN/\Dx y=true then (getN ps is (pyD y)).bind fun i=>some (.int i) else none
 |_=>none
def Ah8:D->D->MH->Option D:=fun x y _=>match y with
 |.fz φ _ ps _=>if φ=dN/\Dx x=true then some (.bl (decide (pyD x∈ps))) else none
 |_=>none
theorem O0:∀ {xs:List TX.RowN}{is:List Int}{k:PyData},Paired Ak4 is xs->(∀ i,getN (xs.map (·.1)) is k=some i->∃ t,TX.valN xs k=some (.int i t))/\(TX.valN xs k).isSome=decide (k∈xs.map (·.1)):=by
 intro xs is k h
 unfold TX.valN
 induction h with
 |nil=>exact⟨fun i h=>Ag h,by simp⟩
 |@cons i x is xs h t ih =>
  rw[Ara,getN,List.find?_cons]
  by_cases e:x.1=k
  ·rw[Ar5 e,Aq4 e]
   refine⟨fun j hj=>?_,by simp[e]⟩
   cases hj
   obtain⟨tk,z⟩:=h
   exact⟨tk,by rw[<- z];rfl⟩
  ·rw[Art e,Aq7 e]
   refine⟨ih.1,?_⟩
   rw[ih.2]
   simp[Asc e]
section
variable {X:Cx}{pins:List (Addr×Obj)}{σ:St}{H:Hp}{s:Shared}{μ:List Addr}{B:Addr->Prop}
theorem Acz {K:W.Frag}{d:D}{k:PyData}{v:V}{u:Value} (r:Rep K H μ B d v) (ru:RelV v u) (h:Anl d=some k):KeyR K H k u:=by
 cases d with
 |non=>cases h;cases r;exact .inl ⟨rfl,ru⟩
 |tup ds =>
  have h:(if Dx (.tup ds)=true then some (pyD (.tup ds)) else none)=some k:=h
  split at h
  ·rename_i hk
   cases h
   obtain⟨b,rfl,q⟩:=M8 r hk
   exact .inr ⟨b,ru,q⟩
  ·cases h
 |_=>exact Ag h
theorem KeyR.at (I:Inv X pins σ H s) {d:PyData}{v:Value} (h:KeyR X.K H d v):TX.KeyV s.heap d v:=by
 rcases h with h|⟨b,h1,h2⟩
 ·exact .inl h
 ·exact .inr ⟨b,h1,Tw I h2⟩
theorem Aop (I:Inv X pins σ H s):∀ {ds:List D}{xs:List V}{its:List Value}{ps:List (PyData×Int)},Reps X.K H μ B ds xs->Vals xs its->Mc ds=some ps ->
  ∃ T:List TX.RowN,ps.map (·.1)=T.map (·.1)/\Paired Ak4 (ps.map (·.2)) T/\T.length=its.length/\(∀ q∈T,KeyR X.K H q.1 q.2.1) /\
   ∀ (i:Nat) (v:Value),its[i]?=some v->∃ (q:TX.RowN) (a:Addr) (o:Obj) (c:Nat),T[i]?=some q/\v=.ref a/\s.heap.get? a=some o/\o.cls=.type "tuple"/\o.data=.seq #[q.2.1,q.2.2] c:=by
 intro ds
 induction ds with
 |nil=>intro xs its ps r rv h;cases r;cases rv;cases h;exact⟨[],rfl,.nil,rfl,(fun _ h=>absurd h (by simp)),fun i v h=>absurd h (by simp)⟩
 |cons d ds ih =>
  intro xs its ps r rv h
  cases r with
  |cons r rs =>
  cases rv with
  |cons rv1 rvs =>
  match d,r,h with
  |.tup [k,.int i],r,h =>
   obtain⟨kk,hk,h⟩:=bind_some h
   obtain⟨ps',h1,h2⟩:=bind_some h
   cases h2
   obtain⟨T,e1,e2,e3,e4,e5⟩:=ih rs rvs h1
   cases r with
   |@tup _ a zs hq rs' =>
    obtain⟨its',rz,⟨o,ho,hc,n,hd⟩,_⟩:=I.tuple hq
    cases rs' with
    |cons ra rs' =>
    cases rs' with
    |cons rb rs' =>
    cases rs'
    cases rb
    cases rz with
    |@cons _ ua _ _ ra1 rz =>
    cases rz with
    |cons rb1 rz =>
    cases rz
    obtain⟨t,rfl⟩:=rb1
    cases rv1
    refine⟨(kk,ua,.int i t)::T,by rw[Ara,Ara,e1],.cons ⟨t,rfl⟩ e2,by rw[Ark,Ark,e3],fun q hq=>?_,fun i v hv=>?_⟩
    ·rcases List.mem_cons.mp hq with rfl|hq
     ·exact Acz ra ra1 hk
     ·exact e4 q hq
    ·cases i with
     |zero=>simp at hv;subst hv;exact⟨_,a,o,n,rfl,rfl,ho,hc,hd⟩
     |succ i =>
      rw[Arq] at hv
      obtain⟨q,a',o',c',h1,h2⟩:=e5 i v hv
      exact⟨q,a',o',c',by rw[Arq];exact h1,h2⟩
theorem Vy (hr:Room k X.A):Iw X (.type "dict") Gw:=by
 intro pins s σ H μ m xs z vs us Q I S rx rv e q
 obtain⟨x,rfl⟩:=Uj (o:=(Gw · m)) rfl (fun a _ _=>rfl) e
 obtain⟨ds,h1,e⟩:=bind_some e
 obtain⟨ps,h2,e⟩:=bind_some e
 split at e
 ·rename_i hc
  cases e
  obtain⟨v,rfl,r⟩:=rx.one
  obtain⟨u,rfl,ru⟩:=J2 rv
  obtain⟨t,zs,rfl,hq,rs⟩:=Ha S r h1
  cases ru
  obtain⟨its,rz,hl,hz⟩:=I.list hq
  obtain⟨o,n,ho,hcl,hq1,hq2⟩:=id hl
  obtain⟨T,e1,e2,e3,e4,e5⟩:=Aop I rs rz h2
  have hu:=hr.units
  have hTl:T.length<=1000:=by have:=Asd List.length e1;simp at this;lia
  have nd:(T.map (·.1)).Nodup:=by rw[<- e1];exact hc.1
  have hb:∀ b ob,s.heap.get? b=some ob->b < s.heap.objs.size:=fun b ob e=>Aq9 e
  have inv:∀ h:Heap,(∀ b ob,s.heap.get? b=some ob->h.get? b=some ob)->∀ q∈T,TX.KeyV h q.1 q.2.1:=fun h hk q hm=>(e4 q hm).at (I.kept (h':=h) (t':=s.toks) hk)
  refine TX.dict_list (C:=fun h=>∀ b ob,s.heap.get? b=some ob->h.get? b=some ob) (Dn:=fun i h=>∃ o,h.get? s.heap.objs.size=some o/\TX.ObN X.w o (T.take i)) hr.hd ho hcl hq2 hq1 (fun Ia hI=>⟨fun i v h hi hv hC=>?_,fun h h' hC hk b ob e=>?_,fun i h h' hD hk=>?_⟩) (fun h hk=>hk) (fun h hg=>?_) (fun h' tk hk hD=>?_)
  ·obtain⟨q,a,o',c,q1,q2,q3,q4,q5⟩:=e5 i v (by simpa using hv)
   refine⟨a,o',c,_,_,q2,hC _ _ q3,q4,q5,fun s' Q' E' hs hD hQ=>?_⟩
   obtain⟨od,hod,hob⟩:=hD
   subst hs
   have et:T.take (i+1)=T.take i++[q]:=by rw[List.take_add_one,q1];rfl
   have hkk:=inv _ hC
   have hl2:(T.take i).length<=T.length:=by rw[Ar1];lia
   refine TX.set_n (by show X.A.units+1+1+20 < _;lia) ⟨od,hod,hob,fun x hx=>hkk x (List.mem_of_mem_take hx)⟩ (hkk q (Ard q1)) (fun x hx z=>?_) (by lia) fun h' hs' hL=>?_
   ·obtain⟨j,hj⟩:=Asv hx
    have hj':=hj
    rw[List.getElem?_take] at hj'
    split at hj'
    ·have g1:(T.map (·.1))[j]?=some q.1:=by rw[Ari,hj',<- z];rfl
     have g2:(T.map (·.1))[i]?=some q.1:=by rw[Ari,q1];rfl
     have:=(List.getElem?_inj (List.getElem?_eq_some_iff.mp g1).1 nd).mp (g1.trans g2.symm)
     lia
    ·cases hj'
   ·refine hQ h' _ (Nat.le_add_right ..) hs' ?_
    obtain⟨o2,k1,k2,_⟩:=hL
    rw[et]
    exact⟨o2,k1,k2⟩
  ·refine hk b ob (Aro (hb b ob e)) ?_ (hC b ob e)
   intro hm
   rw[List.mem_singleton.mp hm] at e
   exact absurd (Nat.lt_trans hI (hb _ _ e)) (Ary _)
  ·obtain⟨od,h0,r⟩:=hD
   exact⟨od,hk _ _ (by simp;exact Aro hI) h0,r⟩
  ·exact⟨_,hg,⟨rfl,rfl,rfl⟩,_,_,rfl,rfl,List.nodup_nil⟩
  ·have I1:Inv X pins σ H { s with heap:=h',toks:=tk }:=I.kept hk
   rw[Atm (by rw[Aq3,e3];exact Aq5 _)] at hD
   obtain⟨od,hod,hob⟩:=hD
   have hn:H s.heap.objs.size=none:=I.fresh
   have sm:=Bd (o:=.frz od (.ext fun w _=>TX.ObN w od T)) hn
   have I2:Inv X pins σ (upd H s.heap.objs.size (.frz od (.ext fun w _=>TX.ObN w od T))) { s with heap:=h',toks:=tk }:=I.laid (a:=s.heap.objs.size) (t':=tk) hk (Aq5 _) ⟨hod,hob,⟨od,hod⟩,fun _ _ z _=>z⟩
   refine⟨.ref s.heap.objs.size,_,I2,rfl,q _ _ sm (.fz A9 ⟨beq_eq_false_iff_ne.mpr (Asc (Aro (Acv I))),od,T,rfl,e1.symm,e2,fun x hx=>(e4 x hx).up fun b ys r=>Same.rd sm r⟩ Amz)⟩
 ·cases e
theorem Z5 (I:Inv X pins σ H s) {ss:List Str}{ps:List PyData}{is:List Int}{v:V} (r:Rep X.K H μ B (.fz dN ss ps is) v):∃ a xs,v=.ref a/\(a == sysModules)=false/\TX.LayN X.w s.heap a xs/\xs.map (·.1)=ps/\Paired Ak4 is xs:=by
 cases r with
 |@fz _ _ _ _ a o u hH hp _ =>
  obtain⟨h0,o',xs,h1,h2,h3,h4⟩:=hp
  cases h1
  obtain⟨g1,g2,_⟩:=(show ObjOk X.prog X.w X.K H s.heap a (.frz o (.ext fun w _=>TX.ObN w o xs)) from I.hok a _ hH)
  exact⟨a,xs,rfl,h0,⟨o,g1,g2,fun x hx=>(h4 x hx).at I⟩,h2,h3⟩
end
section
variable {X:Cx}{a b e:Expr}{pos p:Pos}{f h:FE}{g:FL}
set_option tactic.hygienic true in
theorem Air (hr:Room k X.A):OpM X (compareOp .In) Ah8:=by
 intro pins s σ H μ m x y z v u v' u' Q I S rx ry r1 r2 e q
 cases y<;>first|exact Ag e|skip
 rename_i φ ss ps is
 unfold Ah8 at e
 simp only at e
 split at e
 ·rename_i hk
  obtain⟨rfl,hk⟩:=hk
  cases e
  obtain⟨ad,xs,rfl,hm,L,e1,e2⟩:=Z5 I ry
  obtain⟨bd,rfl,hkt⟩:=M8 rx hk
  cases r1
  cases r2
  have hu:=hr.units
  refine TX.in_n (by lia) hm L (Tw I hkt) ?_
  rw[(O0 e2).2,e1]
  exact⟨.bl _,H,I.tok _,rfl,q _ H (Same.refl H) (.bl _)⟩
 ·cases e
set_option tactic.hygienic true in
theorem Xf {x y z:D}{m:MH} (h:Nf x y m=some z):∃ ss ps is i,x=.fz dN ss ps is/\Dx y=true/\getN ps is (pyD y)=some i/\z=.int i:=by
 cases x<;>first|exact Ag h|skip
 rename_i φ ss ps is
 unfold Nf at h
 simp only at h
 split at h
 ·rename_i hk
  obtain⟨rfl,hk⟩:=hk
  obtain⟨i,h3,h⟩:=bind_some h
  cases h
  exact⟨ss,ps,is,i,rfl,hk,h3,rfl⟩
 ·cases h
theorem U3 (hr:Room k X.A) (ha:QD X a f) (hb:QD X b h) (hs':Ano b=true:=by rfl):QD X (.Subscript a b pos) (f2 Nf f h):=⟨by
 intro pins s σ H Q I ⟨env,μ,m,z,S,E,h,q⟩
 obtain⟨d1,h1,h⟩:=bind_some h
 obtain⟨d2,h2,h⟩:=bind_some h
 obtain⟨ss,ps,is,i,rfl,hk,h3,rfl⟩:=Xf h
 refine Subscript_ (Amw ha.out hb.out I (show tE X.K f σ H fun x H1=>tE X.K _ σ H1 fun y H2=>Same H H2/\Rep X.K H2 μ (·∈μ) (.fz dN ss ps is) x/\Rep X.K H2 μ (·∈μ) d2 y from ⟨env,μ,m,_,S,E,h1,fun v H1 s1 r1=>⟨env,μ,m,d2,S.same s1,E.same s1,h2,fun u H2 s2 r2=>⟨s1.trans s2,r1.same s2,r2⟩⟩⟩) fun v u s2 x y H2 I2 rx ry q2=>?_)
 obtain⟨sm,r1,r2⟩:=q2
 obtain⟨ad,xs,rfl,hm,L,e1,e2⟩:=Z5 I2 r1
 obtain⟨bd,rfl,hkt⟩:=M8 r2 hk
 rw[<- e1] at h3
 obtain⟨t,hv⟩:=(O0 e2).1 i h3
 cases rx
 cases ry
 have hu:=hr.units
 refine subscriptTail_builtinR (x:=.int i t) (TX.lay_type L) slot_dict_getitem.lookup (TX.item_n (by lia) L (Tw I2 hkt) hv ?_) (N9 hs' _ _)
 exact⟨rfl,.int i,H2,I2.tok _,⟨t,rfl⟩,q _ H2 sm (.int i)⟩⟩
theorem Yu (hr:Room k X.A) (hm:X.mg "dict"=none) (ha:QL X [e] g) (hg:Gl X "dict":=by unfold Gl;kernel_rfl) (he':Bo e=true:=by rfl):QD X (.Call (.Name "dict" p) [e] [] pos) (A3 Gw g):=⟨G3 (Vy hr) hg hm (by decide +kernel) ha.out (by decide) (by decide) (An he') rfl⟩
end
end
end ML
end L2
end S_ML44
section S_ML47
namespace L2
namespace ML
open PySem PySem.Spec PyProof.Rows
theorem Im {lo hi:Int}:((lo - hi).toNat:Int)=Builtin.Range.rangeSize lo hi (-1):=by
 unfold Builtin.Range.rangeSize
 rw[Aq7 (by decide)]
 have:∀ z:Int,z / - -1=z:=fun z=>by rw[show (- -1:Int)=1 by decide,Int.ediv_one]
 rw[this]
 split<;>lia
theorem Yx {a b:Int} (ha:-1<=a/\a < 1000000000) (hb:-1<=b/\b < 1000000000):Builtin.Range.small a b (-1)=true:=by
 have h2:=Im (lo:=a) (hi:=b)
 unfold Builtin.Range.small
 rw[<- h2]
 simp only[Builtin.Range.rangeFitsLong,Arf,Bool.or_eq_true,Asq,beq_iff_eq,show ¬ ((-1:Int) > 0) by decide,As1]
 lia
section
variable {X:Cx}{a b c:Expr}{tg:Expr}{p pos:Pos}
noncomputable def Zc (g:FL):FW:=fun env m=>(g env m).bind fun ds=>match ds with
 |[.int i,.int j,.int k]=>if k=-1/\(-1<=i/\i < 1000000000)/\(-1<=j/\j < 1000000000) then some ⟨(List.range (i - j).toNat).map fun (q:Nat)=>.int (i+q * -1),Av⟩ else none
 |_=>none
theorem Aet {pins:List (Addr×Obj)}{σ:St}{H:Hp}{s:Shared}{R:It->Hp->Prop}{E:Value->Shared->Prop}{lo hi:Int}{t u v:Tok}{tk:Nat} (I:Inv X pins σ H s) (h1:-1<=lo/\lo < 1000000000) (h2:-1<=hi/\hi < 1000000000)
  (q:R (Ak5 lo (-1) (lo - hi).toNat) H):wpAny (model X.prog X.w) X.A (pyIter (.ref s.heap.objs.size)) (PIE X pins σ tg R) E { s with heap:=s.heap.push { cls:=.type "range",data:=.fields #[.int lo t,.int hi u,.int (-1) v] },toks:=tk }:=by
 refine wpAny_pyIter_range (IsRange.new ..) (Yx h1 h2) ?_
 generalize (⟨.type "range",none,.fields #[.int lo t,.int hi u,.int (-1) v],#[]⟩:Obj)=ob
 have I1:Inv X pins σ H { s with heap:=s.heap.push ob,toks:=tk }:=I.kept fun b o e=>Aq1 _ e
 refine⟨(s.heap.push ob).objs.size,[(s.heap.push ob).objs.size],_,_,H,rfl,I1.kept (t':=tk) fun b o e=>Aq1 _ e,Hf _ lo (-1) (lo - hi).toNat,?_,fun b hb=>?_,q⟩
 ·show IsRangeIter _ _ (lo+((0:Nat):Int) * -1) (((lo - hi).toNat:Int) - ((0:Nat):Int)) (-1)
  rw[show lo+((0:Nat):Int) * -1=lo by lia,show ((lo - hi).toNat:Int) - ((0:Nat):Int)=Builtin.Range.rangeSize lo hi (-1) by rw[<- Im];lia]
  exact Are _ rfl
 ·have e:b=(s.heap.push ob).objs.size:=by simpa using hb
  subst e
  exact I1.fpOk (Aq5 _) (I1.hok.fresh (Aq5 _))
theorem Aeg {g:FL} (hg:Gl X "range") (hm:X.mg "range"=none) (ha:PL X [a,b,c] g) (hs:starEach [a,b,c] X.env=(false,eval a X.env)::starEach [b,c] X.env) (hs2:(backTo pos (starEach [b,c] X.env)).any (·.1)=false):PW' X tg (.Call (.Name "range" p) [a,b,c] [] pos) (Zc g):=by
 intro pins s σ H R I h
 obtain⟨env,μ,m,w,S,E,h,q⟩:=h
 obtain⟨ds,h1,h2⟩:=bind_some h
 refine Call_ (Dq I hg hm boot_range (PyProof.Rows.callWith_type1 (thn (ha pos pins s σ H (fun vs H1=>Same H H1/\Reps X.K H1 μ (·∈μ) ds vs) I ⟨env,μ,m,ds,S,E,h1,fun vs H' s rs=>⟨s,rs⟩⟩) fun us s1 ⟨vs,H1,I1,r1,sm,rs⟩=>?_) hs hs2))
 match ds,h2 with
 |[.int i,.int j,.int k],h2 =>
  simp only at h2
  split at h2
  ·rename_i hc
   obtain⟨rfl,hi,hj⟩:=hc
   cases h2
   obtain⟨v1,v2,v3,rfl,x1,x2,x3⟩:=rs.three
   cases x1
   cases x2
   cases x3
   obtain⟨u1,u2,u3,rfl,⟨t1,rfl⟩,⟨t2,rfl⟩,⟨t3,rfl⟩⟩:=Ak2 r1
   exact call_range_3 (by lia) (Aet I1 hi hj (q H1 _ _ sm Iq trivial)) (Ata (PyProof.noPylong_small (by lia)))
  ·exact Ag h2
theorem Aoh (hm:X.mg "range"=none) (ha:QL X [a,b,c] g) (hg:Gl X "range":=by unfold Gl;kernel_rfl) (hs':Bo a=true:=by rfl) (hs2':[b,c].all Bo=true:=by rfl):QW X tg (.Call (.Name "range" p) [a,b,c] [] pos) (Zc g):=⟨Aeg hg hm ha.out (An hs') (C2 hs2')⟩
def Zd (g:FL):FW:=fun env m=>(g env m).bind fun ds=>match ds with
 |[.int i,.int j,.int k]=>if (-1<=i/\i < 1000000000)/\(-1<=j/\j < 1000000000)/\0 < k/\k < 1000000 then some ⟨(List.range (P3 i j k)).map fun (q:Nat)=>.int (i+q * k),Av⟩ else none
 |_=>none
theorem Aeu {pins:List (Addr×Obj)}{σ:St}{H:Hp}{s:Shared}{R:It->Hp->Prop}{E:Value->Shared->Prop}{lo hi st:Int}{t u v:Tok}{tk:Nat} (I:Inv X pins σ H s) (h1:-1<=lo/\lo < 1000000000) (h2:-1<=hi/\hi < 1000000000) (h3:0 < st/\st < 1000000)
  (q:R (Ak5 lo st (P3 lo hi st)) H):wpAny (model X.prog X.w) X.A (pyIter (.ref s.heap.objs.size)) (PIE X pins σ tg R) E { s with heap:=s.heap.push { cls:=.type "range",data:=.fields #[.int lo t,.int hi u,.int st v] },toks:=tk }:=by
 refine wpAny_pyIter_range (IsRange.new ..) (Yy (by lia) (by lia) (by lia) (by lia) (by lia) (by lia)) ?_
 generalize (⟨.type "range",none,.fields #[.int lo t,.int hi u,.int st v],#[]⟩:Obj)=ob
 have I1:Inv X pins σ H { s with heap:=s.heap.push ob,toks:=tk }:=I.kept fun b o e=>Aq1 _ e
 refine⟨(s.heap.push ob).objs.size,[(s.heap.push ob).objs.size],_,_,H,rfl,I1.kept (t':=tk) fun b o e=>Aq1 _ e,Hf _ lo st (P3 lo hi st),?_,fun b hb=>?_,q⟩
 ·show IsRangeIter _ _ (lo+((0:Nat):Int) * st) (((P3 lo hi st:Nat):Int) - ((0:Nat):Int)) st
  rw[show lo+((0:Nat):Int) * st=lo by simp,show ((P3 lo hi st:Nat):Int) - ((0:Nat):Int)=Builtin.Range.rangeSize lo hi st by rw[<- Mi h3.1];simp]
  exact Are _ rfl
 ·have e:b=(s.heap.push ob).objs.size:=by simpa using hb
  subst e
  exact I1.fpOk (Aq5 _) (I1.hok.fresh (Aq5 _))
theorem Aeh {g:FL} (hg:Gl X "range") (hm:X.mg "range"=none) (ha:PL X [a,b,c] g) (hs:starEach [a,b,c] X.env=(false,eval a X.env)::starEach [b,c] X.env) (hs2:(backTo pos (starEach [b,c] X.env)).any (·.1)=false):PW' X tg (.Call (.Name "range" p) [a,b,c] [] pos) (Zd g):=by
 intro pins s σ H R I h
 obtain⟨env,μ,m,w,S,E,h,q⟩:=h
 obtain⟨ds,h1,h2⟩:=bind_some h
 refine Call_ (Dq I hg hm boot_range (PyProof.Rows.callWith_type1 (thn (ha pos pins s σ H (fun vs H1=>Same H H1/\Reps X.K H1 μ (·∈μ) ds vs) I ⟨env,μ,m,ds,S,E,h1,fun vs H' s rs=>⟨s,rs⟩⟩) fun us s1 ⟨vs,H1,I1,r1,sm,rs⟩=>?_) hs hs2))
 match ds,h2 with
 |[.int i,.int j,.int k],h2 =>
  simp only at h2
  split at h2
  ·rename_i hc
   obtain⟨hi,hj,hk⟩:=hc
   cases h2
   obtain⟨v1,v2,v3,rfl,x1,x2,x3⟩:=rs.three
   cases x1
   cases x2
   cases x3
   obtain⟨u1,u2,u3,rfl,⟨t1,rfl⟩,⟨t2,rfl⟩,⟨t3,rfl⟩⟩:=Ak2 r1
   exact call_range_3 (by lia) (Aeu I1 hi hj hk (q H1 _ _ sm Iq trivial)) (Ata (PyProof.noPylong_small (by lia)))
  ·exact Ag h2
theorem Aoi (hm:X.mg "range"=none) (ha:QL X [a,b,c] g) (hg:Gl X "range":=by unfold Gl;kernel_rfl) (hs':Bo a=true:=by rfl) (hs2':[b,c].all Bo=true:=by rfl):QW X tg (.Call (.Name "range" p) [a,b,c] [] pos) (Zd g):=⟨Aeh hg hm ha.out (An hs') (C2 hs2')⟩
end
noncomputable section
open Classical
def W {α:Type} (x:Option α) (Q:α->Prop):Prop:=∃ a,x=some a/\Q a
theorem W.out {d:α} (h:W x (fun a=>a=d)):x=some d:=by obtain⟨a,h1,h2⟩:=h;rw[h1,h2]
theorem W.imp {α:Type}{x:Option α}{P Q:α->Prop} (h:W x P) (i:∀ a,P a->Q a):W x Q:=by obtain⟨a,h1,h2⟩:=h;exact⟨a,h1,i a h2⟩
theorem Ac:W (some a) Q=Q a:=by
 apply propext;constructor
 ·rintro ⟨b,h,q⟩;cases h;exact q
 ·exact fun q=>⟨a,rfl,q⟩
theorem A5:W none Q=False:=by
 apply propext;constructor
 ·rintro ⟨b,h,q⟩;exact Ag h
 ·exact False.elim
theorem W_bind:W (x.bind f) Q=W x (fun a=>W (f a) Q):=by
 cases x with
 |none=>rw[A5];exact A5
 |some a=>rw[Ac];rfl
theorem Ew [Decidable c]:W (if c then some x else none) Q=(c/\Q x):=by
 by_cases h:c
 ·rw[Aq4 h,Ac];simp[h]
 ·rw[Aq7 h,A5];simp[h]
noncomputable def Am3 (Q:D->Prop):Out->Prop
 |.rt d m=>W (Bz m d) Q
 |.nx _ _=>Q .non
 |_=>False
theorem Ab6 {d:D}:Am3 Q (.rt d m)=W (Bz m d) Q:=rfl
theorem Ab5:Am3 Q (.nx e m)=Q .non:=rfl
theorem Bg:W (Ds n g ds) Q=W (g (ds.map some++List.replicate (n - ds.length) none) []) (Am3 Q):=by
 unfold Ds
 rw[W_bind]
 congr 1
 funext o
 cases o<;>first|rfl|exact Ac|exact A5
noncomputable def Aki (g:FS) (Q:Out->Prop):Out->Prop
 |.nx e m=>W (g e m) Q
 |o=>Q o
theorem G9:Aki g Q (.nx e m)=W (g e m) Q:=rfl
theorem Ae1:Aki g Q (.rt e m)=Q (.rt e m):=rfl
theorem Aez:Aki g Q (.bk e m)=Q (.bk e m):=rfl
theorem Ae0:Aki g Q (.ct e m)=Q (.ct e m):=rfl
theorem Gf:W (A8 f g env m) Q=W (f env m) (Aki g Q):=by
 unfold A8
 rw[W_bind]
 congr 1
 funext o
 cases o<;>first|rfl|exact Ac
theorem Agr:W (Cg env m) Q=Q (.nx env m):=Ac
theorem Vr:W (Mj env m) Q=Q (.bk env m):=Ac
theorem Ags:W (Cn f env m) Q=W (f env m) fun d=>Q (.rt d m):=by
 unfold Cn;rw[W_bind];congr 1;funext d;exact Ac
theorem Abf:W (Eb f env m) Q=W (f env m) fun ds=>Q (.rt (.ref m.length) (m++[.lst ds])):=by
 unfold Eb;rw[W_bind];congr 1;funext d;exact Ac
def cK (p q:Prop) (b:Bool):Prop:=(b=true->p)/\(b=false->q)
theorem Ro:cK p q true=p:=by unfold cK;simp
theorem Ag9:cK p q false=q:=by unfold cK;simp
theorem cK.mk {p q:Prop}{b:Bool} (h1:b=true->p) (h2:b=false->q):cK p q b:=⟨h1,h2⟩
theorem cK.dec [Decidable c] (h1:c->p) (h2:¬ c->q):cK p q (decide c):=⟨fun h=>h1 (Arp h),fun h=>h2 (of_decide_eq_false h)⟩
theorem cK.ndec [Decidable c] (h1:¬ c->p) (h2:c->q):cK p q (!decide c):=⟨fun h=>h1 (by simpa using h),fun h=>h2 (by simpa using h)⟩
theorem Eo:W (if b=true then x else y) Q=cK (W x Q) (W y Q) b:=by
 cases b
 ·rw[Ag9];rfl
 ·rw[Ro];rfl
theorem Amb {t:FB}:W (sIf t f g env m) Q=W (t env m) (cK (W (f env m) Q) (W (g env m) Q)):=by
 unfold sIf;rw[W_bind];congr 1;funext c;exact Eo
theorem Ao8 {d:D}:W (fC d env m) Q=Q d:=Ac
theorem Ao7:W (f2 o f g env m) Q=W (f env m) fun x=>W (g env m) fun y=>W (o x y m) Q:=by
 unfold f2;rw[W_bind];congr 1;funext d;exact W_bind
theorem Apv:W (f1 o f env m) Q=W (f env m) fun x=>W (o x m) Q:=W_bind
theorem J7:W (Ae env m) Q=Q []:=Ac
theorem Ge:W (Aa f g env m) Q=W (f env m) fun x=>W (g env m) fun xs=>Q (x::xs):=by
 unfold Aa;rw[W_bind];congr 1;funext d;rw[W_bind];congr 1;funext e;exact Ac
theorem Ja:W (A3 o g env m) Q=W (g env m) fun xs=>W (o xs m) Q:=W_bind
theorem Ny:W (C4 o g env m) Q=W (g env m) fun xs=>W (o xs m) Q:=W_bind
theorem Zl:W (Co g env m) Q=W (g env m) fun ds=>Q (.lst ds):=by
 unfold Co;rw[W_bind];congr 1;funext d;exact Ac
theorem Af7:W (Bk g env m) Q=W (g env m) fun ds=>ds.length<=1000000/\Q (.tup ds):=by
 unfold Bk;rw[W_bind];congr 1;funext d;exact Ew
theorem Vn:W (Bc g env m) Q=W (g env m) fun ds=>ds.length<=1000000/\Q ds:=by
 unfold Bc;rw[W_bind];congr 1;funext d;exact Ew
theorem Rk:W (Au f env m) Q=W (f env m) fun d=>W (asB d) Q:=W_bind
theorem Alr:W (asB (.bl b)) Q=Q b:=Ac
theorem Af6:W (V9 f env m) Q=W (f env m) fun d=>W (Afm m d) Q:=W_bind
theorem Ag0:W (Afm m (.bl b)) Q=Q b:=Ac
theorem Ag1:W (Afm m (.tup ds)) Q=Q (!ds.isEmpty):=Ac
theorem Afz:W (Z0 f g env m) Q=W (f env m) (cK (W (g env m) Q) (Q false)):=by
 unfold Z0;rw[W_bind];congr 1;funext c;rw[Eo,Ac]
theorem Al1:W (fOr f g env m) Q=W (f env m) (cK (Q true) (W (g env m) Q)):=by
 unfold fOr;rw[W_bind];congr 1;funext c;rw[Eo,Ac]
theorem Af3:W (Ab4 f env m) Q=W (f env m) fun b=>Q (!b):=by
 unfold Ab4;rw[W_bind];congr 1;funext c;exact Ac
theorem Abd:W (Pa f g env m) Q=W (f env m) fun d=>W (asB d) (cK (W (g env m) Q) (Q (.bl false))):=by
 unfold Pa;rw[W_bind,Rk];congr 1;funext c;congr 1;funext c;rw[Eo,Ac]
theorem Alz {t:FB}:W (fIf t f g env m) Q=W (t env m) (cK (W (f env m) Q) (W (g env m) Q)):=by
 unfold fIf;rw[W_bind];congr 1;funext c;exact Eo
theorem Al2 {l h:FO}:W (fSl f l h env m) Q=W (f env m) fun x=>W (l env m) fun lo=>W (h env m) fun hi=>W (oSl x lo hi) Q:=by
 unfold fSl
 rw[W_bind];congr 1;funext x
 rw[W_bind];congr 1;funext y
 rw[W_bind]
theorem Al0:W (fNo env m) Q=Q none:=Ac
theorem Abe:W (C6 f env m) Q=W (f env m) fun d=>W (asI d) fun i=>Q (some i):=by
 unfold C6
 rw[W_bind];congr 1;funext x
 rw[W_bind];congr 1;funext y
 exact Ac
theorem Als:W (asI (.int i)) Q=Q i:=Ac
theorem Zp {z:List D}{lo hi:Option Int}{Q:D->Prop}:W (oSl (.tup z) lo hi) Q=Q (.tup (C8 z lo hi)):=Ac
def slK (lo hi:Option Int) (m:MH) (x:D) (Q:List D->Prop):Prop:=W (match x with
 |.tup _=>none
 |x=>(sq m x).bind fun ds=>some (C8 ds lo hi)) Q
theorem Af5 {l h:FO}:W (Tb f l h env m) Q=W (f env m) fun x=>W (l env m) fun lo=>W (h env m) fun hi=>slK lo hi m x Q:=by
 unfold Tb slK
 rw[W_bind];congr 1;funext x
 rw[W_bind];congr 1;funext y
 rw[W_bind]<;>congr 1
theorem Aoq {lo hi:Option Int}{m:MH}{ds:List D}{Q:List D->Prop}:slK lo hi m (.lst ds) Q=Q (C8 ds lo hi):=Ac
theorem Akk {lo hi:Option Int}{m:MH}{ds:List D}{Q:List D->Prop}:slK lo hi m (.kl ds) Q=Q (C8 ds lo hi):=Ac
theorem Aor {lo hi:Option Int}{m:MH}{n:Nat}{Q:List D->Prop}:slK lo hi m (.ref n) Q=W (sq m (.ref n)) fun ds=>Q (C8 ds lo hi):=by
 unfold slK;exact W_bind.trans (by congr 1;funext ds;exact Ac)
theorem Af0:W (V7 f g env m) Q=W (f env m) fun x=>W (g env m) fun y=>W (sqL m x) fun xs=>W (sqL m y) fun ys=>xs.length+ys.length<=1000000/\Q (xs++ys):=by
 unfold V7
 rw[W_bind];congr 1;funext x
 rw[W_bind];congr 1;funext y
 rw[W_bind];congr 1;funext z
 rw[W_bind];congr 1;funext k
 exact Ew
theorem Af2:W (Ab3 U f env m) Q=W (f env m) fun d=>W (tyD m d) fun T=>W (Pj T U) fun b=>Q (.bl b):=by
 unfold Ab3
 rw[W_bind];congr 1;funext x
 rw[W_bind];congr 1;funext y
 rw[W_bind];congr 1;funext z
 exact Ac
theorem Zm:W (Z1 env m) Q=Q true:=Ac
theorem Rj {cap:List Nat}{t:FB}:W (Ce cap k fw g t fe env m) Q=W (fw env m) fun w=>(w.chk m/\w.all.length<=1000000)/\W (Ef g t fe m (Rf cap k env) w.all) Q:=by
 unfold Ce
 rw[W_bind];congr 1;funext w
 by_cases h:w.chk m/\w.all.length<=1000000
 ·rw[Aq4 h];apply propext;exact⟨fun q=>⟨h,q⟩,fun q=>q.2⟩
 ·rw[Aq7 h,A5];apply propext;exact⟨False.elim,fun q=>h q.1⟩
theorem Gc {t:FB}:W (Ef g t fe m env []) Q=Q []:=Ac
theorem Ed {t:FB}{d:D}:W (Ef g t fe m env (d::ds)) Q=W (g d env) fun env1=>W (t env1 m) (cK (W (fe env1 m) fun y=>W (Ef g t fe m env ds) fun ys=>Q (y::ys)) (W (Ef g t fe m env ds) Q)):=by
 rw[Ef,W_bind];congr 1;funext e
 rw[W_bind];congr 1;funext ok
 rw[Eo,W_bind]
 congr 1
 congr 1;funext y
 rw[W_bind];congr 1;funext z
 exact Ac
theorem Afp:W (Bu (.int i) (.int j) m) Q=Q (.int (i+j)):=Ac
theorem Afq:W (Bu (.tup i) (.tup j) m) Q=(i.length+j.length<=1000000/\Q (.tup (i++j))):=Ew
theorem Agz:W (Pv (.int i) (.int j) m) Q=Q (.int (i - j)):=Ac
theorem Agl:W (Ho (.int i) (.int j) m) Q=(((-(2 ^ 64) < i/\i < 2 ^ 64)\/(-(2 ^ 64) < j/\j < 2 ^ 64))/\Q (.int (i * j))):=Ew
theorem Afy:W (Vj (.int i) (.int j) m) Q=((0 < j/\j < 1073741824)/\Q (.int (i / j))):=Ew
theorem Agk:W (L5 (.int i) (.int j) m) Q=(0 < j/\Q (.int (i % j))):=Ew
theorem Ago:W (Alf (.int i) (.int j) m) Q=((0<=j/\j<=1000000/\i.natAbs < 2 ^ 64)/\Q (.int (i ^ j.toNat))):=Ew
theorem Agu:W (Ah9 (.int i) (.int j) m) Q=(0<=j/\Q (.int (i / 2 ^ j.toNat))):=Ew
theorem Ama:W (oLt (.int i) (.int j) m) Q=Q (.bl (decide (i < j))):=by
 rw[show oLt (.int i) (.int j) m=some (.bl (decide (i < j))) by rfl,Ac]
theorem Al4:W (oGt (.int i) (.int j) m) Q=Q (.bl (decide (j < i))):=Ac
theorem Al3:W (oGe (.int i) (.int j) m) Q=Q (.bl (decide (j<=i))):=Ac
theorem Apu:W (oEq x y m) Q=W (Ca m x) fun x'=>W (Ca m y) fun y'=>dep x'<=60/\Q (.bl (deq x' y')):=by
 unfold oEq eqO
 rw[W_bind,W_bind];congr 1;funext x'
 rw[W_bind];congr 1;funext y'
 rw[Ew,Ac]
theorem Ap0:W (oNe x y m) Q=W (Ca m x) fun x'=>W (Ca m y) fun y'=>dep x'<=60/\Q (.bl (!deq x' y')):=by
 unfold oNe eqO
 rw[W_bind,W_bind];congr 1;funext x'
 rw[W_bind];congr 1;funext y'
 rw[Ew,Ac]
theorem Agb:W (Og .non m) Q=Q (.bl true):=Ac
theorem Aga:W (Og (.int i) m) Q=Q (.bl false):=Ac
theorem Mx:W (oIx (.tup z) (.int i) m) Q=W (atI z i) Q:=rfl
theorem Al8:W (oIx (.lst z) (.int i) m) Q=W (atI z i) Q:=rfl
theorem Al7:W (oIx (.kl z) (.int i) m) Q=W (atI z i) Q:=rfl
theorem Al9:W (oIx (.ref n) (.int i) m) Q=W (sq m (.ref n)) fun z=>W (atI z i) Q:=W_bind
theorem Agg:W (Ec [.tup z] m) Q=Q (.int z.length):=Ac
theorem Age:W (Ec [.lst z] m) Q=Q (.int z.length):=Ac
theorem Agd:W (Ec [.kl z] m) Q=Q (.int z.length):=Ac
theorem Agf:W (Ec [.ref n] m) Q=W (sq m (.ref n)) fun z=>Q (.int z.length):=by
 show W (((sq m (.ref n)).bind fun ds=>some ds.length).bind fun n=>some (.int n)) Q=_
 rw[W_bind,W_bind];congr 1;funext z;rw[Ac,Ac]
theorem Agx:W (sqL m (.lst z)) Q=Q z:=Ac
theorem Al6:W (oIn x (.lst z) m) Q=W (Ca m x) fun x'=>W (Ca m (.lst z)) fun y'=>W (sq [] y') fun ds=>dep x'<=50/\Q (.bl (ds.any fun d=>deq d x')):=by
 unfold oIn inO;rw[W_bind];simp only
 rw[W_bind];congr 1;funext x';rw[W_bind];congr 1;funext z;rw[W_bind];congr 1;funext z;rw[Ew,Ac]
theorem Gb:W (Eu n fn ds m) Q=W (Cd m ds) fun ds'=>ds'.length=n/\W (fn ds') Q:=by
 unfold Eu
 rw[W_bind];congr 1;funext z
 by_cases h:z.length=n
 ·rw[Aq4 h];simp[h]
 ·rw[Aq7 h,A5];simp[h]
theorem Cq:W (Cd m []) Q=Q []:=Ac
theorem Cp {d:D}:W (Cd m (d::ds)) Q=W (Ca m d) fun d'=>W (Cd m ds) fun ds'=>Q (d'::ds'):=by
 rw[Cd,W_bind];congr 1;funext z;rw[W_bind];congr 1;funext z;exact Ac
theorem Rl:W (Ca m (.int b)) Q=Q (.int b):=Ac
theorem Abi:W (Ca m (.lst b)) Q=(Ar b=true/\Q (.lst b)):=Ew
theorem Abh:W (Ca m (.kl b)) Q=(Ar b=true/\Q (.kl b)):=Ew
theorem Amd:W (tyD m (.int b)) Q=Q "int":=Ac
theorem Ame:W (tyD m (.str b)) Q=Q "str":=Ac
theorem Mw:W (Pj "int" "bool") Q=Q false:=by rw[show Pj "int" "bool"=some false by decide,Ac]
theorem O4:W (Pj "int" "str") Q=Q false:=by rw[show Pj "int" "str"=some false by decide,Ac]
theorem O5:W (Pj "str" "str") Q=Q true:=by rw[show Pj "str" "str"=some true by decide,Ac]
theorem J8:W (Pj "list" "list") Q=Q true:=by rw[show Pj "list" "list"=some true by decide,Ac]
theorem Amp:W (Bz m .non) Q=Q .non:=by rw[Bz,Ac]
theorem Amm:W (Bz m (.bl b)) Q=Q (.bl b):=by rw[Bz,Ac]
theorem Amo:W (Bz m (.int b)) Q=Q (.int b):=by rw[Bz,Ac]
theorem Ag7:W (Cv m []) Q=Q []:=by rw[Cv,Ac]
theorem Ag6 {d:D}:W (Cv m (d::ds)) Q=W (Bz m d) fun e=>W (Cv m ds) fun es=>Q (e::es):=by
 rw[Cv,W_bind];congr 1;funext z;rw[W_bind];congr 1;funext z;exact Ac
def Ak3 (m:MH) (d:D) (Q:Wk->Prop):Prop:=W (match d with
 |.str z=>some ⟨Io z,Av⟩
 |.tup ds=>some ⟨ds,Av⟩
 |.lst ds=>some ⟨ds,Av⟩
 |.kl ds=>some ⟨ds,Av⟩
 |.ref n=>(match m[n]? with
  |some (.lst ds)=>some ⟨ds,fun m'=>m'[n]?=some (.lst ds)⟩
  |_=>none)
 |_=>none) Q
theorem Ag4:W (Zb f env m) Q=W (f env m) fun d=>Ak3 m d Q:=W_bind
theorem Aqw:Ak3 m (.tup z) Q=Q ⟨z,Av⟩:=Ac
theorem Aqu:Ak3 m (.lst z) Q=Q ⟨z,Av⟩:=Ac
theorem Aqv:Ak3 m (.ref n) Q=W (sq m (.ref n)) fun ds=>Q ⟨ds,fun m'=>m'[n]?=some (.lst ds)⟩:=by
 unfold Ak3 sq
 simp only
 cases m[n]? with
 |none=>rw[A5,A5]
 |some o=>cases o with
  |lst ds=>rw[Ac,Ac]
  |dct ds=>rw[A5,A5]
  |dcs ks ds=>rw[A5,A5]
def Apm (ds:List D) (Q:Wk->Prop):Prop:=W (match ds with
 |[.int j]=>if -(2 ^ 62)<=j/\j < 2 ^ 62 then some ⟨Bx 0 j.toNat,Av⟩ else none
 |_=>none) Q
def Aka (ds:List D) (Q:Wk->Prop):Prop:=W (match ds with
 |[.int i,.int j]=>if -(2 ^ 62)<=i/\i < 2 ^ 62/\-(2 ^ 62)<=j/\j < 2 ^ 62 then some ⟨Bx i (j - i).toNat,Av⟩ else none
 |_=>none) Q
theorem Abk:W (En g env m) Q=W (g env m) fun ds=>Apm ds Q:=W_bind
theorem Abl:W (Nw g env m) Q=W (g env m) fun ds=>Aka ds Q:=W_bind
theorem Aoo:Apm [.int j] Q=((-(2 ^ 62)<=j/\j < 2 ^ 62)/\Q ⟨Bx 0 j.toNat,Av⟩):=Ew
theorem Akb:Aka [.int i,.int j] Q=((-(2 ^ 62)<=i/\i < 2 ^ 62/\-(2 ^ 62)<=j/\j < 2 ^ 62)/\Q ⟨Bx i (j - i).toNat,Av⟩):=Ew
theorem Hq:W (J3 f g b env m) Q=W (f env m) fun w=>W (Hi w.chk g b w.all env m) Q:=W_bind
theorem Nz:W (Hi chk g b [] e m) Q=(chk m/\Q (.nx e m)):=by rw[Hi];exact Ew
def P6 (chk:MH->Prop) (g:FG) (b:FS) (ds:List D) (Q:Out->Prop):Out->Prop
 |.nx e m=>W (Hi chk g b ds e m) Q
 |.ct e m=>W (Hi chk g b ds e m) Q
 |.bk e m=>Q (.nx e m)
 |.rt d m=>Q (.rt d m)
theorem Y6:P6 chk g b ds Q (.nx e m)=W (Hi chk g b ds e m) Q:=rfl
theorem Y5:P6 chk g b ds Q (.ct e m)=W (Hi chk g b ds e m) Q:=rfl
theorem Y4:P6 chk g b ds Q (.bk e m)=Q (.nx e m):=rfl
theorem Y7:P6 chk g b ds Q (.rt e m)=Q (.rt e m):=rfl
theorem J6 {d:D}:W (Hi chk g b (d::ds) e m) Q=(chk m/\W (g d e) fun e1=>W (b e1 m) (P6 chk g b ds Q)):=by
 rw[Hi]
 by_cases h:chk m
 ·rw[Aq4 h,W_bind]
  apply propext
  have k:∀ e1,W ((b e1 m).bind fun o=>match o with
   |.nx env2 m2=>Hi chk g b ds env2 m2
   |.ct env2 m2=>Hi chk g b ds env2 m2
   |.bk env2 m2=>some (.nx env2 m2)
   |.rt d m2=>some (.rt d m2)) Q=W (b e1 m) (P6 chk g b ds Q):=by
   intro e1
   rw[W_bind]
   congr 1
   funext o
   cases o<;>first|rfl|exact Ac
  exact⟨fun q=>⟨h,q.imp fun e1 q=>(k e1) ▸ q⟩,fun q=>q.2.imp fun e1 q=>(k e1) ▸ q⟩
 ·rw[Aq7 h,A5];simp[h]
theorem O9:Av m=True:=rfl
theorem Apa {d:D}{l:Ba}:W (Ai 0 (some d::l) m) Q=Q d:=Ac
theorem Aps {d:D}{l:Ba}:W (Bb 0 d (y::l)) Q=Q (some d::l):=Ac
theorem Apb {d:D}{l:Ba}:W (Ai 1 (x0::some d::l) m) Q=Q d:=Ac
theorem Ap1 {l:Ba}:W (Bv 1 f (x0::y::l) m) Q=W (f (x0::y::l) m) fun d=>Q (.nx (x0::some d::l) m):=by unfold Bv;rw[W_bind];congr 1;funext d;exact Ac
theorem Apw {l:Ba}:W (G7 1 f (x0::y::l) m) Q=W (f (x0::y::l) m) fun ds=>Q (.nx (x0::some (.ref m.length)::l) (m++[.lst ds])):=by unfold G7;rw[W_bind];congr 1;funext d;exact Ac
theorem Ao3 {d:D}{l:Ba}:W (Bb 1 d (x0::y::l)) Q=Q (x0::some d::l):=Ac
theorem Ap7 {d:D}{l:Ba}:W (Ai 2 (x0::x1::some d::l) m) Q=Q d:=Ac
theorem Ap2 {l:Ba}:W (Bv 2 f (x0::x1::y::l) m) Q=W (f (x0::x1::y::l) m) fun d=>Q (.nx (x0::x1::some d::l) m):=by unfold Bv;rw[W_bind];congr 1;funext d;exact Ac
theorem Apx {l:Ba}:W (G7 2 f (x0::x1::y::l) m) Q=W (f (x0::x1::y::l) m) fun ds=>Q (.nx (x0::x1::some (.ref m.length)::l) (m++[.lst ds])):=by unfold G7;rw[W_bind];congr 1;funext d;exact Ac
theorem Ao4 {d:D}{l:Ba}:W (Bb 2 d (x0::x1::y::l)) Q=Q (x0::x1::some d::l):=Ac
theorem Apc {d:D}{l:Ba}:W (Ai 3 (x0::x1::x2::some d::l) m) Q=Q d:=Ac
theorem Ap3 {l:Ba}:W (Bv 3 f (x0::x1::x2::y::l) m) Q=W (f (x0::x1::x2::y::l) m) fun d=>Q (.nx (x0::x1::x2::some d::l) m):=by unfold Bv;rw[W_bind];congr 1;funext d;exact Ac
theorem Apy {l:Ba}:W (G7 3 f (x0::x1::x2::y::l) m) Q=W (f (x0::x1::x2::y::l) m) fun ds=>Q (.nx (x0::x1::x2::some (.ref m.length)::l) (m++[.lst ds])):=by unfold G7;rw[W_bind];congr 1;funext d;exact Ac
theorem Ao5 {d:D}{l:Ba}:W (Bb 3 d (x0::x1::x2::y::l)) Q=Q (x0::x1::x2::some d::l):=Ac
theorem Apd {d:D}{l:Ba}:W (Ai 4 (x0::x1::x2::x3::some d::l) m) Q=Q d:=Ac
theorem Ap4 {l:Ba}:W (Bv 4 f (x0::x1::x2::x3::y::l) m) Q=W (f (x0::x1::x2::x3::y::l) m) fun d=>Q (.nx (x0::x1::x2::x3::some d::l) m):=by unfold Bv;rw[W_bind];congr 1;funext d;exact Ac
theorem Apz {l:Ba}:W (G7 4 f (x0::x1::x2::x3::y::l) m) Q=W (f (x0::x1::x2::x3::y::l) m) fun ds=>Q (.nx (x0::x1::x2::x3::some (.ref m.length)::l) (m++[.lst ds])):=by unfold G7;rw[W_bind];congr 1;funext d;exact Ac
theorem Ak8 {d:D}{l:Ba}:W (Bb 4 d (x0::x1::x2::x3::y::l)) Q=Q (x0::x1::x2::x3::some d::l):=Ac
theorem Ap8 {d:D}{l:Ba}:W (Ai 5 (x0::x1::x2::x3::x4::some d::l) m) Q=Q d:=Ac
theorem Ao9 {l:Ba}:W (Bv 5 f (x0::x1::x2::x3::x4::y::l) m) Q=W (f (x0::x1::x2::x3::x4::y::l) m) fun d=>Q (.nx (x0::x1::x2::x3::x4::some d::l) m):=by unfold Bv;rw[W_bind];congr 1;funext d;exact Ac
theorem Apt {d:D}{l:Ba}:W (Bb 5 d (x0::x1::x2::x3::x4::y::l)) Q=Q (x0::x1::x2::x3::x4::some d::l):=Ac
theorem Ap9 {d:D}{l:Ba}:W (Ai 6 (x0::x1::x2::x3::x4::x5::some d::l) m) Q=Q d:=Ac
theorem Ap5 {l:Ba}:W (Bv 6 f (x0::x1::x2::x3::x4::x5::y::l) m) Q=W (f (x0::x1::x2::x3::x4::x5::y::l) m) fun d=>Q (.nx (x0::x1::x2::x3::x4::x5::some d::l) m):=by unfold Bv;rw[W_bind];congr 1;funext d;exact Ac
theorem Ao6 {d:D}{l:Ba}:W (Bb 6 d (x0::x1::x2::x3::x4::x5::y::l)) Q=Q (x0::x1::x2::x3::x4::x5::some d::l):=Ac
theorem Aqa {d:D}{l:Ba}:W (Ai 7 (x0::x1::x2::x3::x4::x5::x6::some d::l) m) Q=Q d:=Ac
theorem Ap6 {l:Ba}:W (Bv 7 f (x0::x1::x2::x3::x4::x5::x6::y::l) m) Q=W (f (x0::x1::x2::x3::x4::x5::x6::y::l) m) fun d=>Q (.nx (x0::x1::x2::x3::x4::x5::x6::some d::l) m):=by unfold Bv;rw[W_bind];congr 1;funext d;exact Ac
end
theorem Bp:deq (.int i) (.int j)=decide (i=j):=by
 unfold deq pyD
 rw[show PyData.eqv (.int i) (.int j)=(i == j) by simp[PyData.eqv]]
 by_cases h:i=j<;>simp[h]
theorem Ji:deq (.str i) (.str j)=decide (i=j):=by
 unfold deq pyD
 rw[show PyData.eqv (.str i) (.str j)=(i == j) by simp[PyData.eqv]]
 by_cases h:i=j<;>simp[h]
theorem B1:dep (.int i)=0:=by simp[dep]
theorem M0:dep (.str i)=0:=by simp[dep]
theorem Pt (ns:List Int):Ar (ns.map D.int)=true:=by
 induction ns with
 |nil=>rw[As6,Ar]
 |cons n ns ih=>rw[Ara,Ar,ih,show Bm (D.int n)=true by simp[Bm]];rfl
theorem O3 (h0:0<=i) (h1:i < xs.length) (q:∀ d,xs[i.toNat]?=some d->d∈xs->Q d):W (atI xs i) Q:=by
 unfold atI ixN
 rw[Aq4 h0,Aq4 h1]
 have hi:i.toNat < xs.length:=by lia
 refine⟨xs[i.toNat],?_,q _ (Aqz hi) (Ar9 hi)⟩
 exact Aqz hi
theorem Afk:(⟨#[c]⟩:Str).length=1:=rfl
theorem Vw:Rf [] k env=List.replicate k none:=rfl
theorem Rq {cap:List Nat}:Rf (i::cap) k env=(env[i]?).bind id::Rf cap k env:=rfl
theorem D3 {α:Type}{g:FG}{fe:FE}{m:MH}{env:Ba}{h:α->D} (F:α->D) {xs:List α}{Q:List D->Prop} (k:∀ x∈xs,W (g (h x) env) fun e1=>W (fe e1 m) fun y=>y=F x) (q:Q (xs.map F)):W (Ef g Z1 fe m env (xs.map h)) Q:=by
 induction xs generalizing Q with
 |nil=>rw[As6,Gc];exact q
 |cons d ds ih =>
  rw[Ara,Ed]
  refine (k d (Aq8 ..)).imp fun e1 h1=>?_
  rw[Zm,Ro]
  refine h1.imp fun y hy=>?_
  subst hy
  exact ih (fun e he=>k e (Aq6 _ he)) q
noncomputable section
open Classical
theorem Agw:W (sq m (.lst ds)) Q=Q ds:=Ac
theorem Agy:W (sqL m (.ref n)) Q=W (sq m (.ref n)) Q:=rfl
def Alh (o i d:D) (env:Ba) (m:MH) (Q:Out->Prop):Prop:=W (match o,i with
 |.ref n,.int k=>(match m[n]? with
  |some (.lst ds)=>(ixN ds.length k).bind fun j=>some (.nx env (m.set n (.lst (ds.set j d))))
  |_=>none)
 |_,_=>none) Q
theorem Akj {d:D}:Alh (.ref n) (.int k) d env m Q=W (sq m (.ref n)) fun ds=>W (ixN ds.length k) fun j=>Q (.nx env (m.set n (.lst (ds.set j d)))):=by
 unfold Alh sq
 simp only
 cases m[n]? with
 |none=>rw[A5,A5]
 |some o=>cases o with
  |lst ds=>simp only;rw[Ac,W_bind];congr 1;funext j;exact Ac
  |dct ds=>rw[A5,A5]
  |dcs ks ds=>rw[A5,A5]
theorem Vs:W (G8 f fo fi env m) Q=W (f env m) fun d=>W (fo env m) fun o=>W (fi env m) fun i=>Alh o i d env m Q:=by
 unfold G8 Alh
 rw[W_bind];congr 1;funext x
 rw[W_bind];congr 1;funext y
 rw[W_bind]<;>congr 1
def Ald (o:List D->List D->Option (List D)) (d:D) (g:FL) (env:Ba) (m:MH) (Q:Out->Prop):Prop:=W (match d with
 |.ref n=>(g env m).bind fun es=>(match m[n]? with
  |some (.lst ds)=>(o ds es).bind fun fs=>some (.nx env (m.set n (.lst fs)))
  |_=>none)
 |_=>none) Q
theorem Agq:W (Jz o f g env m) Q=W (f env m) fun d=>Ald o d g env m Q:=by
 unfold Jz Ald
 rw[W_bind]<;>congr 1
theorem Ah6:Ald o (.ref n) g env m Q=W (g env m) fun es=>W (sq m (.ref n)) fun ds=>W (o ds es) fun fs=>Q (.nx env (m.set n (.lst fs))):=by
 unfold Ald sq
 simp only
 rw[W_bind];congr 1;funext es
 cases m[n]? with
 |none=>rw[A5,A5]
 |some o=>cases o with
  |lst ds=>simp only;rw[Ac,W_bind];congr 1;funext j;exact Ac
  |dct ds=>rw[A5,A5]
  |dcs ks ds=>rw[A5,A5]
theorem Agm {d:D}:W (Jq ds [d]) Q=(ds.length < 1000000/\Q (ds++[d])):=Ew
theorem Vq {d:D}:W (Gy [d] m) Q=W (sq m d) fun ds=>Q (.tup ds):=W_bind.trans (by congr 1;funext ds;exact Ac)
theorem Agp:W (Akg f g env m) Q=W (f env m) fun d=>W (g d env) fun e=>Q (.nx e m):=by
 unfold Akg
 rw[W_bind];congr 1;funext x
 rw[W_bind];congr 1;funext y
 exact Ac
theorem Zk:W (Mu n g (.tup ds) env) Q=(ds.length=n/\W (g ds env) Q):=by
 unfold Mu
 simp only
 by_cases h:ds.length=n
 ·rw[Aq4 h];simp[h]
 ·rw[Aq7 h,A5];simp[h]
theorem Abb {d:D}:W (Eg g h (d::ds) env) Q=W (g d env) fun e=>W (h ds e) Q:=W_bind
theorem Afx:W (Zu [] env) Q=Q env:=Ac
theorem Agn:W (Ue (.int i) m) Q=Q (.int (-i)):=Ac
def Aom (xs:List D) (y:D) (Q:List D->Prop):Prop:=W (match y with
 |.int i=>if 0<=i/\i < 2 ^ 62/\xs.length * i.toNat<=1000000 then some (Jy xs i.toNat) else none
 |_=>none) Q
theorem Af4:W (V8 g f env m) Q=W (g env m) fun xs=>W (f env m) fun y=>Aom xs y Q:=by
 unfold V8 Aom
 rw[W_bind];congr 1;funext x
 rw[W_bind]<;>congr 1
theorem Aj7:Aom xs (.int i) Q=((0<=i/\i < 2 ^ 62/\xs.length * i.toNat<=1000000)/\Q (Jy xs i.toNat)):=Ew
theorem Abj:W (Ca m (.ref n)) Q=W (sq m (.ref n)) fun ds=>Ar ds=true/\Q (.lst ds):=by
 unfold Ca sq
 simp only
 cases m[n]? with
 |none=>rw[A5,A5]
 |some o=>cases o with
  |lst ds=>simp only;rw[Ac];exact Ew
  |dct ds=>rw[A5,A5]
  |dcs ks ds=>rw[A5,A5]
theorem Agc {n:Nat}{k:Int}{Q:Nat->Prop} (h0:0<=k) (h1:k < n) (q:Q k.toNat):W (ixN n k) Q:=by
 unfold ixN
 rw[Aq4 h0,Aq4 h1,Ac]
 exact q
theorem Agv:W (sq (.lst ds::m) (.ref 0)) Q=Q ds:=Ac
theorem Amr {n:Nat}{ds:List D}{m:MH}{Q:D->Prop} (h:m[n]?=some (.lst ds)):W (Bz m (.ref n)) Q=cK (Q (.lst ds)) (W (xpL m ds) fun es=>Q (.lst es)) (Ay ds):=by
 rw[Bz,h]
 show W (if _ then _ else _) Q=_
 rw[Eo,Ac,W_bind]
 congr 2;funext es;exact Ac
theorem Ams:W (Bz (.lst ds::m) (.ref 0)) Q=cK (Q (.lst ds)) (W (xpL (.lst ds::m) ds) fun es=>Q (.lst es)) (Ay ds):=Amr rfl
theorem Amt:W (Bz (o0::.lst ds::m) (.ref 1)) Q=cK (Q (.lst ds)) (W (xpL (o0::.lst ds::m) ds) fun es=>Q (.lst es)) (Ay ds):=Amr rfl
end
theorem W.eq (h:W x fun d=>d=a):W x Q=Q a:=by rw[h.out,Ac]
mutual
theorem Iu:∀ {d:D},Be d=true->Bz m d=some d
 |.non,_=>by rw[Bz]
 |.bl _,_=>by rw[Bz]
 |.int _,_=>by rw[Bz]
 |.str _,_=>by rw[Bz]
 |.tup ds,h=>by rw[Be] at h;rw[Bz,Hh h];rfl
 |.lst _,h=>by simp[Be] at h
 |.kl _,h=>by simp[Be] at h
 |.ref _,h=>by simp[Be] at h
theorem Hh:∀ {ds:List D},Ay ds=true->Cv m ds=some ds
 |[],_=>by rw[Cv]
 |d::ds,h=>by
  rw[Ay,Arf] at h
  rw[Cv,Iu h.1,Hh h.2];rfl
end
mutual
theorem Ih:∀ {d:D},Be d=true->Bm d=true
 |.non,_=>by simp[Bm]
 |.bl _,_=>by simp[Bm]
 |.int _,_=>by simp[Bm]
 |.str _,_=>by simp[Bm]
 |.tup ds,h=>by rw[Be] at h;rw[Bm];exact B2 h
 |.lst _,h=>by simp[Be] at h
 |.kl _,h=>by simp[Be] at h
 |.ref _,h=>by simp[Be] at h
theorem B2:∀ {ds:List D},Ay ds=true->Ar ds=true
 |[],_=>by rw[Ar]
 |d::ds,h=>by
  rw[Ay,Arf] at h
  rw[Ar,Ih h.1,B2 h.2];rfl
end
theorem Hg {d:D} (h:Be d=true):Ca m d=some d:=by
 have h2:=Ih h
 cases d<;>first|(simp[Be] at h;done)|(unfold Ca;simp only;rw[Aq4 h2])
theorem Amn {d:D} (h:Be d=true):W (Bz m d) Q=Q d:=by rw[Iu h,Ac]
theorem Abg {d:D} (h:Be d=true):W (Ca m d) Q=Q d:=by rw[Hg h,Ac]
theorem L3:Be .non=true:=by simp[Be]
theorem Bj:Be (.int b)=true:=by simp[Be]
theorem Uc:Be (.str b)=true:=by simp[Be]
theorem D6:Be (.tup ds)=Ay ds:=by rw[Be]
theorem Cs:Ay []=true:=by rw[Ay]
theorem A7 {d:D}:Ay (d::ds)=(Be d&&Ay ds):=by rw[Ay]
theorem Cr:∀ {ds:List D},Ay ds=true ↔ ∀ d∈ds,Be d=true
 |[]=>by simp[Ay]
 |d::ds=>by rw[Ay,Arf,Cr];simp
theorem D8:Ay (ds++es)=(Ay ds&&Ay es):=by
 rw[Bool.eq_iff_iff,Arf,Cr,Cr,Cr]
 constructor
 ·exact fun h=>⟨fun d hd=>h d (Arx _ hd),fun d hd=>h d (Aq2 _ hd)⟩
 ·rintro ⟨h1,h2⟩ d hd
  rcases List.mem_append.mp hd with hd|hd
  ·exact h1 d hd
  ·exact h2 d hd
theorem A0 {α:Type}{f:α->D}{xs:List α} (h:∀ x,Be (f x)=true):Ay (xs.map f)=true:=by
 rw[Cr];intro d hd;obtain⟨x,_,rfl⟩:=List.mem_map.mp hd;exact h x
theorem Gm:deq (.tup []) (.tup [])=true:=by simp[deq,pyD,C7,PyData.eqv,PyData.eqvAll]
theorem Df:deq (.tup (x::xs)) (.tup (y::ys))=(deq x y&&deq (.tup xs) (.tup ys)):=by
 simp[deq,pyD,C7,PyData.eqv,PyData.eqvAll]
theorem Ahf:deq (.tup []) (.tup (x::xs))=false:=by simp[deq,pyD,C7,PyData.eqv,PyData.eqvAll]
theorem Zw:deq (.tup (x::xs)) (.tup [])=false:=by simp[deq,pyD,C7,PyData.eqv,PyData.eqvAll]
theorem V5:deq (.lst []) (.lst [])=true:=by simp[deq,pyD,C7,PyData.eqv,PyData.eqvAll]
theorem R3:deq (.lst (x::xs)) (.lst (y::ys))=(deq x y&&deq (.lst xs) (.lst ys)):=by
 simp[deq,pyD,C7,PyData.eqv,PyData.eqvAll]
theorem Abu:deq (.lst []) (.lst (x::xs))=false:=by simp[deq,pyD,C7,PyData.eqv,PyData.eqvAll]
theorem Abt:deq (.lst (x::xs)) (.lst [])=false:=by simp[deq,pyD,C7,PyData.eqv,PyData.eqvAll]
theorem Ahe {t:Str}:deq (.int i) (.str t)=false:=by simp[deq,pyD,PyData.eqv]
theorem Ahg {t:Str}:deq (.str t) (.int i)=false:=by simp[deq,pyD,PyData.eqv]
theorem Jh [DecidableEq α] (h:∀ x y,deq (f x) (f y)=decide (x=y)):∀ xs ys:List α,deq (.tup (xs.map f)) (.tup (ys.map f))=decide (xs=ys)
 |[],[]=>by simp[Gm]
 |[],y::ys=>by simp[Ahf]
 |x::xs,[]=>by simp[Zw]
 |x::xs,y::ys=>by
  rw[Ara,Ara,Df,h,Jh h xs ys]
  by_cases e1:x=y<;>by_cases e2:xs=ys<;>simp[e1,e2]
theorem Jg [DecidableEq α] (h:∀ x y,deq (f x) (f y)=decide (x=y)):∀ xs ys:List α,deq (.lst (xs.map f)) (.lst (ys.map f))=decide (xs=ys)
 |[],[]=>by simp[V5]
 |[],y::ys=>by simp[Abu]
 |x::xs,[]=>by simp[Abt]
 |x::xs,y::ys=>by
  rw[Ara,Ara,R3,h,Jg h xs ys]
  by_cases e1:x=y<;>by_cases e2:xs=ys<;>simp[e1,e2]
theorem Eh:dep (.tup ds)=Da ds+1:=by rw[dep]
theorem Ci {n:Nat}:∀ {ds:List D},(∀ d∈ds,dep d<=n)->Da ds<=n
 |[],_=>by rw[Da];exact Ar8 _
 |d::ds,h=>by
  rw[Da]
  have h1:=h d (Aq8 ..)
  have h2:=Ci (n:=n) (ds:=ds) fun e he=>h e (Aq6 _ he)
  lia
noncomputable def T5 {α:Type} (I:List α->Ba->MH->Prop) (xs:List α) (Q:Out->Prop):Out->Prop
 |.nx e m=>I xs e m
 |.ct e m=>I xs e m
 |.bk e m=>Q (.nx e m)
 |.rt d m=>Q (.rt d m)
theorem Xw:T5 I xs Q (.nx e m)=I xs e m:=rfl
theorem Xv:T5 I xs Q (.ct e m)=I xs e m:=rfl
theorem Xu:T5 I xs Q (.bk e m)=Q (.nx e m):=rfl
theorem Xx {d:D}:T5 I xs Q (.rt d m)=Q (.rt d m):=rfl
theorem N0 {α:Type}{h:α->D}{chk:MH->Prop}{g:FG}{b:FS}{Q:Out->Prop} (I:List α->Ba->MH->Prop) (hs:∀ x xs e m,I (x::xs) e m->chk m/\W (g (h x) e) fun e1=>W (b e1 m) (T5 I xs Q)) (he:∀ e m,I [] e m->chk m/\Q (.nx e m)) :
  ∀ {xs:List α}{e:Ba}{m:MH},I xs e m->W (Hi chk g b (xs.map h) e m) Q
 |[],e,m,hi=>by
  rw[As6,Nz];exact he e m hi
 |x::xs,e,m,hi=>by
  rw[Ara,J6]
  obtain⟨h1,h2⟩:=hs x xs e m hi
  refine⟨h1,h2.imp fun e1 h3=>h3.imp fun o ho=>?_⟩
  cases o with
  |nx e m=>exact N0 I hs he ho
  |ct e m=>exact N0 I hs he ho
  |bk e m=>exact ho
  |rt d m=>exact ho
noncomputable def Pn (I:Nat->Ba->MH->Prop) (k:Nat) (Q:Out->Prop):Out->Prop
 |.nx e m=>I k e m
 |.ct e m=>I k e m
 |.bk e m=>Q (.nx e m)
 |.rt d m=>Q (.rt d m)
theorem Xs:Pn I k Q (.nx e m)=I k e m:=rfl
theorem Xr:Pn I k Q (.ct e m)=I k e m:=rfl
theorem Xq:Pn I k Q (.bk e m)=Q (.nx e m):=rfl
theorem Xt {d:D}:Pn I k Q (.rt d m)=Q (.rt d m):=rfl
theorem Zn (I:Nat->Ba->MH->Prop) (hs:∀ (k:Nat) e m,k < n->I k e m->chk m/\W (g (h k) e) fun e1=>W (b e1 m) (Pn I (k+1) Q)) (he:∀ e m,I n e m->chk m/\Q (.nx e m)) (h0:I 0 e m):W (Hi chk g b ((List.range n).map h) e m) Q:=by
 refine N0 (h:=h) (fun xs e m=>∃ k,k<=n/\xs=(List.range n).drop k/\I k e m) ?_ ?_ ⟨0,Ar8 _,rfl,h0⟩
 ·rintro x xs e m ⟨k,hk,hx,hi⟩
  have hk2:k < n:=by
   rcases Nat.lt_or_ge k n with h|h
   ·exact h
   ·rw[Atn (by simpa using h)] at hx;cases hx
  rw[Asl (by simpa using hk2),List.getElem_range] at hx
  obtain⟨e1,e2⟩:=List.cons.inj hx
  rw[e1,e2]
  obtain⟨h1,h2⟩:=hs k e m hk2 hi
  refine⟨h1,h2.imp fun e1 h3=>h3.imp fun o ho=>?_⟩
  cases o with
  |nx e m=>exact⟨k+1,hk2,rfl,ho⟩
  |ct e m=>exact⟨k+1,hk2,rfl,ho⟩
  |bk e m=>exact ho
  |rt d m=>exact ho
 ·rintro e m ⟨k,hk,hx,hi⟩
  have:k=n:=by
   have:=Asd List.length hx
   simp at this;lia
  subst this
  exact he e m hi
theorem D4 {lo:Int}{n:Nat}{chk:MH->Prop}{g:FG}{b:FS}{Q:Out->Prop}{e:Ba}{m:MH} (I:Nat->Ba->MH->Prop) (hs:∀ (k:Nat) e m,k < n->I k e m->chk m/\W (g (.int (lo+k)) e) fun e1=>W (b e1 m) (Pn I (k+1) Q)) (he:∀ e m,I n e m->chk m/\Q (.nx e m)) (h0:I 0 e m):W (Hi chk g b (Bx lo n) e m) Q:=Zn I hs he h0
theorem Aep:Bx 0 3=[.int 0,.int 1,.int 2]:=rfl
theorem Aa8 {l:List α}:W (atI (x::l) 0) Q=Q x:=by
 rw[show atI (x::l) 0=some x by unfold atI ixN;rw[Aq4 (by decide),Aq4 (by simp<;>lia)];rfl,Ac]
theorem Aa9 {l:List α}:W (atI (x::y::l) 1) Q=Q y:=by
 rw[show atI (x::y::l) 1=some y by unfold atI ixN;rw[Aq4 (by decide),Aq4 (by simp<;>lia)];rfl,Ac]
theorem Afs {l:List α}:W (atI (x::y::z::l) 2) Q=Q z:=by
 rw[show atI (x::y::z::l) 2=some z by unfold atI ixN;rw[Aq4 (by decide),Aq4 (by simp<;>lia)];rfl,Ac]
theorem Aft {l:List α}:W (atI (x::y::z::w::l) 3) Q=Q w:=by
 rw[show atI (x::y::z::w::l) 3=some w by unfold atI ixN;rw[Aq4 (by decide),Aq4 (by simp<;>lia)];rfl,Ac]
theorem J5 {α β:Type}{f:α->β}{xs:List α}{k:Nat} (h:k < xs.length) {Q:β->Prop}:W (atI (xs.map f) (k:Int)) Q=Q (f xs[k]):=by
 rw[show atI (xs.map f) (k:Int)=some (f xs[k]) by unfold atI ixN;rw[Aq4 (by lia),Aq4 (by simp;lia)];simp[h],Ac]
theorem Ot {n d:Nat}:HT.sIx n d none=d:=rfl
theorem Aex {n d k:Nat}:HT.sIx n d (some (k:Int))=min k n:=by
 unfold HT.sIx
 simp only
 by_cases h:((k:Nat):Int) < 0
 ·lia
 ·rw[Aq7 h];lia
theorem Aey {n d:Nat}:HT.sIx n d (some (-1))=n - 1:=by
 unfold HT.sIx
 simp only
 rw[Aq4 (by decide)];lia
theorem Zt {α:Type}{xs:List α}{n:Nat}:C8 xs none (some (n:Int))=xs.take n:=by
 unfold C8
 rw[Ot,Aex,List.drop_zero,Nat.sub_zero]
 by_cases h:n<=xs.length
 ·rw[Nat.min_eq_left h]
 ·rw[Nat.min_eq_right (by lia),Atm (Aq5 _),Atm (by lia)]
theorem V3:C8 xs none (some (-1))=xs.dropLast:=by
 unfold C8
 rw[Ot,Aey,List.drop_zero,Nat.sub_zero,List.dropLast_eq_take]
theorem Aqd:C8 [x,y,z,w] none (some 3)=[x,y,z]:=rfl
theorem Amu:(Int.natAbs 10 < 18446744073709551616)=True:=by simp
inductive Mark where
 |n (i:Int)
 |s (t:Str)
 deriving DecidableEq
structure Mk where
 a:Int
 b:Int
 c:Int
 ms:List Mark
 deriving DecidableEq
noncomputable def Mark.d:Mark->D
 |.n i=>.int i
 |.s t=>.str t
def Mk.d (x:Mk):D:=.tup [.int x.a,.int x.b,.int x.c,.tup (x.ms.map Mark.d)]
noncomputable def Mark.lt:Mark->Mark->Bool
 |.n i,.n j=>decide (i < j)
 |.n _,.s _=>true
 |.s _,.n _=>false
 |.s t,.s u=>decide (t.cps.toList < u.cps.toList)
def mlt:List Mark->List Mark->Bool
 |[],[]=>false
 |[],_::_=>true
 |_::_,[]=>false
 |x::xs,y::ys=>if x=y then mlt xs ys else x.lt y
def Mk.older (x y:Mk):Bool :=
 if x.a≠y.a then decide (x.a < y.a) else if x.b≠y.b then decide (x.b < y.b) else if x.c≠y.c then decide (x.c < y.c) else
 if x.ms=[]\/y.ms=[] then decide (x.ms≠[]/\y.ms=[]) else mlt x.ms y.ms
theorem Mark.deq (x y:Mark):deq x.d y.d=decide (x=y):=by
 cases x<;>cases y<;>simp[Mark.d,Bp,Ji,Ahe,Ahg]
theorem Mk.deq (x y:Mk):L2.ML.deq x.d y.d=decide (x=y):=by
 unfold Mk.d
 rw[Df,Df,Df,Df,Gm,Bp,Bp,Bp,Jh Mark.deq]
 obtain⟨a,b,c,ms⟩:=x
 obtain⟨a',b',c',ms'⟩:=y
 by_cases h1:a=a'<;>by_cases h2:b=b'<;>by_cases h3:c=c'<;>by_cases h4:ms=ms'<;>simp[h1,h2,h3,h4]
theorem Mark.pure (x:Mark):Be x.d=true:=by cases x<;>simp[Mark.d,Be]
theorem Mk.pure (x:Mk):Be x.d=true:=by
 unfold Mk.d
 rw[D6,A7,A7,A7,A7,Bj,Bj,Bj,D6,A0 Mark.pure,Cs];rfl
theorem Mark.dep (x:Mark):dep x.d=0:=by cases x<;>simp[Mark.d,B1,M0]
theorem Mk.dep (x:Mk):L2.ML.dep x.d<=2:=by
 unfold Mk.d
 rw[Eh]
 have h:Da (x.ms.map Mark.d)<=0:=Ci fun d hd=>by
  obtain⟨m,_,rfl⟩:=List.mem_map.mp hd
  rw[Mark.dep];exact Aq5 _
 have:Da [D.int x.a,D.int x.b,D.int x.c,D.tup (x.ms.map Mark.d)]<=1:=Ci fun d hd=>by
  simp only[Ass,Ash,or_false] at hd
  rcases hd with rfl|rfl|rfl|rfl
  ·rw[B1];lia
  ·rw[B1];lia
  ·rw[B1];lia
  ·rw[Eh];lia
 lia
theorem Nd (xs:List Mark):Ay (xs.map Mark.d)=true:=A0 Mark.pure
theorem D7 (xs:List Mk):Ay (xs.map Mk.d)=true:=A0 Mk.pure
theorem T7 (l:List Mark):(L2.ML.dep (.tup (l.map Mark.d))<=60)=True:=by
 have h:Da (l.map Mark.d)<=0:=Ci fun d hd=>by
  obtain⟨m,_,rfl⟩:=List.mem_map.mp hd
  rw[Mark.dep];exact Aq5 _
 rw[Eh];simp;lia
theorem X0 (x:Mark):(L2.ML.dep x.d<=60)=True:=by rw[Mark.dep];simp
theorem Ahy (x:Mk):(L2.ML.dep x.d<=60)=True:=by have:=Mk.dep x;simp;lia
theorem Abv (l:List Mark):L2.ML.deq (.tup (l.map Mark.d)) (.tup [])=decide (l=[]):=by cases l<;>simp[Gm,Zw]
theorem Ah0 {x:Mk}{m:MH}{Q:D->Prop}:W (oIx x.d (.int 0) m) Q=Q (.int x.a):=by unfold Mk.d;rw[Mx,Aa8]
theorem Ah1 {x:Mk}{m:MH}{Q:D->Prop}:W (oIx x.d (.int 1) m) Q=Q (.int x.b):=by unfold Mk.d;rw[Mx,Aa9]
theorem Ah2 {x:Mk}{m:MH}{Q:D->Prop}:W (oIx x.d (.int 2) m) Q=Q (.int x.c):=by unfold Mk.d;rw[Mx,Afs]
theorem Ah3 {x:Mk}{m:MH}{Q:D->Prop}:W (oIx x.d (.int 3) m) Q=Q (.tup (x.ms.map Mark.d)):=by unfold Mk.d;rw[Mx,Aft]
theorem Ahz {x:Mk}{m:MH}{Q:D->Prop}:W (Og x.d m) Q=Q (.bl false):=Ac
theorem Ac5 {x:Mk}{m:MH}{Q:D->Prop}:W (Pu x.d m) Q=Q (.bl true):=Ac
noncomputable def Mark.rk:Mark->D
 |.n i=>.tup [.int 0,.int i,.str (Str.ofString "")]
 |.s t=>.tup [.int 1,.int 0,.str t]
def Mk.rk (x:Mk):D:=.tup [.int x.a,.int x.b,.int x.c,.int (if x.ms=[] then 1 else 0),.tup (x.ms.map Mark.rk)]
theorem Mark.rk_deq (x y:Mark):L2.ML.deq x.rk y.rk=decide (x=y):=by
 cases x<;>cases y<;>simp[Mark.rk,Df,Gm,Bp,Ji,Asg]
theorem Dc:ltD (.int i) (.int j)=some (decide (i < j)):=by rw[ltD]
theorem Gq:ltD (.tup xs) (.tup ys)=Dz xs ys:=by rw[ltD]
theorem Mark.rk_lt (x y:Mark) (h:x≠y):ltD x.rk y.rk=some (x.lt y):=by
 cases x with
 |n i=>cases y with
  |n j =>
   have hij:i≠j:=fun e=>h (by rw[e])
   simp[Mark.rk,Mark.lt,ltD,Dz,Bp,hij]
  |s t=>simp[Mark.rk,Mark.lt,ltD,Dz,Bp]
 |s t=>cases y with
  |n j=>simp[Mark.rk,Mark.lt,ltD,Dz,Bp]
  |s u =>
   have hij:t≠u:=fun e=>h (by rw[e])
   simp[Mark.rk,Mark.lt,ltD,Dz,Bp,Ji,hij]
theorem Aaq:∀ xs ys:List Mark,Dz (xs.map Mark.rk) (ys.map Mark.rk)=some (mlt xs ys)
 |[],[]=>by simp[Dz,mlt]
 |[],y::ys=>by simp[Dz,mlt]
 |x::xs,[]=>by simp[Dz,mlt]
 |x::xs,y::ys=>by
  rw[Ara,Ara,Dz,Mark.rk_deq,mlt]
  by_cases e:x=y
  ·rw[Aq4 (by simpa using e),Aq4 e];exact Aaq xs ys
  ·rw[Aq7 (by simpa using e),Aq7 e];exact Mark.rk_lt x y e
theorem Jp:∀ xs:List Mark,mlt xs xs=false
 |[]=>rfl
 |x::xs=>by rw[mlt,Aq4 rfl];exact Jp xs
theorem Mk.rk_lt (x y:Mk):ltD x.rk y.rk=some (x.older y):=by
 obtain⟨a,b,c,ms⟩:=x
 obtain⟨a',b',c',ms'⟩:=y
 unfold Mk.rk Mk.older
 simp only
 rw[Gq,Dz,Bp]
 by_cases h1:a=a'
 ·subst h1
  rw[Aq4 (by simp),Dz,Bp,Aq7 (show ¬ (a≠a) by simp)]
  by_cases h2:b=b'
  ·subst h2
   rw[Aq4 (by simp),Dz,Bp,Aq7 (show ¬ (b≠b) by simp)]
   by_cases h3:c=c'
   ·subst h3
    rw[Aq4 (by simp),Dz,Bp,Aq7 (show ¬ (c≠c) by simp)]
    by_cases h4:ms=[]
    ·subst h4
     by_cases h5:ms'=[]
     ·subst h5
      simp[Dz,Gm]
     ·simp[h5,Dc]
    ·by_cases h5:ms'=[]
     ·subst h5
      simp[h4,Dc]
     ·rw[Aq7 (show ¬ (ms=[]\/ms'=[]) by rw[not_or];exact⟨h4,h5⟩),Aq4 (by simp[h4,h5]),Dz,Jh Mark.rk_deq]
      by_cases h6:ms=ms'
      ·subst h6;rw[Aq4 (by simp),Dz,Jp]
      ·rw[Aq7 (by simpa using h6),Gq];exact Aaq _ _
   ·rw[Aq7 (by simpa using h3),Aq4 (show c≠c' from h3),Dc]
  ·rw[Aq7 (by simpa using h2),Aq4 (show b≠b' from h2),Dc]
 ·rw[Aq7 (by simpa using h1),Aq4 (show a≠a' from h1),Dc]
theorem Mark.rk_pure (x:Mark):Be x.rk=true:=by cases x<;>simp[Mark.rk,Be,Ay]
theorem Mark.rk_dep (x:Mark):L2.ML.dep x.rk<=1:=by
 cases x<;>(unfold Mark.rk;rw[Eh];simp[Da,B1,M0])
theorem Pl (l r:List Nat) (h:l≠r):decide (l < r)=!decide (r < l):=by
 by_cases h1:l < r
 ·have h2:¬ r < l:=List.lt_asymm h1
  simp[h1,h2]
 ·have h2:r < l:=by
   rcases Classical.em (r < l) with h3|h3
   ·exact h3
   ·exact absurd (List.le_antisymm (List.not_lt.mp h3) (List.not_lt.mp h1)) h
  simp[h1,h2]
theorem Afa {t u:Str} (h:t.cps.toList=u.cps.toList):t=u:=by
 obtain⟨⟨a⟩⟩:=t
 obtain⟨⟨b⟩⟩:=u
 simp at h
 rw[h]
theorem Mark.self (x:Mark):x.lt x=false:=by
 cases x with
 |n i=>simp[Mark.lt]
 |s t=>simp[Mark.lt,List.lt_irrefl]
theorem Mark.tri {x y:Mark} (h:x≠y):x.lt y=!y.lt x:=by
 cases x with
 |n i=>cases y with
  |n j =>
   have:i≠j:=fun e=>h (by rw[e])
   simp only[Mark.lt]
   by_cases h1:i < j
   ·simp[h1,show ¬ j < i by lia]
   ·simp[h1,show j < i by lia]
  |s t=>rfl
 |s t=>cases y with
  |n j=>rfl
  |s u=>exact Pl _ _ fun e=>h (by rw[Afa e])
theorem Mark.trans {x y z:Mark} (h1:x.lt y=true) (h2:y.lt z=true):x.lt z=true:=by
 cases x with
 |n i=>cases y with
  |n j=>cases z with
   |n k=>simp[Mark.lt] at *;lia
   |s t=>rfl
  |s t=>cases z with
   |n k=>exact Bn h2
   |s u=>rfl
 |s t=>cases y with
  |n j=>exact Bn h1
  |s u=>cases z with
   |n k=>exact Bn h2
   |s v=>simp[Mark.lt] at *;exact List.lt_trans h1 h2
theorem T9:∀ {xs ys:List Mark},xs≠ys->mlt xs ys=!mlt ys xs
 |[],[],h=>absurd rfl h
 |[],_::_,_=>rfl
 |_::_,[],_=>rfl
 |x::xs,y::ys,h=>by
  rw[mlt,mlt]
  by_cases e:x=y
  ·subst e
   rw[Aq4 rfl,Aq4 rfl]
   exact T9 fun z=>h (by rw[z])
  ·rw[Aq7 e,Aq7 fun z=>e z.symm]
   exact Mark.tri e
theorem L0:∀ {xs ys zs:List Mark},mlt xs ys=true->mlt ys zs=true->mlt xs zs=true
 |[],[],_,h,_=>by exact Bn h
 |[],_::_,[],_,h=>by exact Bn h
 |[],_::_,_::_,_,_=>rfl
 |_::_,[],_,h,_=>by exact Bn h
 |_::_,_::_,[],_,h=>by exact Bn h
 |x::xs,y::ys,z::zs,h1,h2=>by
  rw[mlt] at h1 h2 ⊢
  by_cases e1:x=y
  ·subst e1
   rw[Aq4 rfl] at h1
   by_cases e2:x=z
   ·rw[Aq4 e2] at h2 ⊢
    exact L0 h1 h2
   ·rw[Aq7 e2] at h2 ⊢
    exact h2
  ·rw[Aq7 e1] at h1
   by_cases e2:y=z
   ·subst e2
    rw[Aq7 e1]
    exact h1
   ·rw[Aq7 e2] at h2
    have h3:=Mark.trans h1 h2
    by_cases e3:x=z
    ·subst e3
     rw[Mark.self] at h3
     exact Bn h3
    ·rw[Aq7 e3];exact h3
theorem Ac6:mlt xs []=false:=by cases xs<;>rfl
theorem Ii (x:Mk):x.older x=false:=by
 unfold Mk.older
 rw[Aq7 (by simp),Aq7 (by simp),Aq7 (by simp)]
 split
 ·simp
 ·exact Jp _
theorem older_iff {x y:Mk}:x.older y=true ↔ x.a < y.a\/x.a=y.a/\(x.b < y.b\/x.b=y.b/\(x.c < y.c\/x.c=y.c/\(x.ms≠[]/\(y.ms=[]\/mlt x.ms y.ms=true)))):=by
 obtain⟨a,b,c,ms⟩:=x
 obtain⟨a',b',c',ms'⟩:=y
 unfold Mk.older
 simp only
 by_cases h1:a=a'
 ·subst h1
  rw[Aq7 (by simp)]
  by_cases h2:b=b'
  ·subst h2
   rw[Aq7 (by simp)]
   by_cases h3:c=c'
   ·subst h3
    rw[Aq7 (by simp)]
    simp only[Int.lt_irrefl,false_or,true_and]
    by_cases h4:ms=[]\/ms'=[]
    ·rw[Aq4 h4,Asq]
     constructor
     ·exact fun h=>⟨h.1,.inl h.2⟩
     ·rintro ⟨h5,h6⟩
      exact⟨h5,h4.resolve_left h5⟩
    ·rw[Aq7 h4]
     rw[not_or] at h4
     exact⟨fun h=>⟨h4.1,.inr h⟩,fun h=>h.2.resolve_left h4.2⟩
   ·rw[Aq4 (by simpa using h3)]
    simp[h3]
  ·rw[Aq4 (by simpa using h2)]
   simp[h2]
 ·rw[Aq4 (by simpa using h1)]
  simp[h1]
theorem Cy {x y z:Mk} (h1:x.older y=true) (h2:y.older z=true):x.older z=true:=by
 rw[older_iff] at *
 rcases h1 with h1|⟨ha,h1|⟨hb,h1|⟨hc,hm,h1⟩⟩⟩
 ·rcases h2 with h2|⟨ha',_⟩
  ·exact .inl (by lia)
  ·exact .inl (by lia)
 ·rcases h2 with h2|⟨ha',h2|⟨hb',_⟩⟩
  ·exact .inl (by lia)
  ·exact .inr ⟨by lia,.inl (by lia)⟩
  ·exact .inr ⟨by lia,.inl (by lia)⟩
 ·rcases h2 with h2|⟨ha',h2|⟨hb',h2|⟨hc',_⟩⟩⟩
  ·exact .inl (by lia)
  ·exact .inr ⟨by lia,.inl (by lia)⟩
  ·exact .inr ⟨by lia,.inr ⟨by lia,.inl (by lia)⟩⟩
  ·exact .inr ⟨by lia,.inr ⟨by lia,.inl (by lia)⟩⟩
 ·rcases h2 with h2|⟨ha',h2|⟨hb',h2|⟨hc',hm',h2⟩⟩⟩
  ·exact .inl (by lia)
  ·exact .inr ⟨by lia,.inl (by lia)⟩
  ·exact .inr ⟨by lia,.inr ⟨by lia,.inl (by lia)⟩⟩
  ·refine .inr ⟨by lia,.inr ⟨by lia,.inr ⟨by lia,hm,?_⟩⟩⟩
   rcases h1 with h1|h1
   ·exact absurd h1 hm'
   ·rcases h2 with h2|h2
    ·exact .inl h2
    ·exact .inr (L0 h1 h2)
theorem D1 {x y:Mk} (h:x.older y=true):y.older x=false:=by
 cases e:y.older x with
 |false=>rfl
 |true =>
  have h2:=Cy h e
  rw[Ii] at h2
  exact Bn h2
theorem Gz {x y:Mk} (h:x≠y):x.older y=!y.older x:=by
 cases e:y.older x with
 |true=>exact D1 e
 |false =>
  show x.older y=true
  have e':¬ y.older x=true:=by rw[e];decide
  rw[older_iff] at e' ⊢
  by_cases ha:x.a=y.a
  ·by_cases hb:x.b=y.b
   ·by_cases hc:x.c=y.c
    ·have hm:x.ms≠y.ms:=fun z=>h (by cases x;cases y;simp at *;exact⟨ha,hb,hc,z⟩)
     refine .inr ⟨ha,.inr ⟨hb,.inr ⟨hc,?_⟩⟩⟩
     have e2:¬ (y.ms≠[]/\(x.ms=[]\/mlt y.ms x.ms=true)):=fun z=>e' (.inr ⟨ha.symm,.inr ⟨hb.symm,.inr ⟨hc.symm,z⟩⟩⟩)
     by_cases h4:y.ms=[]
     ·exact⟨fun z=>hm (by rw[z,h4]),.inl h4⟩
     ·have e3:¬ (x.ms=[]\/mlt y.ms x.ms=true):=fun z=>e2 ⟨h4,z⟩
      rw[not_or] at e3
      refine⟨e3.1,.inr ?_⟩
      rw[T9 hm]
      cases q:mlt y.ms x.ms with
      |true=>exact absurd q e3.2
      |false=>rfl
    ·rcases Int.lt_or_gt_of_ne hc with h5|h5
     ·exact .inr ⟨ha,.inr ⟨hb,.inl h5⟩⟩
     ·exact absurd (.inr ⟨ha.symm,.inr ⟨hb.symm,.inl h5⟩⟩) e'
   ·rcases Int.lt_or_gt_of_ne hb with h5|h5
    ·exact .inr ⟨ha,.inl h5⟩
    ·exact absurd (.inr ⟨ha.symm,.inl h5⟩) e'
  ·rcases Int.lt_or_gt_of_ne ha with h5|h5
   ·exact .inl h5
   ·exact absurd (.inl h5) e'
noncomputable def Mk.next (x:Mk):Mk:=if x.ms=[] then ⟨x.a,x.b,x.c+1,[.n 0]⟩ else ⟨x.a,x.b,x.c,x.ms++[.n 0]⟩
noncomputable def Mark.pos:Mark->Prop
 |.n i=>0<=i
 |.s _=>True
theorem Ac4 {m:Mark} (h:m.pos):m.lt (.n 0)=false:=by
 cases m with
 |n i=>simp only[Mark.pos] at h;simp[Mark.lt];exact h
 |s t=>rfl
theorem Od:∀ xs:List Mark,mlt xs (xs++[.n 0])=true
 |[]=>rfl
 |x::xs=>by rw[Asj,mlt,Aq4 rfl];exact Od xs
theorem E8 (hp:∀ m∈xs,m.pos) (h:mlt xs [.n 0]=true):xs=[]:=by
 cases xs with
 |nil=>rfl
 |cons x xs =>
  rw[mlt] at h
  by_cases e:x=.n 0
  ·rw[Aq4 e,Ac6] at h;exact Bn h
  ·rw[Aq7 e,Ac4 (hp x (Aq8 ..))] at h;exact Bn h
theorem Gu:∀ {xs ys:List Mark},(∀ m∈ys,m.pos)->mlt xs ys=true->mlt ys (xs++[.n 0])=true->False
 |[],ys,hp,h1,h2=>by rw[E8 hp h2] at h1;exact Bn h1
 |x::xs,[],hp,h1,h2=>by exact Bn h1
 |x::xs,y::ys,hp,h1,h2=>by
  rw[Asj] at h2
  rw[mlt] at h1 h2
  by_cases e:x=y
  ·subst e
   rw[Aq4 rfl] at h1 h2
   exact Gu (fun m hm=>hp m (Aq6 _ hm)) h1 h2
  ·rw[Aq7 e] at h1
   rw[Aq7 fun z=>e z.symm] at h2
   have h3:=Mark.trans h1 h2
   rw[Mark.self] at h3
   exact Bn h3
theorem Pw (x:Mk):x.older x.next=true:=by
 rw[older_iff]
 unfold Mk.next
 by_cases h:x.ms=[]
 ·rw[Aq4 h];exact .inr ⟨rfl,.inr ⟨rfl,.inl (by show x.c < x.c+1;lia)⟩⟩
 ·rw[Aq7 h];exact .inr ⟨rfl,.inr ⟨rfl,.inr ⟨rfl,h,.inr (Od _)⟩⟩⟩
theorem L4 {x y:Mk} (hp:∀ m∈y.ms,m.pos) (h1:x.older y=true) (h2:y.older x.next=true):False:=by
 rw[older_iff] at h1 h2
 unfold Mk.next at h2
 by_cases h:x.ms=[]
 ·rw[Aq4 h] at h2
  simp only at h2
  rcases h1 with h1|⟨ha,h1|⟨hb,h1|⟨hc,hm,h1⟩⟩⟩
  ·rcases h2 with h2|⟨ha',_⟩<;>lia
  ·rcases h2 with h2|⟨ha',h2|⟨hb',_⟩⟩<;>lia
  ·rcases h2 with h2|⟨ha',h2|⟨hb',h2|⟨hc',hm',h2⟩⟩⟩
   ·lia
   ·lia
   ·lia
   ·rcases h2 with h2|h2
    ·cases h2
    ·exact hm' (E8 hp h2)
  ·exact hm h
 ·rw[Aq7 h] at h2
  simp only at h2
  rcases h1 with h1|⟨ha,h1|⟨hb,h1|⟨hc,hm,h1⟩⟩⟩
  ·rcases h2 with h2|⟨ha',_⟩<;>lia
  ·rcases h2 with h2|⟨ha',h2|⟨hb',_⟩⟩<;>lia
  ·rcases h2 with h2|⟨ha',h2|⟨hb',h2|⟨hc',_⟩⟩⟩<;>lia
  ·rcases h2 with h2|⟨ha',h2|⟨hb',h2|⟨hc',hm',h2⟩⟩⟩
   ·lia
   ·lia
   ·lia
   ·rcases h2 with h2|h2
    ·exact absurd h2 (by simp)
    ·rcases h1 with h1|h1
     ·exact hm' h1
     ·exact Gu hp h1 h2
def Ann (Q:List D->Prop) (d:D):Prop:=∃ es,d=.lst es/\Ay es=true/\Q es
theorem Dr (h:Ay es=true):Ann Q (.lst es)=Q es:=by
 apply propext
 constructor
 ·rintro ⟨fs,e,_,q⟩;cases e;exact q
 ·exact fun q=>⟨es,rfl,h,q⟩
theorem Ri:W (Jc n fn ds m) Q=W (Cd m ds) fun ds'=>ds'.length=n/\W (fn ds') (Ann Q):=by
 unfold Jc
 rw[W_bind,Gb]
 congr 1;funext ds'
 apply propext
 refine⟨fun⟨h1,h2⟩=>⟨h1,h2.imp fun d h=>?_⟩,fun⟨h1,h2⟩=>⟨h1,h2.imp fun d h=>?_⟩⟩
 ·cases d with
  |lst es =>
   simp only at h
   rw[Ew] at h
   exact⟨es,rfl,h.1,h.2⟩
  |_=>rw[A5] at h;exact h.elim
 ·obtain⟨es,rfl,h1,h2⟩:=h
  simp only
  rw[Ew]
  exact⟨h1,h2⟩
abbrev Ak6 (ys:List Mk):Prop:=ys.Pairwise fun x y=>x.older y=true
theorem Gv (xs:List Mk):Ar (xs.map Mk.d)=true:=B2 (D7 xs)
theorem Ry {α β:Type}{f:α->β}{xs:List α}{lo hi:Option Int}:C8 (xs.map f) lo hi=(C8 xs lo hi).map f:=by
 unfold C8;rw[Arj,List.map_take,List.map_drop]
theorem Abs {α:Type}{xs:List α}{lo hi:Option Int}{x:α} (h:x∈C8 xs lo hi):x∈xs:=by
 unfold C8 at h;exact List.mem_of_mem_drop (List.mem_of_mem_take h)
theorem Rx {α:Type}{xs:List α}{lo hi:Option Int}:(C8 xs lo hi).length<=xs.length:=by
 unfold C8;rw[Ar1,As9];lia
def oD:Option Mk->D
 |none=>.non
 |some h=>h.d
abbrev Pc:=Mk×Option Mk
def pD (p:Pc):D:=.tup [p.1.d,oD p.2]
theorem Ud (o:Option Mk):Be (oD o)=true:=by
 cases o with
 |none=>exact L3
 |some x=>exact x.pure
theorem Ul (p:Pc):Be (pD p)=true:=by unfold pD;rw[D6,A7,A7,Cs,p.1.pure,Ud];rfl
theorem Oh (ps:List Pc):Ay (ps.map pD)=true:=A0 Ul
theorem Ai6:W (oIx (pD p) (.int 0) m) Q=Q p.1.d:=by unfold pD;rw[Mx,Aa8]
theorem Ai7:W (oIx (pD p) (.int 1) m) Q=Q (oD p.2):=by unfold pD;rw[Mx,Aa9]
theorem Ai8:W (Mu 2 g (pD p) env) Q=W (g [p.1.d,oD p.2] env) Q:=by
 unfold pD;rw[Zk];simp
theorem Ah7:W (Og (oD o) m) Q=Q (.bl o.isNone):=by cases o<;>exact Ac
theorem Ac8:W (Pu (oD o) m) Q=Q (.bl o.isSome):=by cases o<;>exact Ac
noncomputable def B0:List Mk->List Pc
 |[]=>[]
 |[x]=>[(x,none)]
 |x::y::r=>(x,some y)::B0 r
theorem Cu:∀ ys:List Mk,(B0 ys).length=(ys.length+1) / 2
 |[]=>rfl
 |[x]=>by simp[B0]
 |x::y::r=>by rw[B0,Ark,Cu r,Ark,Ark];lia
theorem El:∀ (ys:List Mk) (k:Nat) (h:2 * k < ys.length),(B0 ys)[k]?=some (ys[2 * k],ys[2 * k+1]?)
 |[],_,h=>absurd h (Nat.not_lt_zero _)
 |[x],0,_=>rfl
 |[x],k+1,h=>by simp at h<;>lia
 |x::y::r,0,_=>rfl
 |x::y::r,k+1,h=>by
  have h':2 * k < r.length:=by simp at h;lia
  rw[B0,Arq,El r k h']
  rfl
open Classical
noncomputable section
theorem Af9:W (Ac9 [.bl b] m) Q=Q (.int (if b then 1 else 0)):=Ac
end
end ML
end L2
end S_ML47
section S_MM7
namespace L2
namespace ML
open PySem
theorem mp1 {a:D}{l:Ba}:List.map some [a]++l=some a::l:=rfl
theorem mp2 {a b:D}{l:Ba}:List.map some [a,b]++l=some a::some b::l:=rfl
theorem mp3 {a b c:D}{l:Ba}:List.map some [a,b,c]++l=some a::some b::some c::l:=rfl
theorem ln1 {a:D}:[a].length=1:=rfl
theorem ln2 {a b:D}:[a,b].length=2:=rfl
theorem ln3 {a b c:D}:[a,b,c].length=3:=rfl
theorem Amy {p q:Prop}{b:Bool} (h:b=true):cK p q b=p:=by rw[h,Ro]
theorem Amx {p q:Prop}{b:Bool} (h:b=false):cK p q b=q:=by rw[h,Ag9]
theorem Vo:W (fVI i k env m) Q=W (Ai i env m) fun d=>W (oIx d (.int k) m) Q:=by unfold fVI;simp only[Ao7,Ao8]
theorem Ami {d:D}:W (fVI 0 k (some d::e) m) Q=W (oIx d (.int k) m) Q:=by rw[Vo,Apa]
theorem Amj {d:D}:W (fVI 1 k (x::some d::e) m) Q=W (oIx d (.int k) m) Q:=by rw[Vo,Apb]
theorem Amk {d:D}:W (fVI 3 k (x::y::z::some d::e) m) Q=W (oIx d (.int k) m) Q:=by rw[Vo,Apc]
theorem Aml {d:D}:W (fVI 4 k (x::y::z::v::some d::e) m) Q=W (oIx d (.int k) m) Q:=by rw[Vo,Apd]
theorem Alv:W (fC1 fn a env m) Q=W (a env m) fun x=>W (Ca m x) fun x'=>W (fn [x']) Q:=by unfold fC1;simp only[Ja,Ge,J7,Gb,Cp,Cq,Ark,Atf,Nat.reduceAdd,true_and]
theorem Alw:W (fC2 fn a b env m) Q=W (a env m) fun x=>W (b env m) fun y=>W (Ca m x) fun x'=>W (Ca m y) fun y'=>W (fn [x',y']) Q:=by unfold fC2;simp only[Ja,Ge,J7,Gb,Cp,Cq,Ark,Atf,Nat.reduceAdd,true_and]
theorem Alx:W (fC3 fn a b c env m) Q=W (a env m) fun x=>W (b env m) fun y=>W (c env m) fun z=>W (Ca m x) fun x'=>W (Ca m y) fun y'=>W (Ca m z) fun z'=>W (fn [x',y',z']) Q:=by unfold fC3;simp only[Ja,Ge,J7,Gb,Cp,Cq,Ark,Atf,Nat.reduceAdd,true_and]
theorem Aly:W (fF1 fn a env m) Q=W (a env m) fun x=>W (Ca m x) fun x'=>W (fn [x']) (Ann Q):=by unfold fF1;simp only[Ny,Ge,J7,Ri,Cp,Cq,Ark,Atf,Nat.reduceAdd,true_and]
end ML
end L2
end S_MM7
section S_MM8
namespace L2
namespace ML
open PySem
variable {m:MH}
theorem Alu {n:Nat}{fn:List D->Option D}{ds:List D}{Q:D->Prop}:W (Hs n fn ds m) Q=W (Cb m ds) fun ds'=>ds'.length=n/\W (fn ds') Q:=by
 unfold Hs
 rw[W_bind];congr 1;funext z
 by_cases h:z.length=n
 ·rw[Aq4 h];simp[h]
 ·rw[Aq7 h,A5];simp[h]
theorem Ag3 {Q:List D->Prop}:W (Cb m []) Q=Q []:=Ac
theorem Ag2 {d:D}{ds:List D}{Q:List D->Prop}:W (Cb m (d::ds)) Q=W (Ms m d) fun d'=>W (Cb m ds) fun ds'=>Q (d'::ds'):=by
 rw[Cb,W_bind];congr 1;funext x;rw[W_bind];congr 1;funext y;exact Ac
theorem Amh {ds:List D}{Q:D->Prop}:W (Ms m (.tup ds)) Q=W (Ca m (.tup ds)) Q:=rfl
theorem Aqb {n:Nat}{Q:D->Prop}:W (Ms m (.ref n)) Q=W (Ca m (.ref n)) Q:=rfl
theorem Agh {i j:Int}{Q:D->Prop}:W (Ng [.int i,.int j] m) Q=Q (.int (if j > i then j else i)):=Ac
end ML
end L2
end S_MM8
section S_MS1
namespace L2
namespace ML
open PyProof.Rows PySem.W
def Sat {α:Type} (c:Nat->Nat->Option Bool) (t:KasT α) (Q:α->Prop):Prop:=∃ a,evO c t=some a/\Q a
theorem Sat.ret (h:Q a):Sat c (.ret a) Q:=⟨a,rfl,h⟩
theorem Sat.ask (h1:c i j=some b) (h2:Sat c (k b) Q):Sat c (.ask i j k) Q:=by
 obtain⟨a,e,q⟩:=h2
 exact⟨a,by rw[evO,h1];exact e,q⟩
theorem N7:∀ t:KasT α,evO c (t.bind f)=(evO c t).bind fun a=>evO c (f a)
 |.ret a=>rfl
 |.ask i j k=>by
  show (c i j).bind (fun b=>evO c ((k b).bind f))=((c i j).bind fun b=>evO c (k b)).bind _
  cases c i j with
  |none=>rfl
  |some b=>exact N7 (k b)
theorem Sat.bind {t:KasT α} (h:Sat c t fun a=>Sat c (f a) Q):Sat c (t.bind f) Q:=by
 obtain⟨a,e,b,e2,q⟩:=h
 exact⟨b,by rw[N7,e];exact e2,q⟩
def PermN (n:Nat) (p:Array Nat):Prop:=p.Perm (List.range n).toArray
theorem PermN.size (h:PermN n p):p.size=n:=by have:=Array.Perm.size_eq h;simpa using this
theorem PermN.lt (h:PermN n p) (hn:0 < n) (i:Nat):p.getD i 0 < n:=by
 by_cases hi:i < p.size
 ·have h1:p[i]∈p.toList:=by simp
  have h2:=(Array.perm_iff_toList_perm.mp h).mem_iff.mp h1
  have h3:p[i] < n:=by simpa using h2
  simpa [Array.getD,hi] using h3
 ·simpa [Array.getD,hi] using hn
section
variable {O:KeyOrd} (key:Nat->O.α)
noncomputable def KA (p:Array Nat) (i:Nat):O.α:=key (p.getD i 0)
def Srt (p:Array Nat) (k:Nat):Prop:=∀ i j,i<=j->j < k->O.kle (KA key p i) (KA key p j)
def Nin (p:Array Nat) (k:Nat):Prop:=∀ i j,i<=j->j < k->O.kle (KA key p j) (KA key p i)
end
section
variable {O:KeyOrd}{key:Nat->O.α}{n:Nat}{c:Nat->Nat->Option Bool}{p:Array Nat}
theorem D2 (h:p[i]?=r[j]?):KA key p i=KA key r j:=by
 unfold KA
 rw[Array.getD_eq_getD_getElem?,Array.getD_eq_getD_getElem?,h]
theorem Rg (hj:j<=p.size) (k:Nat):KA key (kas_rev p i j) k=if i<=k/\k < j then KA key p (i+j - 1 - k) else KA key p k:=by
 have e:=getElem?_mirror_all (i:=i) hj k
 unfold kas_rev
 by_cases q:i<=k/\k < j
 ·rw[Aq4 q] at e;rw[Aq4 q];exact D2 e
 ·rw[Aq7 q] at e;rw[Aq7 q];exact D2 e
theorem Iy (hj:j<=p.size) (he:∀ k,i<=k->k < j->KA key p k=KA key p (j - 1)) (k:Nat):KA key (kas_rev p i j) k=KA key p k:=by
 rw[Rg hj]
 by_cases q:i<=k/\k < j
 ·rw[Aq4 q,he _ (by lia) (by lia),he k q.1 q.2]
 ·rw[Aq7 q]
theorem Zj {src d:Nat} (hs:src < p.size) (hd:d<=src) (k:Nat):KA key (bubble p src d) k=if k=src - d then KA key p src else if src - d < k/\k<=src then KA key p (k - 1) else KA key p k:=by
 have e:=getElem?_bubble hs d hd k
 by_cases q:k=src - d
 ·rw[Aq4 q] at e;rw[Aq4 q];exact D2 e
 ·rw[Aq7 q] at e;rw[Aq7 q]
  by_cases q2:src - d < k/\k<=src
  ·rw[Aq4 q2] at e;rw[Aq4 q2];exact D2 e
  ·rw[Aq7 q2] at e;rw[Aq7 q2];exact D2 e
theorem PermN.rev (h:PermN n p) (i j:Nat):PermN n (kas_rev p i j):=(mirror_perm _ _ _ _).trans h
theorem PermN.bub (h:PermN n p) (i j:Nat):PermN n (bubble p i j):=(bubble_perm _ _ _).trans h
theorem J9 (hc:∀ i j,i < n->j < n->c i j=some (O.blt (key i) (key j))) (hn:0 < n) (hp:PermN n p) (i j:Nat) (h:Sat c (k (O.blt (KA key p i) (KA key p j))) Q):Sat c (.ask (p.getD i 0) (p.getD j 0) k) Q :=
 Sat.ask (hc _ _ (hp.lt hn i) (hp.lt hn j)) h
theorem Ae9:Srt key p 1:=fun i j hij hj=>by
 have:i=j:=by lia
 subst this;exact Atg _
theorem Y2 (hs:Srt key p a) (h1:1<=a) (h:O.kle (KA key p (a - 1)) (KA key p a)):Srt key p (a+1):=fun i j hij hj=>by
 by_cases q:j < a
 ·exact hs i j hij q
 ·have:j=a:=by lia
  subst this
  by_cases q2:i=j
  ·subst q2;exact Atg _
  ·exact KeyOrd.kle_trans (hs i (j - 1) (by lia) (by lia)) h
theorem E9 (hs:Nin key p a) (h1:1<=a) (h:O.kle (KA key p a) (KA key p (a - 1))):Nin key p (a+1):=fun i j hij hj=>by
 by_cases q:j < a
 ·exact hs i j hij q
 ·have:j=a:=by lia
  subst this
  by_cases q2:i=j
  ·subst q2;exact Atg _
  ·exact KeyOrd.kle_trans h (hs i (j - 1) (by lia) (by lia))
theorem Ub (h:Nin key p a) (e:∀ k,KA key r k=KA key p k):Nin key r a:=fun i j hij hj=>by rw[e,e];exact h i j hij hj
theorem Mz (hc:∀ i j,i < n->j < n->c i j=some (O.blt (key i) (key j))) (hn:0 < n) (hp:PermN n p):∀ (f a:Nat),1<=a->Srt key p a ->
  (∀ m,a<=m->m<=a+f->Srt key p m->(m=a+f\/O.klt (KA key p m) (KA key p (m - 1)))->Q m)->Sat c (kas_asc p f a) Q
 |0,a,h1,hs,h=>Sat.ret (h a (Aq5 _) (Aq5 _) hs (.inl rfl))
 |f+1,a,h1,hs,h=>by
  rw[kas_asc]
  refine J9 hc hn hp a (a - 1) ?_
  cases e:O.blt (KA key p a) (KA key p (a - 1)) with
  |true=>exact Sat.ret (h a (Aq5 _) (by lia) hs (.inr e))
  |false =>
   rw[Aq7 (by decide)]
   refine Mz hc hn hp f (a+1) (by lia) (Y2 hs h1 e) fun m m1 m2 m3 m4=>h m (by lia) (by lia) m3 ?_
   rcases m4 with m4|m4
   ·exact .inl (by lia)
   ·exact .inr m4
theorem Ey (hc:∀ i j,i < n->j < n->c i j=some (O.blt (key i) (key j))) (hn:0 < n) (hz:z<=n) (h:∀ p m q,PermN n p->1<=m->m<=z->Nin key p m->q+1<=m->(∀ i,m - (q+1)<=i->i < m->KA key p i=KA key p (m - 1))->Q (p,m,q)):∀ (f:Nat) {p:Array Nat}{x q:Nat},PermN n p->x+f=z->Nin key p x->q+1<=x ->
  (∀ i,x - (q+1)<=i->i < x->KA key p i=KA key p (x - 1))->Sat c (kas_desc f p x q) Q
 |0,p,x,q,hp,hx,hs,hq,he=>Sat.ret (h p x q hp (by lia) (by lia) hs hq he)
 |f+1,p,x,q,hp,hx,hs,hq,he=>by
  rw[kas_desc]
  refine J9 hc hn hp x (x - 1) ?_
  have hsz:x<=p.size:=by rw[hp.size];lia
  cases e:O.blt (KA key p x) (KA key p (x - 1)) with
  |true =>
   rw[Aq4 rfl]
   have s1:=E9 hs (by lia) (KeyOrd.kle_of_klt e)
   by_cases q0:q > 0
   ·rw[Aq4 q0]
    refine Ey hc hn hz h f (hp.rev _ _) (by lia) (Ub s1 (Iy hsz he)) (by lia) fun i h1 h2=>?_
    have:i=x+1 - 1:=by lia
    rw[this]
   ·rw[Aq7 q0]
    refine Ey hc hn hz h f hp (by lia) s1 (by lia) fun i h1 h2=>?_
    have:i=x+1 - 1:=by lia
    rw[this]
  |false =>
   rw[Aq7 (by decide)]
   refine J9 hc hn hp (x - 1) x ?_
   cases e2:O.blt (KA key p (x - 1)) (KA key p x) with
   |true=>exact Sat.ret (h p x q hp (by lia) (by lia) hs hq he)
   |false =>
    rw[Aq7 (by decide)]
    have eq:KA key p x=KA key p (x - 1):=KeyOrd.kle_antisymm e2 e
    refine Ey hc hn hz h f hp (by lia) (E9 hs (by lia) e2) (by lia) fun i h1 h2=>?_
    rw[show x+1 - 1=x by lia]
    by_cases hix:i=x
    ·rw[hix]
    ·rw[eq];exact he i (by lia) (by lia)
theorem Oy (hc:∀ i j,i < n->j < n->c i j=some (O.blt (key i) (key j))) (hn:0 < n) (hz:z<=n) (h1:1<=a) (ha:a<=z) (hp:PermN n p) (hs:Nin key p a) (h:∀ m r,PermN n r->1<=m->m<=z->Srt key r m->Q (m,r)):Sat c (kas_tail3 a z p) Q:=by
 unfold kas_tail3
 have hsz:a<=p.size:=by rw[hp.size];lia
 refine Sat.bind (Mz hc hn (hp.rev 0 a) (z - a) a h1 (fun i j hij hj=>?_) fun m m1 m2 m3 _=>Sat.ret (h m _ (hp.rev 0 a) (by lia) (by lia) m3))
 rw[Rg hsz,Rg hsz,Aq4 (by lia),Aq4 (by lia)]
 exact hs _ _ (by lia) (by lia)
theorem Oj (hc:∀ i j,i < n->j < n->c i j=some (O.blt (key i) (key j))) (hn:0 < n) (hz:z<=n) (ha:a+1<=z) (hp:PermN n p) (hs:Nin key p (a+1)) (h:∀ m r,PermN n r->1<=m->m<=z->Srt key r m->Q (m,r)):Sat c (kas_descPart a z p) Q:=by
 unfold kas_descPart
 refine Sat.bind (Ey (p:=p) (x:=a+1) (q:=0) hc hn hz (fun r m q hr m1 m2 m3 m4 m5=>?_) (z - (a+1)) hp (by lia) hs (by lia) fun i h1 h2=>?_)
 ·have hsz:m<=r.size:=by rw[hr.size];lia
  show Sat c (if q > 0 then _ else _) Q
  by_cases q0:q > 0
  ·rw[Aq4 q0]
   exact Oy hc hn hz m1 m2 (hr.rev _ _) (Ub m3 (Iy hsz m5)) h
  ·rw[Aq7 q0]
   exact Oy hc hn hz m1 m2 hr m3 h
 ·have:i=a+1 - 1:=by lia
  rw[this]
theorem Rw (hc:∀ i j,i < n->j < n->c i j=some (O.blt (key i) (key j))) (hz:z<=n) (h1:1<=z) (hp:PermN n p) (h:∀ m r,PermN n r->1<=m->m<=z->Srt key r m->Q (m,r)):Sat c (kas_count z p) Q:=by
 have hn:0 < n:=by lia
 unfold kas_count
 refine Sat.bind (Mz hc hn hp (z - 1) 1 (Aq5 _) Ae9 fun m m1 m2 m3 m4=>?_)
 have hsz:m<=p.size:=by rw[hp.size];lia
 by_cases q:(m == z)=true
 ·rw[Aq4 q];exact Sat.ret (h m p hp m1 (by lia) m3)
 ·rw[Aq7 q]
  have hmz:m≠z:=fun e=>q (by simp[e])
  have hlt:O.klt (KA key p m) (KA key p (m - 1)):=m4.resolve_left (by lia)
  by_cases q1:m > 1
  ·rw[Aq4 q1]
   refine J9 hc hn hp 0 (m - 1) ?_
   cases e:O.blt (KA key p 0) (KA key p (m - 1)) with
   |true=>rw[Aq4 rfl];exact Sat.ret (h m p hp m1 (by lia) m3)
   |false =>
    rw[Aq7 (by decide)]
    have all:∀ k,0<=k->k < m->KA key p k=KA key p (m - 1):=fun k _ hk=>KeyOrd.kle_antisymm (m3 k (m - 1) (by lia) (by lia)) (KeyOrd.kle_trans e (m3 0 k (by lia) hk))
    have flat:Nin key p m:=fun i j hij hj=>by rw[all i (by lia) (by lia),all j (by lia) hj];exact Atg _
    exact Oj hc hn hz (by lia) (hp.rev 0 m) (Ub (E9 flat m1 (KeyOrd.kle_of_klt hlt)) (Iy hsz all)) h
  ·rw[Aq7 q1]
   have e1:m=1:=by lia
   subst e1
   refine Oj hc hn hz (by lia) hp (E9 (fun i j hij hj=>?_) (Aq5 _) (KeyOrd.kle_of_klt hlt)) h
   have:i=j:=by lia
   subst this;exact Atg _
theorem G4 (hc:∀ i j,i < n->j < n->c i j=some (O.blt (key i) (key j))) (hn:0 < n) (hp:PermN n p) (hs:Srt key p k) (h:∀ l,l<=k->(∀ i,i < l->O.kle (KA key p i) (KA key p k))->(∀ i,l<=i->i < k->O.klt (KA key p k) (KA key p i))->Q l) :
  ∀ (f l r:Nat),l<=r->r<=k->r - l<=f->(∀ i,i < l->O.kle (KA key p i) (KA key p k))->(∀ i,r<=i->i < k->O.klt (KA key p k) (KA key p i))->Sat c (kas_place p k f l r) Q
 |0,l,r,h1,h2,h3,lo,hi=>by
  have e:l=r:=by lia
  subst e
  exact Sat.ret (h l h2 lo hi)
 |f+1,l,r,h1,h2,h3,lo,hi=>by
  rw[kas_place]
  by_cases q:l ≥ r
  ·rw[Aq4 q]
   have e:l=r:=by lia
   subst e
   exact Sat.ret (h l h2 lo hi)
  ·rw[Aq7 q]
   refine J9 hc hn hp k ((l+r) / 2) ?_
   cases e:O.blt (KA key p k) (KA key p ((l+r) / 2)) with
   |true =>
    rw[Aq4 rfl]
    exact G4 hc hn hp hs h f l ((l+r) / 2) (by lia) (by lia) (by lia) lo fun i a1 a2=>KeyOrd.klt_of_klt_of_kle e (hs _ _ a1 a2)
   |false =>
    rw[Aq7 (by decide)]
    exact G4 hc hn hp hs h f ((l+r) / 2+1) r (by lia) h2 (by lia) (fun i a1=>KeyOrd.kle_trans (hs i ((l+r) / 2) (by lia) (by lia)) e) hi
theorem Rm (hc:∀ i j,i < n->j < n->c i j=some (O.blt (key i) (key j))) (hn:0 < n) (h:∀ p,PermN n p->Srt key p n->Q p):∀ (f:Nat) {p:Array Nat}{k:Nat},PermN n p->k+f=n->Srt key p k->Sat c (kas_bin f p k) Q
 |0,p,k,hp,hk,hs=>by
  have e:k=n:=by lia
  subst e
  exact Sat.ret (h p hp hs)
 |f+1,p,k,hp,hk,hs=>by
  rw[kas_bin]
  refine Sat.bind (G4 hc hn hp hs (fun l hl lo hi=>?_) k 0 k (Ar8 _) (Aq5 _) (by lia) (fun i hi=>absurd hi (Nat.not_lt_zero _)) fun i a1 a2=>absurd a2 (by lia))
  refine Rm hc hn h f (hp.bub _ _) (by lia) fun i j hij hj=>?_
  have hks:k < p.size:=by rw[hp.size];lia
  rw[Zj hks (by lia),Zj hks (by lia),show k - (k - l)=l by lia]
  by_cases i1:i=l<;>by_cases j1:j=l
  ·rw[Aq4 i1,Aq4 j1];exact Atg _
  ·rw[Aq4 i1,Aq7 j1,Aq4 (by lia)];exact KeyOrd.kle_of_klt (hi _ (by lia) (by lia))
  ·rw[Aq7 i1,Aq4 j1,Aq7 (by lia)];exact lo _ (by lia)
  ·rw[Aq7 i1,Aq7 j1]
   by_cases i2:l < i/\i<=k<;>by_cases j2:l < j/\j<=k
   ·rw[Aq4 i2,Aq4 j2];exact hs _ _ (by lia) (by lia)
   ·exact absurd j2 (by lia)
   ·rw[Aq7 i2,Aq4 j2];exact hs _ _ (by lia) (by lia)
   ·rw[Aq7 i2,Aq7 j2];exact hs _ _ (by lia) (by lia)
theorem Y1 (hc:∀ i j,i < n->j < n->c i j=some (O.blt (key i) (key j))) (hn:0 < n):Sat c (kas_sort n) fun p=>PermN n p/\Srt key p n:=by
 unfold kas_sort
 refine Sat.bind (Rw hc (Aq5 _) hn (Array.Perm.refl _) fun m r hr m1 m2 m3=>?_)
 show Sat c (if m < n then kas_bin (n - max m 1) r (max m 1) else .ret r) _
 by_cases q:m < n
 ·rw[Aq4 q]
  exact Rm hc hn (fun p h1 h2=>⟨h1,h2⟩) _ hr (by lia) (by rw[show max m 1=m by lia];exact m3)
 ·rw[Aq7 q]
  have e:m=n:=by lia
  subst e
  exact Sat.ret ⟨hr,m3⟩
end
theorem Vd {α:Type} [Inhabited α] {blt:α->α->Bool} (irr:∀ a,blt a a=false) (tr:∀ a b c,blt a b=true->blt b c=true->blt a c=true) (ng:∀ a b c,blt a c=true->blt a b=true\/blt b c=true) (tt:∀ a b,blt a b=false->blt b a=false->a=b)
  {c:Nat->Nat->Option Bool}{zs:List α} (hc:∀ i j (hi:i < zs.length) (hj:j < zs.length),c i j=some (blt zs[i] zs[j])) (hn:0 < zs.length) :
  ∃ p:Array Nat,evO c (kas_sort zs.length)=some p/\(p.toList.map fun i=>zs.getD i default).Perm zs/\(p.toList.map fun i=>zs.getD i default).Pairwise (fun x y=>blt y x=false)/\∀ i∈p.toList,i < zs.length:=by
 obtain⟨p,e,hp,hs⟩:=Y1 (O:=⟨α,blt,irr,tr,ng,tt⟩) (key:=fun i=>zs.getD i default) (n:=zs.length) (c:=c) (fun i j hi hj=>by
  rw[hc i j hi hj]
  show some (blt zs[i] zs[j])=some (blt (zs.getD i default) (zs.getD j default))
  rw[Aqy,Aqy,Aqz hi,Aqz hj];rfl) hn
 have hl:p.toList.Perm (List.range zs.length):=Array.perm_iff_toList_perm.mp hp
 refine⟨p,e,?_,?_,fun i hi=>by simpa using hl.mem_iff.mp hi⟩
 ·have h2:=hl.map fun i=>zs.getD i default
  have e2:(List.range zs.length).map (fun i=>zs.getD i default)=zs:=by
   apply List.ext_getElem?
   intro i
   by_cases hi:i < zs.length
   ·simp[hi]
   ·simp[hi]
  rwa [e2] at h2
 ·rw[List.pairwise_iff_getElem]
  intro i j hi hj hij
  have hi':i < p.size:=by simpa using hi
  have hj':j < p.size:=by simpa using hj
  have h3:=hs i j (As4 hij) (by rw[<- hp.size];exact hj')
  have h4:blt (zs.getD (p.getD j 0) default) (zs.getD (p.getD i 0) default)=false:=h3
  simpa [Array.getD,hi',hj'] using h4
end ML
end L2
end S_MS1
section S_MP1
namespace L2
namespace ML
open PySem PySem.Spec PyProof.Rows
theorem Mk.d_inj {x y:Mk} (h:x.d=y.d):x=y:=by
 have h1:=Mk.deq x y
 rw[h,Mk.deq y y] at h1
 simpa using h1.symm
theorem Mk.py_inj {x y:Mk}:pyD x.d=pyD y.d ↔ x=y:=by
 constructor
 ·intro h
  have h2:=Asd dOf h
  rw[Rz x.pure,Rz y.pure] at h2
  exact Mk.d_inj h2
 ·rintro rfl;rfl
theorem Ah4 {x:Mk} (h:∀ m∈x.ms,kOk (pyD m.d)=true):Dx x.d=true:=by
 have h1:∀ ms:List Mark,(∀ m∈ms,kOk (pyD m.d)=true)->Jm (C7 (ms.map Mark.d))=true:=fun ms=>by
  induction ms with
  |nil=>intro _;simp[C7,Jm]
  |cons m ms ih=>intro h;rw[Ara,C7,Jm,h m (Aq8 ..),ih fun n hn=>h n (Aq6 _ hn)];rfl
 have h2:∀ ms:List Mark,Hk (C7 (ms.map Mark.d))=0:=fun ms=>by
  induction ms with
  |nil=>simp[C7,Hk]
  |cons m ms ih =>
   rw[Ara,C7,Hk,ih]
   cases m<;>simp[Mark.d,pyD,Pk]
 unfold Mk.d
 unfold Dx
 simp[pyD,C7,kOk,Jm,h1 x.ms h,Pk,Hk,h2]
structure Pos (z:Mk):Prop where
 a:0<=z.a
 b:0<=z.b
 c:0<=z.c
 ms:∀ m∈z.ms,m.pos
abbrev Dl:Mk:=⟨0,0,0,[.n 0]⟩
abbrev Td (a:Int):Mk:=⟨a,0,0,[.n 0]⟩
abbrev Z3 (a b:Int):Mk:=⟨a,b,0,[.n 0]⟩
theorem Ma (h:Pos z) (a b:Int):z.older (Z3 a b)=decide (z.a < a\/z.a=a/\z.b < b):=by
 rw[Bool.eq_iff_iff,older_iff,Asq]
 have hc:=h.c
 constructor
 ·rintro (q|⟨q,q2|⟨q3,q4|⟨q5,q6,q7|q7⟩⟩⟩)
  ·exact .inl q
  ·exact .inr ⟨q,q2⟩
  ·have:z.c < 0:=q4
   lia
  ·cases q7
  ·exact absurd (E8 h.ms q7) q6
 ·rintro (q|⟨q,q2⟩)
  ·exact .inl q
  ·exact .inr ⟨q,.inl q2⟩
theorem L9 (h:Pos z) (a:Int):z.older (Td a)=decide (z.a < a):=by
 have:=Ma h a 0
 rw[show Z3 a 0=Td a from rfl] at this
 rw[this,Asg]
 have:=h.b
 lia
theorem Px (h:Pos z):z.older Dl=false:=by
 have:=L9 h 0
 rw[show Td 0=Dl from rfl] at this
 rw[this,decide_eq_false_iff_not]
 have:=h.a
 lia
end ML
end L2
end S_MP1
section S_MQ1
namespace L2
namespace ML
open PySem
noncomputable def Mk.mid (x:Mk):Mk:=⟨x.a,x.b+1,0,[.n 0]⟩
noncomputable def Mk.great (x:Mk):Mk:=if x.a > 0 then ⟨x.a+1,0,0,[.n 0]⟩ else if x.b > 0 then ⟨0,x.b+1,0,[.n 0]⟩ else ⟨0,0,x.c+1,[.n 0]⟩
def Spec (x y:Mk):Prop:=y=x.next\/y=x.great\/y=x.mid
theorem Ac7 {z:Mk} (pz:Pos z):¬ (z.ms≠[]/\([Mark.n 0]=[]\/mlt z.ms [.n 0]=true)):=fun⟨h1,h2⟩=>by
 rcases h2 with h2|h2
 ·cases h2
 ·exact h1 (E8 pz.ms h2)
theorem Mm {x z y:Mk} (px:Pos x) (pz:Pos z) (h1:x.older z=true) (h2:z.older y=true) (s:Spec x y):Spec z y:=by
 have nz:=Ac7 pz
 have e1:=older_iff.mp h1
 have a1:=px.a
 have b1:=px.b
 have c1:=px.c
 have a2:=pz.a
 have b2:=pz.b
 have c2:=pz.c
 rcases s with rfl|rfl|rfl
 ·exact (L4 pz.ms h1 h2).elim
 ·have e2:=older_iff.mp h2
  refine .inr (.inl ?_)
  unfold Mk.great at e2 ⊢
  by_cases q1:x.a > 0
  ·rw[Aq4 q1] at e2 ⊢
   have:z.a=x.a:=by
    rcases e2 with e|⟨e,e'⟩
    ·have:z.a < x.a+1:=e
     rcases e1 with e3|⟨e3,_⟩<;>lia
    ·rcases e' with e4|⟨e4,e5⟩
     ·have:z.b < 0:=e4
      lia
     ·rcases e5 with e6|⟨e6,e7⟩
      ·have:z.c < 0:=e6
       lia
      ·exact (nz e7).elim
   rw[Aq4 (by lia),this]
  ·rw[Aq7 q1] at e2 ⊢
   by_cases q2:x.b > 0
   ·rw[Aq4 q2] at e2 ⊢
    have:z.a=0/\z.b=x.b:=by
     rcases e2 with e|⟨e,e'⟩
     ·have:z.a < 0:=e
      lia
     ·have e:z.a=0:=e
      rcases e' with e4|⟨e4,e5⟩
      ·have e4:z.b < x.b+1:=e4
       rcases e1 with e3|⟨e3,e8⟩
       ·lia
       ·rcases e8 with e9|⟨e9,_⟩<;>lia
      ·rcases e5 with e6|⟨e6,e7⟩
       ·have:z.c < 0:=e6
        lia
       ·exact (nz e7).elim
    rw[Aq7 (by lia),Aq4 (by lia),this.2]
   ·rw[Aq7 q2] at e2 ⊢
    have:z.a=0/\z.b=0/\z.c=x.c:=by
     rcases e2 with e|⟨e,e'⟩
     ·have:z.a < 0:=e
      lia
     ·have e:z.a=0:=e
      rcases e' with e4|⟨e4,e5⟩
      ·have:z.b < 0:=e4
       lia
      ·have e4:z.b=0:=e4
       rcases e5 with e6|⟨e6,e7⟩
       ·have e6:z.c < x.c+1:=e6
        rcases e1 with e3|⟨e3,e8⟩
        ·lia
        ·rcases e8 with e9|⟨e9,e10⟩
         ·lia
         ·rcases e10 with e11|⟨e11,_⟩<;>lia
       ·exact (nz e7).elim
    rw[Aq7 (by lia),Aq7 (by lia),this.2.2]
 ·have e2:=older_iff.mp h2
  refine .inr (.inr ?_)
  unfold Mk.mid at e2 ⊢
  have:z.a=x.a/\z.b=x.b:=by
   rcases e2 with e|⟨e,e'⟩
   ·have e:z.a < x.a:=e
    rcases e1 with e3|⟨e3,_⟩<;>lia
   ·have e:z.a=x.a:=e
    rcases e' with e4|⟨e4,e5⟩
    ·have e4:z.b < x.b+1:=e4
     rcases e1 with e3|⟨e3,e8⟩
     ·lia
     ·rcases e8 with e9|⟨e9,_⟩<;>lia
    ·rcases e5 with e6|⟨e6,e7⟩
     ·have:z.c < 0:=e6
      lia
     ·exact (nz e7).elim
  rw[this.1,this.2]
noncomputable def hul (x:Mk) (h:Option Mk):Int:=open Classical in match h with
 |none=>if x=Dl then 0 else 1
 |some y=>if x=Dl\/Spec x y then 1 else 2
noncomputable def mx (i:Int):Int:=if i > 1 then i else 1
theorem Lv (x:Mk) (h:Option Mk):0<=hul x h/\hul x h<=2:=by
 unfold hul;cases h<;>dsimp only<;>split<;>lia
theorem Tr {h:Option Mk}:hul Dl h<=1:=by
 unfold hul;cases h<;>dsimp only
 ·rw[Aq4 rfl];lia
 ·rw[Aq4 (.inl rfl)];lia
theorem Dg {x:Mk} (h:x≠Dl):hul x none=1:=by unfold hul;dsimp only;rw[Aq7 h]
theorem Ez {x y:Mk}:1<=hul x (some y):=by unfold hul;dsimp only;split<;>lia
theorem Z7 {x:Mk}{h:Option Mk} (n:x≠Dl):1<=hul x h:=by
 cases h with
 |none=>rw[Dg n];lia
 |some y=>exact Ez
theorem Dh {x y:Mk} (h:Spec x y):hul x (some y)=1:=by unfold hul;dsimp only;rw[Aq4 (.inr h)]
theorem Jj {x y:Mk} (h:¬ Spec x y) (n:x≠Dl):hul x (some y)=2:=by unfold hul;dsimp only;rw[Aq7 (fun z=>z.elim n h)]
end ML
end L2
end S_MQ1
section S_MQ2
namespace L2
namespace ML
open PySem
section
variable (ps:List Pc)
noncomputable def B3 (i:Nat):Pc:=ps.getD i (Dl,none)
abbrev lo (i:Nat):Mk:=(B3 ps i).1
abbrev hi (i:Nat):Option Mk:=(B3 ps i).2
structure SpR:Prop where
 pos:∀ i,i < ps.length->Pos (lo ps i)
 up:∀ i j,i < j->j < ps.length->(lo ps i).older (lo ps j)=true/\∃ h,hi ps i=some h/\h.older (lo ps j)=true
 wid:∀ i h,i < ps.length->hi ps i=some h->(lo ps i).older h=true
def apart (h l:Mk):Int:=if h.next=l then 1 else if h.next.next=l then 2 else if h.next.next.next=l then 3 else 0
theorem Vt (h l:Mk):0<=apart h l/\apart h l<=3:=by unfold apart;split<;>(try split)<;>(try split)<;>lia
def gap (i:Nat):Int:=match hi ps i with
 |some h=>apart h (lo ps (i+1))
 |none=>0
theorem Z6 (i:Nat):0<=gap ps i/\gap ps i<=3:=by
 unfold gap;split
 ·exact Vt _ _
 ·lia
def Gs (b:Nat):Nat->Int
 |0=>0
 |k+1=>Gs b k+gap ps (b+k)
theorem Nx (b k:Nat):0<=Gs ps b k:=by
 induction k with
 |zero=>exact Asx _
 |succ k ih=>have:=Z6 ps (b+k);rw[Gs];lia
theorem Zh (b k j:Nat):Gs ps b (k+1+j)=Gs ps b k+gap ps (b+k)+Gs ps (b+k+1) j:=by
 induction j with
 |zero=>rw[Nat.add_zero,Gs,Gs];lia
 |succ j ih=>rw[show k+1+(j+1)=(k+1+j)+1 by lia,Gs,ih,Gs,show b+(k+1+j)=b+k+1+j by lia];lia
theorem Zi {b:Nat}:∀ {k:Nat},(∀ i,b<=i->i < b+k->gap ps i=1)->Gs ps b k=k
 |0,_=>rfl
 |k+1,h=>by
  rw[Gs,Zi (k:=k) (fun i h1 h2=>h i h1 (by lia)),h (b+k) (by lia) (by lia)]
  lia
noncomputable def Dt (b e:Nat):Int:=mx (hul (lo ps b) (hi ps e)+Gs ps b (e - b))
def OptL (b e:Nat):Prop:=b<=e/\e < ps.length/\∀ i,b<=i->i < e->gap ps i≠0
def Fur (b f:Nat):Prop:=b<=f/\f < ps.length/\(∀ i,b<=i->i < f->gap ps i=1)/\(f+1 < ps.length->gap ps f≠1)
def OptP (b f e:Nat):Prop:=e=f\/(b<=e/\e < f/\∃ h,hi ps e=some h/\Spec (lo ps b) h)
end
section
variable {ps:List Pc}
theorem SpR.new (S:SpR ps) {b i:Nat} (h1:b < i) (h2:i < ps.length):lo ps i≠Dl:=fun z=>by
 have h:=(S.up b i h1 h2).1
 rw[z,Px (S.pos b (by lia))] at h
 cases h
theorem Pq {i:Int} (h:1<=i):mx i=i:=by unfold mx;split<;>lia
theorem V2 (S:SpR ps) {b i e:Nat} (h1:b<=i) (h2:i < e) (h3:e < ps.length) (hg:2<=gap ps i):Dt ps b i+Dt ps (i+1) e<=Dt ps b e:=by
 obtain⟨y,hy,_⟩:=(S.up i (i+1) (by lia) (by lia)).2
 have n1:=S.new (b:=b) (i:=i+1) (by lia) (by lia)
 have g1:=Nx ps b (i - b)
 have g2:=Nx ps (i+1) (e - (i+1))
 have gc:=Zh ps b (i - b) (e - (i+1))
 rw[show i - b+1+(e - (i+1))=e - b by lia,show b+(i - b)=i by lia] at gc
 have k1:=Ez (x:=lo ps b) (y:=y)
 have k2:=Z7 (h:=hi ps e) n1
 have l1:=Lv (lo ps b) (some y)
 have l2:=Lv (lo ps (i+1)) (hi ps e)
 have l3:=Lv (lo ps b) (hi ps e)
 unfold Dt
 rw[hy,gc,Pq (by lia),Pq (by lia),Pq (by lia)]
 suffices hul (lo ps b) (some y)+hul (lo ps (i+1)) (hi ps e)<=hul (lo ps b) (hi ps e)+2 by lia
 by_cases ho:lo ps b=Dl
 ·have a1:=Tr (h:=some y)
  rw[<- ho] at a1
  cases he:hi ps e with
  |none=>rw[he] at l2 k2;rw[Dg n1];have:=Lv (lo ps b) none;lia
  |some z=>rw[he] at l2;have:=Ez (x:=lo ps b) (y:=z);lia
 ·cases he:hi ps e with
  |none=>rw[Dg n1,Dg ho];lia
  |some z =>
   rw[he] at l2
   by_cases sp:Spec (lo ps b) z
   ·have:Spec (lo ps (i+1)) z:=by
     refine Mm (S.pos b (by lia)) (S.pos (i+1) (by lia)) (S.up b (i+1) (by lia) (by lia)).1 ?_ sp
     by_cases q:i+1=e
     ·rw[q];exact S.wid e z h3 he
     ·exact Cy (S.up (i+1) e (by lia) h3).1 (S.wid e z h3 he)
    rw[Dh this,Dh sp];lia
   ·rw[Jj sp ho];lia
theorem Rv (S:SpR ps) {b e e':Nat} (h1:b<=e) (h2:e < e') (h3:e' < ps.length) (hg:gap ps e=1) (hn:∀ h,hi ps e=some h->¬ Spec (lo ps b) h):Dt ps b e'<=Dt ps b e+Dt ps (e+1) e':=by
 obtain⟨y,hy,_⟩:=(S.up e (e+1) (by lia) (by lia)).2
 have n1:=S.new (b:=b) (i:=e+1) (by lia) (by lia)
 have g1:=Nx ps b (e - b)
 have g2:=Nx ps (e+1) (e' - (e+1))
 have gc:=Zh ps b (e - b) (e' - (e+1))
 rw[show e - b+1+(e' - (e+1))=e' - b by lia,show b+(e - b)=e by lia,hg] at gc
 have k1:=Ez (x:=lo ps b) (y:=y)
 have k2:=Z7 (h:=hi ps e') n1
 have l3:=Lv (lo ps b) (hi ps e')
 unfold Dt
 rw[hy,gc,Pq (show 1<=hul (lo ps b) (some y)+_ by lia),Pq (show 1<=hul (lo ps (e+1)) (hi ps e')+_ by lia),Pq (by lia)]
 by_cases ho:lo ps b=Dl
 ·have a1:=Tr (h:=hi ps e')
  rw[<- ho] at a1
  lia
 ·rw[Jj (hn y hy) ho];lia
theorem OptL.cut {b i e:Nat} (h:OptL ps b e) (h1:b<=i) (h2:i < e):OptL ps (i+1) e:=⟨by lia,h.2.1,fun j q1 q2=>h.2.2 j (by lia) q2⟩
theorem Ak9 (S:SpR ps) {C:Nat->Int}{b f:Nat} (hb:b < ps.length) (hC:∀ i,b < i->i < ps.length->∃ e,OptL ps i e/\C i=Dt ps i e+C (e+1)) (hC2:∀ i,b < i->i < ps.length->∀ e,OptL ps i e->C i<=Dt ps i e+C (e+1)) (F:Fur ps b f) :
  ∀ (k e:Nat),ps.length - e=k->OptL ps b e->∃ l,OptP ps b f l/\Dt ps b l+C (l+1)<=Dt ps b e+C (e+1):=by
 obtain⟨f1,f2,f3,f4⟩:=F
 intro k
 induction k using Nat.strongRecOn with
 |_ k ih =>
  intro e hk ho
  obtain⟨o1,o2,o3⟩:=id ho
  by_cases hf:f < e
  ·have g0:=o3 f f1 hf
   have g1:=f4 (by lia)
   have g2:=Z6 ps f
   have c1:=V2 S f1 hf o2 (by lia)
   have c2:=hC2 (f+1) (by lia) (by lia) e (ho.cut f1 hf)
   exact⟨f,.inl rfl,by lia⟩
  ·by_cases he:e=f
   ·exact⟨e,.inl he,Asx _⟩
   ·by_cases sp:∃ h,hi ps e=some h/\Spec (lo ps b) h
    ·exact⟨e,.inr ⟨o1,by lia,sp⟩,Asx _⟩
    ·obtain⟨e',p1,p2⟩:=hC (e+1) (by lia) (by lia)
     obtain⟨q1,q2,q3⟩:=id p1
     have ge:=f3 e o1 (by lia)
     have c1:=Rv S o1 (show e < e' by lia) q2 ge fun h h1 h2=>sp ⟨h,h1,h2⟩
     obtain⟨l,l1,l2⟩:=ih (ps.length - e') (by lia) e' rfl ⟨by lia,q2,fun i r1 r2=>by
      by_cases z:i < e
      ·exact o3 i r1 z
      ·by_cases z2:i=e
       ·rw[z2,ge];lia
       ·exact q3 i (by lia) r2⟩
     exact⟨l,l1,by lia⟩
theorem OptP.law {b f l:Nat} (F:Fur ps b f) (h:OptP ps b f l):OptL ps b l:=by
 obtain⟨f1,f2,f3,f4⟩:=F
 rcases h with rfl|⟨h1,h2,_⟩
 ·exact⟨f1,f2,fun i q1 q2=>by rw[f3 i q1 q2];lia⟩
 ·exact⟨h1,by lia,fun i q1 q2=>by rw[f3 i q1 (by lia)];lia⟩
theorem Abx (S:SpR ps) {L R:Nat->Int} (h0:L ps.length=R ps.length)
  (hL:∀ b,b < ps.length->(∀ e,OptL ps b e->L b<=Dt ps b e+L (e+1))/\∃ e,OptL ps b e/\L b=Dt ps b e+L (e+1))
  (hR:∀ b,b < ps.length->∃ f,Fur ps b f/\(∀ e,OptP ps b f e->R b<=Dt ps b e+R (e+1))/\∃ e,OptP ps b f e/\R b=Dt ps b e+R (e+1)):∀ b,b<=ps.length->L b=R b:=by
 have go:∀ (k b:Nat),ps.length - b=k->b<=ps.length->L b=R b:=by
  intro k
  induction k using Nat.strongRecOn with
  |_ k ih =>
   intro b hk hb
   by_cases hz:b=ps.length
   ·rw[hz,h0]
   ·have hb':b < ps.length:=by lia
    obtain⟨l1,e,l2,l3⟩:=hL b hb'
    obtain⟨f,F,r1,g,r2,r3⟩:=hR b hb'
    have sm:∀ i,b < i->i<=ps.length->L i=R i:=fun i h1 h2=>ih (ps.length - i) (by lia) i rfl h2
    have c1:=l1 g (r2.law F)
    have g3:=(r2.law F).2.1
    have g4:=(r2.law F).1
    rw[sm (g+1) (by lia) (by lia)] at c1
    obtain⟨l,m1,m2⟩:=Ak9 S hb' (C:=L) (fun i h1 h2=>(hL i h2).2) (fun i h1 h2=>(hL i h2).1) F _ e rfl l2
    have m3:=r1 l m1
    have m4:=(m1.law F).2.1
    have m5:=(m1.law F).1
    rw[<- sm (l+1) (by lia) (by lia)] at m3
    lia
 exact fun b hb=>go _ b rfl hb
end
end ML
end L2
end S_MQ2
section S_MM10
namespace L2
namespace ML
open PySem
open Classical
section
variable {env:Ba}{m:MH}
theorem Af1 {t:FB}{f g:FL}{Q:List D->Prop}:W (Ala t f g env m) Q=W (t env m) (cK (W (f env m) Q) (W (g env m) Q)):=by
 unfold Ala;rw[W_bind];congr 1;funext c;exact Eo
theorem Afr {i j:Int}{Q:D->Prop}:W (Ale (.int i) (.int j) m) Q=Q (.int (Builtin.bitAnd i j)):=Ac
def Aes (ds:List D) (Q:Wk->Prop):Prop:=W (match ds with
 |[.int i,.int j,.int k]=>if k=-1/\(-1<=i/\i < 1000000000)/\(-1<=j/\j < 1000000000) then some (⟨(List.range (i - j).toNat).map fun (q:Nat)=>.int (i+q * -1),Av⟩:Wk) else none
 |_=>none) Q
theorem Abm {g:FL}{Q:Wk->Prop}:W (Zc g env m) Q=W (g env m) fun ds=>Aes ds Q:=W_bind
theorem Akc {i j:Int}{Q:Wk->Prop}:Aes [.int i,.int j,.int (-1)] Q=(((-1<=i/\i < 1000000000)/\(-1<=j/\j < 1000000000))/\Q ⟨(List.range (i - j).toNat).map fun (q:Nat)=>.int (i+q * -1),Av⟩):=by
 unfold Aes
 rw[Ew]
 simp
def Akd (ds:List D) (Q:Wk->Prop):Prop:=W (match ds with
 |[.int i,.int j,.int k]=>if (-1<=i/\i < 1000000000)/\(-1<=j/\j < 1000000000)/\0 < k/\k < 1000000 then some (⟨(List.range (P3 i j k)).map fun (q:Nat)=>.int (i+q * k),Av⟩:Wk) else none
 |_=>none) Q
theorem Abn {g:FL}{Q:Wk->Prop}:W (Zd g env m) Q=W (g env m) fun ds=>Akd ds Q:=W_bind
theorem Ake {i j k:Int}{Q:Wk->Prop}:Akd [.int i,.int j,.int k] Q=(((-1<=i/\i < 1000000000)/\(-1<=j/\j < 1000000000)/\0 < k/\k < 1000000)/\Q ⟨(List.range (P3 i j k)).map fun (q:Nat)=>.int (i+q * k),Av⟩):=Ew
def Ahh (ds:List D) (Q:Wk->Prop):Prop:=W (match ds with
 |[.tup ds]=>some (⟨Ei 0 ds,Av⟩:Wk)
 |_=>none) Q
theorem Ag5 {g:FL}{Q:Wk->Prop}:W (O1 g env m) Q=W (g env m) fun ds=>Ahh ds Q:=W_bind
theorem Ahi {ds:List D}{Q:Wk->Prop}:Ahh [.tup ds] Q=Q ⟨Ei 0 ds,Av⟩:=Ac
theorem Amg {i:Int}{Q:D->Prop}:W (Ms m (.int i)) Q=Q (.int i):=by show W (Ca m (.int i)) Q=_;exact Rl
theorem oD_pyinj {x y:Option Mk}:pyD (oD x)=pyD (oD y) ↔ x=y:=by
 cases x with
 |none=>cases y with
  |none=>simp
  |some y=>simp[oD,pyD,Mk.d]
 |some x=>cases y with
  |none=>simp[oD,pyD,Mk.d]
  |some y=>show pyD x.d=pyD y.d ↔ _;rw[Mk.py_inj];simp
noncomputable def enP:Nat->List Pc->List (Nat×Pc)
 |_,[]=>[]
 |c,p::ps=>(c,p)::enP (c+1) ps
theorem M1:∀ (c:Nat) (ps:List Pc),(enP c ps).length=ps.length
 |_,[]=>rfl
 |c,p::ps=>by rw[enP,Ark,M1,Ark]
theorem Lh:∀ (c:Nat) (ps:List Pc),Ei c (ps.map pD)=(enP c ps).map fun q=>.tup [.int (q.1:Nat),pD q.2]
 |_,[]=>rfl
 |c,p::ps=>by rw[Ara,Ei,Lh (c+1) ps,enP,Ara]
theorem R6:∀ (c:Nat) (ps:List Pc),(enP c ps).map (·.2)=ps
 |_,[]=>rfl
 |c,p::ps=>by rw[enP,Ara,R6]
def Alc (o:Option Mk):Prop:=∀ y,o=some y->Dx y.d=true
theorem Ahp {o:Option Mk} (h:Alc o):Anl (oD o)=some (pyD (oD o)):=by
 cases o with
 |none=>rfl
 |some y =>
  show (if Dx (.tup [.int y.a,.int y.b,.int y.c,.tup (y.ms.map Mark.d)])=true then some (pyD y.d) else none)=_
  exact Aq4 (h y rfl)
theorem Md:∀ (c:Nat) (ps:List Pc),(∀ p∈ps,Alc p.2)->Mc ((enP c ps).map fun q=>.tup [oD q.2.2,.int (q.1:Nat)])=some ((enP c ps).map fun q=>(pyD (oD q.2.2),(q.1:Int)))
 |_,[],_=>rfl
 |c,p::ps,h=>by
  rw[enP,Ara,Mc,Ahp (h p (Aq8 ..)),Ars,Md (c+1) ps fun q hq=>h q (Aq6 _ hq),Ars,Ara]
def Br (ps:List Pc):D:=.fz dN [] (ps.map fun p=>pyD (oD p.2)) ((enP 0 ps).map fun q=>(q.1:Int))
theorem Abc {ps:List Pc} (hk:∀ p∈ps,Alc p.2) (hn:(ps.map (·.2)).Nodup) (hl:ps.length<=1000) {Q:D->Prop}:W (Gw [.lst ((enP 0 ps).map fun q=>.tup [oD q.2.2,.int (q.1:Nat)])] m) Q=Q (Br ps):=by
 have e1:((enP 0 ps).map fun q=>(pyD (oD q.2.2),(q.1:Int))).map (·.1)=ps.map fun p=>pyD (oD p.2):=by
  rw[As7]
  conv=>rhs;rw[<- R6 0 ps,As7]
  rfl
 have e2:((enP 0 ps).map fun q=>(pyD (oD q.2.2),(q.1:Int))).map (·.2)=(enP 0 ps).map fun q=>(q.1:Int):=by rw[As7];rfl
 have nd:(ps.map fun p=>pyD (oD p.2)).Nodup:=by
  have:(ps.map fun p=>pyD (oD p.2))=(ps.map (·.2)).map fun o=>pyD (oD o):=by rw[As7];rfl
  rw[this]
  exact List.Pairwise.map _ (fun a b h z=>h (oD_pyinj.mp z)) hn
 show W (Gw _ m) Q=_
 unfold Gw
 simp only
 rw[show sqL m (.lst ((enP 0 ps).map fun q=>.tup [oD q.2.2,.int (q.1:Nat)]))=some ((enP 0 ps).map fun q=>.tup [oD q.2.2,.int (q.1:Nat)]) from rfl,Ars,Md 0 ps hk,Ars,e1,e2,Aq4 ⟨nd,by rw[Arj,M1];exact hl⟩,Ac]
 rfl
theorem Tj:∀ {ps:List Pc}{c i:Nat}{y:Mk},(ps.map (·.2)).Nodup->(∃ x,ps[i]?=some (x,some y))->getN (ps.map fun p=>pyD (oD p.2)) ((enP c ps).map fun q=>(q.1:Int)) (pyD y.d)=some ((c+i:Nat):Int)
 |[],_,_,_,_,⟨_,h⟩=>by simp at h
 |p::ps,c,0,y,hn,⟨x,h⟩=>by
  simp at h
  subst h
  rw[enP,Ara,Ara,getN]
  exact Aq4 rfl
 |p::ps,c,i+1,y,hn,⟨x,h⟩=>by
  rw[Arq] at h
  rw[Ara,List.nodup_cons] at hn
  rw[enP,Ara,Ara,getN,Aq7 (fun z=>hn.1 ?_),Tj hn.2 ⟨x,h⟩]
  ·congr 2;lia
  ·have z:pyD (oD p.2)=pyD (oD (some y)):=z
   rw[oD_pyinj.mp z]
   exact List.mem_map.mpr ⟨_,Ard h,rfl⟩
theorem Af8 {ps:List Pc}{y:Mk}{i:Nat} (hk:Dx y.d=true) (hn:(ps.map (·.2)).Nodup) (h:∃ x,ps[i]?=some (x,some y)) {Q:D->Prop}:W (Nf (Br ps) y.d m) Q=Q (.int (i:Nat)):=by
 unfold Br Nf
 simp only
 rw[Aq4 ⟨trivial,hk⟩,Tj hn h,Ars,Ac,Nat.zero_add]
theorem Al5 {ps:List Pc}{y:Mk} (hk:Dx y.d=true) {Q:D->Prop}:W (Ah8 y.d (Br ps) m) Q=Q (.bl (decide (some y∈ps.map (·.2)))):=by
 unfold Br Ah8
 simp only
 rw[Aq4 ⟨trivial,hk⟩,Ac]
 congr 2
 rw[Asg,List.mem_map,List.mem_map]
 exact⟨fun⟨p,h1,h2⟩=>⟨p,h1,(oD_pyinj (y:=some y)).mp h2⟩,fun⟨p,h1,h2⟩=>⟨p,h1,by rw[h2];rfl⟩⟩
theorem Amf {ps:List Pc}{Q:D->Prop}:W (Ms m (Br ps)) Q=Q (Br ps):=Ac
end
end ML
end L2
end S_MM10
section S_MM11
namespace L2
namespace ML
open PySem
variable {m:MH}
theorem Jo {α:Type}{h:α->D}{c:α->Int}{lt:α->α->Bool} (hl:∀ x y,ltD (h x) (h y)=some (lt x y)) (h1:∀ x y,lt x y=true->c x<=c y) (h2:∀ x y,lt x y=false->c y<=c x):∀ (xs:List α) (b:α),∃ q,Na (h b) (xs.map h)=some (h q)/\(q=b\/q∈xs)/\c q<=c b/\∀ r∈xs,c q<=c r
 |[],b=>⟨b,rfl,.inl rfl,Asx _,fun _ h=>nomatch h⟩
 |x::xs,b=>by
  rw[Ara,Na,hl,Ars]
  cases e:lt x b with
  |true =>
   obtain⟨q,e1,e2,e3,e4⟩:=Jo hl h1 h2 xs x
   rw[Aq4 rfl]
   have:=h1 x b e
   refine⟨q,e1,.inr (e2.elim (fun z=>by rw[z];exact Aq8 ..) fun z=>Aq6 _ z),by lia,fun r hr=>?_⟩
   rcases List.mem_cons.mp hr with rfl|hr
   ·exact e3
   ·exact e4 r hr
  |false =>
   obtain⟨q,e1,e2,e3,e4⟩:=Jo hl h1 h2 xs b
   rw[Aq7 Arc]
   have:=h2 x b e
   refine⟨q,e1,e2.imp id fun z=>Aq6 _ z,e3,fun r hr=>?_⟩
   rcases List.mem_cons.mp hr with rfl|hr
   ·lia
   ·exact e4 r hr
theorem Zo {α:Type}{h:α->D}{c:α->Int}{lt:α->α->Bool} (hl:∀ x y,ltD (h x) (h y)=some (lt x y)) (h1:∀ x y,lt x y=true->c x<=c y) (h2:∀ x y,lt x y=false->c y<=c x) (hn:∀ x,Bm (h x)=true) (hd:∀ x,dep (h x)<=20) {xs:List α}{z0:D} (hx:sqL m z0=some (xs.map h)) (hne:xs≠[]) {Q:D->Prop} (q:∀ x∈xs,(∀ y∈xs,c x<=c y)->Q (h x)):W (Hn [z0] m) Q:=by
 cases xs with
 |nil=>exact absurd rfl hne
 |cons b xs =>
  obtain⟨z,e1,e2,e3,e4⟩:=Jo hl h1 h2 xs b
  have hz:z∈b::xs:=e2.elim (fun e=>by rw[e];exact Aq8 ..) fun e=>Aq6 _ e
  have e:Hn [z0] m=some (h z):=by
   unfold Hn
   simp only
   rw[hx,Ars,Ara]
   simp only
   have nr:∀ l:List α,Ar (l.map h)=true:=fun l=>by
    induction l with
    |nil=>rfl
    |cons y l ih=>rw[Ara,Ar,hn,ih];rfl
   have dp:Da ((b::xs).map h)<=20:=Ci fun d hd'=>by
    obtain⟨a,_,rfl⟩:=List.mem_map.mp hd'
    exact hd a
   have cm:∀ x∈(b::xs).map h,∀ y∈(b::xs).map h,ltD x y≠none:=fun x hx y hy=>by
    obtain⟨a,_,rfl⟩:=List.mem_map.mp hx
    obtain⟨a',_,rfl⟩:=List.mem_map.mp hy
    rw[hl]
    exact fun z=>nomatch z
   rw[Aq4 ⟨nr (b::xs),dp,cm⟩,e1]
  rw[e,Ac]
  refine q z hz fun y hy=>?_
  rcases List.mem_cons.mp hy with rfl|hy
  ·exact e3
  ·exact e4 y hy
theorem Agi {α:Type}{c:α->Int}{xs:List α}{z0:D} (hx:sqL m z0=some (xs.map fun x=>.int (c x))) (hne:xs≠[]) {Q:D->Prop} (q:∀ x∈xs,(∀ y∈xs,c x<=c y)->Q (.int (c x))):W (Hn [z0] m) Q :=
 Zo (lt:=fun x y=>decide (c x < c y)) (fun x y=>Dc) (fun x y h=>by have:=Arp h;lia) (fun x y h=>by have:=of_decide_eq_false h;lia) (fun x=>rfl) (fun x=>by rw[B1];lia) hx hne q
theorem X9 (i j:Int):dep (.tup [.int i,.int j])<=20:=by
 rw[Eh]
 have:Da [D.int i,D.int j]<=0:=Ci fun z hz=>by
  simp only[Ass,Ash,or_false] at hz
  rcases hz with rfl|rfl<;>rw[B1]<;>exact Aq5 _
 lia
theorem Agj {α:Type}{c d:α->Int}{xs:List α} (hne:xs≠[]) {Q:D->Prop} (q:∀ x∈xs,(∀ y∈xs,c x<=c y)->Q (.tup [.int (c x),.int (d x)])):W (Hn [.lst (xs.map fun x=>.tup [.int (c x),.int (d x)])] m) Q:=by
 refine Zo (lt:=fun x y=>decide (c x < c y\/c x=c y/\d x < d y)) (fun x y=>?_) (fun x y h=>by have:=Arp h;lia) (fun x y h=>by have:=of_decide_eq_false h;lia) (fun x=>rfl) (fun x=>X9 _ _) rfl hne q
 rw[Gq,Dz,Bp]
 by_cases e:c x=c y
 ·rw[Aq4 (by simpa using e),Dz,Bp]
  by_cases e2:d x=d y
  ·rw[Aq4 (by simpa using e2),Dz]
   simp[e,e2]
  ·rw[Aq7 (by simpa using e2),Dc]
   simp[e]
 ·rw[Aq7 (by simpa using e),Dc]
  congr 1
  rw[Asg]
  lia
theorem Hj {ps:List Pc}{k:Nat} (h:k < ps.length) {Q:D->Prop}:W (atI (ps.map pD) (k:Int)) Q=Q (pD (B3 ps k)):=by
 rw[J5 h]
 congr 2
 unfold B3
 rw[Aqy,Aqz h];rfl
theorem B9 {ps:List Pc}{k:Nat} (h:k < ps.length):ps[k]?=some (B3 ps k):=by
 unfold B3
 rw[Aqy,Aqz h];rfl
end ML
end L2
end S_MM11
section S_K32a
namespace K32a
open PySem L2 L2.ML
noncomputable section
noncomputable def top (i:Nat):Stmt:=PySem.Challenge.pw_stretchbook_k32_prices.main.body.getD i (.Pass ⟨0,0,0,0⟩)
abbrev Akq:Stmt:=top 2
abbrev Ako:Stmt:=top 4
abbrev Akr:Stmt:=top 5
abbrev Akp:Stmt:=top 7
abbrev Aar:Stmt:=top 8
abbrev Aks:Stmt:=top 9
abbrev Akn:Stmt:=top 10
abbrev Akm:Stmt:=top 11
abbrev Akt:Stmt:=top 12
abbrev Aku:Stmt:=top 13
abbrev Akv:Stmt:=top 14
abbrev Aat:Stmt:=top 15
abbrev Aax:Stmt:=top 16
abbrev Aay:Stmt:=top 18
abbrev Aau:Stmt:=top 19
abbrev Aaz:Stmt:=top 20
abbrev Aa0:Stmt:=top 21
abbrev Aa5:Stmt:=top 22
abbrev Aas:Stmt:=top 23
abbrev Aa1:Stmt:=top 24
abbrev Aa6:Stmt:=top 25
abbrev Aa2:Stmt:=top 26
abbrev Aav:Stmt:=top 27
abbrev Aa3:Stmt:=top 28
abbrev Aaw:Stmt:=top 29
abbrev Aa4:Stmt:=top 30
abbrev Mo:Stmt:=top 31
def Ana:FS:=(A8 (Bv 1 (fVI 0 3)) (A8 (sIf (V9 (Ai 1)) (Cn (Bk (Aa (fVI 0 0) (Aa (fVI 0 1) (Aa (fVI 0 2) (Aa (f2 Bu (Ai 1) (Bk (Aa (fC (.int 0)) Ae))) Ae)))))) Cg) (Cn (Bk (Aa (fVI 0 0) (Aa (fVI 0 1) (Aa (f2 Bu (fVI 0 2) (fC (.int 1))) (Aa (Bk (Aa (fC (.int 0)) Ae)) Ae))))))))
def M4:List D->Option D:=Ds 2 Ana
def Am8:FS:=(Cn (Bk (Aa (fVI 0 0) (Aa (f2 Bu (fVI 0 1) (fC (.int 1))) (Aa (fC (.int 0)) (Aa (Bk (Aa (fC (.int 0)) Ae)) Ae))))))
def M3:List D->Option D:=Ds 1 Am8
def Anb:FS:=(A8 (sIf (Au (f2 oGt (fVI 0 0) (fC (.int 0)))) (Cn (Bk (Aa (f2 Bu (fVI 0 0) (fC (.int 1))) (Aa (fC (.int 0)) (Aa (fC (.int 0)) (Aa (Bk (Aa (fC (.int 0)) Ae)) Ae)))))) Cg) (A8 (sIf (Au (f2 oGt (fVI 0 1) (fC (.int 0)))) (Cn (fC1 M3 (Ai 0))) Cg) (Cn (Bk (Aa (fC (.int 0)) (Aa (fC (.int 0)) (Aa (f2 Bu (fVI 0 2) (fC (.int 1))) (Aa (Bk (Aa (fC (.int 0)) Ae)) Ae))))))))
def Pd:List D->Option D:=Ds 1 Anb
def Am9:FS:=(A8 (Bv 1 (fVI 0 3)) (A8 (sIf (fOr (Ab4 (V9 (Ai 1))) (Au (f2 oNe (f2 oIx (Ai 1) (f1 Ue (fC (.int 1)))) (fC (.int 0))))) (Cn (fC .non)) Cg) (A8 (sIf (Au (f2 oGt (A3 Ec (Aa (Ai 1) Ae)) (fC (.int 1)))) (Cn (Bk (Aa (fVI 0 0) (Aa (fVI 0 1) (Aa (fVI 0 2) (Aa (fSl (Ai 1) fNo (C6 (f1 Ue (fC (.int 1))))) Ae)))))) Cg) (Cn (fIf (Au (f2 oGt (fVI 0 2) (fC (.int 0)))) (Bk (Aa (fVI 0 0) (Aa (fVI 0 1) (Aa (f2 Pv (fVI 0 2) (fC (.int 1))) (Aa (Bk Ae) Ae))))) (fC .non))))))
def Pb:List D->Option D:=Ds 2 Am9
def Aca:FS:=(A8 (Bv 1 (fC1 Pb (Ai 0))) (Cn (fIf (Au (f1 Og (Ai 1))) (Bk (Aa (fC (.str (Str.ofString ">="))) (Aa (Ai 0) Ae))) (Bk (Aa (fC (.str (Str.ofString ">"))) (Aa (Ai 1) Ae))))))
def Hv:List D->Option D:=Ds 2 Aca
def Anc:FS:=(A8 (Bv 1 (fC1 Pb (Ai 0))) (Cn (fIf (Au (f1 Og (Ai 1))) (Bk (Aa (fC (.str (Str.ofString "<"))) (Aa (Ai 0) Ae))) (Bk (Aa (fC (.str (Str.ofString "<="))) (Aa (Ai 1) Ae))))))
def Pe:List D->Option D:=Ds 2 Anc
def Am7:FS:=(A8 (sIf (Au (f1 Og (Ai 1))) (Eb (Ala (Au (f2 oEq (Ai 0) (fC (.tup [ (.int 0) ,(.int 0) ,(.int 0) ,(.tup [ (.int 0) ]) ])))) (Bc Ae) (Bc (Aa (fC1 Hv (Ai 0)) Ae)))) Cg) (A8 (sIf (Au (f2 oEq (Ai 0) (fC (.tup [ (.int 0) ,(.int 0) ,(.int 0) ,(.tup [ (.int 0) ]) ])))) (Eb (Bc (Aa (fC1 Pe (Ai 1)) Ae))) Cg) (A8 (sIf (Au (f2 oEq (Ai 1) (fC1 M4 (Ai 0)))) (Eb (Bc (Aa (Bk (Aa (fC (.str (Str.ofString "="))) (Aa (Ai 0) Ae))) Ae))) Cg) (A8 (sIf (Au (f2 oEq (Ai 1) (fC1 Pd (Ai 0)))) (Eb (Bc (Aa (Bk (Aa (fC (.str (Str.ofString "^"))) (Aa (Ai 0) Ae))) Ae))) Cg) (A8 (sIf (Au (f2 oEq (Ai 1) (fC1 M3 (Ai 0)))) (Eb (Bc (Aa (Bk (Aa (fC (.str (Str.ofString "~"))) (Aa (Ai 0) Ae))) Ae))) Cg) (Eb (Bc (Aa (fC1 Hv (Ai 0)) (Aa (fC1 Pe (Ai 1)) Ae)))))))))
def Tf:List D->Option D:=Ds 2 Am7
def Am6:FS:=(Cn (Pa (f2 oLt (f2 Bu (Ai 1) (fC (.int 1))) (A3 Ec (Aa (Ai 0) Ae))) (f2 oEq (fC1 M4 (f2 oIx (f2 oIx (Ai 0) (Ai 1)) (fC (.int 1)))) (f2 oIx (f2 oIx (Ai 0) (f2 Bu (Ai 1) (fC (.int 1)))) (fC (.int 0))))))
def Te:List D->Option D:=Ds 2 Am6
def Ane:FS:=(Cn (A3 Ng (Aa (fC (.int 1)) (Aa (f2 Pv (f2 Bu (A3 Ec (Aa (Co (C4 (Jc 2 Tf) (Aa (f2 oIx (f2 oIx (Ai 0) (Ai 1)) (fC (.int 0))) (Aa (f2 oIx (f2 oIx (Ai 0) (Ai 2)) (fC (.int 1))) Ae)))) Ae)) (Ai 2)) (Ai 1)) Ae))))
def Tg:List D->Option D:=Ds 3 Ane
def Anf:FS:=(A8 (Bv 4 (f2 oIx (f2 oIx (Ai 0) (Ai 1)) (fC (.int 0)))) (A8 (Bv 5 (Co (Ce [3] 1 (Zb (Bk (Aa (fC1 M4 (Ai 4)) (Aa (fC1 Pd (Ai 4)) (Aa (fC1 M3 (Ai 4)) Ae))))) (Bb 1) (Au (f2 Ah8 (Ai 1) (Ai 0))) (Ai 1)))) (Eb (V7 (Co (Bc (Aa (Ai 2) Ae))) (Co (Ce [3,2] 1 (Zb (Ai 5)) (Bb 2) (Au (f2 oLt (f2 Nf (Ai 0) (Ai 2)) (Ai 1))) (f2 Nf (Ai 0) (Ai 2))))))))
def Th:List D->Option D:=Ds 6 Anf
def Ang:FS:=(A8 (Bv 1 (A3 Gw (Aa (Co (Ce [] 2 (O1 (Aa (Ai 0) Ae)) (Mu 2 (Eg (Bb 0) (Eg (Bb 1) Zu))) Z1 (Bk (Aa (fVI 1 1) (Aa (Ai 0) Ae))))) Ae))) (A8 (G7 2 (V8 (Bc (Aa (Bk (Aa (fC (.int 0)) (Aa (A3 Ec (Aa (Ai 0) Ae)) Ae))) Ae)) (f2 Bu (A3 Ec (Aa (Ai 0) Ae)) (fC (.int 1))))) (A8 (Bv 3 (f2 Pv (A3 Ec (Aa (Ai 0) Ae)) (fC (.int 1)))) (A8 (J3 (Zc (Aa (f2 Pv (A3 Ec (Aa (Ai 0) Ae)) (fC (.int 1))) (Aa (f1 Ue (fC (.int 1))) (Aa (f1 Ue (fC (.int 1))) Ae)))) (Bb 4) (A8 (sIf (Ab4 (V9 (fC2 Te (Ai 0) (Ai 4)))) (Bv 3 (Ai 4)) Cg) (A8 (Bv 5 (A3 (Hs 4 Th) (Aa (Ai 0) (Aa (Ai 4) (Aa (Ai 3) (Aa (Ai 1) Ae)))))) (G8 (A3 Hn (Aa (Co (Ce [0,4,2] 1 (Zb (Ai 5)) (Bb 3) Z1 (Bk (Aa (f2 Bu (fC3 Tg (Ai 0) (Ai 1) (Ai 3)) (f2 oIx (f2 oIx (Ai 2) (f2 Bu (Ai 3) (fC (.int 1)))) (fC (.int 0)))) (Aa (Ai 3) Ae))))) Ae)) (Ai 2) (Ai 4))))) (Cn (Ai 2))))))
def Ti:List D->Option D:=Ds 6 Ang
def Acd:FS:=(Eb (V7 (Co (Ce [] 1 (Zb (Co (Tb (Co (fF1 Ti (Ai 0))) fNo (C6 (f1 Ue (fC (.int 1))))))) (Bb 0) Z1 (fVI 0 0))) (Co (Bc (Aa (fC (.int 1)) Ae)))))
def D5:List D->Option D:=Ds 1 Acd
def Ach:FS:=(Cn (f2 oIx (Co (fF1 D5 (Ai 0))) (fC (.int 0))))
def Lp:List D->Option D:=Ds 1 Ach
def Aci:FS:=(A8 (sIf (Au (f2 oEq (A3 Ec (Aa (Ai 0) Ae)) (fC (.int 0)))) (Cn (f2 Ho (fC (.int 7919)) (Ai 1))) Cg) (Cn (f2 Bu (f2 oIx (Ai 0) (f2 L5 (Ai 1) (A3 Ec (Aa (Ai 0) Ae)))) (f2 Ho (fC (.int 7919)) (f2 Vj (Ai 1) (A3 Ec (Aa (Ai 0) Ae)))))))
def Lq:List D->Option D:=Ds 2 Aci
def Ace:FS:=(A8 (G7 2 (Bc Ae)) (A8 (Bv 3 (f2 Vj (Ai 0) (fC (.int 2)))) (A8 (J3 (En (Aa (A3 Ec (Aa (Ai 1) Ae)) Ae)) (Bb 4) (A8 (Bv 5 (f2 L5 (f2 Ho (f2 Bu (f2 L5 (Ai 0) (fC (.int 1000003))) (fC (.int 1))) (f2 Bu (fC (.int 48271)) (f2 Ho (fC (.int 31)) (Ai 4)))) (fC (.int 2147483629)))) (A8 (Bv 5 (f2 L5 (f2 Ho (f2 Bu (f2 Bu (Ai 5) (f2 Ho (f2 Ho (fC (.int 7919)) (Ai 4)) (Ai 4))) (fC (.int 11))) (fC (.int 69621))) (fC (.int 999983)))) (A8 (sIf (Au (f2 oEq (f2 L5 (Ai 0) (fC (.int 2))) (fC (.int 0)))) (Bv 5 (Ai 3)) Cg) (A8 (Jz Jq (Ai 2) (Aa (f2 L5 (Ai 5) (f2 oIx (Ai 1) (Ai 4))) Ae)) (Bv 3 (f2 Vj (Ai 3) (f2 oIx (Ai 1) (Ai 4))))))))) (Cn (Ai 2)))))
def Hw:List D->Option D:=Ds 6 Ace
def Acj:FS:=(A8 (Bv 1 (Co (Bc (Aa (fC (.int 0)) (Aa (fC (.int 1)) (Aa (fC (.int 10)) (Aa (fC (.str (Str.ofString "a"))) (Aa (fC (.str (Str.ofString "ab"))) (Aa (fC (.str (Str.ofString "b"))) (Aa (fC (.str (Str.ofString "zz"))) Ae)))))))))) (A8 (Bv 2 (f2 oIx (Co (Bc (Aa (fC (.int 0)) (Aa (fC (.int 0)) (Aa (fC (.int 1)) (Aa (fC (.int 2)) Ae)))))) (fVI 0 3))) (A8 (Bv 3 (f2 Bu (fVI 0 0) (f2 Ho (fC (.int 8)) (A3 Ac9 (Aa (Pa (f2 oEq (fVI 0 3) (fC (.int 0))) (f2 oGt (fVI 0 4) (fC (.int 3)))) Ae))))) (Cn (Bk (Aa (Ai 3) (Aa (fVI 0 1) (Aa (fVI 0 2) (Aa (A3 Gy (Aa (Co (Tb (Co (Bc (Aa (f2 oIx (Ai 1) (fVI 0 4)) (Aa (f2 oIx (Ai 1) (fVI 0 5)) Ae)))) fNo (C6 (Ai 2)))) Ae)) Ae)))))))))
def Hy:List D->Option D:=Ds 4 Acj
def Ack:FS:=(A8 (sIf (Au (f2 oEq (fVI 0 3) (Bk Ae))) (Cn (Bk (Aa (fVI 0 0) (Aa (fVI 0 1) (Aa (f2 Bu (fVI 0 2) (fC (.int 1))) (Aa (Bk (Aa (fC (.int 0)) Ae)) Ae)))))) Cg) (Cn (f2 Bu (fSl (Ai 0) fNo (C6 (fC (.int 3)))) (Bk (Aa (f2 Bu (fVI 0 3) (Bk (Aa (fC (.int 0)) Ae))) Ae)))))
def Dm:List D->Option D:=Ds 1 Ack
def Acp:FS:=(A8 (G7 1 (Bc Ae)) (A8 (J3 (Zb (fVI 0 3)) (Bb 2) (sIf (V9 (Ab3 "str" (Ai 2))) (Jz Jq (Ai 1) (Aa (Bk (Aa (fC (.int 1)) (Aa (fC (.int 0)) (Aa (Ai 2) Ae)))) Ae)) (Jz Jq (Ai 1) (Aa (Bk (Aa (fC (.int 0)) (Aa (Ai 2) (Aa (fC (.str (Str.ofString ""))) Ae)))) Ae)))) (Cn (Bk (Aa (fVI 0 0) (Aa (fVI 0 1) (Aa (fVI 0 2) (Aa (A3 Ac9 (Aa (f2 oEq (fVI 0 3) (Bk Ae)) Ae)) (Aa (Ai 1) Ae)))))))))
def H4:List D->Option D:=Ds 3 Acp
def Acb:FS:=(A8 (Bv 1 (Co (C4 (Jc 2 Hw) (Aa (Ai 0) (Aa (Co (V7 (Co (Bc (Aa (fC (.int 40)) (Aa (fC (.int 2)) (Aa (fC (.int 2)) Ae))))) (Co (V8 (Bc (Aa (fC (.int 4)) Ae)) (fC (.int 40)))))) Ae))))) (A8 (Bv 2 (Bk (Aa (fC (.int 0)) (Aa (fC (.int 0)) (Aa (fC (.int 0)) (Aa (Bk (Aa (fC (.str (Str.ofString "b"))) Ae)) Ae)))))) (A8 (sIf (Au (f2 oEq (fVI 1 1) (fC (.int 0)))) (Bv 2 (Bk (Aa (fC (.int 0)) (Aa (fC (.int 0)) (Aa (fC (.int 0)) (Aa (Bk (Aa (fC (.int 0)) Ae)) Ae)))))) Cg) (A8 (G7 3 (Bc Ae)) (A8 (J3 (En (Aa (f2 Bu (fC (.int 1)) (fVI 1 0)) Ae)) (Bb 4) (A8 (Bv 5 (Bk (Aa (fC (.int 0)) (Aa (fC (.int 0)) (Aa (f2 Bu (Ai 4) (fC (.int 1))) (Aa (Bk Ae) Ae)))))) (A8 (Jz Jq (Ai 3) (Aa (Bk (Aa (Ai 2) (Aa (Ai 5) Ae))) Ae)) (A8 (Bv 2 (Bk (Aa (fC (.int 0)) (Aa (fC (.int 0)) (Aa (f2 Bu (Ai 4) (fC (.int 2))) (Aa (Bk (Aa (fC (.str (Str.ofString "a"))) Ae)) Ae)))))) (sIf (Au (f2 oLt (f2 oIx (Ai 1) (f2 Bu (fC (.int 3)) (Ai 4))) (fC (.int 3)))) (A8 (Bv 2 (fC1 Dm (Ai 5))) (J3 (En (Aa (f2 oIx (Ai 1) (f2 Bu (fC (.int 3)) (Ai 4))) Ae)) (Bb 6) (Bv 2 (fC1 Dm (Ai 2))))) Cg))))) (A8 (sIf (Au (f2 oEq (fVI 1 2) (fC (.int 0)))) (G8 (Bk (Aa (f2 oIx (f2 oIx (Ai 3) (f1 Ue (fC (.int 1)))) (fC (.int 0))) (Aa (fC .non) Ae))) (Ai 3) (f1 Ue (fC (.int 1)))) Cg) (Cn (A3 Gy (Aa (Ai 3) Ae)))))))))
def Lm:List D->Option D:=Ds 7 Acb
def Acl:FS:=(A8 (Bv 1 (Co (C4 (Jc 2 Hw) (Aa (Ai 0) (Aa (Co (V7 (Co (Bc (Aa (fC (.int 2)) Ae))) (Co (V8 (Bc (Aa (fC (.int 3)) (Aa (fC (.int 3)) (Aa (fC (.int 4)) (Aa (fC (.int 4)) (Aa (fC (.int 7)) (Aa (fC (.int 7)) (Aa (fC (.int 8)) (Aa (fC (.int 4)) Ae))))))))) (fC (.int 4)))))) Ae))))) (A8 (G7 2 (V8 (Bc (Aa (Bk (Aa (fC (.int 0)) (Aa (fC (.int 0)) (Aa (fC (.int 0)) (Aa (Bk (Aa (fC (.int 0)) Ae)) Ae))))) Ae)) (fVI 1 0))) (A8 (J3 (En (Aa (fC (.int 4)) Ae)) (Bb 3) (A8 (Bv 4 (fC1 Hy (Co (Tb (Ai 1) (C6 (f2 Bu (fC (.int 1)) (f2 Ho (fC (.int 8)) (Ai 3)))) (C6 (f2 Bu (fC (.int 7)) (f2 Ho (fC (.int 8)) (Ai 3)))))))) (A8 (sIf (Au (f2 oEq (f2 oIx (Ai 1) (f2 Bu (fC (.int 8)) (f2 Ho (fC (.int 8)) (Ai 3)))) (fC (.int 1)))) (Jz Jq (Ai 2) (Aa (Bk (Aa (f2 Bu (fVI 4 0) (fC (.int 1))) (Aa (fC (.int 0)) (Aa (fC (.int 0)) (Aa (Bk (Aa (fC (.int 0)) Ae)) Ae))))) Ae)) Cg) (A8 (sIf (Au (f2 oEq (f2 oIx (Ai 1) (f2 Bu (fC (.int 8)) (f2 Ho (fC (.int 8)) (Ai 3)))) (fC (.int 2)))) (Jz Jq (Ai 2) (Aa (Bk (Aa (fVI 4 0) (Aa (f2 Bu (fVI 4 1) (fC (.int 1))) (Aa (fC (.int 0)) (Aa (Bk (Aa (fC (.int 0)) Ae)) Ae))))) Ae)) Cg) (J3 (En (Aa (fC (.int 3)) Ae)) (Bb 5) (A8 (sIf (Au (f2 oEq (f2 Ale (f2 Ah9 (f2 oIx (Ai 1) (f2 Bu (fC (.int 7)) (f2 Ho (fC (.int 8)) (Ai 3)))) (Ai 5)) (fC (.int 1))) (fC (.int 1)))) (Jz Jq (Ai 2) (Aa (Ai 4) Ae)) Cg) (Bv 4 (fC1 Dm (Ai 4))))))))) (Eb (C4 (Gx H4 false) (Aa (Co (Ce [2] 1 (En (Aa (A3 Ec (Aa (Ai 2) Ae)) Ae)) (Bb 1) (Au (f2 L6 (f2 oIx (Ai 0) (Ai 1)) (Co (Tb (Ai 0) fNo (C6 (Ai 1)))))) (f2 oIx (Ai 0) (Ai 1)))) Ae))))))
def Lr:List D->Option D:=Ds 6 Acl
def Acq:FS:=(A8 (G7 3 (Bc Ae)) (A8 (J3 (En (Aa (A3 Ec (Aa (Ai 0) Ae)) Ae)) (Bb 4) (A8 (Akg (f2 oIx (Ai 0) (Ai 4)) (Mu 2 (Eg (Bb 5) (Eg (Bb 6) Zu)))) (A8 (sIf (Au (f2 oGt (Ai 4) (Ai 1))) (Bv 5 (f2 Bu (Bk (Aa (f2 Bu (f2 oIx (Ai 5) (fC (.int 0))) (Ai 2)) Ae)) (fSl (Ai 5) (C6 (fC (.int 1))) fNo))) Cg) (A8 (sIf (Z0 (Au (f2 oGe (Ai 4) (Ai 1))) (Au (f1 Pu (Ai 6)))) (Bv 6 (f2 Bu (Bk (Aa (f2 Bu (f2 oIx (Ai 6) (fC (.int 0))) (Ai 2)) Ae)) (fSl (Ai 6) (C6 (fC (.int 1))) fNo))) Cg) (Jz Jq (Ai 3) (Aa (Bk (Aa (Ai 5) (Aa (Ai 6) Ae))) Ae)))))) (Cn (A3 Gy (Aa (Ai 3) Ae)))))
def Lu:List D->Option D:=Ds 7 Acq
def Acm:FS:=(A8 (sIf (fOr (Au (f2 oEq (f2 L5 (Ai 0) (fC (.int 16))) (fC (.int 6)))) (Au (f2 oEq (f2 L5 (Ai 0) (fC (.int 16))) (fC (.int 7))))) (Cn (fC1 Lm (f2 Vj (Ai 0) (fC (.int 16))))) Cg) (A8 (Bv 1 (Co (fF1 Lr (f2 Vj (Ai 0) (fC (.int 4)))))) (A8 (G7 2 (Ce [1] 1 (Zd (Aa (fC (.int 0)) (Aa (f2 Pv (A3 Ec (Aa (Ai 1) Ae)) (fC (.int 1))) (Aa (fC (.int 2)) Ae)))) (Bb 1) Z1 (Bk (Aa (f2 oIx (Ai 0) (Ai 1)) (Aa (f2 oIx (Ai 0) (f2 Bu (Ai 1) (fC (.int 1)))) Ae))))) (A8 (sIf (Z0 (Au (f2 oEq (f2 L5 (A3 Ec (Aa (Ai 1) Ae)) (fC (.int 2))) (fC (.int 1)))) (Au (f2 oLt (f2 L5 (Ai 0) (fC (.int 4))) (fC (.int 2))))) (Jz Jq (Ai 2) (Aa (Bk (Aa (f2 oIx (Ai 1) (f1 Ue (fC (.int 1)))) (Aa (fC .non) Ae))) Ae)) Cg) (A8 (sIf (fOr (Au (f2 oEq (f2 L5 (Ai 0) (fC (.int 16))) (fC (.int 9)))) (Au (f2 oEq (f2 L5 (Ai 0) (fC (.int 16))) (fC (.int 12))))) (Cn (fC3 Lu (Ai 2) (f2 Pv (f2 L5 (f2 Vj (Ai 0) (fC (.int 64))) (fC (.int 6))) (fC (.int 1))) (f2 oIx (Co (Bc (Aa (fC (.int 9)) (Aa (fC (.int 100)) (Aa (f2 Pv (f2 Alf (fC (.int 10)) (fC (.int 12))) (fC (.int 13))) Ae))))) (f2 L5 (f2 Vj (Ai 0) (fC (.int 16))) (fC (.int 3)))))) Cg) (Cn (A3 Gy (Aa (Ai 2) Ae))))))))
def Ls:List D->Option D:=Ds 3 Acm
def Acf:FS:=(A8 (sIf (Au (f2 oGt (fVI 0 0) (fC (.int 0)))) (Cn (Bk (Aa (f2 Bu (fVI 0 0) (fC (.int 1))) (Aa (fC (.int 0)) (Aa (fC (.int 0)) (Aa (Bk (Aa (fC (.int 0)) Ae)) Ae)))))) Cg) (A8 (sIf (Au (f2 oGt (fVI 0 1) (fC (.int 0)))) (Cn (Bk (Aa (fC (.int 0)) (Aa (f2 Bu (fVI 0 1) (fC (.int 1))) (Aa (fC (.int 0)) (Aa (Bk (Aa (fC (.int 0)) Ae)) Ae)))))) Cg) (Cn (Bk (Aa (fC (.int 0)) (Aa (fC (.int 0)) (Aa (f2 Bu (fVI 0 2) (fC (.int 1))) (Aa (Bk (Aa (fC (.int 0)) Ae)) Ae))))))))
def Lo:List D->Option D:=Ds 1 Acf
def Acn:FS:=(A8 (sIf (Z0 (Au (f2 oEq (Ai 0) (Bk (Aa (fC (.int 0)) (Aa (fC (.int 0)) (Aa (fC (.int 0)) (Aa (Bk (Aa (fC (.int 0)) Ae)) Ae))))))) (Au (f1 Og (Ai 1)))) (Cn (fC (.int 0))) Cg) (A8 (sIf (fOr (Au (f2 oEq (Ai 0) (Bk (Aa (fC (.int 0)) (Aa (fC (.int 0)) (Aa (fC (.int 0)) (Aa (Bk (Aa (fC (.int 0)) Ae)) Ae))))))) (Au (f1 Og (Ai 1)))) (Cn (fC (.int 1))) Cg) (A8 (sIf (Au (f2 oIn (Ai 1) (Co (Bc (Aa (fC1 Dm (Ai 0)) (Aa (fC1 Lo (Ai 0)) (Aa (Bk (Aa (fVI 0 0) (Aa (f2 Bu (fVI 0 1) (fC (.int 1))) (Aa (fC (.int 0)) (Aa (Bk (Aa (fC (.int 0)) Ae)) Ae))))) Ae))))))) (Cn (fC (.int 1))) Cg) (Cn (fC (.int 2))))))
def Hz:List D->Option D:=Ds 2 Acn
def Acg:FS:=(A8 (Bv 2 (Ai 0)) (A8 (J3 (Nw (Aa (fC (.int 1)) (Aa (fC (.int 4)) Ae))) (Bb 3) (A8 (Bv 2 (fC1 Dm (Ai 2))) (sIf (Au (f2 oEq (Ai 2) (Ai 1))) (Cn (Ai 3)) Cg))) (Cn (fC .non))))
def Hx:List D->Option D:=Ds 4 Acg
def Aco:FS:=(A8 (G7 1 (V8 (Bc (Aa (fC (.int 0)) Ae)) (f2 Bu (A3 Ec (Aa (Ai 0) Ae)) (fC (.int 1))))) (A8 (J3 (Nw (Aa (fC (.int 1)) (Aa (f2 Bu (A3 Ec (Aa (Ai 0) Ae)) (fC (.int 1))) Ae))) (Bb 2) (A8 (Bv 3 (f2 Pv (A3 Ec (Aa (Ai 0) Ae)) (Ai 2))) (A8 (G7 4 (Bc Ae)) (A8 (Bv 5 (fC (.int 0))) (A8 (J3 (Nw (Aa (Ai 3) (Aa (A3 Ec (Aa (Ai 0) Ae)) Ae))) (Bb 6) (A8 (sIf (Au (f2 oGt (Ai 6) (Ai 3))) (A8 (Bv 7 (fC2 Hx (f2 oIx (f2 oIx (Ai 0) (f2 Pv (Ai 6) (fC (.int 1)))) (fC (.int 1))) (f2 oIx (f2 oIx (Ai 0) (Ai 6)) (fC (.int 0))))) (A8 (sIf (Au (f1 Og (Ai 7))) Mj Cg) (Bv 5 (f2 Bu (Ai 5) (Ai 7))))) Cg) (Jz Jq (Ai 4) (Aa (f2 Bu (A3 Ng (Aa (fC (.int 1)) (Aa (f2 Bu (fC2 Hz (f2 oIx (f2 oIx (Ai 0) (Ai 3)) (fC (.int 0))) (f2 oIx (f2 oIx (Ai 0) (Ai 6)) (fC (.int 1)))) (Ai 5)) Ae))) (f2 oIx (Ai 1) (f2 Bu (Ai 6) (fC (.int 1))))) Ae)))) (G8 (A3 Hn (Aa (Ai 4) Ae)) (Ai 1) (Ai 3))))))) (Eb (V7 (Co (Tb (Ai 1) fNo (C6 (f1 Ue (fC (.int 1)))))) (Co (Bc (Aa (fC (.int 1)) Ae)))))))
def H0:List D->Option D:=Ds 8 Aco
def Ab9:FS:=(A8 (J3 (En (Aa (A3 Ng (Aa (fC (.int 3)) (Aa (A3 Ec (Aa (Co (Tb (Ai 0) fNo (C6 (fC (.int 20))))) Ae)) Ae))) Ae)) (Bb 1) (A8 (Bv 2 (fC1 Ls (fC2 Lq (Ai 0) (Ai 1)))) (A8 (sIf (Au (f2 oGt (Ai 1) (fC (.int 0)))) (Bv 2 (fSl (Ai 2) fNo (C6 (fC (.int 12))))) Cg) (A8 (Bv 3 (Co (fF1 H0 (Ai 2)))) (A8 (G7 4 (fF1 D5 (Ai 2))) (A8 (sIf (fOr (Ab4 (V9 (Ab3 "list" (Ai 4)))) (fOr (Au (f2 oNe (Ai 4) (Ai 3))) (Au (f2 oGt (A3 Ec (Aa (Co (Ce [] 1 (Zb (Ai 4)) (Bb 0) (V9 (Ab3 "bool" (Ai 0))) (Ai 0))) Ae)) (fC (.int 0)))))) (Cn (fC (.bl false))) Cg) (A8 (Jz Jq (Ai 4) (Aa (fC (.int 0)) Ae)) (sIf (fOr (Au (f2 oNe (Co (fF1 D5 (Ai 2))) (Ai 3))) (Au (f2 oNe (fC1 Lp (Ai 2)) (fVI 3 0)))) (Cn (fC (.bl false))) Cg)))))))) (Cn (fC (.bl true))))
def Gn:List D->Option D:=Ds 5 Ab9
theorem sc_law:FnScope ["_law_script","_law_k","_law_span_here","_law_dues_here","_law_told"] ["_law_script"] (A6 Mo):=⟨rfl,rfl,rfl,by decide +kernel,rfl,by decide +kernel,by decide +kernel⟩
structure Blt (mg:Str->Option Value):Prop where
 b_bool:mg "bool"=none
 b_dict:mg "dict"=none
 b_enumerate:mg "enumerate"=none
 b_int:mg "int"=none
 b_isinstance:mg "isinstance"=none
 b_len:mg "len"=none
 b_list:mg "list"=none
 b_max:mg "max"=none
 b_min:mg "min"=none
 b_range:mg "range"=none
 b_sorted:mg "sorted"=none
 b_str:mg "str"=none
 b_tuple:mg "tuple"=none
structure Txt (K:W.Frag) (mg:Str->Option Value):Prop where
 c_OLDEST:GC K mg "OLDEST" (.tup [(.int 0),(.int 0),(.int 0),(.tup [(.int 0)])])
 h_z4:FD K mg "next_make" Akq ["make"]
 h_z2:FD K mg "middle_end" Ako ["make"]
 h_z5:FD K mg "great_end" Akr ["make"]
 h_z3:FD K mg "make_ahead" Akp ["make"]
 h_z10:FD K mg "low_term" Aar ["low"]
 h_z6:FD K mg "high_term" Aks ["high"]
 h_z1:FD K mg "range_terms" Akn ["low","high"]
 h_z0:FD K mg "is_hole_behind" Akm ["span","place"]
 h_z7:FD K mg "run_words" Akt ["span","start","last"]
 h_z8:FD K mg "run_lasts" Aku ["span","start","furthest","places"]
 h_z9:FD K mg "best_runs" Akv ["span"]
 h_z12:FD K mg "prices" Aat ["span"]
 h_z16:FD K mg "price" Aax ["span"]
 h_z17:FD K mg "_law_cell" Aay ["_law_script","_law_k"]
 h_z13:FD K mg "_law_draws" Aau ["_law_cell_here","_law_sizes"]
 h_z18:FD K mg "_law_make" Aaz ["_law_ds"]
 h_z19:FD K mg "_law_next" Aa0 ["_law_make_here"]
 h_z24:FD K mg "_law_key" Aa5 ["_law_make_here"]
 h_z11:FD K mg "_law_ladder" Aas ["_law_cell_here"]
 h_z20:FD K mg "_law_ends" Aa1 ["_law_cell_here"]
 h_z25:FD K mg "_law_far" Aa6 ["_law_span_here","_law_begin","_law_by"]
 h_z21:FD K mg "_law_span" Aa2 ["_law_cell_here"]
 h_z14:FD K mg "_law_great" Aav ["_law_make_here"]
 h_z22:FD K mg "_law_hull" Aa3 ["_law_low","_law_high"]
 h_z15:FD K mg "_law_apart" Aaw ["_law_high","_law_low"]
 h_z23:FD K mg "_law_dues" Aa4 ["_law_span_here"]
section
variable {P:Program}{w:World}{K:W.Frag}{mg:Str->Option Value}{base:Heap} (T:Txt K mg ) (B:Blt mg)
include T B
theorem Adc:Cl P w K mg base 1 "next_make" 1 M4 :=
 B6 ["make","marks"] T.h_z4 Ana M4 fun _ _ _ _ _ _ _ hr nd=>(Af (A1 nd (Al (Aj 0) Ab)) (Af (Bl (Ik (Aj 1)) (Ak (Az (Ap (Ah (Al (Aj 0) Ab) (Ah (Al (Aj 0) Ab) (Ah (Al (Aj 0) Ab) (Ah (Am Ao (Aj 1) (Ap (Ah Ab Ad))) Ad))))))) A4) (Ak (Az (Ap (Ah (Al (Aj 0) Ab) (Ah (Al (Aj 0) Ab) (Ah (Am Ao (Al (Aj 0) Ab) Ab) (Ah (Ap (Ah Ab Ad)) Ad)))))))))
theorem Adb:Cl P w K mg base 1 "middle_end" 1 M3 :=
 B6 ["make"] T.h_z2 Am8 M3 fun _ _ _ _ _ _ _ hr nd=>(Ak (Az (Ap (Ah (Al (Aj 0) Ab) (Ah (Am Ao (Al (Aj 0) Ab) Ab) (Ah Ab (Ah (Ap (Ah Ab Ad)) Ad)))))))
theorem Aio:Cl P w K mg base 2 "great_end" 1 Pd :=
 B6 ["make"] T.h_z5 Anb Pd fun _ _ _ _ _ _ _ hr nd=>(Af (Bl (As G1 (Al (Aj 0) Ab) Ab) (Ak (Az (Ap (Ah (Am Ao (Al (Aj 0) Ab) Ab) (Ah Ab (Ah Ab (Ah (Ap (Ah Ab Ad)) Ad))))))) A4) (Af (Bl (As G1 (Al (Aj 0) Ab) Ab) (Ak (Az (q_c (Adb T B) hr (Ah (Aj 0) Ad)))) A4) (Ak (Az (Ap (Ah Ab (Ah Ab (Ah (Am Ao (Al (Aj 0) Ab) Ab) (Ah (Ap (Ah Ab Ad)) Ad)))))))))
theorem Ain:Cl P w K mg base 1 "make_ahead" 1 Pb :=
 B6 ["make","marks"] T.h_z3 Am9 Pb fun _ _ _ _ _ _ _ hr nd=>(Af (A1 nd (Al (Aj 0) Ab)) (Af (Bl (Cz (Nm (U1 (Ik (Aj 1))) (Il (As (X6 hr) (Al (Aj 1) (Jw Ab)) Ab)))) (Ak (Az U6)) A4) (Af (Bl (As G1 (Bt B.b_len (Ah (Aj 1) Ad)) Ab) (Ak (Az (Ap (Ah (Al (Aj 0) Ab) (Ah (Al (Aj 0) Ab) (Ah (Al (Aj 0) Ab) (Ah (Aj6 (Aj 1) Ck (B7 (Jw Ab))) Ad))))))) A4) (Ak (Az (Aof (As G1 (Al (Aj 0) Ab) Ab) (Ap (Ah (Al (Aj 0) Ab) (Ah (Al (Aj 0) Ab) (Ah (Am D9 (Al (Aj 0) Ab) Ab) (Ah (Ap Ad) Ad))))) U6))))))
theorem Aae:Cl P w K mg base 2 "low_term" 1 Hv :=
 B6 ["low","ahead"] T.h_z10 Aca Hv fun _ _ _ _ _ _ _ hr nd=>(Af (A1 nd (q_c (Ain T B) hr (Ah (Aj 0) Ad))) (Ak (Az (Aof (Ij (Aj 1)) (Ap (Ah On (Ah (Aj 0) Ad))) (Ap (Ah On (Ah (Aj 1) Ad)))))))
theorem Aip:Cl P w K mg base 2 "high_term" 1 Pe :=
 B6 ["high","ahead"] T.h_z6 Anc Pe fun _ _ _ _ _ _ _ hr nd=>(Af (A1 nd (q_c (Ain T B) hr (Ah (Aj 0) Ad))) (Ak (Az (Aof (Ij (Aj 1)) (Ap (Ah On (Ah (Aj 0) Ad))) (Ap (Ah On (Ah (Aj 1) Ad)))))))
theorem Anq:Cl P w K mg base 3 "range_terms" 2 Tf :=
 B6 ["low","high"] T.h_z1 Am7 Tf fun _ _ _ _ _ _ _ hr nd=>(Af (Bl (Ij (Aj 1)) (Ak (Cm (Aog (As (B8 hr) (Aj 0) (Aph T.c_OLDEST)) (B4 Ad) (B4 (Ah (q_c (Aae T B) hr (Ah (Aj 0) Ad)) Ad))))) A4) (Af (Bl (As (B8 hr) (Aj 0) (Aph T.c_OLDEST)) (Ak (Cm (B4 (Ah (q_c (Aip T B) hr (Ah (Aj 1) Ad)) Ad)))) A4) (Af (Bl (As (B8 hr) (Aj 1) (q_c (Adc T B) hr (Ah (Aj 0) Ad))) (Ak (Cm (B4 (Ah (Ap (Ah On (Ah (Aj 0) Ad))) Ad)))) A4) (Af (Bl (As (B8 hr) (Aj 1) (q_c (Aio T B) hr (Ah (Aj 0) Ad))) (Ak (Cm (B4 (Ah (Ap (Ah On (Ah (Aj 0) Ad))) Ad)))) A4) (Af (Bl (As (B8 hr) (Aj 1) (q_c (Adb T B) hr (Ah (Aj 0) Ad))) (Ak (Cm (B4 (Ah (Ap (Ah On (Ah (Aj 0) Ad))) Ad)))) A4) (Ak (Cm (B4 (Ah (q_c (Aae T B) hr (Ah (Aj 0) Ad)) (Ah (q_c (Aip T B) hr (Ah (Aj 1) Ad)) Ad))))))))))
theorem Anp:Cl P w K mg base 2 "is_hole_behind" 2 Te :=
 B6 ["span","place"] T.h_z0 Am6 Te fun _ _ _ _ _ _ _ hr nd=>(Ak (Az (Aj1 (Mf (X5) (Am Ao (Aj 1) Ab) (Bt B.b_len (Ah (Aj 0) Ad))) (Aj3 (Mf (B8 hr) (q_c (Adc T B) hr (Ah (Al (Al (Aj 0) (Aj 1)) Ab) Ad)) (Al (Al (Aj 0) (Am Ao (Aj 1) Ab)) Ab))))))
theorem Anr:Cl P w K mg base 4 "run_words" 3 Tg :=
 B6 ["span","start","last"] T.h_z7 Ane Tg fun _ _ _ _ _ _ _ hr nd=>(Ak (Az (Nk rfl B.b_max (Ah Ab (Ah (Am D9 (Am Ao (Bt B.b_len (Ah (Dj (Ys (Anq T B) hr (Ah (Al (Al (Aj 0) (Aj 1)) Ab) (Ah (Al (Al (Aj 0) (Aj 2)) Ab) Ad)))) Ad)) (Aj 2)) (Aj 1)) Ad)))))
theorem Ans:Cl P w K mg base 3 "run_lasts" 4 Th :=
 B6 ["span","start","furthest","places","low","highs"] T.h_z8 Anf Th fun _ _ _ _ _ _ _ hr nd=>(Af (A1 nd (Al (Al (Aj 0) (Aj 1)) Ab)) (Af (Yr [3] ["places","high"] nd rfl (P0 (Ap (Ah (q_c (Adc T B) hr (Ah (Aj 4) Ad)) (Ah (q_c (Aio T B) hr (Ah (Aj 4) Ad)) (Ah (q_c (Adb T B) hr (Ah (Aj 4) Ad)) Ad))))) (Gi 1) (fun _ _ _ _ _ _=>(Jv (show (["places","high"]:List Str).Nodup by decide))) (fun _ _ _ _ _ _=>(Oq (As (Air hr) (Aj 1) (Bs 0)))) (fun _ _ _ _ _ _=>(Aj 1))) (Ak (Cm (U2 (Dj (B4 (Ah (Bs 2) Ad))) (Dj (Em [3,2] ["places","furthest","high"] rfl (P0 (Aj 5)) (Gi 2) (fun _ _ _ _ _ _=>(Jv (show (["places","furthest","high"]:List Str).Nodup by decide))) (fun _ _ _ _ _ _=>(Oq (As (X5) (U3 hr (Bs 0) (Aj 2)) (Bs 1)))) (fun _ _ _ _ _ _=>(U3 hr (Bs 0) (Aj 2))))))))))
theorem Ant:Cl P w K mg base 5 "best_runs" 1 Ti :=
 B6 ["span","places","runs","furthest","start","lasts"] T.h_z9 Ang Ti fun _ _ _ _ _ _ _ hr nd=>(Af (A1 nd (Yu hr B.b_dict (Ah (Dj (Em [] ["place","piece"] rfl (Zf B.b_enumerate (Ah (Bs 0) Ad)) (Am0 0 1 (by decide)) (fun _ _ _ _ _ _=>(Aap rfl (Ju (Jv (show (["place","piece"]:List Str).Nodup by decide)) (Ju (Jv (show (["place","piece"]:List Str).Nodup by decide)) Aao)))) (fun _ _ _ _ _ _=>Oo) (fun _ _ _ _ _ _=>(Ap (Ah (Al (Aj 1) Ab) (Ah (Aj 0) Ad)))))) Ad))) (Af (U8 nd (U7 (B4 (Ah (Ap (Ah Ab (Ah (Bt B.b_len (Ah (Bs 0) Ad)) Ad))) Ad)) (Am Ao (Bt B.b_len (Ah (Bs 0) Ad)) Ab))) (Af (A1 nd (Am D9 (Bt B.b_len (Ah (Bs 0) Ad)) Ab)) (Af (C5 Ar2 rfl (Aoh B.b_range (Ah (Am D9 (Bt B.b_len (Ah (Bs 0) Ad)) Ab) (Ah (Jw Ab) (Ah (Jw Ab) Ad)))) (Aoe nd) (Af (Bl (U1 (Ik (q_c (Anp T B) hr (Ah (Bs 0) (Ah (Bs 4) Ad))))) (Ak (A1 nd (Bs 4))) A4) (Af (A1 nd (Aqi (Ans T B) hr (Ah (Bs 0) (Ah (Bs 4) (Ah (Aj 3) (Ah (Aj 1) Ad)))))) (Ak (Jx (U5 hr B.b_min (Ah (Dj (Em [0,4,2] ["span","start","runs","last"] rfl (P0 (Aj 5)) (Gi 3) (fun _ _ _ _ _ _=>(Jv (show (["span","start","runs","last"]:List Str).Nodup by decide))) (fun _ _ _ _ _ _=>Oo) (fun _ _ _ _ _ _=>(Ap (Ah (Am Ao (q_c (Anr T B) hr (Ah (Bs 0) (Ah (Bs 1) (Ah (Aj 3) Ad)))) (Al (Al (Bs 2) (Am Ao (Aj 3) Ab)) Ab)) (Ah (Aj 3) Ad)))))) Ad)) (Bs 2) (Bs 4)))))) (Ak (Az (Bs 2)))))))
theorem Uh:Cl P w K mg base 6 "prices" 1 D5 :=
 B6 ["span"] T.h_z12 Acd D5 fun _ _ _ _ _ _ _ hr nd=>(Ak (Cm (U2 (Dj (Em [] ["run"] rfl (P0 (Dj (P2 (Dj (Ys (Ant T B) hr (Ah (Aj 0) Ad))) Ck (B7 (Jw Ab))))) (Gi 0) (fun _ _ _ _ _ _=>(Jv (show (["run"]:List Str).Nodup by decide))) (fun _ _ _ _ _ _=>Oo) (fun _ _ _ _ _ _=>(Al (Aj 0) Ab)))) (Dj (B4 (Ah Ab Ad))))))
theorem Aie:Cl P w K mg base 7 "price" 1 Lp :=
 B6 ["span"] T.h_z16 Ach Lp fun _ _ _ _ _ _ _ hr nd=>(Ak (Az (Al (Dj (Ys (Uh T B) hr (Ah (Aj 0) Ad))) Ab)))
theorem Aif:Cl P w K mg base 1 "_law_cell" 2 Lq :=
 B6 ["_law_script","_law_k"] T.h_z17 Aci Lq fun _ _ _ _ _ _ _ hr nd=>(Af (Bl (As (B8 hr) (Bt B.b_len (Ah (Aj 0) Ad)) Ab) (Ak (Az (Am Ct Ab (Aj 1)))) A4) (Ak (Az (Am Ao (Al (Aj 0) (Am Cf (Aj 1) (Bt B.b_len (Ah (Aj 0) Ad)))) (Am Ct Ab (Am G0 (Aj 1) (Bt B.b_len (Ah (Aj 0) Ad))))))))
theorem Aaf:Cl P w K mg base 1 "_law_draws" 2 Hw :=
 B6 ["_law_cell_here","_law_sizes","_law_found","_law_digits","_law_k","_law_mixed"] T.h_z13 Ace Hw fun _ _ _ _ _ _ _ hr nd=>(Af (G5 nd (B4 Ad)) (Af (A1 nd (Am G0 (Aj 0) Ab)) (Af (C5 Ar2 rfl (Mg B.b_range (Ah (Bt B.b_len (Ah (Aj 1) Ad)) Ad)) (P1 nd) (Af (A1 nd (Am Cf (Am Ct (Am Ao (Am Cf (Aj 0) Ab) Ab) (Am Ao Ab (Am Ct Ab (Aj 4)))) Ab)) (Af (A1 nd (Am Cf (Am Ct (Am Ao (Am Ao (Aj 5) (Am Ct (Am Ct Ab (Aj 4)) (Aj 4))) Ab) Ab) Ab)) (Af (Bl (As (B8 hr) (Am Cf (Aj 0) Ab) Ab) (Ak (A1 nd (Aj 3))) A4) (Af (De (Aj 2) (Ah (Am Cf (Aj 5) (Al (Aj 1) (Aj 4))) Ad)) (Ak (A1 nd (Am G0 (Aj 3) (Al (Aj 1) (Aj 4)))))))))) (Ak (Az (Aj 2))))))
theorem Aig:Cl P w K mg base 1 "_law_make" 1 Hy :=
 B6 ["_law_ds","_law_marks","_law_many","_law_great_here"] T.h_z18 Acj Hy fun _ _ _ _ _ _ _ hr nd=>(Af (A1 nd (Dj (B4 (Ah Ab (Ah Ab (Ah Ab (Ah On (Ah On (Ah On (Ah On Ad)))))))))) (Af (A1 nd (Al (Dj (B4 (Ah Ab (Ah Ab (Ah Ab (Ah Ab Ad)))))) (Al (Aj 0) Ab))) (Af (A1 nd (Am Ao (Al (Aj 0) Ab) (Am Ct Ab (Aan B.b_int (Ah (Aj1 (Mf (B8 hr) (Al (Aj 0) Ab) Ab) (Aj3 (Mf G1 (Al (Aj 0) Ab) Ab))) Ad))))) (Ak (Az (Ap (Ah (Aj 3) (Ah (Al (Aj 0) Ab) (Ah (Al (Aj 0) Ab) (Ah (Ga B.b_tuple (Ah (Dj (P2 (Dj (B4 (Ah (Al (Aj 1) (Al (Aj 0) Ab)) (Ah (Al (Aj 1) (Al (Aj 0) Ab)) Ad)))) Ck (B7 (Aj 2)))) Ad)) Ad))))))))))
theorem L8:Cl P w K mg base 1 "_law_next" 1 Dm :=
 B6 ["_law_make_here"] T.h_z19 Ack Dm fun _ _ _ _ _ _ _ hr nd=>(Af (Bl (As (B8 hr) (Al (Aj 0) Ab) (Ap Ad)) (Ak (Az (Ap (Ah (Al (Aj 0) Ab) (Ah (Al (Aj 0) Ab) (Ah (Am Ao (Al (Aj 0) Ab) Ab) (Ah (Ap (Ah Ab Ad)) Ad))))))) A4) (Ak (Az (Am Ao (Aj6 (Aj 0) Ck (B7 Ab)) (Ap (Ah (Am Ao (Al (Aj 0) Ab) (Ap (Ah Ab Ad))) Ad))))))
theorem Ail:Cl P w K mg base 1 "_law_key" 1 H4 :=
 B6 ["_law_make_here","_law_marks","_law_mark"] T.h_z24 Acp H4 fun _ _ _ _ _ _ _ hr nd=>(Af (G5 nd (B4 Ad)) (Af (C5 Ar2 rfl (P0 (Al (Aj 0) Ab)) (P1 nd) (Ak (Bl (Ik (U4 (Aj 2) B.b_isinstance B.b_str (by decide +kernel))) (Ak (De (Aj 1) (Ah (Ap (Ah Ab (Ah Ab (Ah (Aj 2) Ad)))) Ad))) (Ak (De (Aj 1) (Ah (Ap (Ah Ab (Ah (Aj 2) (Ah On Ad)))) Ad)))))) (Ak (Az (Ap (Ah (Al (Aj 0) Ab) (Ah (Al (Aj 0) Ab) (Ah (Al (Aj 0) Ab) (Ah (Aan B.b_int (Ah (Mf (B8 hr) (Al (Aj 0) Ab) (Ap Ad)) Ad)) (Ah (Aj 1) Ad))))))))))
theorem Aib:Cl P w K mg base 2 "_law_ladder" 1 Lm :=
 B6 ["_law_cell_here","_law_ds","_law_low","_law_pieces","_law_k","_law_high","_law_more"] T.h_z11 Acb Lm fun _ _ _ _ _ _ _ hr nd=>(Af (A1 nd (Dj (Ys (Aaf T B) hr (Ah (Aj 0) (Ah (Dj (U2 (Dj (B4 (Ah Ab (Ah Ab (Ah Ab Ad))))) (Dj (Aj4 (B4 (Ah Ab Ad)))))) Ad))))) (Af (A1 nd (Ap (Ah Ab (Ah Ab (Ah Ab (Ah (Ap (Ah On Ad)) Ad)))))) (Af (Bl (As (B8 hr) (Al (Aj 1) Ab) Ab) (Ak (A1 nd (Ap (Ah Ab (Ah Ab (Ah Ab (Ah (Ap (Ah Ab Ad)) Ad))))))) A4) (Af (G5 nd (B4 Ad)) (Af (C5 Ar2 rfl (Mg B.b_range (Ah (Am Ao Ab (Al (Aj 1) Ab)) Ad)) (P1 nd) (Af (A1 nd (Ap (Ah Ab (Ah Ab (Ah (Am Ao (Aj 4) Ab) (Ah (Ap Ad) Ad)))))) (Af (De (Aj 3) (Ah (Ap (Ah (Aj 2) (Ah (Aj 5) Ad))) Ad)) (Af (A1 nd (Ap (Ah Ab (Ah Ab (Ah (Am Ao (Aj 4) Ab) (Ah (Ap (Ah On Ad)) Ad)))))) (Ak (Bl (As (X5) (Al (Aj 1) (Am Ao Ab (Aj 4))) Ab) (Af (A1 nd (q_c (L8 T B) hr (Ah (Aj 5) Ad))) (Ak (C5 Ar2 rfl (Mg B.b_range (Ah (Al (Aj 1) (Am Ao Ab (Aj 4))) Ad)) (P1 nd) (Ak (A1 nd (q_c (L8 T B) hr (Ah (Aj 2) Ad))))))) A4)))))) (Af (Bl (As (B8 hr) (Al (Aj 1) Ab) Ab) (Ak (Jx (Ap (Ah (Al (Al (Aj 3) (Jw Ab)) Ab) (Ah U6 Ad))) (Aj 3) (Jw Ab))) A4) (Ak (Az (Ga B.b_tuple (Ah (Aj 3) Ad))))))))))
theorem Aih:Cl P w K mg base 4 "_law_ends" 1 Lr :=
 B6 ["_law_cell_here","_law_ds","_law_ends_here","_law_k","_law_make_here","_law_j"] T.h_z20 Acl Lr fun _ _ _ _ _ _ _ hr nd=>(Af (A1 nd (Dj (Ys (Aaf T B) hr (Ah (Aj 0) (Ah (Dj (U2 (Dj (B4 (Ah Ab Ad))) (Dj (Aj4 (B4 (Ah Ab (Ah Ab (Ah Ab (Ah Ab (Ah Ab (Ah Ab (Ah Ab (Ah Ab Ad))))))))))))) Ad))))) (Af (U8 nd (U7 (B4 (Ah (Ap (Ah Ab (Ah Ab (Ah Ab (Ah (Ap (Ah Ab Ad)) Ad))))) Ad)) (Al (Aj 1) Ab))) (Af (C5 Ar2 rfl (Mg B.b_range (Ah Ab Ad)) (P1 nd) (Af (A1 nd (q_c (Aig T B) hr (Ah (Dj (P2 (Aj 1) (B7 (Am Ao Ab (Am Ct Ab (Aj 3)))) (B7 (Am Ao Ab (Am Ct Ab (Aj 3)))))) Ad))) (Af (Bl (As (B8 hr) (Al (Aj 1) (Am Ao Ab (Am Ct Ab (Aj 3)))) Ab) (Ak (De (Bs 2) (Ah (Ap (Ah (Am Ao (Al (Aj 4) Ab) Ab) (Ah Ab (Ah Ab (Ah (Ap (Ah Ab Ad)) Ad))))) Ad))) A4) (Af (Bl (As (B8 hr) (Al (Aj 1) (Am Ao Ab (Am Ct Ab (Aj 3)))) Ab) (Ak (De (Bs 2) (Ah (Ap (Ah (Al (Aj 4) Ab) (Ah (Am Ao (Al (Aj 4) Ab) Ab) (Ah Ab (Ah (Ap (Ah Ab Ad)) Ad))))) Ad))) A4) (Ak (C5 Ar2 rfl (Mg B.b_range (Ah Ab Ad)) (P1 nd) (Af (Bl (As (B8 hr) (Am Aiq (Am Ait (Al (Aj 1) (Am Ao Ab (Am Ct Ab (Aj 3)))) (Aj 5)) Ab) Ab) (Ak (De (Bs 2) (Ah (Aj 4) Ad))) A4) (Ak (A1 nd (q_c (L8 T B) hr (Ah (Aj 4) Ad))))))))))) (Ak (Cm (Aod (Ail T B) hr B.b_sorted (Ah (Dj (Em [2] ["_law_ends_here","_law_k"] rfl (Mg B.b_range (Ah (Bt B.b_len (Ah (Bs 2) Ad)) Ad)) (Gi 1) (fun _ _ _ _ _ _=>(Jv (show (["_law_ends_here","_law_k"]:List Str).Nodup by decide))) (fun _ _ _ _ _ _=>(Oq (As (X7 hr) (Al (Bs 0) (Aj 1)) (Dj (P2 (Bs 0) Ck (B7 (Aj 1))))))) (fun _ _ _ _ _ _=>(Al (Bs 0) (Aj 1))))) Ad)))))))
theorem Aim:Cl P w K mg base 1 "_law_far" 3 Lu :=
 B6 ["_law_span_here","_law_begin","_law_by","_law_pieces","_law_k","_law_low","_law_high"] T.h_z25 Acq Lu fun _ _ _ _ _ _ _ hr nd=>(Af (G5 nd (B4 Ad)) (Af (C5 Ar2 rfl (Mg B.b_range (Ah (Bt B.b_len (Ah (Aj 0) Ad)) Ad)) (P1 nd) (Af (Aj5 (Al (Aj 0) (Aj 4)) (Aap rfl (Ju (P1 nd) (Ju (P1 nd) Aao)))) (Af (Bl (As G1 (Aj 4) (Aj 1)) (Ak (A1 nd (Am Ao (Ap (Ah (Am Ao (Al (Aj 5) Ab) (Aj 2)) Ad)) (Aj6 (Aj 5) (B7 Ab) Ck)))) A4) (Af (Bl (Cz (U9 (As Anu (Aj 4) (Aj 1)) (Nl (Aek (Aj 6))))) (Ak (A1 nd (Am Ao (Ap (Ah (Am Ao (Al (Aj 6) Ab) (Aj 2)) Ad)) (Aj6 (Aj 6) (B7 Ab) Ck)))) A4) (Ak (De (Aj 3) (Ah (Ap (Ah (Aj 5) (Ah (Aj 6) Ad))) Ad))))))) (Ak (Az (Ga B.b_tuple (Ah (Aj 3) Ad))))))
theorem Aii:Cl P w K mg base 5 "_law_span" 1 Ls :=
 B6 ["_law_cell_here","_law_ends_here","_law_pieces"] T.h_z21 Acm Ls fun _ _ _ _ _ _ _ hr nd=>(Af (Bl (Cz (Nm (As (B8 hr) (Am Cf (Aj 0) Ab) Ab) (Il (As (B8 hr) (Am Cf (Aj 0) Ab) Ab)))) (Ak (Az (q_c (Aib T B) hr (Ah (Am G0 (Aj 0) Ab) Ad)))) A4) (Af (Aen nd (Dj (Ys (Aih T B) hr (Ah (Am G0 (Aj 0) Ab) Ad)))) (Af (Yq [1] ["_law_ends_here","_law_k"] nd rfl (Aoi B.b_range (Ah Ab (Ah (Am D9 (Bt B.b_len (Ah (Bs 1) Ad)) Ab) (Ah Ab Ad)))) (Gi 1) (fun _ _ _ _ _ _=>(Jv (show (["_law_ends_here","_law_k"]:List Str).Nodup by decide))) (fun _ _ _ _ _ _=>Oo) (fun _ _ _ _ _ _=>(Ap (Ah (Al (Bs 0) (Aj 1)) (Ah (Al (Bs 0) (Am Ao (Aj 1) Ab)) Ad))))) (Af (Bl (Cz (U9 (As (B8 hr) (Am Cf (Bt B.b_len (Ah (Bs 1) Ad)) Ab) Ab) (Nl (As (X5) (Am Cf (Aj 0) Ab) Ab)))) (Ak (De (Aj 2) (Ah (Ap (Ah (Al (Bs 1) (Jw Ab)) (Ah U6 Ad))) Ad))) A4) (Af (Bl (Cz (Nm (As (B8 hr) (Am Cf (Aj 0) Ab) Ab) (Il (As (B8 hr) (Am Cf (Aj 0) Ab) Ab)))) (Ak (Az (q_c (Aim T B) hr (Ah (Aj 2) (Ah (Am D9 (Am Cf (Am G0 (Aj 0) Ab) Ab) Ab) (Ah (Al (Dj (B4 (Ah Ab (Ah Ab (Ah (Am D9 (Am Ais Ab Ab) Ab) Ad))))) (Am Cf (Am G0 (Aj 0) Ab) Ab)) Ad)))))) A4) (Ak (Az (Ga B.b_tuple (Ah (Aj 2) Ad)))))))))
theorem Aic:Cl P w K mg base 1 "_law_great" 1 Lo :=
 B6 ["_law_make_here"] T.h_z14 Acf Lo fun _ _ _ _ _ _ _ hr nd=>(Af (Bl (As G1 (Al (Aj 0) Ab) Ab) (Ak (Az (Ap (Ah (Am Ao (Al (Aj 0) Ab) Ab) (Ah Ab (Ah Ab (Ah (Ap (Ah Ab Ad)) Ad))))))) A4) (Af (Bl (As G1 (Al (Aj 0) Ab) Ab) (Ak (Az (Ap (Ah Ab (Ah (Am Ao (Al (Aj 0) Ab) Ab) (Ah Ab (Ah (Ap (Ah Ab Ad)) Ad))))))) A4) (Ak (Az (Ap (Ah Ab (Ah Ab (Ah (Am Ao (Al (Aj 0) Ab) Ab) (Ah (Ap (Ah Ab Ad)) Ad)))))))))
theorem Aij:Cl P w K mg base 2 "_law_hull" 2 Hz :=
 B6 ["_law_low","_law_high"] T.h_z22 Acn Hz fun _ _ _ _ _ _ _ hr nd=>(Af (Bl (Cz (U9 (As (B8 hr) (Aj 0) (Ap (Ah Ab (Ah Ab (Ah Ab (Ah (Ap (Ah Ab Ad)) Ad)))))) (Nl (Ij (Aj 1))))) (Ak (Az Ab)) A4) (Af (Bl (Cz (Nm (As (B8 hr) (Aj 0) (Ap (Ah Ab (Ah Ab (Ah Ab (Ah (Ap (Ah Ab Ad)) Ad)))))) (Il (Ij (Aj 1))))) (Ak (Az Ab)) A4) (Af (Bl (As (Anv hr) (Aj 1) (Dj (B4 (Ah (q_c (L8 T B) hr (Ah (Aj 0) Ad)) (Ah (q_c (Aic T B) hr (Ah (Aj 0) Ad)) (Ah (Ap (Ah (Al (Aj 0) Ab) (Ah (Am Ao (Al (Aj 0) Ab) Ab) (Ah Ab (Ah (Ap (Ah Ab Ad)) Ad))))) Ad)))))) (Ak (Az Ab)) A4) (Ak (Az Ab)))))
theorem Aid:Cl P w K mg base 2 "_law_apart" 2 Hx :=
 B6 ["_law_high","_law_low","_law_make_here","_law_many"] T.h_z15 Acg Hx fun _ _ _ _ _ _ _ hr nd=>(Af (A1 nd (Aj 0)) (Af (C5 Ar2 rfl (Aeo B.b_range (Ah Ab (Ah Ab Ad))) (P1 nd) (Af (A1 nd (q_c (L8 T B) hr (Ah (Aj 2) Ad))) (Ak (Bl (As (B8 hr) (Aj 2) (Aj 1)) (Ak (Az (Aj 3))) A4)))) (Ak (Az U6))))
theorem Aik:Cl P w K mg base 3 "_law_dues" 1 H0 :=
 B6 ["_law_span_here","_law_dues_here","_law_back","_law_begin","_law_costs","_law_lacking","_law_end","_law_many"] T.h_z23 Aco H0 fun _ _ _ _ _ _ _ hr nd=>(Af (G5 nd (U7 (B4 (Ah Ab Ad)) (Am Ao (Bt B.b_len (Ah (Aj 0) Ad)) Ab))) (Af (C5 Ar2 rfl (Aeo B.b_range (Ah Ab (Ah (Am Ao (Bt B.b_len (Ah (Aj 0) Ad)) Ab) Ad))) (P1 nd) (Af (A1 nd (Am D9 (Bt B.b_len (Ah (Aj 0) Ad)) (Aj 2))) (Af (G5 nd (B4 Ad)) (Af (A1 nd Ab) (Af (C5 Ar2 rfl (Aeo B.b_range (Ah (Aj 3) (Ah (Bt B.b_len (Ah (Aj 0) Ad)) Ad))) (P1 nd) (Af (Bl (As G1 (Aj 6) (Aj 3)) (Af (A1 nd (q_c (Aid T B) hr (Ah (Al (Al (Aj 0) (Am D9 (Aj 6) Ab)) Ab) (Ah (Al (Al (Aj 0) (Aj 6)) Ab) Ad)))) (Af (Bl (Ij (Aj 7)) (Ak Yv) A4) (Ak (A1 nd (Am Ao (Aj 5) (Aj 7)))))) A4) (Ak (De (Aj 4) (Ah (Am Ao (Nk rfl B.b_max (Ah Ab (Ah (Am Ao (q_c (Aij T B) hr (Ah (Al (Al (Aj 0) (Aj 3)) Ab) (Ah (Al (Al (Aj 0) (Aj 6)) Ab) Ad))) (Aj 5)) Ad))) (Al (Aj 1) (Am Ao (Aj 6) Ab))) Ad))))) (Ak (Jx (U5 hr B.b_min (Ah (Aj 4) Ad)) (Aj 1) (Aj 3)))))))) (Ak (Cm (U2 (Dj (P2 (Aj 1) Ck (B7 (Jw Ab)))) (Dj (B4 (Ah Ab Ad))))))))
theorem Aia {a:Addr}{fd:FuncData} (F:Fun K "law" "law" Mo a fd):FnOk P w K mg base CX0 8 a fd ["_law_script"] (spP K 1 Gn) :=
 Apg F sc_law Ab9 Gn rfl rfl fun cdv A outer s H E hr=>(Af (C5 Ar2 rfl (Mg B.b_range (Ah (Nk rfl B.b_max (Ah Ab (Ah (Bt B.b_len (Ah (Dj (P2 (Aj 0) Ck (B7 Ab))) Ad)) Ad))) Ad)) (P1 sc_law.nd) (Af (A1 sc_law.nd (q_c (Aii T B) hr (Ah (q_c (Aif T B) hr (Ah (Aj 0) (Ah (Aj 1) Ad))) Ad))) (Af (Bl (As G1 (Aj 1) Ab) (Ak (A1 sc_law.nd (Aj6 (Aj 2) Ck (B7 Ab)))) A4) (Af (A1 sc_law.nd (Dj (Ys (Aik T B) hr (Ah (Aj 2) Ad)))) (Af (G5 sc_law.nd (Ys (Uh T B) hr (Ah (Aj 2) Ad))) (Af (Bl (Cz (Nm (U1 (Ik (U4 (Aj 4) B.b_isinstance B.b_list (by decide +kernel)))) (Nm (As (X6 hr) (Aj 4) (Aj 3)) (Il (As G1 (Bt B.b_len (Ah (Dj (Em [] ["_law_one"] rfl (P0 (Aj 4)) (Gi 0) (fun _ _ _ _ _ _=>(Jv (show (["_law_one"]:List Str).Nodup by decide))) (fun _ _ _ _ _ _=>(Oq (Ik (U4 (Aj 0) B.b_isinstance B.b_bool (by decide +kernel))))) (fun _ _ _ _ _ _=>(Aj 0)))) Ad)) Ab))))) (Ak (Az Aoc)) A4) (Af (De (Aj 4) (Ah Ab Ad)) (Ak (Bl (Cz (Nm (As (X6 hr) (Dj (Ys (Uh T B) hr (Ah (Aj 2) Ad))) (Aj 3)) (Il (As (X6 hr) (q_c (Aie T B) hr (Ah (Aj 2) Ad)) (Al (Aj 3) Ab))))) (Ak (Az Aoc)) A4))))))))) (Ak (Az Aoc)))
end
end
end K32a
end S_K32a
section S_XA
namespace K32a
open PySem L2 L2.ML
set_option hygiene false in
local macro_rules|`(tactic| simp_arith[$a,*])=>`(tactic| ((try dsimp only[mp1,mp2,mp3,ln1,ln2,ln3,List.replicate,Nat.reduceAdd,Nat.reduceSub]);simp only[↓Amy,↓Amx,↓Ami,↓Amj,↓Amk,↓Aml,↓Alv,↓Alw,↓Alx,↓Aly,↓Ab6,↓Ab5,↓Bg,↓G9,↓Ae1,↓Aez,↓Ae0,↓Gf,↓Agr,↓Vr,↓Ags,↓Abf,↓Ro,↓Ag9,↓Amb,↓Ao8,↓Ao7,↓Apv,↓J7,↓Ge,↓Ja,↓Ny,↓Zl,↓Af7,↓Vn,↓Rk,↓Alr,↓Af6,↓Ag0,↓Ag1,↓Afz,↓Al1,↓Af3,↓Abd,↓Alz,↓Al2,↓Al0,↓Abe,↓Als,↓Zp,↓Af5,↓Aoq,↓Akk,↓Aor,↓Af0,↓Af2,↓Zm,↓Rj,↓Gc,↓Ed,↓Afp,↓Afq,↓Agz,↓Agl,↓Afy,↓Agk,↓Ago,↓Agu,↓Ama,↓Al4,↓Al3,↓Apu,↓Ap0,↓Agb,↓Aga,↓Mx,↓Al8,↓Al7,↓Al9,↓Agg,↓Age,↓Agd,↓Agf,↓Agx,↓Al6,↓Gb,↓Cq,↓Cp,↓Rl,↓Abi,↓Abh,↓Amd,↓Ame,↓Mw,↓O4,↓O5,↓J8,↓Amp,↓Amm,↓Amo,↓Ag7,↓Ag6,↓Ag4,↓Aqw,↓Aqu,↓Aqv,↓Abk,↓Abl,↓Aoo,↓Akb,↓Hq,↓Y6,↓Y5,↓Y4,↓Y7,↓O9,↓Apa,↓Aps,↓Apb,↓Ap1,↓Apw,↓Ao3,↓Ap7,↓Ap2,↓Apx,↓Ao4,↓Apc,↓Ap3,↓Apy,↓Ao5,↓Apd,↓Ap4,↓Apz,↓Ak8,↓Ap8,↓Ao9,↓Apt,↓Ap9,↓Ap5,↓Ao6,↓Aqa,↓Ap6,Atc,Bool.not_false,Ro,Ag9,↓Agw,↓Agy,↓Akj,↓Vs,↓Agq,↓Ah6,↓Agm,↓Vq,↓Agp,↓Zk,↓Abb,↓Afx,↓Agn,↓Af4,↓Aj7,↓Abj,↓Agv,Ark,Atf,Arj,List.nil_append,Asj,Ara,As6,List.replicate,List.set_cons_zero,List.set_cons_succ,Nat.reduceAdd,Nat.reduceSub,Nat.zero_add,true_and,Bp,Ji,B1,M0,Pt,decide_true,decide_false,Vw,Rq,List.getElem?_cons_zero,Arq,Ars,_root_.id,Agv,Amn,Abg,L3,Bj,Uc,D6,Cs,A7,D8,Bool.and_self,Bool.and_true,Bool.true_and,Mk.pure,Mark.pure,Nd,D7,↓Aa8,↓Aa9,↓Afs,↓Aft,Aqd,V3,↓Xw,↓Xv,↓Xu,↓Xx,Int.reduceEq,Int.reduceLT,Int.reduceLE,Int.reduceAdd,Int.reduceSub,Int.reduceMul,Int.reduceToNat,Int.reducePow,Int.reduceNeg,Int.reduceMod,Int.reduceDiv,Nat.reduceLeDiff,Nat.reduceMul,Nat.reduceEqDiff,Nat.reducePow,Nat.reduceLT,and_true,and_self,true_or,or_true,Aq5,Asx,Ar8,Amu,↓Xs,↓Xr,↓Xq,↓Xt,Aep,Ar7,Bool.true_eq_false,T7,X0,Ahy,Abv,Mark.deq,Mk.deq,Ath,↓Ah0,↓Ah1,↓Ah2,↓Ah3,↓Ahz,↓Ac5,List.any_cons,List.any_nil,Ast,List.all_nil,Bool.false_or,Bool.true_or,Bool.or_false,Bool.false_and,↓Ri,Dr,Ud,Ul,Oh,↓Ai6,↓Ai7,↓Ai8,↓Ah7,↓Ac8,Option.isNone_none,Option.isNone_some,Option.isSome_none,Option.isSome_some,Gv,Ry,bne_self_eq_false,↓Ams,↓Amt,↓Af9,↓Af1,↓Alu,↓Ag3,↓Ag2,↓Amh,↓Amg,↓Amf,↓Agh,↓Afr,↓Abm,↓Akc,↓Abn,↓Ake,↓Ag5,↓Ahi,$a,*]))
set_option hygiene false in
local macro_rules|`(tactic| array_get_dec)=>`(tactic| try simp_arith[true_and])
theorem Abp (ns:List Int) (hl:ns.length<=63) (k:Int) (hk:0<=k) (hk2:k < 100000):W (Lq [.kl (ns.map .int),.int k]) fun d=>∃ c,d=.int c:=by
 unfold Lq Aci
 rw[Bg]
 array_get_dec
 refine cK.dec (fun h=>⟨_,rfl⟩) fun h=>?_
 have hm:=Int.emod_nonneg k (b:=(ns.length:Int)) (by lia)
 have hm2:=Int.emod_lt_of_pos k (b:=(ns.length:Int)) (by lia)
 refine⟨by lia,O3 hm (by simpa using hm2) fun d _ hd=>?_⟩
 obtain⟨c,_,rfl⟩:=List.mem_map.mp hd
 array_get_dec
 exact⟨⟨by lia,by lia⟩,_,rfl⟩
def InR (vs sz:List Int):Prop:=vs.length=sz.length/\∀ (i:Nat) (v z:Int),vs[i]?=some v->sz[i]?=some z->0<=v/\v < z
theorem N6 (c:Int) (sz:List Int) (hn:sz.length<=60) (hp:∀ z∈sz,0 < z/\z < 1000):W (Hw [.int c,.lst (sz.map .int)]) fun d=>∃ vs:List Int,d=.lst (vs.map .int)/\InR vs sz:=by
 unfold Hw Ace
 rw[Bg]
 array_get_dec
 refine⟨⟨by lia,by lia⟩,D4 (fun k e m=>∃ (vs:List Int) (g:Int) (u v:Option D),m=[.lst (vs.map .int)]/\e=[some (.int c),some (.lst (sz.map .int)),some (.ref 0),some (.int g),u,v]/\vs.length=k/\∀ (i:Nat) (v z:Int),vs[i]?=some v->sz[i]?=some z->0<=v/\v < z) ?_ ?_ ⟨[],_,_,_,rfl,rfl,rfl,fun i v z h=>by cases h⟩⟩
 ·rintro k e m hk ⟨vs,g,u,v,rfl,rfl,hv,hr⟩
  refine⟨trivial,?_⟩
  have hk':k < sz.length:=by simpa using hk
  have hz:=hp _ (Ar9 hk')
  have b1:=Int.emod_nonneg c (b:=1000003) (by decide)
  have b2:=Int.emod_lt_of_pos c (b:=1000003) (by decide)
  have app:∀ (w g':Int) {u v:Option D},0<=w->w < sz[k]->vs.length < 1000000/\∃ (vs_1:List Int) (g:Int) (u_1 v_1:Option D),[MObj.lst (vs.map D.int++[D.int w])]=[MObj.lst (vs_1.map D.int)]/\[some (D.int c),some (D.lst (sz.map D.int)),some (D.ref 0),some (D.int g'),u,v]=[some (D.int c),some (D.lst (sz.map D.int)),some (D.ref 0),some (D.int g),u_1,v_1]/\vs_1.length=k+1/\∀ (i:Nat) (v z:Int),vs_1[i]?=some v->sz[i]?=some z->0<=v/\v < z:=fun w g' u v h1 h2=>by
   refine⟨by lia,vs++[w],g',u,v,by simp,rfl,by simp[hv],fun i x z hx hz=>?_⟩
   by_cases hi:i < vs.length
   ·rw[Arm hi] at hx
    exact hr i x z hx hz
   ·have hi2:=(List.getElem?_eq_some_iff.mp hx).1
    rw[Arz,As8] at hi2
    have e:i=vs.length:=by lia
    subst e
    rw[Aru (Aq5 _)] at hx
    simp at hx
    subst hx
    rw[hv,Aqz hk'] at hz
    cases hz
    exact⟨h1,h2⟩
  simp_arith[J5 hk']
  refine⟨.inl ⟨by lia,by lia⟩,.inr ⟨by lia,by lia⟩,cK.dec (fun _=>⟨hz.1,?_⟩) fun _=>⟨hz.1,?_⟩⟩
  ·obtain⟨a1,a2⟩:=app (g % sz[k]) (g / sz[k]) (Int.emod_nonneg _ (by lia)) (Int.emod_lt_of_pos _ hz.1)
   exact⟨a1,⟨hz.1,by lia⟩,a2⟩
  ·obtain⟨a1,a2⟩:=app _ (g / sz[k]) (Int.emod_nonneg _ (by lia)) (Int.emod_lt_of_pos _ hz.1)
   exact⟨a1,⟨hz.1,by lia⟩,a2⟩
 ·rintro e m ⟨vs,g,u,v,rfl,rfl,hv,hr⟩
  refine⟨trivial,?_⟩
  simp_arith[A0 fun _=>Bj]
  exact⟨vs,rfl,by lia,hr⟩
theorem Afv {α:Type}{x y z w v:α}{l:List α}{Q:α->Prop}:W (atI (x::y::z::w::v::l) 4) Q=Q v:=by
 rw[show atI (x::y::z::w::v::l) 4=some v by unfold atI ixN;rw[Aq4 (by decide),Aq4 (by simp<;>lia)];rfl,Ac]
theorem Afw {α:Type}{x y z w v u:α}{l:List α}{Q:α->Prop}:W (atI (x::y::z::w::v::u::l) 5) Q=Q u:=by
 rw[show atI (x::y::z::w::v::u::l) 5=some u by unfold atI ixN;rw[Aq4 (by decide),Aq4 (by simp<;>lia)];rfl,Ac]
theorem six {vs:List Int} (h:InR vs [3,3,4,4,7,7]):∃ a b c d e f:Int,vs=[a,b,c,d,e,f]/\(0<=d/\d < 4)/\(0<=e/\e < 7)/\(0<=f/\f < 7)/\0<=a/\0<=b/\0<=c:=by
 obtain⟨hl,h⟩:=h
 match vs,hl with
 |[a,b,c,d,e,f],_=>exact⟨a,b,c,d,e,f,rfl,h 3 d 4 rfl rfl,h 4 e 7 rfl rfl,h 5 f 7 rfl rfl,(h 0 a 3 rfl rfl).1,(h 1 b 3 rfl rfl).1,(h 2 c 4 rfl rfl).1⟩
structure Gd (n:Nat) (x:Mk):Prop where
 pos:Pos x
 key:∀ m∈x.ms,kOk (pyD m.d)=true
 ms:x.ms.length<=n
theorem Gd.k {n:Nat}{x:Mk} (h:Gd n x):Dx x.d=true:=Ah4 h.key
theorem Gd.up {n k:Nat}{x:Mk} (h:Gd n x) (hk:n<=k):Gd k x:=⟨h.pos,h.key,by have:=h.ms;lia⟩
theorem Dv {n:Nat}{a b c:Int} (ha:0<=a) (hb:0<=b) (hc:0<=c):Gd (n+1) ⟨a,b,c,[.n 0]⟩:=⟨⟨ha,hb,hc,fun m hm=>by rw[List.mem_singleton.mp hm];simp[Mark.pos]⟩,fun m hm=>by rw[List.mem_singleton.mp hm];rfl,by simp⟩
theorem Gd.next {n:Nat}{x:Mk} (h:Gd n x):Gd (n+1) x.next:=by
 have p:=h.pos
 unfold Mk.next
 split
 ·exact Dv p.a p.b (by have:=p.c;lia)
 ·refine⟨⟨p.a,p.b,p.c,fun m hm=>?_⟩,fun m hm=>?_,by have:=h.ms;simp;lia⟩
  ·rcases List.mem_append.mp hm with z|z
   ·exact p.ms m z
   ·rw[List.mem_singleton.mp z];simp[Mark.pos]
  ·rcases List.mem_append.mp hm with z|z
   ·exact h.key m z
   ·rw[List.mem_singleton.mp z];rfl
theorem Gd.mid {n:Nat}{x:Mk} (h:Gd n x):Gd (n+1) x.mid:=Dv h.pos.a (by have:=h.pos.b;lia) (by lia)
theorem Gd.great {n:Nat}{x:Mk} (h:Gd n x):Gd (n+1) x.great:=by
 have p:=h.pos
 have h1:=p.a
 have h2:=p.b
 have h3:=p.c
 unfold Mk.great
 split
 ·exact Dv (by lia) (by lia) (by lia)
 ·split<;>exact Dv (by lia) (by lia) (by lia)
theorem Ahw {d:D} (h:d∈[D.int 0,D.int 1,D.int 10,D.str (Str.ofString "a"),D.str (Str.ofString "ab"),D.str (Str.ofString "b"),D.str (Str.ofString "zz")]):∃ m:Mark,d=m.d/\m.pos/\kOk (pyD m.d)=true:=by
 simp only[Ass,Ash,or_false] at h
 rcases h with rfl|rfl|rfl|rfl|rfl|rfl|rfl
 ·exact⟨.n 0,rfl,by simp[Mark.pos],rfl⟩
 ·exact⟨.n 1,rfl,by simp[Mark.pos],rfl⟩
 ·exact⟨.n 10,rfl,by simp[Mark.pos],rfl⟩
 ·exact⟨.s _,rfl,trivial,Bf _⟩
 ·exact⟨.s _,rfl,trivial,Bf _⟩
 ·exact⟨.s _,rfl,trivial,Bf _⟩
 ·exact⟨.s _,rfl,trivial,Bf _⟩
theorem Xp (vs:List Int) (h:InR vs [3,3,4,4,7,7]):W (Hy [.lst (vs.map .int)]) fun d=>∃ y:Mk,d=y.d/\Gd 2 y:=by
 obtain⟨a,b,c,g,e,f,rfl,hg,he,hf,pa,pb,pc⟩:=six h
 unfold Hy Acj
 rw[Bg]
 simp_arith[Afv,Afw]
 refine O3 hg.1 (by simpa using hg.2) fun d _ hd=>?_
 obtain⟨n,rfl⟩:∃ n:Int,d=.int n:=by
  simp only[Ass,Ash,or_false] at hd
  rcases hd with rfl|rfl|rfl|rfl<;>exact⟨_,rfl⟩
 have fin:∀ t:Int,0<=t->W (atI [D.int 0,D.int 1,D.int 10,D.str (Str.ofString "a"),D.str (Str.ofString "ab"),D.str (Str.ofString "b"),D.str (Str.ofString "zz")] e) fun x=>W (atI [D.int 0,D.int 1,D.int 10,D.str (Str.ofString "a"),D.str (Str.ofString "ab"),D.str (Str.ofString "b"),D.str (Str.ofString "zz")] f) fun x_1=>W (Bz [] (D.tup [D.int t,D.int b,D.int c,D.tup (C8 [x,x_1] none (some n))])) fun d=>∃ y:Mk,d=y.d/\Gd 2 y:=fun t ht=>by
  refine O3 he.1 (by simpa using he.2) fun d1 _ hd1=>O3 hf.1 (by simpa using hf.2) fun d2 _ hd2=>?_
  obtain⟨m1,rfl,q1,k1⟩:=Ahw hd1
  obtain⟨m2,rfl,q2,k2⟩:=Ahw hd2
  have ec:C8 [m1.d,m2.d] none (some n)=(C8 [m1,m2] none (some n)).map Mark.d:=Ry (xs:=[m1,m2]) (f:=Mark.d)
  rw[ec]
  array_get_dec
  have mem:∀ m,m∈C8 [m1,m2] none (some n)->m=m1\/m=m2:=fun m hm=>by simpa using Abs hm
  exact⟨⟨t,b,c,C8 [m1,m2] none (some n)⟩,rfl,⟨ht,pb,pc,fun m hm=>(mem m hm).elim (fun z=>by rw[z];exact q1) fun z=>by rw[z];exact q2⟩,fun m hm=>(mem m hm).elim (fun z=>by rw[z];exact k1) fun z=>by rw[z];exact k2,Rx (xs:=[m1,m2])⟩
 simp_arith[Afv,Afw]
 exact cK.dec (fun _=>fin _ (by split<;>lia)) fun _=>fin _ (by lia)
theorem Cw (x:Mk) (hx:x.ms.length<=1000) {Q:D->Prop}:W (Dm [x.d]) Q=Q x.next.d:=W.eq <| by
 unfold Dm Ack
 rw[Bg]
 unfold Mk.d
 array_get_dec
 refine cK.dec (fun h=>?_) fun h=>⟨by lia,?_⟩
 ·unfold Mk.next;rw[Aq4 h];rfl
 ·unfold Mk.next;rw[Aq7 h];simp;rfl
theorem Nc (x:Mk) (hx:x.ms.length<=1000) {Q:D->Prop}:W (M4 [x.d]) Q=Q x.next.d:=W.eq <| by
 unfold M4 Ana
 rw[Bg]
 unfold Mk.d
 array_get_dec
 refine cK.mk (fun h=>⟨by lia,?_⟩) fun h=>?_
 ·unfold Mk.next;rw[Aq7 (by intro z;rw[z] at h;simp at h)];simp;rfl
 ·unfold Mk.next;rw[Aq4 (by simpa using h)];rfl
theorem Gr (x:Mk) {Q:D->Prop}:W (M3 [x.d]) Q=Q x.mid.d:=W.eq <| by
 unfold M3 Am8
 rw[Bg]
 array_get_dec
 rfl
theorem N8 (x:Mk) (h:0<=x.a) {Q:D->Prop}:W (Pd [x.d]) Q=Q x.great.d:=W.eq <| by
 unfold Pd Anb
 rw[Bg]
 simp_arith[Gr]
 unfold Mk.great
 refine cK.dec (fun h1=>by rw[Aq4 h1];rfl) fun h1=>cK.dec (fun h2=>?_) fun h2=>by rw[Aq7 h1,Aq7 h2];rfl
 rw[Aq7 h1,Aq4 h2]
 unfold Mk.mid
 rw[show x.a=0 by lia]
theorem T1 (x:Mk) {Q:D->Prop}:W (Lo [x.d]) Q=Q x.great.d:=W.eq <| by
 unfold Lo Acf
 rw[Bg]
 array_get_dec
 unfold Mk.great
 exact cK.dec (fun h1=>by rw[Aq4 h1];rfl) fun h1=>cK.dec (fun h2=>by rw[Aq7 h1,Aq4 h2];rfl) fun h2=>by rw[Aq7 h1,Aq7 h2];rfl
theorem Aba {α:Type}{xs:List α}{x:α} (h:xs.getLast?=some x) {Q:α->Prop}:W (atI xs (-1)) Q=Q x:=by
 have hne:xs≠[]:=fun z=>by rw[z] at h;cases h
 have hl:0 < xs.length:=List.length_pos_iff.mpr hne
 have e:atI xs (-1)=some x:=by
  unfold atI ixN
  rw[Aq7 (by decide),Aq4 (by lia)]
  show xs[(xs.length+(-1:Int)).toNat]?=some x
  rw[show (xs.length+(-1:Int)).toNat=xs.length - 1 by lia,<- List.getLast?_eq_getElem?,h]
 rw[e,Ac]
theorem N1 (x:Mk):W (Pb [x.d]) fun d=>∃ o:Option Mk,d=oD o:=by
 unfold Pb Am9
 rw[Bg]
 array_get_dec
 refine cK.mk (fun _=>⟨none,rfl⟩) fun h=>?_
 have hne:x.ms≠[]:=fun z=>by rw[z] at h;simp at h
 obtain⟨m,hm⟩:∃ m,x.ms.getLast?=some m:=⟨_,List.getLast?_eq_some_getLast hne⟩
 rw[Aba (x:=m.d) (by rw[List.getLast?_map,hm];rfl)]
 array_get_dec
 refine cK.mk (fun _=>⟨none,rfl⟩) fun _=>cK.mk (fun _=>?_) fun _=>cK.mk (fun _=>⟨some ⟨x.a,x.b,x.c - 1,[]⟩,rfl⟩) fun _=>⟨none,rfl⟩
 rw[<- List.map_dropLast]
 array_get_dec
 exact⟨some ⟨x.a,x.b,x.c,x.ms.dropLast⟩,rfl⟩
theorem Z8 (x:Mk):W (Hv [x.d]) fun d=>Be d=true:=by
 unfold Hv Aca
 rw[Bg]
 array_get_dec
 refine (N1 x).imp fun d ⟨o,e⟩=>?_
 subst e
 array_get_dec
 cases o<;>exact cK.mk (fun _=>by array_get_dec;trivial) fun _=>by array_get_dec;trivial
theorem Tq (x:Mk):W (Pe [x.d]) fun d=>Be d=true:=by
 unfold Pe Anc
 rw[Bg]
 array_get_dec
 refine (N1 x).imp fun d ⟨o,e⟩=>?_
 subst e
 array_get_dec
 cases o<;>exact cK.mk (fun _=>by array_get_dec;trivial) fun _=>by array_get_dec;trivial
theorem Mb {d:D}{x:Mk}{h:Option Mk} (hd:Be d=true) (hh:hul x h=1):∃ l,D.lst [d]=.lst l/\Ay l=true/\(l.length:Int)=hul x h:=⟨[d],rfl,by rw[A7,Cs,hd];rfl,by rw[hh];rfl⟩
theorem Y8 (x:Mk) (h:Option Mk) (hx:Gd 900 x):W (Tf [x.d,oD h]) fun d=>∃ l,d=.lst l/\Ay l=true/\(l.length:Int)=hul x h:=by
 have ms:=hx.ms
 have eo:deq x.d (.tup [.int 0,.int 0,.int 0,.tup [.int 0]])=decide (x=Dl):=Mk.deq x Dl
 unfold Tf Am7
 rw[Bg]
 cases h with
 |none =>
  array_get_dec
  rw[eo]
  refine cK.dec (fun q=>⟨[],rfl,rfl,?_⟩) fun q=>(Z8 x).imp fun d hd=>?_
  ·subst q;unfold hul;simp
  ·rw[hd,Ro]
   exact Mb hd (Dg q)
 |some y =>
  show W _ _
  have s1:Be (D.tup [D.str (Str.ofString "="),x.d])=true/\Be (D.tup [D.str (Str.ofString "^"),x.d])=true/\Be (D.tup [D.str (Str.ofString "~"),x.d])=true:=by simp[Be,Ay,x.pure]
  have od:oD (some y)=y.d:=rfl
  rw[od]
  simp_arith[Nc x (by lia),N8 x hx.pos.a,Gr x]
  rw[eo]
  refine cK.dec (fun q=>(Tq y).imp fun d hd=>?_) fun q=>cK.dec (fun q2=>Mb s1.1 (Dh (.inl q2))) fun q2=>cK.dec (fun q3=>Mb s1.2.1 (Dh (.inr (.inl q3)))) fun q3=>cK.dec (fun q4=>Mb s1.2.2 (Dh (.inr (.inr q4)))) fun q4=>(Z8 x).imp fun d hd=>(Tq y).imp fun d2 hd2=>?_
  ·rw[hd,Ro]
   refine Mb hd ?_
   subst q;unfold hul;simp
  ·rw[hd,hd2]
   array_get_dec
   exact⟨[d,d2],rfl,by rw[A7,A7,Cs,hd,hd2];rfl,by rw[Jj (fun z=>z.elim q2 (fun z=>z.elim q3 q4)) q];rfl⟩
theorem C9 {α:Type}{g:FG}{t:FB}{fe:FE}{m:MH}{env:Ba}{h:α->D} (p:α->Bool) (F:α->D):∀ {xs:List α}{Q:List D->Prop},(∀ x∈xs,W (g (h x) env) fun e1=>W (t e1 m) fun ok=>ok=p x/\(ok=true->W (fe e1 m) fun y=>y=F x))->Q ((xs.filter p).map F)->W (Ef g t fe m env (xs.map h)) Q
 |[],Q,_,q=>by rw[As6,Gc];exact q
 |x::xs,Q,k,q=>by
  rw[Ara,Ed]
  refine (k x (Aq8 ..)).imp fun e1 h1=>h1.imp fun ok h2=>?_
  obtain⟨h2,h3⟩:=h2
  have ih:=fun {Q:List D->Prop}=>C9 (g:=g) (t:=t) (fe:=fe) (m:=m) (env:=env) (h:=h) p F (xs:=xs) (Q:=Q) fun e he=>k e (Aq6 _ he)
  constructor
  ·intro hk
   refine (h3 hk).imp fun y hy=>?_
   subst hy
   refine ih ?_
   rw[List.filter_cons,Aq4 (h2 ▸ hk),Ara] at q
   exact q
  ·intro hk
   refine ih ?_
   rw[List.filter_cons,Aq7 (by rw[<- h2,hk];decide)] at q
   exact q
theorem Ax {f g:FS}{env:Ba}{m:MH}{Q:Out->Prop} (S:Ba->MH->Prop) (h1:W (f env m) fun o=>∃ e m',o=.nx e m'/\S e m') (h2:∀ e m',S e m'->W (g e m') Q):W (A8 f g env m) Q:=by
 rw[Gf]
 exact h1.imp fun o ⟨e,m',q,s⟩=>by subst q;exact h2 e m' s
structure SG (ps:List Pc):Prop where
 sr:SpR ps
 gl:∀ i,i < ps.length->Gd 800 (lo ps i)
 gh:∀ i h,i < ps.length->hi ps i=some h->Gd 800 h
 len:ps.length<=40
abbrev sD (ps:List Pc):D:=.tup (ps.map pD)
theorem Acr {ps:List Pc} (S:SG ps) (i:Nat) (h:i < ps.length) {Q:D->Prop}:W (Te [sD ps,.int (i:Nat)]) Q=Q (.bl (decide (i+1 < ps.length/\gap ps i=1))):=W.eq <| by
 unfold Te Am6
 rw[Bg]
 have h40:=S.len
 simp_arith[Hj h]
 refine cK.dec (fun q=>?_) fun q=>by
  rw[Art (fun z=>q (by lia))]
 obtain⟨y,hy,_⟩:=(S.sr.up i (i+1) (by lia) (by lia)).2
 have gy:=S.gh i y h hy
 have ms:=gy.ms
 have e1:(B3 ps i).2=some y:=hy
 rw[e1]
 have od:oD (some y)=y.d:=rfl
 rw[od,show ((i:Int)+1)=((i+1:Nat):Int) by lia]
 simp_arith[Nc y (by lia),Hj (show i+1 < ps.length by lia)]
 congr 1
 rw[Asg]
 unfold gap
 rw[hy]
 show y.next=lo ps (i+1) ↔ i+1 < ps.length/\apart y (lo ps (i+1))=1
 unfold apart
 constructor
 ·intro z;exact⟨by lia,Aq4 z⟩
 ·intro ⟨_,z⟩
  by_cases w:y.next=lo ps (i+1)
  ·exact w
  ·rw[Aq7 w] at z
   split at z
   ·lia
   ·split at z<;>lia
theorem Ze {ps:List Pc} (S:SG ps) (b e:Nat) (hb:b < ps.length) (he:e < ps.length) {Q:D->Prop}:W (Tg [sD ps,.int (b:Nat),.int (e:Nat)]) Q=Q (.int (mx (hul (lo ps b) (hi ps e)+e - b))):=W.eq <| by
 unfold Tg Ane
 rw[Bg]
 simp_arith[Hj hb,Hj he]
 refine (Y8 (lo ps b) (hi ps e) ((S.gl b hb).up (by lia))).imp fun d ⟨l,e1,e2,e3⟩=>?_
 subst e1
 rw[Dr e2]
 array_get_dec
 unfold mx
 rw[e3]
theorem P5 {x y:Mk} (px:Pos x) (h:Spec x y):x.older y=true:=by
 have b:=px.b
 have c:=px.c
 have a:=px.a
 rcases h with rfl|rfl|rfl
 ·exact Pw x
 ·rw[older_iff]
  unfold Mk.great
  by_cases h1:x.a > 0
  ·rw[Aq4 h1];exact .inl (by show x.a < x.a+1;lia)
  ·rw[Aq7 h1]
   by_cases h2:x.b > 0
   ·rw[Aq4 h2];exact .inr ⟨by show x.a=0;lia,.inl (by show x.b < x.b+1;lia)⟩
   ·rw[Aq7 h2];exact .inr ⟨by show x.a=0;lia,.inr ⟨by show x.b=0;lia,.inl (by show x.c < x.c+1;lia)⟩⟩
 ·rw[older_iff];exact .inr ⟨rfl,.inl (by show x.b < x.b+1;lia)⟩
theorem SG.nd {ps:List Pc} (S:SG ps):(ps.map (·.2)).Nodup:=by
 rw[List.nodup_iff_pairwise_ne,List.pairwise_iff_getElem]
 intro i j hi' hj hij e
 rw[Arj] at hi' hj
 have g:∀ k (h:k < ps.length),(ps.map (·.2))[k]'(by simpa using h)=hi ps k:=fun k h=>by
  have:=B9 h
  rw[List.getElem_map]
  have e2:ps[k]=B3 ps k:=by rw[Aqz h] at this;exact Arn this
  rw[e2]
 rw[g i hi',g j hj] at e
 obtain⟨y,hy,ho⟩:=(S.sr.up i j hij hj).2
 have w:=S.sr.wid j y hj (by rw[<- e];exact hy)
 rw[D1 w] at ho
 cases ho
theorem SG.keys {ps:List Pc} (S:SG ps):∀ p∈ps,Alc p.2:=fun p hp y e=>by
 obtain⟨i,h⟩:=Asv hp
 have hl:=(List.getElem?_eq_some_iff.mp h).1
 have:=B9 hl
 rw[h] at this
 have:p=B3 ps i:=Arn this
 exact (S.gh i y hl (by show (B3 ps i).2=_;rw[<- this];exact e)).k
noncomputable def M5 (ps:List Pc) (y:Mk):Nat:=open Classical in ps.findIdx fun p=>decide (p.2=some y)
theorem M6 {ps:List Pc}{y:Mk} (h:some y∈ps.map (·.2)):M5 ps y < ps.length/\hi ps (M5 ps y)=some y:=by
 obtain⟨p,h1,h2⟩:=List.mem_map.mp h
 have hl:M5 ps y < ps.length:=List.findIdx_lt_length_of_exists ⟨p,h1,by simpa using h2⟩
 have q:decide ((ps[M5 ps y]).2=some y)=true:=List.findIdx_getElem (w:=hl)
 refine⟨hl,?_⟩
 have e:=B9 hl
 rw[Aqz hl] at e
 show (B3 ps (M5 ps y)).2=_
 rw[<- Arn e]
 exact Arp q
theorem Acs {ps:List Pc} (S:SG ps) {i:Nat}{y:Mk} (hl:i < ps.length) (h:hi ps i=some y):some y∈ps.map (·.2)/\M5 ps y=i:=by
 have m:some y∈ps.map (·.2):=List.mem_map.mpr ⟨_,Ard (B9 hl),h⟩
 obtain⟨l2,h2⟩:=M6 m
 refine⟨m,?_⟩
 have g1:(ps.map (·.2))[i]?=some (some y):=by rw[Ari,B9 hl];exact Asd some h
 have g2:(ps.map (·.2))[M5 ps y]?=some (some y):=by rw[Ari,B9 l2];exact Asd some h2
 exact (List.getElem?_inj (List.getElem?_eq_some_iff.mp g2).1 S.nd).mp (g2.trans g1.symm)
theorem Xj {ps:List Pc} (S:SG ps) (b f:Nat) (F:Fur ps b f):W (Th [sD ps,.int (b:Nat),.int (f:Nat),Br ps]) fun d=>∃ ls:List Nat,d=.lst (ls.map fun (l:Nat)=>.int (l:Int))/\ls≠[]/\ls.length<=4/\(∀ l,l∈ls ↔ OptP ps b f l):=by
 have hf:=F.2.1
 have hb:b < ps.length:=Nat.lt_of_le_of_lt F.1 hf
 have g:=S.gl b hb
 have h40:=S.len
 have ms:(B3 ps b).1.ms.length<=800:=g.ms
 let ys:List Mk:=[(lo ps b).next,(lo ps b).great,(lo ps b).mid]
 have yk:∀ y∈ys,Dx y.d=true:=fun y hy=>by
  simp only[ys,Ass,Ash,or_false] at hy
  rcases hy with rfl|rfl|rfl
  ·exact g.next.k
  ·exact g.great.k
  ·exact g.mid.k
 have ysp:∀ y,y∈ys ↔ ML.Spec (lo ps b) y:=fun y=>by simp[ys,ML.Spec]
 unfold Th Anf
 rw[Bg]
 refine Ax (fun e m=>m=[]/\e=[some (sD ps),some (.int (b:Nat)),some (.int (f:Nat)),some (Br ps),some (lo ps b).d,none]) (by simp_arith[Hj hb];exact⟨_,_,rfl,rfl,rfl⟩) ?_
 rintro e m ⟨rfl,rfl⟩
 have pd:∀ y∈ys,open Classical in decide (some y∈ps.map (·.2))=true->M5 ps y < ps.length/\hi ps (M5 ps y)=some y:=fun y _ h=>M6 (Arp h)
 refine Ax (fun e m=>m=[]/\e=[some (sD ps),some (.int (b:Nat)),some (.int (f:Nat)),some (Br ps),some (lo ps b).d,some (.lst ((ys.filter fun y=>open Classical in decide (some y∈ps.map (·.2))).map Mk.d))]) ?_ ?_
 ·simp only[Ao9,Zl,Rj]
  refine W.imp (P:=fun w=>w=⟨ys.map Mk.d,Av⟩) ?_ fun w hw=>?_
  ·simp_arith[Nc (lo ps b) (Arl g.ms (by decide)),N8 (lo ps b) g.pos.a,Gr (lo ps b)]
   rfl
  ·subst hw
   refine⟨⟨trivial,by simp[ys]⟩,?_⟩
   refine C9 (fun y=>open Classical in decide (some y∈ps.map (·.2))) Mk.d (fun y hy=>?_) ⟨_,_,rfl,rfl,rfl⟩
   simp_arith[Al5 (yk y hy)]
   exact fun _=>trivial
 ·rintro e m ⟨rfl,rfl⟩
  array_get_dec
  refine⟨Arl (List.length_filter_le ..) (by simp[ys]),?_⟩
  refine C9 (fun y=>decide (M5 ps y < f)) (fun y=>.int (M5 ps y:Nat)) (fun y hy=>?_) ?_
  ·obtain⟨h1,h2⟩:=List.mem_filter.mp hy
   obtain⟨h3,h4⟩:=pd y h1 h2
   simp_arith[Af8 (yk y h1) S.nd ⟨_,by rw[B9 h3];exact Asd some (Prod.ext rfl h4)⟩]
   exact⟨by rw[Asg];lia,fun _=>trivial⟩
  ·rw[A0 fun _=>Bj,Ro]
   generalize hz:(ys.filter fun y=>open Classical in decide (some y∈ps.map (·.2))).filter (fun y=>decide (M5 ps y < f))=zs
   have zm:∀ y,y∈zs ↔ y∈ys/\some y∈ps.map (·.2)/\M5 ps y < f:=fun y=>by
    rw[<- hz,List.mem_filter,List.mem_filter]
    simp only[Asq,and_assoc]
   have zl:zs.length<=3:=by rw[<- hz];exact Arl (List.length_filter_le ..) (Arl (List.length_filter_le ..) (by simp[ys]))
   refine⟨by rw[Arj];lia,f::zs.map (M5 ps),by rw[Ara,As7];rfl,by simp,by simp;lia,fun l=>⟨fun hl=>?_,fun hl=>?_⟩⟩
   ·rcases List.mem_cons.mp hl with rfl|hl
    ·exact .inl rfl
    ·obtain⟨y,hy,rfl⟩:=List.mem_map.mp hl
     obtain⟨h1,h2,h3⟩:=(zm y).mp hy
     obtain⟨h4,h5⟩:=M6 h2
     have sp:=(ysp y).mp h1
     refine .inr ⟨?_,h3,y,h5,sp⟩
     by_cases hlt:M5 ps y < b
     ·obtain⟨z,e1,e2⟩:=(S.sr.up _ b hlt hb).2
      rw[h5] at e1
      cases e1
      rw[D1 (P5 g.pos sp)] at e2
      cases e2
     ·lia
   ·rcases hl with rfl|⟨h1,h2,y,h3,h4⟩
    ·exact Aq8 ..
    ·obtain⟨e1,e2⟩:=Acs S (by lia) h3
     exact Aq6 _ (List.mem_map.mpr ⟨y,(zm y).mpr ⟨(ysp y).mpr h4,e1,by lia⟩,e2⟩)
abbrev prD (r:Int×Int):D:=.tup [.int r.1,.int r.2]
noncomputable def Rn (rs:List (Int×Int)) (i:Nat):Int:=(rs.getD i (0,0)).1
def Aln (ps:List Pc) (R:Nat->Int) (b:Nat):Prop:=∃ f,Fur ps b f/\(∀ e,OptP ps b f e->R b<=Dt ps b e+R (e+1))/\∃ e,OptP ps b f e/\R b=Dt ps b e+R (e+1)
theorem Aol {α:Type} (d:α) (k:Nat):Jy [d] k=List.replicate k d:=by
 unfold Jy
 induction k with
 |zero=>rfl
 |succ k ih=>rw[List.replicate_succ,List.flatten_cons,ih,List.replicate_succ];rfl
theorem Xd {ps:List Pc}{b:Nat} (hb:b < ps.length) (h:¬ (b+1 < ps.length/\gap ps b=1)):Fur ps b b:=⟨Aq5 _,hb,fun i h1 h2=>by lia,fun h1 h2=>h ⟨h1,h2⟩⟩
theorem Xc {ps:List Pc}{b g:Nat} (F:Fur ps (b+1) g) (h:gap ps b=1):Fur ps b g:=⟨by have:=F.1;lia,F.2.1,fun i h1 h2=>by
 by_cases e:i=b
 ·rw[e];exact h
 ·exact F.2.2.1 i (by lia) h2,F.2.2.2⟩
theorem Zr {ps:List Pc}{b f l:Nat} (F:Fur ps b f) (h:OptP ps b f l):Dt ps b l=mx (hul (lo ps b) (hi ps l)+l - b):=by
 have hl:=h.law F
 have h1:=hl.1
 have h2:l<=f:=by rcases h with h|⟨_,h,_⟩<;>lia
 unfold Dt
 rw[Zi ps (fun i q1 q2=>F.2.2.1 i q1 (by lia))]
 congr 1
 lia
theorem Aew {ps:List Pc} (S:SG ps):W (Ti [sD ps]) fun d=>∃ rs:List (Int×Int),d=.lst (rs.map prD)/\rs.length=ps.length+1/\Rn rs ps.length=0/\∀ b,b < ps.length->Aln ps (Rn rs) b:=by
 have h40:=S.len
 unfold Ti Ang
 rw[Bg]
 refine Ax (fun e m=>m=[]/\e=[some (sD ps),some (Br ps),none,none,none,none]) ?_ ?_
 ·array_get_dec
  rw[Lh]
  refine⟨by rw[Arj,M1];lia,?_⟩
  refine D3 (fun q=>.tup [oD q.2.2,.int (q.1:Nat)]) (fun q hq=>?_) ?_
  ·array_get_dec
  ·simp_arith[Abc S.keys S.nd (by lia)]
   exact⟨_,_,rfl,rfl,rfl⟩
 rintro e m ⟨rfl,rfl⟩
 refine Ax (fun e m=>m=[.lst ((List.replicate (ps.length+1) ((0:Int),(ps.length:Int))).map prD)]/\e=[some (sD ps),some (Br ps),some (.ref 0),none,none,none]) ?_ ?_
 ·array_get_dec
  refine⟨⟨by lia,by lia,by lia⟩,_,_,rfl,?_,rfl⟩
  rw[Aol,List.map_replicate,show ((ps.length:Int)+1).toNat=ps.length+1 by lia]
  rfl
 rintro e m ⟨rfl,rfl⟩
 refine Ax (fun e m=>m=[.lst ((List.replicate (ps.length+1) ((0:Int),(ps.length:Int))).map prD)]/\e=[some (sD ps),some (Br ps),some (.ref 0),some (.int ((ps.length:Int) - 1)),none,none]) (by array_get_dec;exact⟨_,_,rfl,rfl,rfl⟩) ?_
 rintro e m ⟨rfl,rfl⟩
 array_get_dec
 refine⟨⟨by lia,by lia⟩,?_⟩
 rw[show ((ps.length:Int) - 1 - -1).toNat=ps.length by lia]
 refine Zn (fun k e m=>∃ (rs:List (Int×Int)) (f:Int) (u v:Option D),m=[.lst (rs.map prD)]/\e=[some (sD ps),some (Br ps),some (.ref 0),some (.int f),u,v]/\rs.length=ps.length+1/\Rn rs ps.length=0/\(∀ b,ps.length - k<=b->b < ps.length->Aln ps (Rn rs) b)/\(0 < k->∃ g:Nat,f=g/\Fur ps (ps.length - k) g)) ?_ ?_ ⟨List.replicate (ps.length+1) (0,(ps.length:Int)),_,none,none,rfl,rfl,by simp,by unfold Rn;rw[Aqy,Ar3];simp,fun b h1 h2=>by lia,fun h=>by lia⟩
 ·rintro k e m hk ⟨rs,f,u,v,rfl,rfl,hl,h0,hr,hf⟩
  refine⟨trivial,?_⟩
  obtain⟨b,hb⟩:∃ b,b=ps.length - (k+1):=⟨_,rfl⟩
  have hbn:b < ps.length:=by lia
  have eb:((ps.length:Int) - 1+(k:Int) * -1)=(b:Nat):=by lia
  rw[eb]
  rw[Ak8]
  refine Ax (fun e m=>∃ g:Nat,Fur ps b g/\m=[.lst (rs.map prD)]/\e=[some (sD ps),some (Br ps),some (.ref 0),some (.int (g:Nat)),some (.int (b:Nat)),v]) ?_ ?_
  ·simp_arith[Acr S b hbn]
   refine cK.ndec (fun q=>⟨_,_,rfl,b,Xd hbn q,rfl,rfl⟩) fun q=>?_
   obtain⟨g,rfl,F⟩:=hf (by lia)
   rw[show ps.length - k=b+1 by lia] at F
   exact⟨_,_,rfl,g,Xc F q.2,rfl,rfl⟩
  rintro e m ⟨g,F,rfl,rfl⟩
  refine Ax (fun e m=>∃ ls:List Nat,ls≠[]/\ls.length<=4/\(∀ l,l∈ls ↔ OptP ps b g l)/\m=[.lst (rs.map prD)]/\e=[some (sD ps),some (Br ps),some (.ref 0),some (.int (g:Nat)),some (.int (b:Nat)),some (.lst (ls.map fun (l:Nat)=>.int (l:Int)))]) ?_ ?_
  ·array_get_dec
   refine (Xj S b g F).imp fun d ⟨ls,e1,e2,e3,e4⟩=>?_
   subst e1
   exact⟨_,_,rfl,ls,e2,e3,e4,rfl,rfl⟩
  rintro e m ⟨ls,l1,l3,l2,rfl,rfl⟩
  array_get_dec
  refine⟨by lia,D3 (fun l:Nat=>.tup [.int (mx (hul (lo ps b) (hi ps l)+l - b)+Rn rs (l+1)),.int (l:Int)]) (fun l hl'=>?_) ?_⟩
  ·have hln:=((l2 l).mp hl').law F
   have h2:=hln.2.1
   have hrl:l+1 < rs.length:=by lia
   simp_arith[Ze S b l hbn hln.2.1]
   rw[show ((l:Int)+1)=((l+1:Nat):Int) by lia,J5 hrl]
   array_get_dec
   unfold Rn
   rw[Aqy,Aqz hrl]
   rfl
  ·refine Agj l1 fun l hl' hmin=>?_
   have hbr:b < rs.length:=by lia
   refine Agc (by lia) (by lia) ?_
   rw[Int.toNat_natCast,<- List.map_set (f:=prD) (a:=(mx (hul (lo ps b) (hi ps l)+l - b)+Rn rs (l+1),(l:Int)))]
   have other:∀ i,i≠b->Rn (rs.set b (mx (hul (lo ps b) (hi ps l)+l - b)+Rn rs (l+1),(l:Int))) i=Rn rs i:=fun i hi'=>by
    unfold Rn
    rw[Aqy,Asa (Asc hi'),<- Aqy]
   have self:Rn (rs.set b (mx (hul (lo ps b) (hi ps l)+l - b)+Rn rs (l+1),(l:Int))) b=mx (hul (lo ps b) (hi ps l)+l - b)+Rn rs (l+1):=by
    unfold Rn
    rw[Aqy,Ar0 hbr]
    rfl
   refine⟨_,_,_,_,rfl,rfl,by simp[hl],by rw[other _ (by lia)];exact h0,fun i hi1 hi2=>?_,fun _=>⟨g,rfl,by rw[<- hb];exact F⟩⟩
   by_cases eib:i=b
   ·subst eib
    have hlo:=(l2 l).mp hl'
    have h1:=(hlo.law F).1
    refine⟨g,F,fun e he=>?_,l,hlo,?_⟩
    ·have h3:=(he.law F).1
     rw[self,other (e+1) (by lia),Zr F he]
     exact hmin e ((l2 e).mpr he)
    ·rw[self,other (l+1) (by lia),Zr F hlo]
   ·obtain⟨f',F',p1,e',p2,p3⟩:=hr i (by lia) hi2
    refine⟨f',F',fun e he=>?_,e',p2,?_⟩
    ·have h3:=(he.law F').1
     rw[other i eib,other (e+1) (by lia)]
     exact p1 e he
    ·have h3:=(p2.law F').1
     rw[other i eib,other (e'+1) (by lia)]
     exact p3
 ·rintro e m ⟨rs,f,u,v,rfl,rfl,hl,h0,hr,hf⟩
  refine⟨trivial,?_⟩
  simp_arith[A0 fun r=>(show Be (prD r)=true from rfl)]
  exact⟨rs,rfl,hl,h0,fun b hb=>hr b (by lia) hb⟩
theorem Ut {ps:List Pc} (S:SG ps):W (D5 [sD ps]) fun d=>∃ rs:List (Int×Int),d=.lst ((List.range ps.length).map (fun i=>.int (Rn rs i))++[.int 1])/\Rn rs ps.length=0/\∀ b,b < ps.length->Aln ps (Rn rs) b:=by
 have h40:=S.len
 unfold D5 Acd
 rw[Bg]
 array_get_dec
 refine (Aew S).imp fun d ⟨rs,e1,e2,e3,e4⟩=>?_
 subst e1
 rw[Dr (A0 fun r=>(show Be (prD r)=true from rfl))]
 array_get_dec
 rw[<- List.map_dropLast]
 have dl:rs.dropLast.length=ps.length:=by rw[List.length_dropLast,e2];lia
 refine⟨by rw[Arj];lia,D3 (fun r=>.int r.1) (fun r hr=>by array_get_dec) ?_⟩
 have e:rs.dropLast.map (fun r=>D.int r.1)=(List.range ps.length).map fun i=>.int (Rn rs i):=by
  refine List.ext_getElem (by rw[Arj,Arj,List.length_range,dl]) fun i h1 h2=>?_
  rw[Arj] at h1
  rw[List.getElem_map,List.getElem_map,List.getElem_range,List.getElem_dropLast]
  unfold Rn
  rw[Aqy,Aqz (by lia)]
  rfl
 rw[e,A0 fun _=>Bj,Ro]
 exact⟨by simp;lia,rs,rfl,e3,e4⟩
theorem Oe (x:Mk):x.next.ms.length<=x.ms.length+1:=by
 unfold Mk.next;split<;>simp
theorem Xo (x:Mk) (h:Option Mk) (hx:Gd 800 x) {Q:D->Prop}:W (Hz [x.d,oD h]) Q=Q (.int (hul x h)):=W.eq <| by
 have ms:=hx.ms
 have eo:deq x.d (.tup [.int 0,.int 0,.int 0,.tup [.int 0]])=decide (x=Dl):=Mk.deq x Dl
 unfold Hz Acn
 rw[Bg]
 cases h with
 |none =>
  array_get_dec
  rw[eo]
  refine cK.dec (fun q=>by subst q;unfold hul;simp) fun q=>cK.dec (fun z=>absurd z q) fun _=>by rw[Dg q]
 |some y =>
  have od:oD (some y)=y.d:=rfl
  have em:deq (.tup [.int x.a,.int (x.b+1),.int 0,.tup [.int 0]]) y.d=decide (x.mid=y):=Mk.deq x.mid y
  have nr:Ar [x.next.d,x.great.d,.tup [.int x.a,.int (x.b+1),.int 0,.tup [.int 0]]]=true:=Gv [x.next,x.great,x.mid]
  have dy:=Mk.dep y
  rw[od]
  simp_arith[Cw x (by lia),T1 x]
  rw[eo,em]
  have fin:x≠Dl->cK (D.int 1=D.int (hul x (some y))) (D.int 2=D.int (hul x (some y))) (decide (x.next=y)||(decide (x.great=y)||decide (x.mid=y))):=fun q=>by
   by_cases sp:ML.Spec x y
   ·rw[show (decide (x.next=y)||(decide (x.great=y)||decide (x.mid=y)))=true by
     rcases sp with z|z|z<;>simp[z],Ro,Dh sp]
   ·rw[show (decide (x.next=y)||(decide (x.great=y)||decide (x.mid=y)))=false by
     rw[Bool.or_eq_false_iff,Bool.or_eq_false_iff,decide_eq_false_iff_not,decide_eq_false_iff_not,decide_eq_false_iff_not]
     exact⟨fun z=>sp (.inl z.symm),fun z=>sp (.inr (.inl z.symm)),fun z=>sp (.inr (.inr z.symm))⟩,Ag9,Jj sp q]
  have one:x=Dl->D.int 1=D.int (hul x (some y)):=fun q=>by subst q;unfold hul;simp
  exact cK.dec (fun q=>cK.dec (fun _=>one q) fun z=>absurd q z) fun q=>cK.dec (fun z=>absurd z q) fun _=>⟨nr,by lia,fin q⟩
theorem Aon:Bx 1 3=[.int 1,.int 2,.int 3]:=rfl
theorem Tz (x y:Mk) (hx:x.ms.length<=900) {Q:D->Prop}:W (Hx [x.d,y.d]) Q=Q (if apart x y=0 then .non else .int (apart x y)):=W.eq <| by
 have n1:=Oe x
 have n2:=Oe x.next
 unfold Hx Acg
 rw[Bg]
 array_get_dec
 rw[Aon]
 simp_arith[J6,Nz,Cw x (by lia),Cw x.next (by lia),Cw x.next.next (by lia),Av]
 unfold apart
 exact cK.dec (fun h1=>by rw[Aq4 h1];rfl) fun h1=>cK.dec (fun h2=>by rw[Aq7 h1,Aq4 h2];rfl) fun h2=>cK.dec (fun h3=>by rw[Aq7 h1,Aq7 h2,Aq4 h3];rfl) fun h3=>by rw[Aq7 h1,Aq7 h2,Aq7 h3];rfl
noncomputable def Ln (ds:List Int) (i:Nat):Int:=ds.getD i 0
def Alj (ps:List Pc) (L:Nat->Int) (b:Nat):Prop:=(∀ e,OptL ps b e->L b<=Dt ps b e+L (e+1))/\∃ e,OptL ps b e/\L b=Dt ps b e+L (e+1)
theorem Amc {o:MObj}{jk:MH}{ds:List D}{Q:List D->Prop}:W (sq (o::(jk++[.lst ds])) (.ref (jk.length+1))) Q=Q ds:=by
 have:sq (o::(jk++[.lst ds])) (.ref (jk.length+1))=some ds:=by
  unfold sq
  simp
 rw[this,Ac]
theorem Aqm {o:MObj}{jk:MH}{ds:List D}:sqL (o::(jk++[.lst ds])) (.ref (jk.length+1))=some ds:=by
 unfold sqL sq
 simp
theorem Aql {α:Type}{jk:List α}{x y:α}:(jk++[x]).set jk.length y=jk++[y]:=by simp
noncomputable abbrev Abw:FS:=(A8 (sIf (Au (f2 oGt (Ai 6) (Ai 3))) (A8 (Bv 7 (fC2 Hx (f2 oIx (f2 oIx (Ai 0) (f2 Pv (Ai 6) (fC (.int 1)))) (fC (.int 1))) (f2 oIx (f2 oIx (Ai 0) (Ai 6)) (fC (.int 0))))) (A8 (sIf (Au (f1 Og (Ai 7))) Mj Cg) (Bv 5 (f2 Bu (Ai 5) (Ai 7))))) Cg) (Jz Jq (Ai 4) (Aa (f2 Bu (A3 Ng (Aa (fC (.int 1)) (Aa (f2 Bu (fC2 Hz (f2 oIx (f2 oIx (Ai 0) (Ai 3)) (fC (.int 0))) (f2 oIx (f2 oIx (Ai 0) (Ai 6)) (fC (.int 1)))) (Ai 5)) Ae))) (f2 oIx (Ai 1) (f2 Bu (Ai 6) (fC (.int 1))))) Ae)))
theorem Agt {f g:FS}{env:Ba}{m:MH}{Q:Out->Prop} (S:Ba->MH->Prop) (h1:W (f env m) fun o=>(∃ e m',o=.nx e m'/\S e m')\/∃ e m',o=.bk e m'/\Q (.bk e m')) (h2:∀ e m',S e m'->W (g e m') Q):W (A8 f g env m) Q:=by
 rw[Gf]
 refine h1.imp fun o h=>?_
 rcases h with ⟨e,m',q,s⟩|⟨e,m',q,s⟩
 ·subst q;exact h2 e m' s
 ·subst q;exact s
theorem Aby {ps:List Pc} (S:SG ps) {b:Nat} (hb:b < ps.length) (ds:List Int) (hd:ds.length=ps.length+1) (jk:MH) (u2 u6 u7:Option D) (Q:Out->Prop)
  (q:∀ (K:Nat) (z u6 u7:Option D),0 < K->(∀ e,OptL ps b e ↔ b<=e/\e < b+K)->Q (.nx [some (sD ps),some (.ref 0),u2,some (.int (b:Nat)),some (.ref (jk.length+1)),z,u6,u7] (.lst (ds.map .int)::(jk++[.lst ((List.range K).map fun i=>.int (Dt ps b (b+i)+Ln ds (b+i+1)))])))) :
  W (J3 (Nw (Aa (Ai 3) (Aa (A3 Ec (Aa (Ai 0) Ae)) Ae))) (Bb 6) Abw [some (sD ps),some (.ref 0),u2,some (.int (b:Nat)),some (.ref (jk.length+1)),some (.int 0),u6,u7] (.lst (ds.map .int)::(jk++[.lst []]))) Q:=by
 have h40:=S.len
 array_get_dec
 refine⟨⟨by lia,by lia,by lia,by lia⟩,?_⟩
 rw[show ((ps.length:Int) - (b:Nat)).toNat=ps.length - b by lia]
 refine D4 (fun j e m=>∃ (u6 u7:Option D),m=.lst (ds.map .int)::(jk++[.lst ((List.range j).map fun i=>.int (Dt ps b (b+i)+Ln ds (b+i+1)))])/\e=[some (sD ps),some (.ref 0),u2,some (.int (b:Nat)),some (.ref (jk.length+1)),some (.int (Gs ps b (j - 1))),u6,u7]/\∀ i,b<=i->i+1 < b+j->gap ps i≠0) ?_ ?_ ⟨u6,u7,rfl,rfl,fun i h1 h2=>by lia⟩
 ·rintro j e m hj ⟨u6,u7,rfl,rfl,hg⟩
  refine⟨trivial,?_⟩
  have hbj:b+j < ps.length:=by lia
  rw[Ao6]
  refine Agt (fun e m=>∃ u7,m=.lst (ds.map .int)::(jk++[.lst ((List.range j).map fun i=>.int (Dt ps b (b+i)+Ln ds (b+i+1)))])/\e=[some (sD ps),some (.ref 0),u2,some (.int (b:Nat)),some (.ref (jk.length+1)),some (.int (Gs ps b j)),some (.int ((b+j:Nat):Int)),u7]/\∀ i,b<=i->i < b+j->gap ps i≠0) ?_ ?_
  ·array_get_dec
   refine cK.dec (fun hj0=>?_) fun hj0=>.inl ⟨_,_,rfl,u7,rfl,?_,fun i h1 h2=>by lia⟩
   ·obtain⟨j,rfl⟩:∃ j',j=j'+1:=⟨j - 1,by lia⟩
    obtain⟨y,hy,_⟩:=(S.sr.up (b+j) (b+(j+1)) (by lia) hbj).2
    have gy:=(S.gh (b+j) y (by lia) hy).ms
    have e1:(B3 ps (b+j)).2=some y:=hy
    have gp:gap ps (b+j)=apart y (lo ps (b+(j+1))):=by unfold gap;rw[hy];rfl
    have od:oD (some y)=y.d:=rfl
    rw[show ((b:Int)+((j+1:Nat):Int) - 1)=((b+j:Nat):Int) by lia,show ((b:Int)+((j+1:Nat):Int))=((b+(j+1):Nat):Int) by lia]
    simp_arith[Hj (show b+j < ps.length by lia),Hj hbj,e1,od,Tz y _ (show y.ms.length<=900 by lia)]
    rw[<- gp]
    by_cases z:gap ps (b+j)=0
    ·rw[Aq4 z]
     array_get_dec
     refine .inr ⟨_,_,rfl,?_⟩
     refine q (j+1) _ _ _ (by lia) fun e=>⟨fun h=>⟨h.1,?_⟩,fun h=>⟨h.1,by lia,fun i h1 h2=>hg i h1 (by lia)⟩⟩
     by_cases w:e < b+(j+1)
     ·exact w
     ·exact absurd z (h.2.2 (b+j) (by lia) (by lia))
    ·rw[Aq7 z]
     array_get_dec
     refine .inl ⟨_,_,rfl,_,rfl,rfl,fun i h1 h2=>?_⟩
     by_cases w:i=b+j
     ·rw[w];exact z
     ·exact hg i h1 (by lia)
   ·have:j=0:=by lia
    subst this
    rfl
  ·rintro e m ⟨u7,rfl,rfl,hg⟩
   have hdl:b+j+1 < ds.length:=by lia
   simp_arith[Hj hb,Hj hbj,Xo _ _ (S.gl b hb)]
   rw[show (((b+j:Nat):Int)+1)=((b+j+1:Nat):Int) by lia,J5 hdl]
   simp_arith[Amc]
   rw[Aql]
   refine⟨by simp;lia,_,_,?_,rfl,fun i h1 h2=>hg i h1 (by lia)⟩
   rw[List.range_succ,List.map_append]
   have e1:Dt ps b (b+j)=(if hul (lo ps b) (B3 ps (b+j)).2+Gs ps b j > 1 then hul (lo ps b) (B3 ps (b+j)).2+Gs ps b j else 1):=by
    unfold Dt mx
    rw[show b+j - b=j by lia]
   have e2:Ln ds (b+j+1)=ds[b+j+1]:=by
    unfold Ln
    rw[Aqy,Aqz hdl]
    rfl
   rw[<- e1,<- e2]
   rfl
 ·rintro e m ⟨u6,u7,rfl,rfl,hg⟩
  refine⟨trivial,q (ps.length - b) _ u6 u7 (by lia) fun e=>⟨fun h=>⟨h.1,by have:=h.2.1;lia⟩,fun h=>⟨h.1,by lia,fun i h1 h2=>hg i h1 (by lia)⟩⟩⟩
theorem Xm {ps:List Pc} (S:SG ps):W (H0 [sD ps]) fun d=>∃ ds:List Int,d=.lst ((List.range ps.length).map (fun i=>.int (Ln ds i))++[.int 1])/\Ln ds ps.length=0/\∀ b,b < ps.length->Alj ps (Ln ds) b:=by
 have h40:=S.len
 unfold H0 Aco
 rw[Bg]
 refine Ax (fun e m=>m=[.lst ((List.replicate (ps.length+1) (0:Int)).map .int)]/\e=[some (sD ps),some (.ref 0),none,none,none,none,none,none]) ?_ ?_
 ·array_get_dec
  refine⟨⟨by lia,by lia,by lia⟩,_,_,rfl,?_,rfl⟩
  rw[Aol,List.map_replicate,show ((ps.length:Int)+1).toNat=ps.length+1 by lia]
  rfl
 rintro e m ⟨rfl,rfl⟩
 refine Ax (fun e m=>∃ (ds:List Int) (jk:MH) (u2 u3 u4 u5 u6 u7:Option D),m=.lst (ds.map .int)::jk/\e=[some (sD ps),some (.ref 0),u2,u3,u4,u5,u6,u7]/\ds.length=ps.length+1/\Ln ds ps.length=0/\∀ b,b < ps.length->Alj ps (Ln ds) b) ?_ ?_
 ·simp only[Hq]
  refine W.imp (P:=fun w=>w=⟨Bx 1 ps.length,Av⟩) (by array_get_dec;rw[show ((ps.length:Int)+1 - 1).toNat=ps.length by lia];exact⟨⟨by lia,by lia⟩,rfl⟩) fun w hw=>?_
  subst hw
  refine D4 (fun k e m=>∃ (ds:List Int) (jk:MH) (u2 u3 u4 u5 u6 u7:Option D),m=.lst (ds.map .int)::jk/\e=[some (sD ps),some (.ref 0),u2,u3,u4,u5,u6,u7]/\ds.length=ps.length+1/\Ln ds ps.length=0/\∀ b,ps.length - k<=b->b < ps.length->Alj ps (Ln ds) b) ?_ ?_ ⟨List.replicate (ps.length+1) 0,[],_,_,_,_,_,_,rfl,rfl,by simp,by unfold Ln;rw[Aqy,Ar3];simp,fun b h1 h2=>by lia⟩
  ·rintro k e m hk ⟨ds,jk,u2,u3,u4,u5,u6,u7,rfl,rfl,hd,h0,hr⟩
   refine⟨trivial,?_⟩
   obtain⟨b,hb⟩:∃ b,b=ps.length - (k+1):=⟨_,rfl⟩
   have hbn:b < ps.length:=by lia
   rw[Ao4]
   refine Ax (fun e m=>m=.lst (ds.map .int)::jk/\e=[some (sD ps),some (.ref 0),some (.int (1+(k:Int))),some (.int (b:Nat)),u4,u5,u6,u7]) (by
    array_get_dec
    rw[show (ps.length:Int) - (1+(k:Int))=((b:Nat):Int) by lia]
    exact⟨_,_,rfl,rfl,rfl⟩) ?_
   rintro e m ⟨rfl,rfl⟩
   refine Ax (fun e m=>m=.lst (ds.map .int)::(jk++[.lst []])/\e=[some (sD ps),some (.ref 0),some (.int (1+(k:Int))),some (.int (b:Nat)),some (.ref (jk.length+1)),u5,u6,u7]) (by array_get_dec;exact⟨_,_,rfl,rfl,rfl⟩) ?_
   rintro e m ⟨rfl,rfl⟩
   refine Ax (fun e m=>m=.lst (ds.map .int)::(jk++[.lst []])/\e=[some (sD ps),some (.ref 0),some (.int (1+(k:Int))),some (.int (b:Nat)),some (.ref (jk.length+1)),some (.int 0),u6,u7]) (by array_get_dec;exact⟨_,_,rfl,rfl,rfl⟩) ?_
   rintro e m ⟨rfl,rfl⟩
   rw[Gf]
   refine Aby S hbn ds hd jk _ u6 u7 _ fun K z u6 u7 hK hopt=>?_
   rw[G9]
   array_get_dec
   refine Agi (c:=fun i=>Dt ps b (b+i)+Ln ds (b+i+1)) Aqm (by simp;lia) fun i hi' hmin=>?_
   rw[Ati] at hi'
   have hbr:b < ds.length:=by lia
   refine Agc (by lia) (by lia) ?_
   rw[Int.toNat_natCast,<- List.map_set]
   have other:∀ c,c≠b->Ln (ds.set b (Dt ps b (b+i)+Ln ds (b+i+1))) c=Ln ds c:=fun c hc=>by
    unfold Ln
    rw[Aqy,Asa (Asc hc),<- Aqy]
   have self:Ln (ds.set b (Dt ps b (b+i)+Ln ds (b+i+1))) b=Dt ps b (b+i)+Ln ds (b+i+1):=by
    unfold Ln
    rw[Aqy,Ar0 hbr]
    rfl
   refine⟨_,_,_,_,_,_,_,_,rfl,rfl,by simp[hd],by rw[other _ (by lia)];exact h0,fun c h1 h2=>?_⟩
   by_cases ecb:c=b
   ·subst ecb
    refine⟨fun e he=>?_,c+i,(hopt _).mpr ⟨by lia,by lia⟩,by rw[self,other _ (by lia)]⟩
    obtain⟨q1,q2⟩:=(hopt e).mp he
    rw[self,other (e+1) (by lia)]
    have:=hmin (e - c) (List.mem_range.mpr (by lia))
    rw[show c+(e - c)=e by lia] at this
    exact this
   ·obtain⟨p1,e',p2,p3⟩:=hr c (by lia) h2
    refine⟨fun e he=>?_,e',p2,?_⟩
    ·have h3:=he.1
     rw[other c ecb,other (e+1) (by lia)]
     exact p1 e he
    ·have h3:=p2.1
     rw[other c ecb,other (e'+1) (by lia)]
     exact p3
  ·rintro e m ⟨ds,jk,u2,u3,u4,u5,u6,u7,rfl,rfl,hd,h0,hr⟩
   exact⟨trivial,_,_,rfl,ds,jk,_,_,_,_,_,_,rfl,rfl,hd,h0,fun b hb=>hr b (by lia) hb⟩
 rintro e m ⟨ds,jk,u2,u3,u4,u5,u6,u7,rfl,rfl,hd,h0,hr⟩
 array_get_dec
 rw[<- List.map_dropLast]
 have dl:ds.dropLast.length=ps.length:=by rw[List.length_dropLast,hd];lia
 have e:ds.dropLast.map D.int=(List.range ps.length).map fun i=>.int (Ln ds i):=by
  refine List.ext_getElem (by rw[Arj,Arj,List.length_range,dl]) fun i h1 h2=>?_
  rw[Arj] at h1
  rw[List.getElem_map,List.getElem_map,List.getElem_range,List.getElem_dropLast]
  unfold Ln
  rw[Aqy,Aqz (by lia)]
  rfl
 refine⟨by rw[Arj];lia,?_⟩
 rw[Amr (ds:=ds.dropLast.map D.int++[.int 1]) (by simp),e,D8,A0 fun _=>Bj]
 array_get_dec
 exact⟨ds,rfl,h0,hr⟩
def rk2 (x:Mk):D:=.tup [.int x.a,.int x.b,.int x.c,.int (if x.ms=[] then 1 else 0),.lst (x.ms.map Mark.rk)]
theorem Aj9 (x y:Mk):ltD (rk2 x) (rk2 y)=some (x.older y):=by
 have h1:deq (.lst (x.ms.map Mark.rk)) (.lst (y.ms.map Mark.rk))=deq (.tup (x.ms.map Mark.rk)) (.tup (y.ms.map Mark.rk)):=by rw[Jg Mark.rk_deq,Jh Mark.rk_deq]
 have h2:ltD (.lst (x.ms.map Mark.rk)) (.lst (y.ms.map Mark.rk))=ltD (.tup (x.ms.map Mark.rk)) (.tup (y.ms.map Mark.rk)):=by rw[ltD,ltD]
 rw[<- Mk.rk_lt]
 unfold rk2 Mk.rk
 rw[Gq,Gq]
 simp only[Dz,h1,h2]
theorem Amq {ds:List D}{m:MH}{Q:D->Prop}:W (Bz m (.tup ds)) Q=W (Cv m ds) fun es=>Q (.tup es):=by
 rw[Bz,W_bind];congr 1;funext es;exact Ac
theorem Ahq (x:Mk) (hx:x.ms.length<=1000) {Q:D->Prop}:W (H4 [x.d]) Q=Q (rk2 x):=W.eq <| by
 unfold H4 Acp
 rw[Bg]
 array_get_dec
 refine N0 (fun rest e m=>∃ dn v,dn++rest=x.ms/\m=[.lst (dn.map Mark.rk)]/\e=[some x.d,some (.ref 0),v]) ?_ ?_ ⟨[],_,rfl,rfl,rfl⟩
 ·rintro w rest e m ⟨dn,v,hd,rfl,rfl⟩
  refine⟨trivial,?_⟩
  have ld:dn.length < x.ms.length:=by rw[<- hd];simp
  cases w with
  |n i =>
   simp only[Mark.d]
   array_get_dec
   exact⟨by lia,dn++[.n i],_,by rw[<- hd];simp,by simp[Mark.rk],rfl⟩
  |s t =>
   simp only[Mark.d]
   array_get_dec
   exact⟨by lia,dn++[.s t],_,by rw[<- hd];simp,by simp[Mark.rk],rfl⟩
 ·rintro e m ⟨dn,v,hd,rfl,rfl⟩
  refine⟨trivial,?_⟩
  rw[Ar4] at hd
  subst hd
  array_get_dec
  rw[Amq]
  simp_arith[A0 Mark.rk_pure]
  unfold rk2
  by_cases h:x.ms=[]<;>simp[h]
instance:Inhabited Mk:=⟨⟨0,0,0,[]⟩⟩
theorem Ui (a b c:Mk) (h:a.older c=true):a.older b=true\/b.older c=true:=by
 by_cases e:a=b
 ·subst e;exact .inr h
 ·cases q:a.older b with
  |true=>exact .inl rfl
  |false =>
   have:=Gz e
   rw[q] at this
   have h2:b.older a=true:=by cases z:b.older a with
    |true=>rfl
    |false=>rw[z] at this;cases this
   exact .inr (Cy h2 h)
theorem X4 (a b:Mk) (h1:a.older b=false) (h2:b.older a=false):a=b:=by
 by_cases e:a=b
 ·exact e
 ·have:=Gz e
  rw[h1,h2] at this
  cases this
theorem Yz {fn:List D->Option D}{m:MH}{xs:List Mk} (h:∀ x∈xs,fn [x.d]=some (rk2 x)) (hl:xs.length < 64):∃ ys:List Mk,ys.Perm xs/\ys.Pairwise (fun x y=>y.older x=false)/\Gx fn false [.lst (xs.map Mk.d)] m=some (ys.map Mk.d):=by
 have hk:Hl fn m (xs.map Mk.d)=some (xs.map rk2):=by
  clear hl
  induction xs with
  |nil=>rfl
  |cons x xs ih =>
   have e:Eu 1 fn [x.d] m=some (rk2 x):=by
    unfold Eu
    rw[Cd,Hg x.pure]
    exact h x (Aq8 ..)
   rw[Ara,Hl,e,Ara]
   show (Hl fn m (xs.map Mk.d)).bind _=_
   rw[ih fun y hy=>h y (Aq6 _ hy)]
   rfl
 have c1:(xs.map rk2).all Acy=true:=by
  rw[List.all_eq_true]
  intro d hd
  obtain⟨x,_,rfl⟩:=List.mem_map.mp hd
  rfl
 have r1:∀ x:Mk,Bm (rk2 x)=true:=fun x=>by
  unfold rk2
  have:Ar (x.ms.map Mark.rk)=true:=B2 (A0 Mark.rk_pure)
  simp[Bm,Ar,this]
 have c2:Ar (xs.map rk2)=true:=by
  induction xs with
  |nil=>rfl
  |cons x xs ih=>rw[Ara,Ar,r1,ih (fun y hy=>h y (Aq6 _ hy)) (by simp at hl;lia) (by
    rw[Ara,Hl] at hk
    obtain⟨k1,e1,e2⟩:=bind_some hk
    obtain⟨k2,e3,e4⟩:=bind_some e2
    rw[e3]
    rw[Ara] at e4
    injection e4 with e4
    injection e4 with e5 e6
    rw[e6]) (by rw[Ara,Ast,Arf] at c1;exact c1.2)];rfl
 have c3:Da (xs.map rk2)<=20:=Ci fun d hd=>by
  obtain⟨x,_,rfl⟩:=List.mem_map.mp hd
  unfold rk2
  rw[Eh]
  have h1:Da (x.ms.map Mark.rk)<=1:=Ci fun d hd=>by
   obtain⟨m,_,rfl⟩:=List.mem_map.mp hd
   exact Mark.rk_dep m
  have:Da [D.int x.a,D.int x.b,D.int x.c,D.int (if x.ms=[] then 1 else 0),D.lst (x.ms.map Mark.rk)]<=2:=Ci fun d hd=>by
   simp only[Ass,Ash,or_false] at hd
   rcases hd with rfl|rfl|rfl|rfl|rfl
   ·rw[B1];lia
   ·rw[B1];lia
   ·rw[B1];lia
   ·rw[B1];lia
   ·rw[dep];lia
  lia
 have go:∀ ys:List Mk,ys.Perm xs->ys.Pairwise (fun x y=>y.older x=false)->Nu false (xs.map Mk.d) (xs.map rk2)=some (ys.map Mk.d)->∃ ys:List Mk,ys.Perm xs/\ys.Pairwise (fun x y=>y.older x=false)/\Gx fn false [.lst (xs.map Mk.d)] m=some (ys.map Mk.d):=fun ys h1 h2 h3=>by
  refine⟨ys,h1,h2,?_⟩
  unfold Gx
  simp only
  rw[show sqL m (D.lst (xs.map Mk.d))=some (xs.map Mk.d) from rfl,Ars,hk,Ars,h3,Ars]
  rw[Aq4 ⟨by simpa using hl,c1,c2,c3,by rw[Arj,h1.length_eq];exact hl⟩]
 by_cases h2:xs.length < 2
 ·refine go xs (List.Perm.refl _) ?_ ?_
  ·match xs,h2 with
   |[],_=>exact .nil
   |[x],_=>exact List.pairwise_singleton ..
  ·unfold Nu
   rw[Aq4 (by simpa using h2)]
 ·obtain⟨p,e,hp,hs,hi⟩:=Vd (blt:=Mk.older) (zs:=xs) Ii (fun a b c=>Cy) Ui X4 (c:=fun i j=>ltD ((W.katRev false (xs.map rk2)).getD i .non) ((W.katRev false (xs.map rk2)).getD j .non)) (fun i j hi hj=>by
   have g:∀ i (hi:i < xs.length),(W.katRev false (xs.map rk2)).getD i .non=rk2 xs[i]:=fun i hi=>by
    show (xs.map rk2).getD i .non=_
    rw[Aqy,Ari,Aqz hi]
    rfl
   show ltD _ _=_
   rw[g i hi,g j hj,Aj9]) (by lia)
  refine go (p.toList.map fun i=>xs.getD i default) hp hs ?_
  unfold Nu
  rw[Aq7 (by simpa using h2),Arj,e]
  show some (W.katRev false _)=_
  congr 1
  show (p.toList.map fun i=>(xs.map Mk.d).getD i .non)=_
  rw[As7]
  refine List.map_congr_left fun i hi'=>?_
  have hlt:=hi i hi'
  rw[Aqy,Ari,Aqz hlt]
  show xs[i].d=(xs.getD i default).d
  rw[Aqy,Aqz hlt]
  rfl
theorem Aa7 {vs sz:List Int} (h:InR vs sz) (lo hi:Option Int):InR (C8 vs lo hi) (C8 sz lo hi):=by
 obtain⟨hl,h⟩:=h
 unfold C8
 rw[hl]
 refine⟨by rw[Ar1,Ar1,As9,As9,hl],fun i v z hv hz=>?_⟩
 have h1:=(List.getElem?_eq_some_iff.mp hv).1
 rw[Ar1] at h1
 rw[List.getElem?_take_of_lt (by lia),List.getElem?_drop] at hv hz
 exact h _ v z hv hz
abbrev V6:List Int:=[2,3,3,4,4,7,7,8,4,3,3,4,4,7,7,8,4,3,3,4,4,7,7,8,4,3,3,4,4,7,7,8,4]
theorem Ab0 {k:Nat} (h:k < 4):C8 V6 (some (1+8 * (0+(k:Int)))) (some (7+8 * (0+(k:Int))))=[3,3,4,4,7,7]:=by
 match k,h with
 |0,_=>rfl
 |1,_=>rfl
 |2,_=>rfl
 |3,_=>rfl
theorem Iz {vs:List Int}{i:Int} (h0:0<=i) (h1:i < vs.length) {Q:D->Prop} (q:∀ v,Q (.int v)):W (atI (vs.map D.int) i) Q :=
 O3 h0 (by simpa using h1) fun d _ hd=>by
  obtain⟨v,_,rfl⟩:=List.mem_map.mp hd
  exact q v
def EnG (n:Nat) (xs:List Mk):Prop:=xs.length<=n/\∀ x∈xs,Gd 6 x
theorem EnG.app {n:Nat}{xs:List Mk} (h:EnG n xs) {x:Mk} (hx:Gd 6 x):EnG (n+1) (xs++[x]):=⟨by have:=h.1;simp;lia,fun y hy=>by
 rcases List.mem_append.mp hy with z|z
 ·exact h.2 y z
 ·rw[List.mem_singleton.mp z];exact hx⟩
theorem EnG.up {n k:Nat}{xs:List Mk} (h:EnG n xs) (hk:n<=k):EnG k xs:=⟨by have:=h.1;lia,h.2⟩
noncomputable abbrev Abz:FS:=(A8 (Bv 4 (fC1 Hy (Co (Tb (Ai 1) (C6 (f2 Bu (fC (.int 1)) (f2 Ho (fC (.int 8)) (Ai 3)))) (C6 (f2 Bu (fC (.int 7)) (f2 Ho (fC (.int 8)) (Ai 3)))))))) (A8 (sIf (Au (f2 oEq (f2 oIx (Ai 1) (f2 Bu (fC (.int 8)) (f2 Ho (fC (.int 8)) (Ai 3)))) (fC (.int 1)))) (Jz Jq (Ai 2) (Aa (Bk (Aa (f2 Bu (fVI 4 0) (fC (.int 1))) (Aa (fC (.int 0)) (Aa (fC (.int 0)) (Aa (Bk (Aa (fC (.int 0)) Ae)) Ae))))) Ae)) Cg) (A8 (sIf (Au (f2 oEq (f2 oIx (Ai 1) (f2 Bu (fC (.int 8)) (f2 Ho (fC (.int 8)) (Ai 3)))) (fC (.int 2)))) (Jz Jq (Ai 2) (Aa (Bk (Aa (fVI 4 0) (Aa (f2 Bu (fVI 4 1) (fC (.int 1))) (Aa (fC (.int 0)) (Aa (Bk (Aa (fC (.int 0)) Ae)) Ae))))) Ae)) Cg) (J3 (En (Aa (fC (.int 3)) Ae)) (Bb 5) (A8 (sIf (Au (f2 oEq (f2 Ale (f2 Ah9 (f2 oIx (Ai 1) (f2 Bu (fC (.int 7)) (f2 Ho (fC (.int 8)) (Ai 3)))) (Ai 5)) (fC (.int 1))) (fC (.int 1)))) (Jz Jq (Ai 2) (Aa (Ai 4) Ae)) Cg) (Bv 4 (fC1 Dm (Ai 4))))))))
theorem R8 (c:Int) (vs:List Int) (hv:InR vs V6) (xs:List Mk) (hx:EnG 1 xs) (Q:Out->Prop) (q:∀ ys u3 u4 u5,EnG 21 ys->Q (.nx [some (.int c),some (.lst (vs.map .int)),some (.ref 0),u3,u4,u5] [.lst (ys.map Mk.d)])) :
  W (J3 (En (Aa (fC (.int 4)) Ae)) (Bb 3) Abz [some (.int c),some (.lst (vs.map .int)),some (.ref 0),none,none,none] [.lst (xs.map Mk.d)]) Q:=by
 have hl:vs.length=33:=hv.1
 simp only[Hq]
 refine W.imp (P:=fun w=>w=⟨Bx 0 4,Av⟩) (by array_get_dec) fun w hw=>?_
 subst hw
 refine D4 (fun k e m=>∃ (ys:List Mk) (u3 u4 u5:Option D),m=[.lst (ys.map Mk.d)]/\e=[some (.int c),some (.lst (vs.map .int)),some (.ref 0),u3,u4,u5]/\EnG (1+5 * k) ys) ?_ ?_ ⟨xs,_,_,_,rfl,rfl,hx⟩
 ·rintro k e m hk ⟨ys,u3,u4,u5,rfl,rfl,hy⟩
  refine⟨trivial,?_⟩
  rw[Ao5]
  refine Ax (fun e m=>∃ x:Mk,Gd 2 x/\m=[.lst (ys.map Mk.d)]/\e=[some (.int c),some (.lst (vs.map .int)),some (.ref 0),some (.int (0+(k:Int))),some x.d,u5]) ?_ ?_
  ·simp_arith[Ath]
   refine (Xp _ (by rw[<- Ab0 hk,Ath];exact Aa7 hv _ _)).imp fun d ⟨x,e,hx⟩=>?_
   subst e
   exact⟨_,_,rfl,x,hx,rfl,rfl⟩
  rintro e m ⟨x,gx,rfl,rfl⟩
  have px:=gx.pos
  have pa:=px.a
  have pb:=px.b
  refine Ax (fun e m=>∃ zs:List Mk,EnG (1+5 * k+1) zs/\m=[.lst (zs.map Mk.d)]/\e=[some (.int c),some (.lst (vs.map .int)),some (.ref 0),some (.int (0+(k:Int))),some x.d,u5]) ?_ ?_
  ·array_get_dec
   refine Iz (by lia) (by lia) fun v=>?_
   array_get_dec
   refine cK.dec (fun _=>⟨by have:=hy.1;lia,_,_,rfl,ys++[⟨x.a+1,0,0,[.n 0]⟩],hy.app (Dv (n:=5) (by lia) (by lia) (by lia)),by simp;rfl,rfl⟩) fun _=>⟨_,_,rfl,ys,hy.up (by lia),rfl,rfl⟩
  rintro e m ⟨zs,hz,rfl,rfl⟩
  refine Ax (fun e m=>∃ ws:List Mk,EnG (1+5 * k+2) ws/\m=[.lst (ws.map Mk.d)]/\e=[some (.int c),some (.lst (vs.map .int)),some (.ref 0),some (.int (0+(k:Int))),some x.d,u5]) ?_ ?_
  ·array_get_dec
   refine Iz (by lia) (by lia) fun v=>?_
   array_get_dec
   refine cK.dec (fun _=>⟨by have:=hz.1;lia,_,_,rfl,zs++[⟨x.a,x.b+1,0,[.n 0]⟩],hz.app (Dv (n:=5) (by lia) (by lia) (by lia)),by simp;rfl,rfl⟩) fun _=>⟨_,_,rfl,zs,hz.up (by lia),rfl,rfl⟩
  rintro e m ⟨ws,hw,rfl,rfl⟩
  simp only[Hq]
  refine W.imp (P:=fun w=>w=⟨Bx 0 3,Av⟩) (by array_get_dec) fun w hw'=>?_
  subst hw'
  refine D4 (fun j e m=>∃ (ys:List Mk) (y:Mk) (u5:Option D),EnG (1+5 * k+2+j) ys/\Gd (2+j) y/\m=[.lst (ys.map Mk.d)]/\e=[some (.int c),some (.lst (vs.map .int)),some (.ref 0),some (.int (0+(k:Int))),some y.d,u5]) ?_ ?_ ⟨ws,x,_,hw,gx,rfl,rfl⟩
  ·rintro j e m hj ⟨ys,y,u5,h1,h2,rfl,rfl⟩
   have ms:=h2.ms
   refine⟨trivial,?_⟩
   array_get_dec
   refine Iz (by lia) (by lia) fun v=>?_
   simp_arith[Cw y (by lia)]
   refine⟨by lia,cK.dec (fun _=>⟨by have:=h1.1;lia,ys++[y],y.next,_,h1.app (h2.up (by lia)),h2.next,by simp,rfl⟩) fun _=>⟨ys,y.next,_,h1.up (by lia),h2.next,rfl,rfl⟩⟩
  ·rintro e m ⟨ys,y,u5,h1,h2,rfl,rfl⟩
   exact⟨trivial,ys,_,_,_,rfl,rfl,h1.up (by lia)⟩
 ·rintro e m ⟨ys,u3,u4,u5,rfl,rfl,hy⟩
  exact⟨trivial,q ys _ _ _ (hy.up (by lia))⟩
noncomputable def dd (xs:List Mk):List Mk:=((List.range xs.length).filter fun i=>decide (xs.getD i Dl∉xs.take i)).map fun i=>xs.getD i Dl
theorem Xe {xs:List Mk}{i:Nat} (h:i < xs.length):xs.getD i Dl∈xs:=by rw[Aqy,Aqz h];exact Ar9 h
theorem Zv {xs:List Mk}{x:Mk} (h:x∈dd xs):x∈xs:=by
 obtain⟨i,h1,rfl⟩:=List.mem_map.mp h
 exact Xe (List.mem_range.mp (List.mem_filter.mp h1).1)
theorem Am1 (xs:List Mk):(dd xs).Nodup:=by
 unfold dd
 rw[List.nodup_iff_pairwise_ne,List.pairwise_map]
 have h1:((List.range xs.length).filter fun i=>decide (xs.getD i Dl∉xs.take i)).Pairwise (· < ·):=List.Pairwise.filter _ List.pairwise_lt_range
 refine List.Pairwise.imp_of_mem ?_ h1
 intro i j hi hj hij e
 obtain⟨_,h2⟩:=List.mem_filter.mp hj
 obtain⟨h3,_⟩:=List.mem_filter.mp hi
 have h3:=List.mem_range.mp h3
 refine Arp h2 ?_
 rw[<- e]
 rw[List.mem_take_iff_getElem]
 exact⟨i,by lia,by rw[Aqy,Aqz h3];rfl⟩
theorem Ahd (xs:List Mk):(dd xs).length<=xs.length:=by
 unfold dd
 rw[Arj]
 exact Arl (List.length_filter_le ..) (by simp)
theorem Vp {x:D} (hx:Be x=true) (hd:dep x<=50) {z:List D} (hz:Ar z=true) {m:MH}{Q:D->Prop}:W (L6 x (.lst z) m) Q=Q (.bl !(z.any fun d=>deq d x)):=by
 have e1:Ca m x=some x:=Hg hx
 have e2:Ca m (.lst z)=some (.lst z):=by
  unfold Ca
  simp only
  rw[Aq4 (by rw[Bm];exact hz)]
 have e:L6 x (.lst z) m=some (.bl !(z.any fun d=>deq d x)):=by
  unfold L6 inO
  simp only[e1,e2,Ars]
  rw[show sq [] (D.lst z)=some z from rfl]
  simp only[Ars]
  rw[Aq4 hd]
  rfl
 rw[e,Ac]
theorem Xn (c:Int):W (Lr [.int c]) fun d=>∃ xs:List Mk,d=.lst (xs.map Mk.d)/\Ak6 xs/\EnG 21 xs:=by
 unfold Lr Acl
 rw[Bg]
 refine Ax (fun e m=>∃ vs:List Int,InR vs V6/\m=[]/\e=[some (.int c),some (.lst (vs.map .int)),none,none,none,none]) ?_ ?_
 ·array_get_dec
  refine⟨by decide,rfl,(N6 c V6 (by decide) (by decide)).imp fun d ⟨vs,e,hv⟩=>?_⟩
  subst e
  rw[Dr (A0 fun _=>Bj)]
  exact⟨_,_,rfl,vs,hv,rfl,rfl⟩
 rintro e m ⟨vs,hv,rfl,rfl⟩
 have hl:vs.length=33:=hv.1
 refine Ax (fun e m=>∃ xs:List Mk,EnG 1 xs/\m=[.lst (xs.map Mk.d)]/\e=[some (.int c),some (.lst (vs.map .int)),some (.ref 0),none,none,none]) ?_ ?_
 ·match vs,hl with
  |v::r,hl =>
  have h0:=hv.2 0 v 2 rfl rfl
  array_get_dec
  refine⟨⟨by lia,by lia,by lia⟩,_,_,rfl,List.replicate v.toNat Dl,⟨by simp;lia,fun x hx=>?_⟩,?_,rfl⟩
  ·rw[(List.mem_replicate.mp hx).2]
   exact Dv (n:=5) (by decide) (by decide) (by decide)
  ·rw[Aol,List.map_replicate]
   rfl
 rintro e m ⟨xs,hx,rfl,rfl⟩
 rw[Gf]
 refine R8 c vs hv xs hx _ fun ys u3 u4 u5 hy=>?_
 rw[G9]
 have hyl:=hy.1
 array_get_dec
 refine⟨⟨by lia,by lia⟩,by unfold Bx;simp;lia,?_⟩
 rw[Int.toNat_natCast]
 unfold Bx
 refine C9 (fun i=>decide (ys.getD i Dl∉ys.take i)) (fun i=>(ys.getD i Dl).d) (fun i hi'=>?_) ?_
 ·rw[Ati] at hi'
  have eg:ys.getD i Dl=ys[i]:=by rw[Aqy,Aqz hi'];rfl
  simp_arith[Ath,J5 hi',Zt]
  rw[<- List.map_take,Vp (Mk.pure ys[i]) (by have:=Mk.dep ys[i];lia) (Gv (ys.take i))]
  array_get_dec
  refine⟨?_,fun _=>by rw[eg]⟩
  rw[eg,List.any_map]
  have:((ys.take i).any ((fun d=>deq d ys[i].d) ∘ Mk.d))=decide (ys[i]∈ys.take i):=by
   rw[Bool.eq_iff_iff,List.any_eq_true,Asq]
   constructor
   ·rintro ⟨x,h1,h2⟩
    have h2:deq x.d ys[i].d=true:=h2
    rw[Mk.deq] at h2
    rw[<- Arp h2];exact h1
   ·intro h
    exact⟨ys[i],h,by show deq _ _=true;rw[Mk.deq];simp⟩
  rw[this]
  by_cases z:ys[i]∈ys.take i<;>simp[z]
 have ed:(((List.range ys.length).filter fun i=>decide (ys.getD i Dl∉ys.take i)).map fun i=>(ys.getD i Dl).d)=(dd ys).map Mk.d:=by unfold dd;rw[As7];rfl
 rw[ed]
 have dl:=Ahd ys
 obtain⟨zs,hp,hpw,eo⟩:=Yz (fn:=H4) (m:=[.lst (ys.map Mk.d)]) (xs:=dd ys) (fun x hx=>W.out (by rw[Ahq x (by have:=(hy.2 x (Zv hx)).ms;lia)])) (by lia)
 rw[eo,Ac,D7,Ro]
 refine⟨zs,rfl,?_,by rw[hp.length_eq];lia,fun x hx=>hy.2 x (Zv (hp.mem_iff.mp hx))⟩
 have nd:zs.Nodup:=hp.nodup_iff.mpr (Am1 ys)
 rw[List.nodup_iff_pairwise_ne] at nd
 exact (hpw.and nd).imp fun {a b} h=>by
  have:=Gz h.2
  rw[h.1] at this
  rw[this];rfl
theorem Pz {zs:List Mk}{i:Nat} (h:i < (B0 zs).length):∃ h2:2 * i < zs.length,B3 (B0 zs) i=(zs[2 * i],zs[2 * i+1]?):=by
 have hl:=Cu zs
 have h2:2 * i < zs.length:=by lia
 refine⟨h2,?_⟩
 have e:=B9 h
 rw[El zs i h2] at e
 exact (Arn e).symm
theorem Oi {zs:List Mk} (hr:Ak6 zs) (hg:EnG 21 zs):SG (B0 zs):=by
 have hl:=Cu zs
 have h21:=hg.1
 have up:=List.pairwise_iff_getElem.mp hr
 refine⟨⟨fun i hi'=>?_,fun i j hij hj=>?_,fun i h hi' e=>?_⟩,fun i hi'=>?_,fun i h hi' e=>?_,by lia⟩
 ·obtain⟨h2,e⟩:=Pz hi'
  show Pos (B3 _ i).1
  rw[e];exact (hg.2 _ (Ar9 h2)).pos
 ·obtain⟨h2,e⟩:=Pz (i:=i) (zs:=zs) (by lia)
  obtain⟨h3,e3⟩:=Pz hj
  have h4:2 * i+1 < zs.length:=by lia
  show (B3 _ i).1.older (B3 _ j).1=true/\∃ h,(B3 _ i).2=some h/\h.older (B3 _ j).1=true
  rw[e,e3]
  exact⟨up _ _ h2 h3 (by lia),zs[2 * i+1],Aqz h4,up _ _ h4 h3 (by lia)⟩
 ·obtain⟨h2,e2⟩:=Pz hi'
  have e:(B3 _ i).2=some h:=e
  show (B3 _ i).1.older h=true
  rw[e2] at e ⊢
  obtain⟨h3,e3⟩:=List.getElem?_eq_some_iff.mp e
  subst e3
  exact up _ _ h2 h3 (by lia)
 ·obtain⟨h2,e⟩:=Pz hi'
  show Gd 800 (B3 _ i).1
  rw[e];exact (hg.2 _ (Ar9 h2)).up (by decide)
 ·obtain⟨h2,e2⟩:=Pz hi'
  have e:(B3 _ i).2=some h:=e
  rw[e2] at e
  obtain⟨h3,e3⟩:=List.getElem?_eq_some_iff.mp e
  subst e3
  exact (hg.2 _ (Ar9 h3)).up (by decide)
noncomputable def shB (b:Bool) (v:Int) (x:Mk):Mk:=if b=true then ⟨x.a+v,x.b,x.c,x.ms⟩ else x
theorem Ae2 {n:Nat}{b:Bool}{v:Int}{x:Mk} (hv:0 < v) (h:Gd n x):Gd n (shB b v x):=by
 have p:=h.pos
 have:=p.a
 unfold shB
 split
 ·exact⟨⟨by show 0<=x.a+v;lia,p.b,p.c,p.ms⟩,h.key,h.ms⟩
 ·exact h
theorem J0 {b c:Bool}{v:Int}{x y:Mk} (hv:0 < v) (hbc:b=true->c=true) (h:x.older y=true):(shB b v x).older (shB c v y)=true:=by
 unfold shB
 rw[older_iff] at h
 cases b with
 |true =>
  rw[Aq4 rfl,Aq4 (hbc rfl),older_iff]
  rcases h with h|⟨h,h'⟩
  ·exact .inl (by show x.a+v < y.a+v;lia)
  ·exact .inr ⟨by show x.a+v=y.a+v;lia,h'⟩
 |false =>
  rw[Aq7 Arc]
  cases c with
  |true =>
   rw[Aq4 rfl,older_iff]
   refine .inl ?_
   show x.a < y.a+v
   rcases h with h|⟨h,_⟩<;>lia
  |false=>rw[Aq7 Arc,older_iff];exact h
def Alb (g v:Int) (i:Nat) (p:Pc):Pc:=(shB (decide ((i:Int) > g)) v p.1,p.2.map (shB (decide ((i:Int) ≥ g)) v))
theorem Ahj {ps qs:List Pc}{g v:Int} (hv:0 < v) (S:SG ps) (hl:qs.length=ps.length) (hq:∀ i,i < ps.length->B3 qs i=Alb g v i (B3 ps i)):SG qs:=by
 have sr:=S.sr
 have hi2:∀ i h,i < ps.length->hi qs i=some h->∃ h0,hi ps i=some h0/\h=shB (decide ((i:Int) ≥ g)) v h0:=fun i h h1 e=>by
  have e:(B3 qs i).2=some h:=e
  rw[hq i h1] at e
  obtain⟨h0,e1,e2⟩:=Option.map_eq_some_iff.mp e
  exact⟨h0,e1,e2.symm⟩
 have lo2:∀ i,i < ps.length->lo qs i=shB (decide ((i:Int) > g)) v (lo ps i):=fun i h=>by
  show (B3 qs i).1=_
  rw[hq i h];rfl
 refine⟨⟨fun i hi'=>?_,fun i j hij hj=>?_,fun i h hi' e=>?_⟩,fun i hi'=>?_,fun i h hi' e=>?_,by rw[hl];exact S.len⟩
 ·rw[lo2 i (by lia)];exact (Ae2 hv (S.gl i (by lia))).pos
 ·rw[lo2 i (by lia),lo2 j (by lia)]
  obtain⟨u1,y,u2,u3⟩:=sr.up i j hij (by lia)
  refine⟨J0 hv (fun z=>by have:=Arp z;exact Ar5 (by lia)) u1,shB (decide ((i:Int) ≥ g)) v y,?_,J0 hv (fun z=>by have:=Arp z;exact Ar5 (by lia)) u3⟩
  show (B3 qs i).2=_
  rw[hq i (by lia)]
  show Option.map _ (B3 ps i).2=_
  have u2:(B3 ps i).2=some y:=u2
  rw[u2];rfl
 ·obtain⟨h0,e1,rfl⟩:=hi2 i h (by lia) e
  rw[lo2 i (by lia)]
  exact J0 hv (fun z=>by have:=Arp z;exact Ar5 (by lia)) (sr.wid i h0 (by lia) e1)
 ·rw[lo2 i (by lia)];exact Ae2 hv (S.gl i (by lia))
 ·obtain⟨h0,e1,rfl⟩:=hi2 i h (by lia) e
  exact Ae2 hv (S.gh i h0 (by lia) e1)
theorem Aaa {x:Mk}{Q:D->Prop}:W (oSl x.d (some 1) none) Q=Q (.tup [.int x.b,.int x.c,.tup (x.ms.map Mark.d)]):=by unfold Mk.d;rw[Zp];rfl
theorem pcAt_app {ps:List Pc}{p:Pc}:B3 (ps++[p]) ps.length=p/\∀ i,i < ps.length->B3 (ps++[p]) i=B3 ps i:=by
 unfold B3
 refine⟨by rw[Aqy,Aru (Aq5 _)];simp,fun i h=>?_⟩
 rw[Aqy,Arm h,<- Aqy]
theorem Ac3 {ps:List Pc} (S:SG ps) (g v:Int) (hv:0 < v):W (Lu [.lst (ps.map pD),.int g,.int v]) fun d=>∃ qs,d=sD qs/\SG qs:=by
 have h40:=S.len
 unfold Lu Acq
 rw[Bg]
 refine Ax (fun e m=>m=[.lst []]/\e=[some (.lst (ps.map pD)),some (.int g),some (.int v),some (.ref 0),none,none,none]) (by array_get_dec;exact⟨_,_,rfl,rfl,rfl⟩) ?_
 rintro e m ⟨rfl,rfl⟩
 rw[Gf]
 simp only[Hq]
 refine W.imp (P:=fun w=>w=⟨Bx 0 ps.length,Av⟩) (by array_get_dec;exact⟨⟨by lia,by lia⟩,rfl⟩) fun w hw=>?_
 subst hw
 refine D4 (fun k e m=>∃ (qs:List Pc) (u4 u5 u6:Option D),m=[.lst (qs.map pD)]/\e=[some (.lst (ps.map pD)),some (.int g),some (.int v),some (.ref 0),u4,u5,u6]/\qs.length=k/\∀ i,i < k->B3 qs i=Alb g v i (B3 ps i)) ?_ ?_ ⟨[],_,_,_,rfl,rfl,rfl,fun i h=>by lia⟩
 ·rintro k e m hk ⟨qs,u4,u5,u6,rfl,rfl,hl,hq⟩
  refine⟨trivial,?_⟩
  obtain⟨x,h,hp⟩:∃ x h,B3 ps k=(x,h):=⟨_,_,rfl⟩
  rw[Ak8,Ath]
  refine Ax (fun e m=>m=[.lst (qs.map pD)]/\e=[some (.lst (ps.map pD)),some (.int g),some (.int v),some (.ref 0),some (.int (k:Int)),some x.d,some (oD h)]) (by simp_arith[Hj hk,hp];exact⟨_,_,rfl,rfl,rfl⟩) ?_
  rintro e m ⟨rfl,rfl⟩
  refine Ax (fun e m=>m=[.lst (qs.map pD)]/\e=[some (.lst (ps.map pD)),some (.int g),some (.int v),some (.ref 0),some (.int (k:Int)),some (shB (decide ((k:Int) > g)) v x).d,some (oD h)]) ?_ ?_
  ·array_get_dec
   rw[Aaa]
   array_get_dec
   unfold shB
   exact cK.dec (fun z=>⟨_,_,rfl,rfl,by rw[Ar5 z,Aq4 rfl];rfl⟩) fun z=>⟨_,_,rfl,rfl,by rw[Art z,Aq7 Arc]⟩
  rintro e m ⟨rfl,rfl⟩
  refine Ax (fun e m=>m=[.lst (qs.map pD)]/\e=[some (.lst (ps.map pD)),some (.int g),some (.int v),some (.ref 0),some (.int (k:Int)),some (shB (decide ((k:Int) > g)) v x).d,some (oD (h.map (shB (decide ((k:Int) ≥ g)) v)))]) ?_ ?_
  ·cases h with
   |none =>
    array_get_dec
    exact cK.dec (fun z=>⟨_,_,rfl,rfl,rfl⟩) fun z=>⟨_,_,rfl,rfl,rfl⟩
   |some y =>
    have od:oD (some y)=y.d:=rfl
    rw[od]
    array_get_dec
    rw[Aaa]
    array_get_dec
    unfold shB
    exact cK.dec (fun z=>⟨_,_,rfl,rfl,by rw[Ar5 (show (k:Int) ≥ g from z)];rfl⟩) fun z=>⟨_,_,rfl,rfl,by rw[Art (show ¬ (k:Int) ≥ g from z)];rfl⟩
  rintro e m ⟨rfl,rfl⟩
  array_get_dec
  refine⟨by lia,qs++[Alb g v k (x,h)],_,_,_,by simp[pD,Alb],rfl,by simp[hl],fun i hi'=>?_⟩
  by_cases z:i < k
  ·rw[pcAt_app.2 i (by lia)];exact hq i z
  ·have:i=k:=by lia
   subst this
   rw[hp]
   conv=>lhs;rw[<- hl]
   rw[pcAt_app.1,hl]
 ·rintro e m ⟨qs,u4,u5,u6,rfl,rfl,hl,hq⟩
  refine⟨trivial,?_⟩
  rw[G9]
  array_get_dec
  exact⟨qs,rfl,Ahj hv S hl hq⟩
abbrev Ahv:List Int:=[40,2,2]++List.replicate 40 4
structure LdL (k:Nat) (x:Mk):Prop where
 g:Gd 5 x
 a:x.a=0
 b:x.b=0
 c:x.c<=k+1
 c2:0 < k->x.c=k+1
 m:x.ms≠[]
structure Lad (ps:List Pc):Prop where
 dl:∀ i,i < ps.length->LdL i (lo ps i)
 dh:∀ i,i < ps.length->hi ps i=some ⟨0,0,(i:Int)+1,[]⟩\/(hi ps i=none/\i+1=ps.length)
theorem Anh {i:Int} (h:0<=i):Gd 800 ⟨0,0,i,[]⟩:=⟨⟨Asx _,Asx _,h,fun m hm=>absurd hm (by simp)⟩,fun m hm=>absurd hm (by simp),by simp⟩
theorem Lad.sg {ps:List Pc} (L:Lad ps) (hl:ps.length<=40):SG ps:=by
 refine⟨⟨fun i hi'=>(L.dl i hi').g.pos,fun i j hij hj=>?_,fun i h hi' e=>?_⟩,fun i hi'=>(L.dl i hi').g.up (by decide),fun i h hi' e=>?_,hl⟩
 ·have l1:=L.dl i (by lia)
  have l2:=L.dl j hj
  have c1:=l1.c
  have c2:=l2.c2 (by lia)
  refine⟨older_iff.mpr (.inr ⟨by rw[l1.a,l2.a],.inr ⟨by rw[l1.b,l2.b],.inl (by lia)⟩⟩),⟨0,0,(i:Int)+1,[]⟩,?_,older_iff.mpr (.inr ⟨by rw[l2.a],.inr ⟨by rw[l2.b],.inl (by show (i:Int)+1 < _;lia)⟩⟩)⟩
  rcases L.dh i (by lia) with h|⟨_,h⟩
  ·exact h
  ·lia
 ·have l1:=L.dl i hi'
  have c1:=l1.c
  rcases L.dh i hi' with z|⟨z,_⟩
  ·rw[z] at e
   cases e
   refine older_iff.mpr (.inr ⟨l1.a,.inr ⟨l1.b,?_⟩⟩)
   by_cases q:(lo ps i).c=(i:Int)+1
   ·exact .inr ⟨q,l1.m,.inl rfl⟩
   ·exact .inl (by show (lo ps i).c < (i:Int)+1;lia)
  ·rw[z] at e;cases e
 ·rcases L.dh i hi' with z|⟨z,_⟩
  ·rw[z] at e
   cases e
   exact Anh (by lia)
  ·rw[z] at e;cases e
theorem Xl {k:Nat}{x:Mk} (h:LdL k x) (n:Nat) (hn:x.ms.length<=n) (hn4:n < 5):LdL k x.next/\x.next.ms.length<=n+1:=by
 have e:x.next=⟨x.a,x.b,x.c,x.ms++[.n 0]⟩:=by unfold Mk.next;rw[Aq7 h.m]
 have g:Gd (n+1) x.next:=Gd.next ⟨h.g.pos,h.g.key,hn⟩
 refine⟨⟨g.up (by lia),by rw[e];exact h.a,by rw[e];exact h.b,by rw[e];exact h.c,fun z=>by rw[e];exact h.c2 z,by rw[e];simp⟩,g.ms⟩
theorem Oc {k:Nat}{c:Int}{m:Mark} (h0:0<=c) (hc:c<=k+1) (hk:0 < k->c=k+1) (hm:m.pos) (hk2:kOk (pyD m.d)=true):LdL k ⟨0,0,c,[m]⟩:=⟨⟨⟨Asx _,Asx _,h0,fun z hz=>by rw[List.mem_singleton.mp hz];exact hm⟩,fun z hz=>by rw[List.mem_singleton.mp hz];exact hk2,by simp⟩,rfl,rfl,hc,hk,by simp⟩
theorem Lad.app {ps:List Pc} (L:Lad ps) (hh:∀ i,i < ps.length->hi ps i=some ⟨0,0,(i:Int)+1,[]⟩) {x:Mk} (hx:LdL ps.length x):Lad (ps++[(x,some ⟨0,0,(ps.length:Int)+1,[]⟩)])/\∀ i,i < ps.length+1->hi (ps++[(x,some ⟨0,0,(ps.length:Int)+1,[]⟩)]) i=some ⟨0,0,(i:Int)+1,[]⟩:=by
 have h2:∀ i,i < ps.length+1->hi (ps++[(x,some ⟨0,0,(ps.length:Int)+1,[]⟩)]) i=some ⟨0,0,(i:Int)+1,[]⟩:=fun i hi'=>by
  show (B3 _ i).2=_
  by_cases z:i < ps.length
  ·rw[pcAt_app.2 i z];exact hh i z
  ·have:i=ps.length:=by lia
   subst this
   rw[pcAt_app.1]
 refine⟨⟨fun i hi'=>?_,fun i hi'=>.inl (h2 i (by simpa using hi'))⟩,h2⟩
 have hi':i < ps.length+1:=by simpa using hi'
 show LdL i (B3 _ i).1
 by_cases z:i < ps.length
 ·rw[pcAt_app.2 i z];exact L.dl i z
 ·have:i=ps.length:=by lia
  subst this
  rw[pcAt_app.1];exact hx
theorem Afu {a b d:Int}{r:List Int}{k:Nat} (h:k < r.length) {Q:D->Prop}:W (atI (D.int a::D.int b::D.int d::r.map D.int) (3+(k:Int))) Q=Q (.int r[k]):=by
 have:=J5 (f:=D.int) (xs:=a::b::d::r) (k:=k+3) (by simp;lia) (Q:=Q)
 rw[show (3+(k:Int))=((k+3:Nat):Int) by lia]
 exact this
theorem Pm (c:Int):W (Lm [.int c]) fun d=>∃ ps,d=sD ps/\SG ps:=by
 unfold Lm Acb
 rw[Bg]
 refine Ax (fun e m=>∃ vs:List Int,InR vs Ahv/\m=[]/\e=[some (.int c),some (.lst (vs.map .int)),none,none,none,none,none]) ?_ ?_
 ·array_get_dec
  refine⟨by decide,rfl,(N6 c Ahv (by decide) (by decide)).imp fun d ⟨vs,e,hv⟩=>?_⟩
  subst e
  rw[Dr (A0 fun _=>Bj)]
  exact⟨_,_,rfl,vs,hv,rfl,rfl⟩
 rintro e m ⟨vs,hv,rfl,rfl⟩
 have hl:vs.length=43:=hv.1
 match vs,hl with
 |a::b::d::r,hl =>
 have ha:=hv.2 0 a 40 rfl rfl
 have hb:∀ (i:Nat) (v:Int),i < 40->r[i]?=some v->0<=v/\v < 4:=fun i v h1 h2=>hv.2 (i+3) v 4 (by simpa using h2) (by
  show ((40:Int)::2::2::List.replicate 40 4)[i+3]?=_
  rw[Arq,Arq,Arq,Ar3,Aq4 h1])
 refine Ax (fun e m=>∃ x:Mk,LdL 0 x/\x.ms.length<=4/\m=[]/\e=[some (.int c),some (.lst ((a::b::d::r).map .int)),some x.d,none,none,none,none]) ?_ ?_
 ·array_get_dec
  exact⟨_,_,rfl,⟨0,0,0,[.s (Str.ofString "b")]⟩,Oc (by decide) (by decide) (by decide) trivial (Bf _),by simp,rfl,rfl⟩
 rintro e m ⟨x,hx,hxl,rfl,rfl⟩
 refine Ax (fun e m=>∃ x:Mk,LdL 0 x/\x.ms.length<=4/\m=[]/\e=[some (.int c),some (.lst ((a::b::d::r).map .int)),some x.d,none,none,none,none]) ?_ ?_
 ·array_get_dec
  exact cK.dec (fun _=>⟨_,_,rfl,Dl,Oc (by decide) (by decide) (by decide) (by simp[Mark.pos]) rfl,by simp,rfl,rfl⟩) fun _=>⟨_,_,rfl,x,hx,hxl,rfl,rfl⟩
 rintro e m ⟨x,hx,hxl,rfl,rfl⟩
 refine Ax (fun e m=>m=[.lst []]/\e=[some (.int c),some (.lst ((a::b::d::r).map .int)),some x.d,some (.ref 0),none,none,none]) (by array_get_dec;exact⟨_,_,rfl,rfl,rfl⟩) ?_
 rintro e m ⟨rfl,rfl⟩
 refine Ax (fun e m=>∃ (ps:List Pc) (u2 u4 u5 u6:Option D),0 < ps.length/\ps.length<=40/\Lad ps/\m=[.lst (ps.map pD)]/\e=[some (.int c),some (.lst ((a::b::d::r).map .int)),u2,some (.ref 0),u4,u5,u6]) ?_ ?_
 ·simp only[Hq]
  refine W.imp (P:=fun w=>w=⟨Bx 0 (a.toNat+1),Av⟩) (by array_get_dec;exact⟨⟨by lia,by lia⟩,by rw[show (1+a).toNat=a.toNat+1 by lia]⟩) fun w hw=>?_
  subst hw
  refine D4 (fun k e m=>∃ (ps:List Pc) (x:Mk) (u4 u5 u6:Option D),ps.length=k/\Lad ps/\(∀ i,i < ps.length->hi ps i=some ⟨0,0,(i:Int)+1,[]⟩)/\LdL k x/\x.ms.length<=4/\m=[.lst (ps.map pD)]/\e=[some (.int c),some (.lst ((a::b::d::r).map .int)),some x.d,some (.ref 0),u4,u5,u6]) ?_ ?_ ⟨[],x,_,_,_,rfl,⟨fun i h=>by simp at h,fun i h=>by simp at h⟩,fun i h=>by simp at h,hx,hxl,rfl,rfl⟩
  ·rintro k e m hk ⟨ps,x,u4,u5,u6,hpl,L,hh,hx,hxl,rfl,rfl⟩
   refine⟨trivial,?_⟩
   rw[Ak8,Ath]
   have hr:r.length=40:=by simpa using hl
   have hkr:k < r.length:=by lia
   have hv:=hb k r[k] (by lia) (Aqz hkr)
   obtain⟨L2,hh2⟩:=L.app hh (by rw[hpl];exact hx)
   rw[hpl] at L2 hh2
   generalize hnp:ps++[(x,some (⟨0,0,(k:Int)+1,[]⟩:Mk))]=np at L2 hh2
   have npl:np.length=k+1:=by rw[<- hnp];simp[hpl]
   refine Ax (fun e m=>m=[.lst (ps.map pD)]/\e=[some (.int c),some (.lst ((a::b::d::r).map .int)),some x.d,some (.ref 0),some (.int (k:Int)),some (⟨0,0,(k:Int)+1,[]⟩:Mk).d,u6]) (by array_get_dec;exact⟨_,_,rfl,rfl,rfl⟩) ?_
   rintro e m ⟨rfl,rfl⟩
   refine Ax (fun e m=>m=[.lst (np.map pD)]/\e=[some (.int c),some (.lst ((a::b::d::r).map .int)),some x.d,some (.ref 0),some (.int (k:Int)),some (⟨0,0,(k:Int)+1,[]⟩:Mk).d,u6]) (by
    array_get_dec
    exact⟨by lia,_,_,rfl,by rw[<- hnp];simp[pD,oD],rfl⟩) ?_
   rintro e m ⟨rfl,rfl⟩
   refine Ax (fun e m=>m=[.lst (np.map pD)]/\e=[some (.int c),some (.lst ((a::b::d::r).map .int)),some (⟨0,0,(k:Int)+2,[.s (Str.ofString "a")]⟩:Mk).d,some (.ref 0),some (.int (k:Int)),some (⟨0,0,(k:Int)+1,[]⟩:Mk).d,u6]) (by array_get_dec;exact⟨_,_,rfl,rfl,rfl⟩) ?_
   rintro e m ⟨rfl,rfl⟩
   have nx:(⟨0,0,(k:Int)+1,[]⟩:Mk).next=⟨0,0,(k:Int)+2,[.n 0]⟩:=by unfold Mk.next;rw[Aq4 rfl];simp;lia
   simp_arith[Afu hkr,Cw (⟨0,0,(k:Int)+1,[]⟩:Mk) (by simp),nx]
   refine cK.dec (fun h3=>⟨⟨by lia,by lia⟩,?_⟩) fun _=>⟨np,⟨0,0,(k:Int)+2,[.s (Str.ofString "a")]⟩,_,_,_,npl,L2,fun i hi'=>hh2 i (by lia),Oc (by lia) (by lia) (fun _=>by lia) trivial (Bf _),by simp,rfl,rfl⟩
   refine D4 (fun t e m=>∃ (y:Mk) (u6:Option D),LdL (k+1) y/\y.ms.length<=1+t/\m=[.lst (np.map pD)]/\e=[some (.int c),some (.lst (D.int a::D.int b::D.int d::r.map .int)),some y.d,some (.ref 0),some (.int (k:Int)),some (⟨0,0,(k:Int)+1,[]⟩:Mk).d,u6]) ?_ ?_ ⟨_,u6,Oc (by lia) (by lia) (fun _=>by lia) (by simp[Mark.pos]) rfl,by simp,rfl,rfl⟩
   ·rintro t e m ht ⟨y,u6,h1,h2,rfl,rfl⟩
    refine⟨trivial,?_⟩
    simp_arith[Cw y (by lia)]
    obtain⟨n1,n2⟩:=Xl h1 (1+t) h2 (by lia)
    exact⟨y.next,_,n1,by lia,rfl⟩
   ·rintro e m ⟨y,u6,h1,h2,rfl,rfl⟩
    exact⟨trivial,np,y,_,_,_,npl,L2,fun i hi'=>hh2 i (by lia),h1,by lia,rfl,rfl⟩
  ·rintro e m ⟨ps,x,u4,u5,u6,hpl,L,hh,hx,hxl,rfl,rfl⟩
   exact⟨trivial,_,_,rfl,ps,_,_,_,_,by lia,by lia,L,rfl,rfl⟩
 rintro e m ⟨ps,u2,u4,u5,u6,h0,h40,L,rfl,rfl⟩
 refine Ax (fun e m=>∃ (ps:List Pc) (u2 u4 u5 u6:Option D),ps.length<=40/\Lad ps/\m=[.lst (ps.map pD)]/\e=[some (.int c),some (.lst ((a::b::d::r).map .int)),u2,some (.ref 0),u4,u5,u6]) ?_ ?_
 ·array_get_dec
  refine cK.dec (fun _=>?_) fun _=>⟨_,_,rfl,ps,_,_,_,_,h40,L,rfl,rfl⟩
  obtain⟨n,hn⟩:∃ n,ps.length=n+1:=⟨ps.length - 1,by lia⟩
  have hlast:ps.getLast?=some (B3 ps n):=by rw[List.getLast?_eq_getElem?,hn];exact B9 (by lia)
  rw[Aba (x:=pD (B3 ps n)) (by rw[List.getLast?_map,hlast];rfl)]
  array_get_dec
  have ex:ixN ps.length (-1)=some n:=by
   unfold ixN
   rw[Aq7 (by decide),Aq4 (by lia)]
   congr 1
   lia
  rw[ex,Ac]
  refine⟨_,_,rfl,ps.set n ((B3 ps n).1,none),_,_,_,_,by simpa using h40,?_,by rw[List.map_set];rfl,rfl⟩
  have at':∀ i,i < ps.length->B3 (ps.set n ((B3 ps n).1,none)) i=if i=n then ((B3 ps n).1,none) else B3 ps i:=fun i hi'=>by
   unfold B3
   rw[Aqy]
   by_cases z:i=n
   ·subst z
    rw[Ar0 hi',Aq4 rfl]
    rfl
   ·rw[Asa (Asc z),Aq7 z,<- Aqy]
  refine⟨fun i hi'=>?_,fun i hi'=>?_⟩
  ·rw[List.length_set] at hi'
   show LdL i (B3 _ i).1
   rw[at' i hi']
   have:=L.dl i hi'
   split
   ·rename_i z;subst z;exact this
   ·exact this
  ·rw[List.length_set] at hi' ⊢
   show (B3 _ i).2=_\/(B3 _ i).2=_/\_
   rw[at' i hi']
   split
   ·exact .inr ⟨rfl,by lia⟩
   ·exact L.dh i hi'
 rintro e m ⟨ps,u2,u4,u5,u6,h40,L,rfl,rfl⟩
 array_get_dec
 exact⟨ps,rfl,L.sg h40⟩
theorem Zq {f g:FS}{env:Ba}{m:MH}{Q:Out->Prop} (S:Ba->MH->Prop) (h1:W (f env m) fun o=>(∃ e m',o=.nx e m'/\S e m')\/∃ d m',o=.rt d m'/\Q (.rt d m')) (h2:∀ e m',S e m'->W (g e m') Q):W (A8 f g env m) Q:=by
 rw[Gf]
 refine h1.imp fun o h=>?_
 rcases h with ⟨e,m',q,s⟩|⟨d,m',q,s⟩
 ·subst q;exact h2 e m' s
 ·subst q;exact s
theorem P4 (n:Nat):P3 0 ((n:Int) - 1) 2=n / 2:=by
 unfold P3
 split<;>lia
theorem G2:∀ {zs:List Mk}{l:Mk},zs.length % 2=0->B0 (zs++[l])=B0 zs++[(l,none)]
 |[],l,_=>rfl
 |[x],l,h=>by simp at h
 |x::y::r,l,h=>by
  rw[Asj,Asj,B0,B0,Asj,G2 (by simp at h;lia)]
theorem EnG.sub {n:Nat}{xs zs:List Mk} (h:EnG n xs) (hl:zs.length<=xs.length) (hm:∀ z∈zs,z∈xs):EnG n zs:=⟨by have:=h.1;lia,fun z hz=>h.2 z (hm z hz)⟩
theorem Xy (c:Int):W (Ls [.int c]) fun d=>∃ ps,d=sD ps/\SG ps:=by
 unfold Ls Acm
 rw[Bg]
 refine Zq (fun e m=>m=[]/\e=[some (.int c),none,none]) ?_ ?_
 ·array_get_dec
  refine cK.mk (fun _=>?_) fun _=>cK.mk (fun _=>?_) fun _=>.inl ⟨_,_,rfl,rfl,rfl⟩
  all_goals
   refine (Pm _).imp fun d ⟨ps,e,S⟩=>?_
   subst e
   refine .inr ⟨_,_,rfl,?_⟩
   array_get_dec
   exact⟨ps,rfl,S⟩
 rintro e m ⟨rfl,rfl⟩
 refine Ax (fun e m=>∃ xs:List Mk,Ak6 xs/\EnG 21 xs/\m=[]/\e=[some (.int c),some (.lst (xs.map Mk.d)),none]) ?_ ?_
 ·array_get_dec
  refine (Xn _).imp fun d ⟨xs,e,hr,hg⟩=>?_
  subst e
  rw[Dr (D7 xs)]
  exact⟨_,_,rfl,xs,hr,hg,rfl,rfl⟩
 rintro e m ⟨xs,hr,hg,rfl,rfl⟩
 have h21:=hg.1
 have evl:(xs.take (2 * (xs.length / 2))).length=2 * (xs.length / 2):=by rw[Ar1];lia
 refine Ax (fun e m=>m=[.lst ((B0 (xs.take (2 * (xs.length / 2)))).map pD)]/\e=[some (.int c),some (.lst (xs.map Mk.d)),some (.ref 0)]) ?_ ?_
 ·array_get_dec
  rw[P4]
  refine⟨⟨by lia,by lia⟩,by rw[List.length_range];lia,?_⟩
  refine D3 (fun q:Nat=>pD (xs.getD (2 * q) Dl,some (xs.getD (2 * q+1) Dl))) (fun q hq=>?_) ?_
  ·rw[Ati] at hq
   have q1:2 * q < xs.length:=by lia
   have q2:2 * q+1 < xs.length:=by lia
   array_get_dec
   rw[show ((q:Int) * 2)=((2 * q:Nat):Int) by lia,J5 q1]
   array_get_dec
   rw[show (((2 * q:Nat):Int)+1)=((2 * q+1:Nat):Int) by lia,J5 q2]
   rw[Aqy,Aqz q1,Aqy,Aqz q2]
   rfl
  ·refine⟨_,_,rfl,?_,rfl⟩
   congr 2
   refine List.ext_getElem? fun i=>?_
   rw[Ari,Ari]
   by_cases hi':i < xs.length / 2
   ·rw[List.getElem?_range hi',El _ i (by rw[evl];lia)]
    show some (pD _)=some (pD _)
    congr 2
    refine Prod.ext ?_ ?_
    ·show xs.getD (2 * i) Dl=_
     rw[List.getElem_take,Aqy,Aqz (by lia)];rfl
    ·show some (xs.getD (2 * i+1) Dl)=_
     rw[List.getElem?_take_of_lt (by lia),Aqy,Aqz (by lia)];rfl
   ·rw[Ar6 (by simpa using hi'),Ar6 (by rw[Cu,evl];lia)]
    rfl
 rintro e m ⟨rfl,rfl⟩
 have ht:Ak6 (xs.take (2 * (xs.length / 2))):=List.Pairwise.sublist (List.take_sublist _ _) hr
 refine Ax (fun e m=>∃ ps:List Pc,SG ps/\m=[.lst (ps.map pD)]/\e=[some (.int c),some (.lst (xs.map Mk.d)),some (.ref 0)]) ?_ ?_
 ·array_get_dec
  have stay:∃ e m',Out.nx [some (D.int c),some (D.lst (xs.map Mk.d)),some (D.ref 0)] [MObj.lst ((B0 (xs.take (2 * (xs.length / 2)))).map pD)]=Out.nx e m'/\∃ ps:List Pc,SG ps/\m'=[.lst (ps.map pD)]/\e=[some (.int c),some (.lst (xs.map Mk.d)),some (.ref 0)]:=⟨_,_,rfl,_,Oi ht (hg.sub (by rw[evl];lia) fun z hz=>List.mem_of_mem_take hz),rfl,rfl⟩
  refine cK.dec (fun hodd=>cK.mk (fun _=>?_) fun _=>stay) fun _=>stay
  have hne:xs≠[]:=fun z=>by rw[z] at hodd;simp at hodd
  obtain⟨l,hlst⟩:∃ l,xs.getLast?=some l:=⟨_,List.getLast?_eq_some_getLast hne⟩
  rw[Aba (x:=l.d) (by rw[List.getLast?_map,hlst];rfl)]
  array_get_dec
  have ex:xs.take (2 * (xs.length / 2))++[l]=xs:=by
   have h1:2 * (xs.length / 2)=xs.length - 1:=by lia
   have el:l=xs.getLast hne:=by rw[List.getLast?_eq_some_getLast hne] at hlst;exact (Arn hlst).symm
   rw[h1,<- List.dropLast_eq_take,el]
   exact List.dropLast_concat_getLast hne
  have ep:B0 xs=B0 (xs.take (2 * (xs.length / 2)))++[(l,none)]:=by
   conv=>lhs;rw[<- ex]
   exact G2 (by rw[evl];lia)
  exact⟨by rw[Cu,evl];lia,_,_,rfl,B0 xs,Oi hr hg,by rw[ep];simp[pD,oD],rfl⟩
 rintro e m ⟨ps,S,rfl,rfl⟩
 refine Zq (fun e m=>m=[.lst (ps.map pD)]/\e=[some (.int c),some (.lst (xs.map Mk.d)),some (.ref 0)]) ?_ ?_
 ·simp_arith[B2 (Oh ps)]
  refine cK.mk (fun _=>?_) fun _=>cK.mk (fun _=>?_) fun _=>.inl ⟨_,_,rfl,rfl,rfl⟩
  all_goals
   have b1:=Int.emod_nonneg (c / 16) (b:=3) (by decide)
   have b2:=Int.emod_lt_of_pos (c / 16) (b:=3) (by decide)
   refine O3 b1 (by simpa using b2) fun d _ hd=>?_
   obtain⟨v,rfl,hv⟩:∃ v:Int,d=.int v/\0 < v:=by
    simp only[Ass,Ash,or_false] at hd
    rcases hd with rfl|rfl|rfl<;>exact⟨_,rfl,by decide⟩
   array_get_dec
   refine (Ac3 S _ v hv).imp fun d ⟨qs,e,S2⟩=>?_
   subst e
   refine .inr ⟨_,_,rfl,?_⟩
   array_get_dec
   exact⟨qs,rfl,S2⟩
 rintro e m ⟨rfl,rfl⟩
 array_get_dec
 exact⟨ps,rfl,S⟩
theorem sqA {M r:MH}{a:List D}{Q:List D->Prop}:W (sq (M++.lst a::r) (.ref M.length)) Q=Q a:=by
 have e:(M++MObj.lst a::r)[M.length]?=some (.lst a):=by simp
 have e2:sq (M++MObj.lst a::r) (.ref M.length)=some a:=by unfold sq;simp only[e]
 rw[e2,Ac]
theorem Aqk {M:MH}{x y:MObj}:(M++[x]).set M.length y=M++[y]:=by simp
theorem tyE {N:MH}{b:List D}{Q:String->Prop}:W (tyD (N++[.lst b]) (.ref N.length)) Q=Q "list":=by
 have e:(N++[MObj.lst b])[N.length]?=some (.lst b):=by simp
 have e2:tyD (N++[MObj.lst b]) (.ref N.length)=some "list":=by unfold tyD;simp only[e]
 rw[e2,Ac]
theorem Afd {ps:List Pc} (S:SG ps) (n:Nat):SG (ps.take n):=by
 have h40:=S.len
 have e:∀ i,i < (ps.take n).length->B3 (ps.take n) i=B3 ps i/\i < ps.length:=fun i h=>by
  rw[Ar1] at h
  unfold B3
  rw[Aqy,List.getElem?_take_of_lt (by lia),<- Aqy]
  exact⟨rfl,by lia⟩
 have el:∀ i,i < (ps.take n).length->lo (ps.take n) i=lo ps i:=fun i h=>Asd Prod.fst (e i h).1
 have eh:∀ i,i < (ps.take n).length->hi (ps.take n) i=hi ps i:=fun i h=>Asd Prod.snd (e i h).1
 refine⟨⟨fun i h=>?_,fun i j h1 h2=>?_,fun i h h1 h2=>?_⟩,fun i h=>?_,fun i h h1 h2=>?_,by rw[Ar1];lia⟩
 ·rw[el i h];exact S.sr.pos i (e i h).2
 ·rw[el i (by lia),el j h2,eh i (by lia)];exact S.sr.up i j h1 (e j h2).2
 ·rw[eh i h1] at h2;rw[el i h1];exact S.sr.wid i h (e i h1).2 h2
 ·rw[el i h];exact S.gl i (e i h).2
 ·rw[eh i h1] at h2;exact S.gh i h (e i h1).2 h2
noncomputable def Zx (L:Nat->Int) (n:Nat):List Int:=(List.range n).map L++[1]
theorem R5 (L:Nat->Int) (n:Nat):((List.range n).map (fun i=>D.int (L i))++[.int 1])=(Zx L n).map .int:=by unfold Zx;simp
theorem Abo {ps:List Pc} (S:SG ps):∃ (v:Int) (vs:List Int),vs.length<=40/\(∀ {Q:D->Prop},W (H0 [sD ps]) Q=Q (.lst ((v::vs).map .int)))/\(∀ {Q:D->Prop},W (D5 [sD ps]) Q=Q (.lst ((v::vs).map .int)))/\∀ {Q:D->Prop},W (Lp [sD ps]) Q=Q (.int v):=by
 obtain⟨d1,w1,ds,e1,l0,lr⟩:=Xm S
 obtain⟨d2,w2,rs,e2,r0,rr⟩:=Ut S
 have h40:=S.len
 have eq:=Abx S.sr (L:=Ln ds) (R:=Rn rs) (by rw[l0,r0]) lr rr
 have el:Zx (Rn rs) ps.length=Zx (Ln ds) ps.length:=by
  unfold Zx
  rw[List.map_congr_left fun i hi'=>(eq i (by rw[Ati] at hi';lia)).symm]
 rw[R5] at e1
 rw[R5,el] at e2
 have ll:(Zx (Ln ds) ps.length).length=ps.length+1:=by simp[Zx]
 match hv:Zx (Ln ds) ps.length,ll with
 |v::vs,ll =>
  rw[hv] at e1 e2
  have hp:∀ {Q:D->Prop},W (D5 [sD ps]) Q=Q (.lst ((v::vs).map .int)):=W.eq ⟨d2,w2,e2⟩
  refine⟨v,vs,by simp at ll;lia,W.eq ⟨d1,w1,e1⟩,hp,W.eq ?_⟩
  unfold Lp Ach
  rw[Bg]
  simp_arith[hp]
  rw[Dr (by rw[A7,A0 fun _=>Bj];rfl)]
  array_get_dec
theorem law_true (ns:List Int) (hl:ns.length<=63):Gn [.kl (ns.map .int)]=some (.bl true):=W.out <| by
 unfold Gn Ab9
 rw[Bg]
 have hc:=Rx (xs:=ns) (lo:=none) (hi:=some 20)
 array_get_dec
 refine⟨⟨by split<;>lia,by split<;>lia⟩,?_⟩
 generalize hN:(if ((C8 ns none (some 20)).length:Int) > 3 then ((C8 ns none (some 20)).length:Int) else 3).toNat=N
 have hN63:N<=63:=by rw[<- hN];split<;>lia
 refine D4 (fun k e M=>∃ a b c d,e=[some (.kl (ns.map .int)),a,b,c,d]) ?_ ?_ ⟨_,_,_,_,rfl⟩
 ·rintro k e M hk ⟨u1,u2,u3,u4,rfl⟩
  refine⟨trivial,?_⟩
  rw[Ao3]
  refine Ax (fun e m=>∃ ps,SG ps/\m=M/\e=[some (.kl (ns.map .int)),some (.int (0+(k:Int))),some (sD ps),u3,u4]) ?_ ?_
  ·array_get_dec
   refine (Abp ns hl _ (by lia) (by lia)).imp fun d ⟨c,e⟩=>?_
   subst e
   array_get_dec
   refine (Xy c).imp fun d ⟨ps,e,S⟩=>?_
   subst e
   exact⟨_,_,rfl,ps,S,rfl,rfl⟩
  rintro e M ⟨ps,S,rfl,rfl⟩
  refine Ax (fun e m=>∃ ps,SG ps/\m=M/\e=[some (.kl (ns.map .int)),some (.int (0+(k:Int))),some (sD ps),u3,u4]) ?_ ?_
  ·array_get_dec
   refine cK.mk (fun _=>⟨_,_,rfl,ps.take 12,Afd S 12,rfl,?_⟩) fun _=>⟨_,_,rfl,ps,S,rfl,rfl⟩
   rw[show C8 ps none (some 12)=ps.take 12 from Zt (n:=12)]
  rintro e M ⟨ps,S,rfl,rfl⟩
  obtain⟨v,vs,vl,hd,hp,hq⟩:=Abo S
  have dql:deq (.lst (D.int v::vs.map .int)) (.lst (D.int v::vs.map .int))=true:=by
   have:=Jg (f:=D.int) (fun x y=>Bp) (v::vs) (v::vs)
   rw[Ar5 rfl] at this
   exact this
  have dpl:dep (.lst (D.int v::vs.map .int))<=60:=by
   have h:Da (D.int v::vs.map .int)<=0:=Ci fun d hd=>by
    obtain⟨x,_,rfl⟩:=List.mem_map.mp (show d∈(v::vs).map D.int from hd)
    rw[B1];exact Aq5 _
   rw[dep];lia
  have nl:Ay (D.int v::vs.map .int)=true:=by rw[A7,A0 fun _=>Bj];rfl
  have nr:Ar (D.int v::vs.map .int)=true:=B2 nl
  refine Ax (fun e m=>m=M/\e=[some (.kl (ns.map .int)),some (.int (0+(k:Int))),some (sD ps),some (.lst ((v::vs).map .int)),u4]) ?_ ?_
  ·simp_arith[hd]
   rw[Dr nl]
   exact⟨_,_,rfl,rfl,rfl⟩
  rintro e M ⟨rfl,rfl⟩
  refine Ax (fun e m=>m=M++[.lst ((v::vs).map .int)]/\e=[some (.kl (ns.map .int)),some (.int (0+(k:Int))),some (sD ps),some (.lst ((v::vs).map .int)),some (.ref M.length)]) ?_ ?_
  ·simp_arith[hp]
   rw[Dr nl]
   exact⟨_,_,rfl,rfl,rfl⟩
  rintro e m ⟨rfl,rfl⟩
  refine Ax (fun e m=>m=M++[.lst ((v::vs).map .int)]/\e=[some (.kl (ns.map .int)),some (.int (0+(k:Int))),some (sD ps),some (.lst ((v::vs).map .int)),some (.ref M.length)]) ?_ ?_
  ·simp_arith[tyE,sqA,eq_self,Atc]
   refine⟨nr,nr,dpl,?_⟩
   rw[dql]
   array_get_dec
   refine⟨⟨by simp,by lia⟩,?_⟩
   refine C9 (fun _=>false) D.int (fun x hx=>?_) ?_
   ·array_get_dec
    exact fun h=>absurd h (by decide)
   ·rw[show vs.filter (fun _=>false)=[] from List.filter_eq_nil_iff.mpr fun _ _=>Arc]
    array_get_dec
    exact cK.mk (fun h=>absurd h (by decide)) fun _=>⟨_,_,rfl,rfl,rfl⟩
  rintro e m ⟨rfl,rfl⟩
  refine Ax (fun e m=>∃ M2,m=M2/\e=[some (.kl (ns.map .int)),some (.int (0+(k:Int))),some (sD ps),some (.lst ((v::vs).map .int)),some (.ref M.length)]) ?_ ?_
  ·simp_arith[sqA,Aqk]
   exact⟨by lia,_,_,rfl,_,rfl,rfl⟩
  rintro e m ⟨M2,rfl,rfl⟩
  simp_arith[hp,hq]
  rw[Dr nl]
  array_get_dec
  refine⟨nr,nr,dpl,?_⟩
  rw[dql]
  array_get_dec
  exact⟨_,_,_,_,rfl⟩
 ·rintro e m ⟨a,b,c,d,rfl⟩
  refine⟨trivial,?_⟩
  rw[G9]
  array_get_dec
end K32a
end S_XA
section S_K32h
namespace K32a
open PySem L2 L2.ML
noncomputable section
theorem all_mk {l:W.OpenLaw}{w:World}{K:W.Frag}{h:Heap}{mg:Str->Option Value}{fa:Addr} (X:K.In h) (G:h.Ns mainGlobals mg) (hfa:mg "law"=some (.ref fa))
  (f0:FM K "next_make" Akq)
  (f1:FM K "middle_end" Ako)
  (f2:FM K "great_end" Akr)
  (f3:FM K "make_ahead" Akp)
  (f4:FM K "low_term" Aar)
  (f5:FM K "high_term" Aks)
  (f6:FM K "range_terms" Akn)
  (f7:FM K "is_hole_behind" Akm)
  (f8:FM K "run_words" Akt)
  (f9:FM K "run_lasts" Aku)
  (f10:FM K "best_runs" Akv)
  (f11:FM K "prices" Aat)
  (f12:FM K "price" Aax)
  (f13:FM K "_law_cell" Aay)
  (f14:FM K "_law_draws" Aau)
  (f15:FM K "_law_make" Aaz)
  (f16:FM K "_law_next" Aa0)
  (f17:FM K "_law_key" Aa5)
  (f18:FM K "_law_ladder" Aas)
  (f19:FM K "_law_ends" Aa1)
  (f20:FM K "_law_far" Aa6)
  (f21:FM K "_law_span" Aa2)
  (f22:FM K "_law_great" Aav)
  (f23:FM K "_law_hull" Aa3)
  (f24:FM K "_law_apart" Aaw)
  (f25:FM K "_law_dues" Aa4)
  {a_law:Addr}{oc_law kV_law dc_law pm_law cd_law ct_law:Value}{od_law an_law:Option Addr}{sl_law:Array (Option Value)} (n_law:W.nsIn K mainGlobals "law"=some (some (.ref a_law))) (l_law:K.lookup a_law=some ⟨oc_law,od_law,.func (W.fnOf "law" "law" (Du Mo) (Cc Mo) (A6 Mo) .none kV_law dc_law pm_law an_law cd_law ct_law),sl_law⟩) (c_law:W.codeIn K cd_law "law"=true) (k_law:W.keepIn K (.ref a_law)=true)
  {u_OLDEST:Addr} (n_OLDEST:W.nsIn K mainGlobals "OLDEST"=some (some (.ref u_OLDEST))) {t_OLDEST_0 t_OLDEST_1 t_OLDEST_2:Tok}{u_OLDEST_3:Addr}{nn_OLDEST:Nat}{sl_OLDEST:Array (Option Value)} (q_OLDEST:K.lookup u_OLDEST=some ⟨.type "tuple",none,.seq #[.int 0 t_OLDEST_0,.int 0 t_OLDEST_1,.int 0 t_OLDEST_2,.ref u_OLDEST_3] nn_OLDEST,sl_OLDEST⟩)
  {t_OLDEST_3_0:Tok}{nn_OLDEST_3:Nat}{sl_OLDEST_3:Array (Option Value)} (q_OLDEST_3:K.lookup u_OLDEST_3=some ⟨.type "tuple",none,.seq #[.int 0 t_OLDEST_3_0] nn_OLDEST_3,sl_OLDEST_3⟩)
  (z_bool:W.nsIn K mainGlobals "bool"=some none)
  (z_dict:W.nsIn K mainGlobals "dict"=some none)
  (z_enumerate:W.nsIn K mainGlobals "enumerate"=some none)
  (z_int:W.nsIn K mainGlobals "int"=some none)
  (z_isinstance:W.nsIn K mainGlobals "isinstance"=some none)
  (z_len:W.nsIn K mainGlobals "len"=some none)
  (z_list:W.nsIn K mainGlobals "list"=some none)
  (z_max:W.nsIn K mainGlobals "max"=some none)
  (z_min:W.nsIn K mainGlobals "min"=some none)
  (z_range:W.nsIn K mainGlobals "range"=some none)
  (z_sorted:W.nsIn K mainGlobals "sorted"=some none)
  (z_str:W.nsIn K mainGlobals "str"=some none)
  (z_tuple:W.nsIn K mainGlobals "tuple"=some none) :
  ∃ fd:FuncData,(∀ (s:Shared) (v:Value),BindsTo s fd ⟨[v],[]⟩ [("_law_script",v)])/\∀ base:Heap,K.In base->base.Ns mainGlobals mg->FnOk l.prog w K mg base CX0 8 fa fd ["_law_script"] (spP K 1 Gn):=by
 have e:=hfa.symm.trans (W.mg_of X G n_law)
 cases e
 have T:Txt K mg :=⟨Ahk X G n_OLDEST fun H=>(Aj8 (vs:=[.int 0,.int 0,.int 0,.ref _]) q_OLDEST (by simp) (.cons ⟨_,rfl⟩ (.cons ⟨_,rfl⟩ (.cons ⟨_,rfl⟩ (.cons rfl .nil)))) (.cons (.int _) (.cons (.int _) (.cons (.int _) (.cons (Aj8 (vs:=[.int 0]) q_OLDEST_3 (by simp) (.cons ⟨_,rfl⟩ .nil) (.cons (.int _) .nil)) .nil))))),f0.fd1 X G,f1.fd1 X G,f2.fd1 X G,f3.fd1 X G,f4.fd1 X G,f5.fd1 X G,f6.fd2 X G,f7.fd2 X G,f8.fd3 X G,f9.fd4 X G,f10.fd1 X G,f11.fd1 X G,f12.fd1 X G,f13.fd2 X G,f14.fd2 X G,f15.fd1 X G,f16.fd1 X G,f17.fd1 X G,f18.fd1 X G,f19.fd1 X G,f20.fd3 X G,f21.fd1 X G,f22.fd1 X G,f23.fd2 X G,f24.fd2 X G,f25.fd1 X G⟩
 have B:Blt mg:=⟨W.mg_none_of X G z_bool,W.mg_none_of X G z_dict,W.mg_none_of X G z_enumerate,W.mg_none_of X G z_int,W.mg_none_of X G z_isinstance,W.mg_none_of X G z_len,W.mg_none_of X G z_list,W.mg_none_of X G z_max,W.mg_none_of X G z_min,W.mg_none_of X G z_range,W.mg_none_of X G z_sorted,W.mg_none_of X G z_str,W.mg_none_of X G z_tuple⟩
 exact⟨_,fun s v=>.of_eq rfl,fun base _ _=>Aia T B (Z4 l_law c_law k_law)⟩
theorem Mh {K:W.Frag}{H:Hp}{μ:List Addr}{B:Addr->Prop}:∀ ns:List Int,Reps K H μ B (ns.map D.int) (ns.map V.int)
 |[]=>.nil
 |n::ns=>.cons (.int n) (Mh ns)
theorem walk {l:W.OpenLaw}{q:Program}{loose:List Str}{XP:(Str->Option Value)->Heap->Prop}{YP:World->Heap->Prop}{d:DefRec}{K:Params->W.Frag} (hn:l.most=some 63) (hdf:d.params.defaults=[])
  (hY:∀ (w:World) (h:Heap),YP w h->(K w.params).In h)
  (F:∀ (w:World) (mg:Str->Option Value) (fa:Addr) (h:Heap),(K w.params).In h->h.Ns mainGlobals mg->mg d.name=some (.ref fa) ->
   ∃ fd:FuncData,(∀ (s:Shared) (u:Value),BindsTo s fd ⟨[u],[]⟩ [("_law_script",u)])/\∀ base:Heap,(K w.params).In base->base.Ns mainGlobals mg->FnOk l.prog w (K w.params) mg base CX0 8 fa fd ["_law_script"] (spP (K w.params) 1 Gn)) :
  W.WalkO q loose XP YP l.row.toRowW d [] (fun f vs=>PySem.call f vs) :=
 L2.walk_of (n:=63) (k:=8) (x:="_law_script") (CX:=fun _=>CX0) (sp:=fun w=>spP (K w.params) 1 Gn) hn (by decide) hdf ⟨rfl,by decide,by decide⟩ hY F
  (fun w H a ns hl hO hS=>⟨[.kl (ns.map D.int)],.bl true,.cons (.kl (by
    rcases hS with (h|h)|h
    ·rcases hO a with z|⟨o,xs,z⟩<;>rw[z] at h<;>cases h
    ·exact .inl h
    ·exact .inr h) (Mh ns)) .nil,rfl,law_true ns hl,fun v H' _ r=>by cases r;rfl⟩) fun _ _ _ _ _ z=>z
end
end K32a
namespace PySem.W.Fast
def tw10183592097273565944:=()
def tw10274592113797949188:=()
def tw10275571329052482299:=()
def tw10304586634157091102:=()
def tw10596723912632089467:=()
def tw10702151269769238792:=()
def tw10772909149760866744:=()
def tw10788965544180945110:=()
def tw10849985201498378481:=()
def tw10924951669838705354:=()
def tw10929100646621221837:=()
def tw11083161462289941932:=()
def tw11180336128233280975:=()
def tw11183127427627890616:=()
def tw11254300433596868116:=()
def tw11321011530775069794:=()
def tw11332149750291175109:=()
def tw11430415087691295419:=()
def tw1144292329882487902:=()
def tw11518606015859469126:=()
def tw11652239727853496647:=()
def tw11708846933919638314:=()
def tw11750971250918717448:=()
def tw11851682280358266776:=()
def tw1191313685072147522:=()
def tw11936432936108255464:=()
def tw11942219539518005592:=()
def tw11951786664880263036:=()
def tw11983189240132263840:=()
def tw12054339326504576540:=()
def tw12056223814649215270:=()
def tw12079368891395160280:=()
def tw1226588041432548860:=()
def tw12299082074083085094:=()
def tw12389457342851672518:=()
def tw12424994467738362354:=()
def tw12509308689953532187:=()
def tw12533504027523617205:=()
def tw12539366010512721370:=()
def tw12912172152469788588:=()
def tw13010793557509917666:=()
def tw13269772428985083620:=()
def tw13343039647609567600:=()
def tw13434214253704501863:=()
def tw13520083136493044501:=()
def tw13563420027369235033:=()
def tw13829888310839041279:=()
def tw13846973801226142243:=()
def tw13917687413897222028:=()
def tw14011985490494008602:=()
def tw1406798686815267142:=()
def tw14556945779716525888:=()
def tw14571829139434629085:=()
def tw1459542376094892528:=()
def tw14598139250574858680:=()
def tw14755380046751690967:=()
def tw14778723728669199247:=()
def tw15016169764885454915:=()
def tw15118013584906720150:=()
def tw15215864875993908899:=()
def tw15220323761901971051:=()
def tw1527673497099059237:=()
def tw15285371783427823788:=()
def tw15359213716516606383:=()
def tw15380418922743546667:=()
def tw15730942757951686429:=()
def tw15732362882630032634:=()
def tw15767524697354089169:=()
def tw15889666721402442813:=()
def tw15896338862421552656:=()
def tw15956392373404853034:=()
def tw16177204237505160308:=()
def tw16309420725022285866:=()
def tw16515986254762190025:=()
def tw16567621955785082129:=()
def tw1664561572601049061:=()
def tw16791138240281391171:=()
def tw16840969255964434925:=()
def tw16887088901745417533:=()
def tw16908590658459723479:=()
def tw17208921906846094534:=()
def tw17233962671988917620:=()
def tw17581697361731729969:=()
def tw17608429972323182838:=()
def tw177011764565251441:=()
def tw17928356152431129736:=()
def tw17973680672679255467:=()
def tw17989676769159473126:=()
def tw17990813220561439141:=()
def tw17996443135770548580:=()
def tw18029623472778954216:=()
def tw18086441397806946201:=()
def tw1813029736118980134:=()
def tw18148093891339997504:=()
def tw18203328403872883465:=()
def tw18258407001748301677:=()
def tw18320617283751026258:=()
def tw1846033661171161481:=()
def tw1934576661987779763:=()
def tw1947183901661173141:=()
def tw2029870085087670908:=()
def tw2182838551546823617:=()
def tw2220277580377222186:=()
def tw2222254303788886896:=()
def tw2293965954549509784:=()
def tw2327398908320868282:=()
def tw2482135575399427520:=()
def tw2551647757678067709:=()
def tw2881637739414445215:=()
def tw2946835207122895279:=()
def tw3027750763755366405:=()
def tw3109042521484722391:=()
def tw3514594858409785546:=()
def tw3594978754315347828:=()
def tw3785712664209396175:=()
def tw397307275939135077:=()
def tw4171129051438399365:=()
def tw4334904043799562749:=()
def tw4401937301123910413:=()
def tw4486324860358408107:=()
def tw4573635267950788801:=()
def tw4707206683850645019:=()
def tw4728911488492835232:=()
def tw4805659043246975627:=()
def tw496799989688954972:=()
def tw5157675221716751350:=()
def tw5201338112093353633:=()
def tw5487658154884934845:=()
def tw5647174096269496277:=()
def tw5822160998301657632:=()
def tw5894966509067966119:=()
def tw5997313458048860070:=()
def tw6007040096706577755:=()
def tw6111658038781015226:=()
def tw6304432260217370292:=()
def tw6321804298294810053:=()
def tw653151362056485393:=()
def tw6581880154532226784:=()
def tw662109362567639668:=()
def tw6631714202920610560:=()
def tw6686931989367437261:=()
def tw6865462480163964215:=()
def tw7107867630902488309:=()
def tw7190976306005319915:=()
def tw7291352232099468540:=()
def tw7465699170043385213:=()
def tw7525799821489045724:=()
def tw7682736322304409656:=()
def tw7785347824069289279:=()
def tw8012295891518770798:=()
def tw8145293530849627582:=()
def tw8269452030166170014:=()
def tw8311296971321744665:=()
def tw8786420521406383039:=()
def tw8805721995381887582:=()
def tw9018338921897239354:=()
def tw9112604065750475189:=()
def tw91405967621338931:=()
def tw9204985456244030611:=()
def tw9219880605220412306:=()
def tw9290055701390361523:=()
def tw9302418913849092111:=()
def tw9367145514293809936:=()
def tw9428057029654391513:=()
def tw9503714679387992303:=()
def tw9604601955927482893:=()
def tw9625664597359662622:=()
def tw9687368475524885747:=()
def tw9700691476283914888:=()
def tw9762043779785643541:=()
def tw988335840827650224:=()
def tw9929244363848222257:=()
end PySem.W.Fast
open PySem PySem.W PyProof.Rows
set_option maxRecDepth 100000 in
set_option maxHeartbeats 0 in
theorem PySem.Challenge.cw_stretchbook_k32_prices_holds : PySem.Challenge.rw_stretchbook_k32_prices.Holds := by
 w_on;o_law;k_head;(case hw=>w_witness2)
 k_fill
 refine K32a.walk (l:=PySem.Challenge.rw_stretchbook_k32_prices) rfl rfl (fun w h Y=>W.kIn_of Y) ?F
 case F =>
  intro w mg fa h KX G hmg
  refine' K32a.all_mk KX G hmg (L2.ML.fm_mk ?n0 ?l0 ?c0 ?k0) (L2.ML.fm_mk ?n1 ?l1 ?c1 ?k1) (L2.ML.fm_mk ?n2 ?l2 ?c2 ?k2) (L2.ML.fm_mk ?n3 ?l3 ?c3 ?k3) (L2.ML.fm_mk ?n4 ?l4 ?c4 ?k4) (L2.ML.fm_mk ?n5 ?l5 ?c5 ?k5) (L2.ML.fm_mk ?n6 ?l6 ?c6 ?k6) (L2.ML.fm_mk ?n7 ?l7 ?c7 ?k7) (L2.ML.fm_mk ?n8 ?l8 ?c8 ?k8) (L2.ML.fm_mk ?n9 ?l9 ?c9 ?k9) (L2.ML.fm_mk ?n10 ?l10 ?c10 ?k10) (L2.ML.fm_mk ?n11 ?l11 ?c11 ?k11) (L2.ML.fm_mk ?n12 ?l12 ?c12 ?k12) (L2.ML.fm_mk ?n13 ?l13 ?c13 ?k13) (L2.ML.fm_mk ?n14 ?l14 ?c14 ?k14) (L2.ML.fm_mk ?n15 ?l15 ?c15 ?k15) (L2.ML.fm_mk ?n16 ?l16 ?c16 ?k16) (L2.ML.fm_mk ?n17 ?l17 ?c17 ?k17) (L2.ML.fm_mk ?n18 ?l18 ?c18 ?k18) (L2.ML.fm_mk ?n19 ?l19 ?c19 ?k19) (L2.ML.fm_mk ?n20 ?l20 ?c20 ?k20) (L2.ML.fm_mk ?n21 ?l21 ?c21 ?k21) (L2.ML.fm_mk ?n22 ?l22 ?c22 ?k22) (L2.ML.fm_mk ?n23 ?l23 ?c23 ?k23) (L2.ML.fm_mk ?n24 ?l24 ?c24 ?k24) (L2.ML.fm_mk ?n25 ?l25 ?c25 ?k25) ?n26 ?l26 ?c26 ?k26 ?n_OLDEST ?q_OLDEST ?q_OLDEST_3 ?z_bool ?z_dict ?z_enumerate ?z_int ?z_isinstance ?z_len ?z_list ?z_max ?z_min ?z_range ?z_sorted ?z_str ?z_tuple
  case n0|l0|c0|k0|n1|l1|c1|k1|n2|l2|c2|k2|n3|l3|c3|k3|n4|l4|c4|k4|n5|l5|c5|k5|n6|l6|c6|k6|n7|l7|c7|k7|n8|l8|c8|k8|n9|l9|c9|k9|n10|l10|c10|k10|n11|l11|c11|k11|n12|l12|c12|k12|n13|l13|c13|k13|n14|l14|c14|k14|n15|l15|c15|k15|n16|l16|c16|k16|n17|l17|c17|k17|n18|l18|c18|k18|n19|l19|c19|k19|n20|l20|c20|k20|n21|l21|c21|k21|n22|l22|c22|k22|n23|l23|c23|k23|n24|l24|c24|k24|n25|l25|c25|k25|n26|l26|c26|k26|n_OLDEST|q_OLDEST|q_OLDEST_3|z_bool|z_dict|z_enumerate|z_int|z_isinstance|z_len|z_list|z_max|z_min|z_range|z_sorted|z_str|z_tuple=>k_is
end S_K32h
