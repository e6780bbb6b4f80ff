import PyProof.Rows.All
import Wide.All
import OpenK.AllK
import Wide.FinOn
import PyProof.P3Eq
import PyProof.TupleKey
import PyProof.DictRoadsH
import PyProof.Rows.RowHeap
import Lean
import PyProof.EqAt
import PyProof.EqKinds
import PyProof.TupleCall
import KE.KDflt
import PyProof.NeData
import PyProof.ConsumeWalk
import PyProof.CompFree
import PyProof.StrWalks
import PyProof.Rows.ListMul
import PyProof.MinMaxWalk
import PyProof.WalkInts
import PyProof.SeqI3
import PyProof.WalksMore
import PyProof.Rows.Range3
import PyProof.Rows.TupTab
import KE.KRevIter
import PyProof.ListRange
import KE.KSortTup
import PyProof.Rows.StrNews2
import PyProof.Rows.StrJoin2
import KE.KNestM
import KE.KDictSum
import PyProof.Rows.EnumRows
import PyProof.ZipIter
import KE.KSortAsk
import PyProof.Rows.SetFrom
import PyProof.Rows.SortStr
import PyProof.SetRoads
import KE.KDictOf
import PyProof.AttrMissHeap
import OpenK.KRaise
import KE.KTryMore
import PyProof.Rows.Catch
import PyProof.NsDelKeeps
import KE.KIsAll
import PyProof.ExcArgsOwn
import OpenK.KOwn
import PyProof.ExcClass3
import PyProof.ExcBaseAll.ValueError
import PyProof.Rows.FStr
import PyProof.StrOps2
import PyProof.FString5
import KE.KMinKey
import PyProof.TupleOfSeq
import KE.IntTextLaws
import PyProof.Rows.StrFirst
import PyProof.Rows.StrJoinMade
import PyProof.Rows.StrWeight2
import PyProof.Rows.CatFin
import PySem.Challenge.RW_stretchbook_k61_whole_no_book_ahead
set_option Elab.async false
set_option compiler.extract_closed false
set_option linter.all false
set_option maxRecDepth 100000
set_option maxHeartbeats 4000000
abbrev Azc:=@PySem.wpAny_bind
abbrev Azd:=@List.mem_append_right
abbrev Aze:=@PySem.Heap.get?_push_of_some
abbrev Azf:=@List.mem_cons_of_mem
abbrev Azg:=@List.mem_cons_self
abbrev Azh:=@List.size_toArray
abbrev Azi:=@PySem.wpAny_pure
abbrev Azj:=@PySem.Heap.lt_size
abbrev Azk:=@List.getD_eq_getElem?_getD
abbrev Azl:=@List.getElem?_eq_getElem
abbrev Azm:=@List.map_cons
abbrev Azn:=@Nat.le_refl
abbrev Azo:=@List.length_cons
abbrev Azp:=@if_pos
abbrev Azq:=@PySem.Heap.get?_push_size
abbrev Azr:=@List.length_map
abbrev Azs:=@if_neg
abbrev Azt:=@Nat.lt_of_lt_of_le
abbrev Azu:=@PySem.Heap.get?_update_other
abbrev Azv:=@Option.bind_some
abbrev Azw:=@List.mem_append_left
abbrev Azx:=@List.length_append
abbrev Azy:=@Nat.le_trans
abbrev Azz:=@List.getElem?_append_left
abbrev Az0:=@Bool.and_eq_true
abbrev Az1:=@Nat.ne_of_lt
abbrev Az2:=@List.append_nil
abbrev Az3:=@List.getElem?_map
abbrev Az4:=@PySem.PassesOwn.never
abbrev Az5:=@Nat.zero_le
abbrev Az6:=@decide_eq_false
abbrev Az7:=@Bool.false_ne_true
abbrev Az8:=@List.mem_of_getElem?
abbrev Az9:=@Nat.lt_irrefl
abbrev Baa:=@of_decide_eq_true
abbrev Bab:=@List.getElem?_eq_none
abbrev Bac:=@PySem.mem_of_lookup
abbrev Bad:=@PySem.wpAny_ite_split
abbrev Bae:=@PySem.wpAny_Call_Name_kw
abbrev Baf:=@Bool.false_eq_true
abbrev Bag:=@Option.some.inj
abbrev Bah:=@PySem.wpAny_holding
abbrev Bai:=@PySem.builtinLookup_eq_fast
abbrev Baj:=@List.getElem?_append_right
abbrev Bak:=@Ne.symm
abbrev Bal:=@PySem.wpAny_mono
abbrev Bam:=@PySem.MeetsSeq3.plain_eq_loop
abbrev Ban:=@List.all_cons
abbrev Bao:=@Nat.ne_of_gt
abbrev Bap:=@List.not_mem_nil
abbrev Baq:=@List.getElem_mem
abbrev Bar:=@List.cons_append
abbrev Bas:=@PySem.sizeLine_eq
abbrev Bat:=@decide_eq_true_eq
abbrev Bau:=@List.drop_eq_getElem_cons
abbrev Bav:=@List.map_append
abbrev Baw:=@PySem.wpAny_newObj_type
abbrev Bax:=@PySem.wpAny_specialOf
abbrev Bay:=@PySem.Heap.get?_update_self
abbrev Baz:=@List.getElem?_cons_succ
abbrev Ba0:=@List.any_cons
abbrev Ba1:=@PySem.wpAny_call_entry
abbrev Ba2:=@List.find?_cons
abbrev Ba3:=@Bool.eq_iff_iff
abbrev Ba4:=@congrArg
abbrev Ba5:=@PySem.wpAny_truthy_bool
abbrev Ba6:=@List.lookup_cons
abbrev Ba7:=@List.length_take
abbrev Ba8:=@PySem.typeLookup_type
abbrev Ba9:=@Nat.le_of_lt
abbrev Bba:=@List.mem_cons
abbrev Bbb:=@List.map_nil
abbrev Bbc:=@if_true
abbrev Bbd:=@decide_eq_true
abbrev Bbe:=@List.nodup_nil
abbrev Bbf:=@Nat.lt_succ_of_lt
abbrev Bbg:=@PySem.wpAny_seqItems
abbrev Bbh:=@List.map_map
abbrev Bbi:=@List.pairwise_singleton
abbrev Bbj:=@List.getElem?_replicate
abbrev Bbk:=@Array.length_toList
abbrev Bbl:=@PySem.wpAny_updateSeq
abbrev Bbm:=@List.getElem?_set_self
abbrev Bbn:=@if_false
abbrev Bbo:=@List.length_nil
abbrev Bbp:=@List.getElem?_of_mem
abbrev Bbq:=@PySem.wpAny_passesOwn
abbrev Bbr:=@PySem.wpAny_of_eq
abbrev Bbs:=@PySem.wpAny_field
abbrev Bbt:=@Or.inl
abbrev Bbu:=@Nat.le_succ
abbrev Bbv:=@PySem.Heap.size_push
abbrev Bbw:=@PySem.wpAny_typeOf
abbrev Bbx:=@List.take_of_length_le
abbrev Bby:=@List.drop_eq_nil_of_le
abbrev Bbz:=@List.flatMap_cons
abbrev Bb0:=@PySem.wpAny_getItem_str_slice
abbrev Bb1:=@PySem.wpAny_callSpecial?_slot
abbrev Bb2:=@List.getElem?_set_ne
abbrev Bb3:=@PySem.isSubtype_type
abbrev Bb4:=@propext
abbrev Bb5:=@Nat.not_lt_zero
abbrev Bb6:=@List.nil_append
abbrev Bb7:=@List.mem_map_of_mem
abbrev Bb8:=@PyProof.Rows.KeyOrd.kle_refl
abbrev Bb9:=@PySem.wpAny_isInstance
abbrev Bca:=@Option.isSome_some
abbrev Bcb:=@Classical.byContradiction
abbrev Bcc:=@Array.getElem?_eq_getElem
abbrev Bcd:=@List.reverse_cons
abbrev Bce:=@decide_eq_decide
abbrev Bcf:=@PySem.Obj.data_mapFields
abbrev Bcg:=@Nat.lt_succ_self
abbrev Bch:=@List.all_eq_true
abbrev Bci:=@List.sizeOf_lt_of_mem
abbrev Bcj:=@List.of_mem_zip
abbrev Bck:=@List.nodup_cons
abbrev Bcl:=@List.length_singleton
noncomputable section
set_option tactic.hygienic false
section S_KTree
namespace L2
open PySem PySem.Spec
noncomputable instance pdDec:DecidableEq PyData:=fun _ _=>Classical.propDecidable _
mutual
def kOk:PyData->Bool
 |.int _=>true
 |.str x=>PyData.strOk x
 |.tuple ds=>V9 ds
 |_=>false
def V9:List PyData->Bool
 |[]=>true
 |d::ds=>kOk d&&V9 ds
def Rz (w:World):PyData->Int
 |.int i=>hashInt i
 |.str x=>hashStr w x
 |.tuple ds=>reduceHash (Builtin.Tuple.tupleHashOf (Ca w ds))
 |_=>0
def Ca (w:World):List PyData->List Int
 |[]=>[]
 |d::ds=>Rz w d::Ca w ds
def Ju:PyData->Nat
 |.tuple ds=>Cn ds+1
 |_=>1
def Cn:List PyData->Nat
 |[]=>0
 |d::ds=>Ju d+Cn ds
def Aci:PyData->Nat
 |.tuple ds=>V8 ds+1
 |_=>0
def V8:List PyData->Nat
 |[]=>0
 |d::ds=>max (Aci d) (V8 ds)
end
mutual
theorem Nm:∀ {d:PyData},kOk d=true->d.canLay0=true
 |.int _,_=>by simp[PyData.canLay0]
 |.str x,h=>by rw[kOk] at h;simp[PyData.canLay0,h]
 |.tuple ds,h=>by rw[kOk] at h;rw[PyData.canLay0];exact Up h
 |.none,h=>by simp[kOk] at h
 |.bool _,h=>by simp[kOk] at h
 |.list _,h=>by simp[kOk] at h
 |.dict _,h=>by simp[kOk] at h
theorem Up:∀ {ds:List PyData},V9 ds=true->PyData.canLayAll0 ds=true
 |[],_=>by simp[PyData.canLayAll0]
 |d::ds,h=>by
  rw[V9,Az0] at h
  simp[PyData.canLayAll0,Nm h.1,Up h.2]
end
set_option tactic.hygienic true in
mutual
theorem Apk:∀ {d e:PyData},kOk d=true->kOk e=true->PyData.eqv d e=decide (d=e)
 |.int i,e,h,h'=>by
  cases e<;>first|(simp[kOk] at h';done)|(simp[PyData.eqv];done)|(rename_i j;simp[PyData.eqv];by_cases q:i=j<;>simp[q])
 |.str x,e,h,h'=>by
  cases e<;>first|(simp[kOk] at h';done)|(simp[PyData.eqv];done)|(rename_i j;simp[PyData.eqv];by_cases q:x=j<;>simp[q])
 |.tuple ds,e,h,h'=>by
  cases e<;>first|(simp[kOk] at h';done)|(simp[PyData.eqv];done)|skip
  rename_i es
  rw[kOk] at h h'
  rw[PyData.eqv,Age h h',Bce]
  constructor
  ·intro e;rw[e]
  ·intro e;injection e
 |.none,_,h,_=>by simp[kOk] at h
 |.bool _,_,h,_=>by simp[kOk] at h
 |.list _,_,h,_=>by simp[kOk] at h
 |.dict _,_,h,_=>by simp[kOk] at h
theorem Age:∀ {ds es:List PyData},V9 ds=true->V9 es=true->PyData.eqvAll ds es=decide (ds=es)
 |[],[],_,_=>by simp[PyData.eqvAll]
 |[],e::es,_,_=>by simp[PyData.eqvAll]
 |d::ds,[],_,_=>by simp[PyData.eqvAll]
 |d::ds,e::es,h,h'=>by
  rw[V9,Az0] at h h'
  rw[PyData.eqvAll,Apk h.1 h'.1,Age h.2 h'.2]
  by_cases q1:d=e<;>by_cases q2:ds=es<;>simp[q1,q2]
end
section
variable {prog:Program}{w:World}
structure HashK (prog:Program) (w:World) (d:PyData):Prop where
 out:∀ {A:Around}{E:Value->Shared->Prop}{s:Shared}{v:Value}{as:List Addr}{Q:Int->Shared->Prop},kOk d=true->A.units+Aci d < cLine->Reads s.heap v d as->Q (Rz w d) { s with toks:=s.toks+Ju d }->wpAny (model prog w) A (pyHash v) Q E s
theorem Nl {d:PyData}:∀ {ds:List PyData},d∈ds->Aci d<=V8 ds
 |e::ds,h=>by
  rw[V8]
  rcases List.mem_cons.mp h with rfl|h
  ·lia
  ·have:=Nl h;lia
theorem Nn {d:PyData}:∀ {ds:List PyData},V9 ds=true->d∈ds->kOk d=true
 |e::ds,h,hm=>by
  rw[V9,Az0] at h
  rcases List.mem_cons.mp hm with rfl|hm
  ·exact h.1
  ·exact Nn h.2 hm
theorem Ez:∀ (xs ys:List PyData),Ca w (xs++ys)=Ca w xs++Ca w ys
 |[],ys=>by rw[Ca];rfl
 |x::xs,ys=>by rw[Bar,Ca,Ca,Ez xs ys];rfl
theorem Ey:∀ (xs ys:List PyData),Cn (xs++ys)=Cn xs+Cn ys
 |[],ys=>by simp[Cn]
 |x::xs,ys=>by rw[Bar,Cn,Cn,Ey xs ys];lia
theorem V5 (ih:∀ d∈ds,HashK prog w d):HashK prog w (.tuple ds):=by
 constructor
 intro A E s v as Q hk hu r q
 rw[kOk] at hk
 rw[Aci] at hu
 rw[Rz,Ju] at q
 cases r with
 |@tuple a o vs n xs as ho hc hd ra =>
 have hT:s.TypeIs (.ref a) "tuple":=⟨o,ho,hc⟩
 unfold pyHash
 first|unfold pyHashByItsType|skip
 first|refine Azc (wpAny_cRoomFor_or (.inr (by lia)) ?_)|skip
 refine Azc (Bax hT F.slot_tuple_hash.lookup ?_)
 show wpAny _ _ (if (some (Value.builtin "tuple.__hash__") == some Value.none)=true then _ else _) Q E s
 rw[Azs (by rw[beq_builtin_none];exact Az7)]
 refine Azc (Bax hT F.slot_tuple_hash.lookup ?_)
 show wpAny _ _ (callSpecialIfBoundUnlessNone? (.ref a) "__hash__" _ >>= _) Q E s
 refine Azc (wpAny_callSpecialIfBoundUnlessNone?_slot hT F.slot_tuple_hash (Ba1 F.slot_tuple_hash hT F.entry_tuple_hash ?_ (F.args_tuple_hash_1 _)))
 show wpAny _ _ (Builtin.Tuple.tupleItemsOf (.ref a) >>= _) _ _ s
 refine Azc (wpAny_tupleItemsOf ho hd ?_)
 refine Azc ?_
 rw[<- Array.forIn_toList]
 refine wpAny_forIn_list _
  (fun rest (b:Array Int) s'=>∃ done left bs,ds=done++left/\ReadsAll s.heap rest left bs/\b.toList=Ca w done/\s'={ s with toks:=s.toks+Cn done })
  _ ?_ ?_ _ _ ⟨[],ds,as,rfl,ra,by simp[Ca],by simp[Cn]⟩
 ·rintro x rest b s' ⟨done,left,bs,rfl,hl,hb,rfl⟩
  cases hl with
  |@cons _ _ d ds' as1 bs1 h1 hl' =>
   have hm:d∈done++d::ds':=by simp
   have hdp:=Nl hm
   refine Azc ((ih d hm).out (Nn hk hm) (by show A.units+1+_ < _;lia) h1 ?_)
   have e1:b.toList++[Rz w d]=Ca w (done++[d]):=by rw[Ez,hb,Ca,Ca]
   have e2:s.toks+Cn done+Ju d=s.toks+Cn (done++[d]):=by rw[Ey,Cn,Cn];lia
   first
    |exact Azi ⟨done++[d],ds',bs1,by simp,hl',by rw[<- e1];simp,by rw[<- e2]⟩
    |exact Azc (Azi (Azi ⟨done++[d],ds',bs1,by simp,hl',by rw[<- e1];simp,by rw[<- e2]⟩))
 ·rintro b s' ⟨done,left,bs,rfl,hl,hb,rfl⟩
  cases hl
  rw[Az2] at q
  show wpAny _ _ (retInt (Builtin.Tuple.tupleHashOf b.toList)) _ _ _
  rw[hb]
  refine wpAny_ret_mkInt ?_
  show wpAny _ _ (if (decide (-(2:Int) ^ 63<=Builtin.Tuple.tupleHashOf (Ca w done))&&decide (Builtin.Tuple.tupleHashOf (Ca w done) < 2 ^ 63))=true then _ else _) Q E _
  unfold reduceHash at q
  by_cases hr:(decide (-(2:Int) ^ 63<=Builtin.Tuple.tupleHashOf (Ca w done))&&decide (Builtin.Tuple.tupleHashOf (Ca w done) < 2 ^ 63))=true
  ·rw[Azp hr]
   rw[Azp hr] at q
   exact Azi (by simpa [Nat.add_assoc] using q)
  ·rw[Azs hr]
   rw[Azs hr] at q
   exact Azc (wpAny_rule (Azi (by simpa [Nat.add_assoc] using q)))
theorem Agh (d:PyData):HashK prog w d:=by
 match d with
 |.int i =>
  constructor
  intro A E s v as Q _ _ r q
  cases r with
  |int i t=>simp only[Rz,Ju] at q;exact wpAny_pyHash_int q
 |.str x =>
  constructor
  intro A E s v as Q _ _ r q
  cases r with
  |str x t=>simp only[Rz,Ju] at q;exact wpAny_pyHash_str q
 |.tuple ds=>exact V5 fun d hd=>Agh d
 |.none=>constructor;intro A E s v as Q h;simp[kOk] at h
 |.bool _=>constructor;intro A E s v as Q h;simp[kOk] at h
 |.list _=>constructor;intro A E s v as Q h;simp[kOk] at h
 |.dict _=>constructor;intro A E s v as Q h;simp[kOk] at h
termination_by sizeOf d
decreasing_by
 have:=Bci hd
 simp;lia
structure QuietK (prog:Program) (w:World) (d:PyData):Prop where
 out:∀ {n:Nat}{A:Around}{E:Value->Shared->Prop}{s:Shared}{v:Value}{as:List Addr}{Q:Bool->Shared->Prop},kOk d=true->Aci d<=n->Reads s.heap v d as->Q true s->wpAny (model prog w) A (eqIsQuiet n v) Q E s
theorem Ti (ih:∀ d∈ds,QuietK prog w d):QuietK prog w (.tuple ds):=by
 constructor
 intro n A E s v as Q hk hn r q
 rw[kOk] at hk
 rw[Aci] at hn
 cases r with
 |@tuple a o vs m xs as ho hc hd ra =>
 have hT:s.TypeIs (.ref a) "tuple":=⟨o,ho,hc⟩
 obtain⟨n,rfl⟩:∃ n',n=n'+1:=⟨n - 1,by lia⟩
 unfold eqIsQuiet
 refine Azc (Bax hT F.slot_tuple_eq.lookup ?_)
 show wpAny _ _ (isInstance (.ref a) (.type "tuple") >>= _) _ _ s
 refine Azc (Bb9 hT isSubtype_tuple_tuple ?_)
 simp only[Bool.not_true,Baf,Bbn]
 refine Azc (Bbg ho hd ?_)
 refine Azc ?_
 show wpAny _ _ (forIn vs _ _) _ _ s
 rw[<- Array.forIn_toList]
 refine wpAny_forIn_list _ (fun rest r s'=>r.1=none/\s'=s/\∃ left bs,ReadsAll s.heap rest left bs/\∀ d∈left,d∈ds) _ ?_ ?_ _ _ ⟨rfl,rfl,ds,as,ra,fun _ h=>h⟩
 ·rintro v rest r s' ⟨hr,rfl,left,bs,hl,hall⟩
  cases hl with
  |@cons _ _ d ds' as1 bs1 h1 hl' =>
   have hm:=hall d (Azg ..)
   refine Azc ((ih d hm).out (Nn hk hm) (by have:=Nl hm;lia) h1 ?_)
   simp only[Bool.not_true,Baf,Bbn]
   exact Azi ⟨rfl,rfl,ds',bs1,hl',fun e he=>hall e (Azf _ he)⟩
 ·rintro ⟨r1,r2⟩ s' ⟨hr,rfl,_⟩
  simp only at hr
  subst hr
  exact Azi q
theorem Abl (d:PyData):QuietK prog w d:=by
 match d with
 |.int i =>
  constructor
  intro n A E s v as Q _ _ r q
  cases r with
  |int i t=>rw[eqIsQuiet_byValue _ rfl];exact Azi q
 |.str x =>
  constructor
  intro n A E s v as Q _ _ r q
  cases r with
  |str x t=>rw[eqIsQuiet_byValue _ rfl];exact Azi q
 |.tuple ds=>exact Ti fun d hd=>Abl d
 |.none=>constructor;intro n A E s v as Q h;simp[kOk] at h
 |.bool _=>constructor;intro n A E s v as Q h;simp[kOk] at h
 |.list _=>constructor;intro n A E s v as Q h;simp[kOk] at h
 |.dict _=>constructor;intro n A E s v as Q h;simp[kOk] at h
termination_by sizeOf d
decreasing_by
 have:=Bci hd
 simp;lia
mutual
theorem P2 {es ep} (ho₀:h.get? d₀=some o₀) (hd₀:o₀.data=.dict es ep) (hs:Heap.SameBut d₀ h h') {d:PyData}{v:Value}{as:List Addr} (hk:kOk d=true) (r:Reads h v d as):Reads h' v d as:=by
 cases r with
 |int i t=>exact .int i t
 |str i t=>exact .str i t
 |@tuple a o _ _ _ _ ho hc hd ra =>
  refine .tuple ((hs.2 a ?_).trans ho) hc hd (H9 ho₀ hd₀ hs (by rw[kOk] at hk;exact hk) ra)
  rintro rfl
  cases ho.symm.trans ho₀
  cases hd₀.symm.trans hd
 |_=>simp[kOk] at hk
theorem H9 {es ep} (ho₀:h.get? d₀=some o₀) (hd₀:o₀.data=.dict es ep) (hs:Heap.SameBut d₀ h h') {ds:List PyData}{vs:List Value}{as:List Addr} (hk:V9 ds=true) (r:ReadsAll h vs ds as):ReadsAll h' vs ds as:=by
 cases r with
 |nil=>exact .nil
 |cons r rs =>
  rw[V9,Az0] at hk
  exact .cons (P2 ho₀ hd₀ hs hk.1 r) (H9 ho₀ hd₀ hs hk.2 rs)
end
mutual
theorem Ru:∀ {d:PyData},kOk d=true->d.depth<=Aci d+1
 |.int _,_=>by simp[PyData.depth]
 |.str _,_=>by simp[PyData.depth]
 |.tuple ds,h=>by rw[kOk] at h;rw[Aci];have:=Ub h;simp[PyData.depth];lia
 |.none,h=>by simp[kOk] at h
 |.bool _,h=>by simp[kOk] at h
 |.list _,h=>by simp[kOk] at h
 |.dict _,h=>by simp[kOk] at h
theorem Ub:∀ {ds:List PyData},V9 ds=true->PyData.depthAll ds<=V8 ds+1
 |[],_=>by simp[PyData.depthAll]
 |d::ds,h=>by
  rw[V9,Az0] at h
  have h1:=Ru h.1
  have h2:=Ub h.2
  rw[V8];simp[PyData.depthAll];lia
end
def At5 (h:Heap) (d:PyData) (a:Addr):Prop:=kOk d=true/\Aci d<=6/\(∃ ds,d=.tuple ds)/\∃ as,Reads h (.ref a) d as
noncomputable def Afn (prog:Program) (w:World):HeapKind prog w PyData where
 is:=At5
 hash:=Rz w
 draws:=Ju
 room:=fun A=>A.units+10 < cLine
 inj:=fun hx hy=>by
  obtain⟨k1,_,_,as,r⟩:=hx
  obtain⟨_,_,_,bs,r'⟩:=hy
  exact SeqAt.Reads.unique _ _ _ _ _ (Nm k1) r r'
 keeps:=fun x ho hd hs=>by
  obtain⟨h1,h2,h3,as,r⟩:=x
  exact⟨h1,h2,h3,as,P2 ho hd hs h1 r⟩
 pyHash:=fun hu hk h=>by
  obtain⟨h1,h2,_,as,r⟩:=hk
  exact (Agh _).out h1 (by lia) r h
 eqBool:=fun hu hx hy h=>by
  obtain⟨h1,h2,_,as,r⟩:=hx
  obtain⟨h3,h4,_,bs,r'⟩:=hy
  refine SeqAt.eqBoolOverData _ _ _ _ _ _ _ _ _ _ _ _ r r' (Nm h1) (Nm h3) ?_ ?_
  ·have d1:=Ru h1
   have d2:=Ru h3
   lia
  ·rw[Apk h1 h3];exact h
 quiet:=fun hk h=>by
  obtain⟨h1,h2,_,as,r⟩:=hk
  exact (Abl _).out h1 (by lia) r h
end
end L2
end S_KTree
section S_LayL
namespace L2
open PySem PySem.Spec PyProof.Rows
abbrev Key:=Sum Int Str
noncomputable def Ado:Key->Value->Bool
 |.inl k,v=>Value.isInt k v
 |.inr x,v=>Value.isStrOf x v
noncomputable def Ayu (w:World):Key->Int
 |.inl k=>hashInt k
 |.inr x=>hashStr w x
theorem B1:∀ {k:Key}{v:Value},Ado k v=true->(∃ i t,k=Sum.inl i/\v=Value.int i t)\/(∃ x t,k=Sum.inr x/\v=Value.str x t)
 |.inl i,v,h=>by
  obtain⟨t,e⟩:=Value.isInt_shape (k:=i) (v:=v) h
  exact .inl ⟨i,t,rfl,e⟩
 |.inr x,v,h=>by
  obtain⟨t,e⟩:=Value.isStrOf_shape (x:=x) (v:=v) h
  exact .inr ⟨x,t,rfl,e⟩
theorem Gv (x:Str) (t:Tok):Ado (.inr x) (.str x t)=true:=by simp[Ado,Value.isStrOf]
theorem Apv (a b:Int):decide ((Sum.inl a:Key)=Sum.inl b)=(a == b):=by
 by_cases e:a=b
 ·subst e;simp
 ·have h:¬ (Sum.inl a:Key)=Sum.inl b:=fun q=>e (Sum.inl.inj q)
  rw[Az6 h]
  exact (beq_eq_false_iff_ne.mpr e).symm
theorem Apy (a b:Str):decide ((Sum.inr a:Key)=Sum.inr b)=decide (a=b):=by
 by_cases e:a=b
 ·subst e;simp
 ·have h:¬ (Sum.inr a:Key)=Sum.inr b:=fun q=>e (Sum.inr.inj q)
  rw[Az6 h,Az6 e]
theorem Apw (a:Int) (b:Str):decide ((Sum.inl a:Key)=Sum.inr b)=false:=Az6 (fun q=>nomatch q)
theorem Apx (a:Str) (b:Int):decide ((Sum.inr a:Key)=Sum.inl b)=false:=Az6 (fun q=>nomatch q)
def Gc (prog:Program) (w:World):PySem.KeyKind prog w Key where
 is:=Ado
 hash:=Ayu w
 inj:=fun v a b ha hb=>by
  rcases B1 ha with ⟨i,t,rfl,rfl⟩|⟨x,t,rfl,rfl⟩
  ·rcases B1 hb with ⟨j,u,rfl,e⟩|⟨y,u,rfl,e⟩
   ·injection e with e1 _;rw[e1]
   ·exact nomatch e
  ·rcases B1 hb with ⟨j,u,rfl,e⟩|⟨y,u,rfl,e⟩
   ·exact nomatch e
   ·injection e with e1 _;rw[e1]
 byValue:=fun k v h=>by
  rcases B1 h with ⟨i,t,rfl,rfl⟩|⟨x,t,rfl,rfl⟩<;>rfl
 pyHash:=fun hv h=>by
  rcases B1 hv with ⟨i,t,rfl,rfl⟩|⟨x,t,rfl,rfl⟩
  ·exact wpAny_pyHash_int h
  ·exact wpAny_pyHash_str h
 eqBool:=fun hu hv h=>by
  rcases B1 hu with ⟨i,t,rfl,rfl⟩|⟨x,t,rfl,rfl⟩
  ·rcases B1 hv with ⟨j,u,rfl,rfl⟩|⟨y,u,rfl,rfl⟩
   ·rw[Apv] at h;exact wpAny_eqBool_int h
   ·rw[Apw] at h;exact SeqAt.EqAt.int_str i t y u _ _ _ _ h
  ·rcases B1 hv with ⟨j,u,rfl,rfl⟩|⟨y,u,rfl,rfl⟩
   ·rw[Apx] at h;exact SeqAt.EqAt.str_int x t j u _ _ _ _ h
   ·rw[Apy] at h;exact wpAny_eqBool_str h
 «strs»:=fun k x t v h=>by
  rcases B1 h with ⟨i,u,rfl,e⟩|⟨y,u,rfl,e⟩
  ·exact nomatch e
  ·injection e with e1 _
   subst e1
   cases v<;>rfl
inductive V where
 |non|bl (b:Bool)|int (i:Int)|str (x:Str)|byt (b:Array UInt8)|flt (b:UInt64)|ref (a:Addr)|ty (n:String)
 deriving DecidableEq
noncomputable def RelV:V->Value->Prop
 |.non,u=>u=Value.none
 |.bl b,u=>u=Value.bool b
 |.int i,u=>∃ t,u=Value.int i t
 |.str x,u=>∃ t,u=Value.str x t
 |.byt b,u=>∃ t,u=Value.bytes b t
 |.flt b,u=>∃ t,u=Value.float b t
 |.ref a,u=>u=Value.ref a
 |.ty n,u=>u=Value.type n
abbrev Vals:List V->List Value->Prop:=Paired RelV
theorem Vals.length {xs:List V}{us:List Value} (r:Vals xs us):xs.length=us.length:=Paired.length r
theorem Vals.get:∀ {xs:List V}{us:List Value}{i:Nat}{x:V},Vals xs us->xs[i]?=some x->∃ u,us[i]?=some u/\RelV x u
 |_,_,_,_,.nil,e=>by simp at e
 |_,_,0,_,.cons r _,e=>by simp at e;subst e;exact⟨_,rfl,r⟩
 |_,_,i+1,x,.cons _ t,e=>by
  obtain⟨u,h1,h2⟩:=Vals.get (i:=i) (x:=x) t (by simpa using e)
  exact⟨u,by simpa using h1,h2⟩
theorem Vals.set {x:V}{u:Value} (r:RelV x u):∀ {xs:List V}{us:List Value} (i:Nat),Vals xs us->Vals (xs.set i x) (us.set i u)
 |_,_,_,.nil=>.nil
 |_,_,0,.cons _ t=>.cons r t
 |_,_,i+1,.cons q t=>.cons q (Vals.set r i t)
theorem Vals.append:∀ {xs ys:List V}{us ws:List Value},Vals xs us->Vals ys ws->Vals (xs++ys) (us++ws)
 |_,_,_,_,.nil,s=>s
 |_,_,_,_,.cons r t,s=>.cons r (Vals.append t s)
theorem Vals.take:∀ {xs:List V}{us:List Value} (n:Nat),Vals xs us->Vals (xs.take n) (us.take n)
 |_,_,0,_=>.nil
 |_,_,_+1,.nil=>.nil
 |_,_,n+1,.cons r t=>.cons r (Vals.take n t)
theorem Vals.drop:∀ {xs:List V}{us:List Value} (n:Nat),Vals xs us->Vals (xs.drop n) (us.drop n)
 |_,_,0,r=>r
 |_,_,_+1,.nil=>.nil
 |_,_,n+1,.cons _ t=>Vals.drop n t
def Ano:Option V->Option Value->Prop
 |some v,some u=>RelV v u
 |none,none=>True
 |_,_=>False
def KV {κ:Type}:List (κ×V)->List (κ×Value)->Prop:=Paired fun (p:κ×V) (q:κ×Value)=>p.1=q.1/\RelV p.2 q.2
inductive HO where
 /-- a list -/
 |lst (xs:List V)
 /-- a tuple (never changes) -/
 |tup (xs:List V)
 /-- a dict whose keys are ints and texts;one whose keys are tuples of ints and texts (the empty one is both) -/
 |dK (kvs:List (Key×V))|dT (kvs:List (PyData×V))
 /-- a set of ints: its members,its size -/
 |set (S:Int->Bool) (n:Nat)
 /-- an instance of the class at C,its dict at dx,its attributes -/
 |ins (C dx:Addr) (fs:List (Str×V))
 /-- the dict of the instance at x -/
 |own (x:Addr)
 /-- the dict of an exception -/
 |xd (fs:List (Str×V))
 /-- a bound method,f of x -/
 |met (f x:Addr)
 /-- a range object lo,lo+1,.. below hi -/
 |rng (lo hi:Int)
 /-- a thing that is known to the object (the script;a dict while a loop Atj it): read,never written while it is so -/
 |frz (o:Obj) (u:HO)
 /-- a code object's table -/
 |tbl (ps:Array Value)
 /-- any other thing,by what is true of its one object (a def of one's own: SetO a S n:=HO.ext fun h=>..) -/
 |ext (φ:World->Heap->Prop)
abbrev Hp:=Addr->Option HO
noncomputable def upd (H:Hp) (a:Addr) (o:HO):Hp:=fun b=>if b=a then some o else H b
theorem A3 {H:Hp}{a:Addr}{o:HO}:upd H a o a=some o:=by unfold upd;rw[Azp rfl]
theorem A0 {H:Hp}{a b:Addr}{o:HO} (h:b≠a):upd H a o b=H b:=by unfold upd;rw[Azs h]
theorem As {H:Hp}{a b:Addr}{o:HO} (h:H a=some o) (h':H b=none):a≠b:=by
 intro e;subst e;rw[h] at h';cases h'
def TupD (h:Heap) (a:Addr) (items:Array Value):Prop:=∃ o,h.get? a=some o/\o.cls=.type "tuple"/\∃ n,o.data=.seq items n/\o.dict=none
theorem TupD.is {h:Heap}{a:Addr}{items:Array Value} (x:TupD h a items):IsTup h a items:=let ⟨o,h1,h2,n,h3,_⟩:=x;⟨o,h1,h2,n,h3⟩
theorem TupD.new (h:Heap) (items:Array Value):TupD (h.push { cls:=.type "tuple",data:=.seq items }) h.objs.size items:=⟨_,Azq _ rfl,rfl,_,rfl,rfl⟩
theorem TupD.lt {h:Heap}{a:Addr}{items:Array Value} (x:TupD h a items):a < h.objs.size:=let ⟨_,h1,_⟩:=x;Azj h1
def Rd (H:Hp) (a:Addr) (u:HO):Prop:=H a=some u\/∃ o,H a=some (.frz o u)
def SqT (K:W.Frag) (H:Hp) (a:Addr) (xs:List V):Prop :=
 Rd H a (.tup xs) \/
  ∃ (o:Obj) (its:Array Value) (n:Nat),K.lookup a=some o/\o.cls=.type "tuple"/\o.data=.seq its n/\its.size<=sizeLine/\Vals xs its.toList/\o.dict=none
inductive KeyH (K:W.Frag) (H:Hp):PyData->V->Prop where
 |int (i:Int):KeyH K H (.int i) (.int i)
 |str (x:Str):KeyH K H (.str x) (.str x)
 |tup {ds:List PyData}{a:Addr}{vs:List V}:SqT K H a vs->Paired (KeyH K H) ds vs->KeyH K H (.tuple ds) (.ref a)
def KeyT (K:W.Frag) (H:Hp) (d:PyData) (b:Addr):Prop:=kOk d=true/\Aci d<=6/\(∃ ds,d=.tuple ds)/\KeyH K H d (.ref b)
def X7 (oc:Obj) (q:Str):Prop:=∃ (vs:Array Value) (t:Nat),oc.data=.fields vs/\vs[1]?=some (.str q t)
def At8 (H:Hp) (h:Heap) (a:Addr) (qs:Array Value):Prop:=∃ ps:Array Value,h.get? a=some (W.tabObj ps)/\TriplesOk ps.toList /\
 ∀ (pos:Pos) (cv:Value),codeAmong pos ps.toList=some cv->∃ (c:Addr) (oc:Obj) (u:HO) (q:Str) (t:Nat),qs[0]?=some (.str q t)/\cv=.ref c/\H c=some (.frz oc u)/\X7 oc q
section
variable (P:Program) (w:World) (K:W.Frag)
def ObjOk (H:Hp) (h:Heap) (a:Addr):HO->Prop
 |.lst xs=>xs.length<=sizeLine/\∃ (its:List Value) (n:Nat),Vals xs its/\h.get? a=some { cls:=.type "list",data:=.seq its.toArray n }
 |.tup xs=>xs.length<=sizeLine/\∃ its:List Value,Vals xs its/\TupD h a its.toArray
 |.dK kvs=>kvs.length<=sizeLine/\(a == sysModules)=false/\∃ vs,KV kvs vs/\h.DictOf (Gc P w) a vs
 |.dT kvs=>kvs.length<=sizeLine/\(a == sysModules)=false/\∃ xs:List (PyData×Addr×Value),
   Paired (fun (p:PyData×V) (q:PyData×Addr×Value)=>p.1=q.1/\KeyT K H q.1 q.2.1/\RelV p.2 q.2.2) kvs xs /\
   ∃ o es ep,h.get? a=some o/\o.ExactDict/\o.data=.dict es ep/\es.toList=xs.map (entryOfKey (Afn P w))/\(xs.map (·.1)).Nodup
 |.set S n=>h.SetOf (intKind P w) a S n
 |.ins C dx fs=>H dx=some (.own a)/\fs.length<=1000/\dx≠a/\h.get? a=some (W.instObj C dx) /\
   ∃ mA,h.Ns1 dx mA/\(∀ f,Ano (fs.lookup f) (mA f))/\PySem.Within mA (fs.map (·.1))
 |.own _=>∃ o,h.get? a=some o
 |.xd fs=>∃ mA,h.Ns1 a mA/\∀ f,Ano (fs.lookup f) (mA f)
 |.rng lo hi=>∃ t u v,h.get? a=some { cls:=.type "range",data:=.fields #[.int lo t,.int hi u,.int 1 v] }
 |.frz o u=>h.get? a=some o/\ObjOk H h a u
 |.tbl ps=>At8 H h a ps
 |.met f x=>h.get? a=some (W.methodObj (.ref f) (.ref x))
 |.ext φ=>φ w h/\(∃ o,h.get? a=some o)/\∀ h1 h2:Heap,φ w h1->(∀ o,h1.get? a=some o->h2.get? a=some o)->φ w h2
def HOk (H:Hp) (h:Heap):Prop:=∀ a o,H a=some o->ObjOk P w K H h a o
end
section
variable {P:Program}{w:World}{K:W.Frag}{H H':Hp}{h h':Heap}{a:Addr}{o:HO}
theorem ObjOk.lt (x:ObjOk P w K H h a o):a < h.objs.size:=by
 cases o with
 |lst xs=>obtain⟨_,_,_,_,e⟩:=x;exact Azj e
 |tup xs=>obtain⟨_,_,_,p⟩:=x;exact p.lt
 |dK kvs=>obtain⟨_,_,_,_,o,_,_,e,_⟩:=x;exact Azj e
 |dT kvs=>obtain⟨_,_,_,_,o,_,_,e,_⟩:=x;exact Azj e
 |set S n=>obtain⟨o,_,_,_,e,_⟩:=x;exact Azj e
 |ins C dx fs=>obtain⟨_,_,_,e,_⟩:=x;exact Azj e
 |own y=>obtain⟨_,e⟩:=x;exact Azj e
 |xd fs=>obtain⟨_,⟨_,_,_,e,_⟩,_⟩:=x;exact Azj e
 |rng lo hi=>obtain⟨_,_,_,e⟩:=x;exact Azj e
 |frz ob u=>obtain⟨e,_⟩:=x;exact Azj e
 |tbl ps=>obtain⟨_,e,_⟩:=x;exact Azj e
 |met f y=>exact Azj (show h.get? a=some _ from x)
 |ext φ=>obtain⟨_,⟨_,e⟩,_⟩:=x;exact Azj e
theorem Paired.mapP {α β:Type}{F G:α->β->Prop}:∀ {l₁:List α}{l₂:List β},Paired F l₁ l₂->(∀ a b,F a b->G a b)->Paired G l₁ l₂
 |_,_,.nil,_=>.nil
 |_,_,.cons r t,f=>.cons (f _ _ r) (Paired.mapP t f)
theorem SqT.upR {K:W.Frag}{H H':Hp} (ht:∀ b xs,Rd H b (.tup xs)->Rd H' b (.tup xs)) {a:Addr}{xs:List V} (h:SqT K H a xs):SqT K H' a xs:=h.elim (fun z=>.inl (ht _ _ z)) .inr
theorem KeyH.up {K:W.Frag}{H H':Hp} (ht:∀ b xs,Rd H b (.tup xs)->Rd H' b (.tup xs)) (d:PyData):∀ {v:V},KeyH K H d v->KeyH K H' d v:=by
 match d with
 |.int i=>intro v h;cases h;exact .int _
 |.str x=>intro v h;cases h;exact .str _
 |.tuple ds =>
  intro v h
  cases h with
  |@tup _ a vs hs hp =>
  refine .tup (SqT.upR ht hs) ?_
  have go:∀ (es:List PyData) (us:List V),(∀ e∈es,e∈ds)->Paired (KeyH K H) es us->Paired (KeyH K H') es us:=by
   intro es us hm q
   induction q with
   |nil=>exact .nil
   |@cons e u es us h1 h2 ih=>exact .cons (KeyH.up ht e h1) (ih fun x hx=>hm x (Azf _ hx))
  exact go ds vs (fun _ h=>h) hp
 |.none=>intro v h;cases h
 |.bool _=>intro v h;cases h
 |.list _=>intro v h;cases h
 |.dict _=>intro v h;cases h
termination_by sizeOf d
decreasing_by
 have:=Bci (hm e (Azg ..))
 simp;lia
theorem KeyT.up {K:W.Frag}{H H':Hp} (ht:∀ b xs,Rd H b (.tup xs)->Rd H' b (.tup xs)) {d:PyData}{b:Addr} (h:KeyT K H d b):KeyT K H' d b:=⟨h.1,h.2.1,h.2.2.1,h.2.2.2.up ht⟩
theorem Rd.upd_none {H:Hp}{p:Addr}{o u:HO} (hn:H p=none) {c:Addr} (q:Rd H c u):Rd (upd H p o) c u:=by
 rcases q with q|⟨x,q⟩
 ·exact .inl (by rw[A0 (As q hn)];exact q)
 ·exact .inr ⟨x,by rw[A0 (As q hn)];exact q⟩
theorem ObjOk.stay (x:ObjOk P w K H h a o) (k:∀ b u,(b=a\/H b=some (.own a))->h.get? b=some u->h'.get? b=some u)
  (ho:∀ b,H b=some (.own a)->H' b=some (.own a)) (ht:∀ b xs,Rd H b (.tup xs)->Rd H' b (.tup xs)) (hf:∀ b x u,H b=some (.frz x u)->H' b=some (.frz x u)):ObjOk P w K H' h' a o:=by
 induction o with
 |lst xs=>obtain⟨z,its,n,r,e⟩:=x;exact⟨z,its,n,r,k _ _ (.inl rfl) e⟩
 |tup xs=>obtain⟨z,its,r,ob,e,c⟩:=x;exact⟨z,its,r,ob,k _ _ (.inl rfl) e,c⟩
 |dK kvs=>obtain⟨z,y,vs,r,ob,es,ep,e,c⟩:=x;exact⟨z,y,vs,r,ob,es,ep,k _ _ (.inl rfl) e,c⟩
 |dT kvs =>
  obtain⟨z,y,xs,r,ob,es,ep,e,c⟩:=x
  exact⟨z,y,xs,Paired.mapP r fun p q z=>⟨z.1,z.2.1.up ht,z.2.2⟩,ob,es,ep,k _ _ (.inl rfl) e,c⟩
 |set S n=>obtain⟨ob,es,ep,t,e,c⟩:=x;exact⟨ob,es,ep,t,k _ _ (.inl rfl) e,c⟩
 |ins C dx fs =>
  obtain⟨d,z,ne,e,mA,⟨od,es,ep,e2,c⟩,r⟩:=x
  exact⟨ho _ d,z,ne,k _ _ (.inl rfl) e,mA,⟨od,es,ep,k _ _ (.inr d) e2,c⟩,r⟩
 |own y=>obtain⟨ob,e⟩:=x;exact⟨ob,k _ _ (.inl rfl) e⟩
 |xd fs=>obtain⟨mA,⟨od,es,ep,e,c⟩,r⟩:=x;exact⟨mA,⟨od,es,ep,k _ _ (.inl rfl) e,c⟩,r⟩
 |rng lo hi=>obtain⟨t,u,v,e⟩:=x;exact⟨t,u,v,k _ _ (.inl rfl) e⟩
 |frz ob u ih=>obtain⟨e,q⟩:=x;exact⟨k _ _ (.inl rfl) e,ih q⟩
 |tbl ps =>
  obtain⟨qs,e,t,c⟩:=x
  exact⟨qs,k _ _ (.inl rfl) e,t,fun pos cv z=>let ⟨c',oc,u,q,t',z1,z2,z3,z4⟩:=c pos cv z;⟨c',oc,u,q,t',z1,z2,hf _ _ _ z3,z4⟩⟩
 |met f y =>
  have e:h.get? a=some (W.methodObj (.ref f) (.ref y)):=x
  show h'.get? a=some (W.methodObj (.ref f) (.ref y))
  exact k a _ (.inl rfl) e
 |ext φ=>obtain⟨p,⟨o,e⟩,st⟩:=x;exact⟨st _ _ p fun o q=>k _ _ (.inl rfl) q,⟨o,k _ _ (.inl rfl) e⟩,st⟩
theorem HOk.lt (x:HOk P w K H h) (e:H a=some o):a < h.objs.size:=(x a o e).lt
theorem HOk.fresh (x:HOk P w K H h) (e:h.objs.size<=a):H a=none:=by
 cases q:H a with
 |none=>rfl
 |some u=>exact absurd (Azt (x.lt q) e) (Az9 _)
theorem HOk.kept (x:HOk P w K H h) (k:∀ b u,h.get? b=some u->h'.get? b=some u):HOk P w K H h':=fun a o e =>
 (x a o e).stay (fun b u _ q=>k b u q) (fun _ q=>q) (fun _ _ q=>q) fun _ _ _ q=>q
theorem HOk.laid (x:HOk P w K H h) (k:∀ b u,h.get? b=some u->h'.get? b=some u) (hp:h.objs.size<=a) (new:ObjOk P w K (upd H a o) h' a o):HOk P w K (upd H a o) h':=fun b u e=>by
 have hn:=x.fresh hp
 by_cases hb:b=a
 ·subst hb;rw[A3] at e;cases e;exact new
 ·rw[A0 hb] at e
  exact (x b u e).stay (fun c v _ q=>k c v q) (fun c q=>by rw[A0 (As q hn)];exact q) (fun c xs q=>Rd.upd_none hn q) fun c x u q=>by rw[A0 (As q hn)];exact q
end
theorem Rd.ok {P:Program}{w:World}{K:W.Frag}{H:Hp}{h:Heap}{a:Addr}{u:HO} (r:Rd H a u) (x:HOk P w K H h):ObjOk P w K H h a u:=by
 rcases r with r|⟨o,r⟩
 ·exact x a u r
 ·obtain⟨_,q⟩:=x a _ r
  exact q
noncomputable def Mut:Option HO->Prop
 |some (.lst _)=>True
 |some (.dK _)=>True
 |some (.dT _)=>True
 |some (.set _ _)=>True
 |some (.ins _ _ _)=>True
 |some (.ext _)=>True
 |_=>False
theorem Rd.upd_mut {H:Hp}{x:Addr}{o:HO} (mu:Mut (H x)) {c:Addr}{xs:List V} (q:Rd H c (.tup xs)):Rd (upd H x o) c (.tup xs):=by
 rcases q with q|⟨y,q⟩
 ·exact .inl (by rw[A0 (fun z=>by subst z;rw[q] at mu;exact mu)];exact q)
 ·exact .inr ⟨y,by rw[A0 (fun z=>by subst z;rw[q] at mu;exact mu)];exact q⟩
section
variable {P:Program}{w:World}{K:W.Frag}{H:Hp}{h h':Heap}{x e:Addr}{o':HO}
theorem HOk.write (ok:HOk P w K H h) (mu:Mut (H x)) (he:e=x\/H e=some (.own x)) (k:∀ b u,b≠e->h.get? b=some u->h'.get? b=some u) (heo:∃ u,h'.get? e=some u)
  (new:ObjOk P w K (upd H x o') h' x o'):HOk P w K (upd H x o') h':=fun b u q=>by
 have nown:∀ c y,H c=some (.own y)->c≠x:=fun c y r z=>by subst z;rw[r] at mu;exact mu
 have ntup:∀ c xs,H c=some (.tup xs)->c≠x:=fun c xs r z=>by subst z;rw[r] at mu;exact mu
 by_cases hb:b=x
 ·subst hb;rw[A3] at q;cases q;exact new
 ·rw[A0 hb] at q
  by_cases hbe:b=e
  ·have q':H b=some (.own x):=by
    rcases he with z|z
    ·exact absurd (hbe.trans z) hb
    ·rw[hbe];exact z
   rw[q] at q';cases q'
   obtain⟨v,hv⟩:=heo
   exact⟨v,by rw[hbe];exact hv⟩
  ·refine (ok b u q).stay (fun c v hc r=>k c v ?_ r) (fun c r=>by rw[A0 (nown c b r)];exact r) (fun c xs r=>Rd.upd_mut mu r) fun c y u r=>by rw[A0 (fun z=>by subst z;rw[r] at mu;exact mu)];exact r
   rcases hc with rfl|hc
   ·exact hbe
   ·rintro rfl
    rcases he with z|z
    ·exact nown c b hc z
    ·rw[hc] at z;cases z;exact hb rfl
end
structure Un (fs ex:List Addr) (H H':Hp) (h h':Heap):Prop where
 keep:∀ b o,h.get? b=some o->H b=none->b∉fs->b∉ex->h'.get? b=some o
 slot:∀ b o,h.get? b=some o->H b=none->b∈fs->b∉ex->∃ sl,h'.get? b=some { o with slots:=sl }
 free:∀ b o,h.get? b=some o->H b=none->b∉ex->H' b=none
 there:∀ b o,h.get? b=some o->b∉ex->∃ o',h'.get? b=some o'
 tups:∀ b xs,H b=some (.tup xs)->H' b=some (.tup xs)
 frzs:∀ b o u,H b=some (.frz o u)->H' b=some (.frz o u)
 tbls:∀ b ps,H b=some (.tbl ps)->∃ more,H' b=some (.tbl (ps++more))
section
variable {fs fs' ex ex':List Addr}{H H1 H2:Hp}{h h1 h2 h':Heap}{a x e:Addr}{o:HO}
theorem Un.any (u:Un fs ex H H1 h h1) {b:Addr}{ob:Obj} (q:h.get? b=some ob) (n:H b=none) (hx:b∉ex):∃ sl,h1.get? b=some { ob with slots:=sl }:=by
 by_cases hb:b∈fs
 ·exact u.slot b ob q n hb hx
 ·exact⟨ob.slots,u.keep b ob q n hb hx⟩
theorem Un.kept (k:∀ b u,h.get? b=some u->h'.get? b=some u):Un fs ex H H h h' :=
 ⟨fun b ob q _ _ _=>k b ob q,fun b ob q _ _ _=>⟨ob.slots,k b ob q⟩,fun _ _ _ n _=>n,fun b ob q _=>⟨ob,k b ob q⟩,fun _ _ q=>q,fun _ _ _ q=>q,fun _ ps q=>⟨#[],by rw[q];simp⟩⟩
theorem Un.refl:Un fs ex H H h h:=Un.kept fun _ _ q=>q
theorem Un.laid (k:∀ b u,h.get? b=some u->h'.get? b=some u) (hp:h.objs.size<=a) (hn:H a=none):Un fs ex H (upd H a o) h h' where
 keep:=fun b u q _ _ _=>k b u q
 slot:=fun b u q _ _ _=>⟨u.slots,k b u q⟩
 free:=fun b u q n _=>by rw[A0 (Az1 (Azt (Azj q) hp))];exact n
 there:=fun b u q _=>⟨u,k b u q⟩
 tups:=fun b xs q=>by rw[A0 (As q hn)];exact q
 frzs:=fun b u xs q=>by rw[A0 (As q hn)];exact q
 tbls:=fun b ps q=>⟨#[],by rw[A0 (As q hn),q];simp⟩
theorem Un.write (mu:Mut (H x)) (he:e=x\/H e=some (.own x)) (k:∀ b u,b≠e->h.get? b=some u->h'.get? b=some u) (heo:∃ u,h'.get? e=some u):Un fs ex H (upd H x o) h h':=by
 have hx:∀ b,H b=none->b≠x:=fun b n z=>by subst z;rw[n] at mu;exact mu
 have hb:∀ b,H b=none->b≠e:=fun b n z=>by
  subst z
  rcases he with r|r
  ·exact hx b n r
  ·rw[n] at r;cases r
 have hm:∀ b u,H b=some u->¬ Mut (some u)->b≠x:=fun b u q nm z=>by subst z;rw[q] at mu;exact nm mu
 refine⟨fun b u q n _ _=>k b u (hb b n) q,fun b u q n _ _=>⟨u.slots,k b u (hb b n) q⟩,fun b u q n _=>by rw[A0 (hx b n)];exact n,fun b u q _=>?_,
  fun b xs q=>by rw[A0 (hm b _ q fun z=>z)];exact q,fun b u xs q=>by rw[A0 (hm b _ q fun z=>z)];exact q,fun b ps q=>⟨#[],by rw[A0 (hm b _ q fun z=>z),q];simp⟩⟩
 by_cases hbe:b=e
 ·subst hbe;exact heo
 ·exact⟨u,k b u hbe q⟩
end
noncomputable def trk (h:Heap) (H:Hp):List Addr:=(List.range h.objs.size).filter fun a=>(H a).isSome
def Adi (h:Heap) (H:Hp):Heap:=W.hideAll h (trk h H)
theorem Ze (h:Heap) (H:Hp):(Adi h H).objs.size=h.objs.size:=W.hideAll_size _ _
theorem Ni {h:Heap}{H:Hp}{b:Addr}{o:Obj} (e:h.get? b=some o) (n:H b=none):(Adi h H).get? b=some o :=
 W.hideAll_get _ e fun hm=>by
  have q:(H b).isSome=true:=(List.mem_filter.mp hm).2
  rw[n] at q;simp at q
theorem Aku {h:Heap}{H:Hp}{b:Addr}{o:Obj} (e:(Adi h H).get? b=some o):h.get? b=some o/\H b=none:=by
 have e':h.get? b=some o:=W.of_hideAll (trk h H) e
 refine⟨e',?_⟩
 cases q:H b with
 |none=>rfl
 |some x =>
  have hm:b∈trk h H:=List.mem_filter.mpr ⟨List.mem_range.mpr (Azj e'),by simp[q]⟩
  have z:(Adi h H).get? b=none:=W.hideAll_none (trk h H) hm
  rw[z] at e;cases e
structure Mod (K:W.Frag) (mg:Str->Option Value) (base:Heap):Prop where
 kin:K.In base
 glob:base.Ns mainGlobals mg
 blt:∃ mb,base.Ns builtinsNs mb/\∀ x:Str,x≠"__name__"->mb x=bootBuiltins x
 nolimit:base.NoLimit
structure Cx where
 prog:Program
 w:World
 K:W.Frag
 mg:Str->Option Value
 base:Heap
 A:Around
 N:List Str
 s₀:Shared
 H₀:Hp
 env:Env
 outer:List Env
 stack:List Env
 ex:List Addr
 fn:Str->Bool
 calm:Bool
 pn:List (Addr×Obj)
 xe:Value->Shared->Prop
noncomputable def frs (l:List Env):List Addr:=l.filterMap (·.frame)
abbrev Cx.fs (X:Cx):List Addr:=frs X.outer
def Vis (sc:Scope) (x:Str):Prop:=sc.names.lookup x=some .local\/sc.names.lookup x=some .cell\/sc.names.lookup x=some .free
def Loc (sc:Scope) (x:Str):Prop:=sc.names.lookup x=some .local\/sc.names.lookup x=some .cell
def Axh (env:Env) (h:Heap) (m:Str->Option Value) (x:Str) (u:Value):Prop :=
 (env.kindOf x=some .local/\m x=some u)\/((env.kindOf x=some .cell\/env.kindOf x=some .free)/\∃ c,env.cells.lookup x=some c/\h.IsCell c (some u))
structure Cx.Ok (X:Cx):Prop where
 mod:Mod X.K X.mg X.base
 kind:X.env.scope.kind=.function
 glob:X.env.globals=mainGlobals
 blt:X.env.builtins=builtinsNs
 above:X.s₀.heap.objs.size<=X.env.locals
 inj:∀ x y c,X.env.cells.lookup x=some c->X.env.cells.lookup y=some c->x=y
 has:∀ x,(X.env.kindOf x=some .cell\/X.env.kindOf x=some .free)->∃ c,X.env.cells.lookup x=some c
 cab:∀ x c,X.fn x=true->X.env.cells.lookup x=some c->X.s₀.heap.objs.size<=c
 hd:X.calm=true->X.A.handled=none
 frames:X.A.frames=some X.stack
 stk:X.stack=X.outer\/(X.stack=X.env::X.outer/\X.env.frame=some X.env.locals)
 exf:∀ b∈X.ex,b≠X.env.locals/\∀ x c,X.env.cells.lookup x=some c->c≠b
 bs:∀ b o,X.base.get? b=some o->X.s₀.heap.get? b=some o/\X.H₀ b=none
 bsz:X.base.objs.size<=X.s₀.heap.objs.size
 noex:∀ b o,X.base.get? b=some o->b∉X.ex
 exfs:∀ b∈X.ex,b∉X.fs
 funs:X.s₀.heap.FunFrames X.base X.outer
 frf:∀ b∈X.fs,X.H₀ b=none
structure Inv (X:Cx) (pins:List (Addr×Obj)) (σ:List (Option V)) (H:Hp) (s:Shared):Prop where
 ok:X.Ok
 os:s.os=X.s₀.os
 bare:AllBare s.gens
 base:Un X.fs X.ex X.H₀ H X.s₀.heap s.heap
 loc:∃ m,s.heap.Ns X.env.locals m/\∀ (i:Nat) (x:Str) (v:V),X.N[i]?=some x->σ[i]?=some (some v)->Vis X.env.scope x->∃ u,RelV v u/\Axh X.env s.heap m x u
 cell:∀ x c,X.env.cells.lookup x=some c->∃ v,s.heap.IsCell c v
 free:H X.env.locals=none
 freeC:∀ x c,X.env.cells.lookup x=some c->H c=none
 pin:∀ p∈X.pn++pins,s.heap.get? p.1=some p.2/\H p.1=none/\p.1≠X.env.locals/\p.1∉X.fs/\∀ v,p.2.data≠.cell v
 hok:HOk X.prog X.w X.K H s.heap
 len:σ.length=X.N.length
section
variable {X:Cx}{pins:List (Addr×Obj)}{σ:List (Option V)}{H H':Hp}{s:Shared}{h':Heap}
theorem Cx.Ok.nofr (ok:X.Ok) {b:Addr}{o:Obj} (e:X.base.get? b=some o):b∉X.fs:=fun hb=>by
 have:=(ok.funs.mem hb).1
 rw[e] at this;cases this
theorem Inv.bs (I:Inv X pins σ H s):∀ b o,X.base.get? b=some o->s.heap.get? b=some o/\H b=none:=fun b o e =>
 ⟨I.base.keep b o (I.ok.bs b o e).1 (I.ok.bs b o e).2 (I.ok.nofr e) (I.ok.noex b o e),I.base.free b o (I.ok.bs b o e).1 (I.ok.bs b o e).2 (I.ok.noex b o e)⟩
theorem Inv.bk (I:Inv X pins σ H s):∀ b o,X.base.get? b=some o->s.heap.get? b=some o:=fun b o e=>(I.bs b o e).1
theorem Inv.mod (I:Inv X pins σ H s):Mod X.K X.mg X.base:=I.ok.mod
theorem Inv.kIn (I:Inv X pins σ H s):X.K.In s.heap:=I.ok.mod.kin.keeps I.bk
theorem Inv.lt (I:Inv X pins σ H s):X.env.locals < s.heap.objs.size:=let ⟨_,hn,_⟩:=I.loc;hn.lt
theorem Inv.sz (I:Inv X pins σ H s):X.s₀.heap.objs.size<=s.heap.objs.size:=Azy I.ok.above (Ba9 I.lt)
theorem Inv.nofs (I:Inv X pins σ H s) {a:Addr} (h:s.heap.objs.size<=a):a∉X.fs:=fun hb=>by
 obtain⟨_,o,ho,_⟩:=I.ok.funs.mem hb
 exact absurd (Azt (Azj ho) (Azy I.sz h)) (Az9 _)
theorem Inv.cne (I:Inv X pins σ H s):∀ x c,X.env.cells.lookup x=some c->c≠X.env.locals:=fun x c e z=>by
 obtain⟨v,o,ho,hd⟩:=I.cell x c e
 obtain⟨m,⟨o',es,ep,ho',hd',_⟩,_⟩:=I.loc
 rw[z,ho'] at ho;cases ho;rw[hd'] at hd;cases hd
theorem Inv.funs (I:Inv X pins σ H s):s.heap.FunFrames X.base X.outer:=by
 have all:∀ (l:List Env),(∀ b∈frs l,b∈X.fs)->X.s₀.heap.FunFrames X.base l->s.heap.FunFrames X.base l:=by
  intro l
  induction l with
  |nil=>intro _ _;trivial
  |cons env r ih =>
   intro hs hl
   obtain⟨hk,⟨L,o,hf,hn,ho,hd⟩,hr⟩:=hl
   have hL:L∈X.fs:=hs L (by unfold frs;rw[List.filterMap_cons,hf];exact Azg)
   obtain⟨sl,e⟩:=I.base.slot L o ho (I.ok.frf L hL) hL fun z=>I.ok.exfs L z hL
   exact⟨hk,⟨L,_,hf,hn,e,hd⟩,ih (fun b hb=>hs b (by unfold frs;rw[List.filterMap_cons,hf];exact Azf _ hb)) hr⟩
 exact all X.outer (fun _ hb=>hb) I.ok.funs
theorem Inv.stack (I:Inv X pins σ H s):s.heap.FunFrames X.base X.stack:=by
 rcases I.ok.stk with e|⟨e,hf⟩
 ·rw[e];exact I.funs
 ·rw[e]
  obtain⟨m,hn,_⟩:=I.loc
  refine .cons (by rw[I.ok.kind];decide) hf hn ?_ I.funs
  exact Heap.get?_none_of_le (Azy I.ok.bsz I.ok.above)
theorem Inv.stkSub (I:Inv X pins σ H s):∀ b∈frs X.stack,b∈X.env.locals::X.fs:=fun b hb=>by
 rcases I.ok.stk with e|⟨e,hf⟩
 ·rw[e] at hb;exact Azf _ hb
 ·rw[e] at hb
  unfold frs at hb
  rw[List.filterMap_cons,hf] at hb
  exact hb
theorem Inv.stkFree (I:Inv X pins σ H s):∀ b∈frs X.stack,H b=none:=fun b hb=>by
 rcases List.mem_cons.mp (I.stkSub b hb) with e|hb
 ·rw[e];exact I.free
 ·obtain⟨_,o,ho,_⟩:=I.ok.funs.mem hb
  exact I.base.free b o ho (I.ok.frf b hb) fun z=>I.ok.exfs b z hb
theorem Inv.step {g':Array GenState}{t':Nat}{d':Drawn}{ch:List Addr} (I:Inv X pins σ H s)
  (hch:∀ b∈ch,(b∈X.ex\/X.s₀.heap.objs.size<=b)/\b≠X.env.locals/\(∀ x c,X.env.cells.lookup x=some c->c≠b)/\∀ p∈X.pn++pins,p.1≠b)
  (keep:∀ b o,b≠X.env.locals->b∉X.fs->b∉ch->s.heap.get? b=some o->H b=none->h'.get? b=some o)
  (slot:∀ b o,b≠X.env.locals->b∈X.fs->b∉ch->s.heap.get? b=some o->H b=none->∃ sl,h'.get? b=some { o with slots:=sl }) (free:∀ b o,b∉ch->s.heap.get? b=some o->H b=none->H' b=none)
  (there:∀ b o,b∉ch->s.heap.get? b=some o->∃ o',h'.get? b=some o')
  (tups:∀ b xs,H b=some (.tup xs)->H' b=some (.tup xs)) (frzs:∀ b o u,H b=some (.frz o u)->H' b=some (.frz o u)) (tbls:∀ b ps,H b=some (.tbl ps)->∃ more,H' b=some (.tbl (ps++more)))
  (ns:∀ m,s.heap.Ns X.env.locals m->h'.Ns X.env.locals m) (hok:HOk X.prog X.w X.K H' h') (hg:AllBare g') :
  Inv X pins σ H' { s with heap:=h',gens:=g',drawn:=d',toks:=t' }:=by
 have neL:∀ b o,X.s₀.heap.get? b=some o->b≠X.env.locals:=fun b o e=>Az1 (Azt (Azj e) I.ok.above)
 have neC:∀ b o,X.s₀.heap.get? b=some o->b∉X.ex->b∉ch:=fun b o e hx hb=>by
  rcases (hch b hb).1 with z|z
  ·exact hx z
  ·exact absurd (Azt (Azj e) z) (Az9 _)
 have cellK:∀ x c,X.env.cells.lookup x=some c->∀ v,s.heap.IsCell c v->h'.IsCell c v:=fun x c e v ⟨o,ho,hd⟩=>by
  have nch:c∉ch:=fun z=>(hch c z).2.2.1 x c e rfl
  by_cases hc:c∈X.fs
  ·obtain⟨sl,q⟩:=slot c o (I.cne x c e) hc nch ho (I.freeC x c e)
   exact⟨_,q,hd⟩
  ·exact⟨o,keep c o (I.cne x c e) hc nch ho (I.freeC x c e),hd⟩
 refine⟨I.ok,I.os,hg,⟨fun b o e n hb hx=>?_,fun b o e n hb hx=>?_,fun b o e n hx=>?_,fun b o e hx=>?_,fun b xs e=>tups b xs (I.base.tups b xs e),fun b o xs e=>frzs b o xs (I.base.frzs b o xs e),fun b ps e=>?_⟩,?_,fun x c e=>?_,?_,fun x c e=>?_,fun p hp=>?_,hok,I.len⟩
 ·exact keep b o (neL b o e) hb (neC b o e hx) (I.base.keep b o e n hb hx) (I.base.free b o e n hx)
 ·obtain⟨sl,e1⟩:=I.base.slot b o e n hb hx
  obtain⟨sl',e2⟩:=slot b _ (neL b o e) hb (neC b o e hx) e1 (I.base.free b o e n hx)
  exact⟨sl',e2⟩
 ·obtain⟨o',e1⟩:=I.base.there b o e hx
  exact free b o' (neC b o e hx) e1 (I.base.free b o e n hx)
 ·obtain⟨o',e1⟩:=I.base.there b o e hx
  exact there b o' (neC b o e hx) e1
 ·obtain⟨m1,e1⟩:=I.base.tbls b ps e
  obtain⟨m2,e2⟩:=tbls b _ e1
  exact⟨m1++m2,by rw[e2,Array.append_assoc]⟩
 ·obtain⟨m,hn,hl⟩:=I.loc
  refine⟨m,ns m hn,fun i x v e1 e2 e3=>?_⟩
  obtain⟨u,r,l⟩:=hl i x v e1 e2 e3
  refine⟨u,r,?_⟩
  rcases l with l|⟨k,c,e,z⟩
  ·exact .inl l
  ·exact .inr ⟨k,c,e,cellK x c e _ z⟩
 ·obtain⟨v,z⟩:=I.cell x c e
  exact⟨v,cellK x c e v z⟩
 ·obtain⟨m,⟨o,_,_,ho,_⟩,_⟩:=I.loc
  exact free _ o (fun z=>(hch _ z).2.1 rfl) ho I.free
 ·obtain⟨v,o,ho,hd⟩:=I.cell x c e
  exact free c o (fun z=>(hch c z).2.2.1 x c e rfl) ho (I.freeC x c e)
 ·obtain⟨e,n,ne,nf,d⟩:=I.pin p hp
  have nch:p.1∉ch:=fun z=>(hch p.1 z).2.2.2 p hp rfl
  exact⟨keep p.1 p.2 ne nf nch e n,free p.1 p.2 nch e n,ne,nf,d⟩
theorem Inv.un {t':Nat} (I:Inv X pins σ H s) (u:Un X.fs [] H H' s.heap h') (hok:HOk X.prog X.w X.K H' h'):Inv X pins σ H' { s with heap:=h',toks:=t' }:=by
 obtain⟨m,⟨o,es,ep,ho,r⟩,_⟩:=id I.loc
 obtain⟨sl,hL⟩:=u.any ho I.free (by simp)
 exact I.step (g':=s.gens) (d':=s.drawn) (ch:=[]) (fun _ z=>nomatch z) (fun b o _ hb _ e n=>u.keep b o e n hb (by simp)) (fun b o _ hb _ e n=>u.slot b o e n hb (by simp)) (fun b o _ e n=>u.free b o e n (by simp)) (fun b o _ e=>u.there b o e (by simp)) u.tups u.frzs u.tbls (fun m' hm=>by
  obtain⟨o',es',ep',ho',r'⟩:=hm
  rw[ho] at ho';cases ho'
  exact⟨_,es',ep',hL,r'⟩) hok I.bare
theorem Inv.call {g':Array GenState}{t':Nat}{d':Drawn}{ch:List Addr} (I:Inv X pins σ H s) (u:Un (frs X.stack) ch H H' s.heap h') (hok:HOk X.prog X.w X.K H' h') (hg:AllBare g')
  (hch:∀ b∈ch,(b∈X.ex\/X.s₀.heap.objs.size<=b)/\b≠X.env.locals/\(∀ x c,X.env.cells.lookup x=some c->c≠b)/\∀ p∈X.pn++pins,p.1≠b) :
  Inv X pins σ H' { s with heap:=h',gens:=g',drawn:=d',toks:=t' }:=by
 obtain⟨m,⟨o,es,ep,ho,r⟩,_⟩:=id I.loc
 obtain⟨sl,hL⟩:=u.any ho I.free fun z=>(hch _ z).2.1 rfl
 exact I.step (ch:=ch) hch (fun b o hL hb hc e n=>u.keep b o e n (fun z=>(List.mem_cons.mp (I.stkSub b z)).elim hL hb) hc) (fun b o _ _ hc e n=>u.any e n hc) (fun b o hc e n=>u.free b o e n hc) (fun b o hc e=>u.there b o e hc) u.tups u.frzs u.tbls (fun m' hm=>by
  obtain⟨o',es',ep',ho',r'⟩:=hm
  rw[ho] at ho';cases ho'
  exact⟨_,es',ep',hL,r'⟩) hok hg
theorem Inv.turned {t':Nat}{it:Addr} (I:Inv X pins σ H s) (k:∀ b o,b≠it->s.heap.get? b=some o->h'.get? b=some o) (hn:H it=none) (hL:it≠X.env.locals)
  (h1:it∈X.ex\/X.s₀.heap.objs.size<=it) (h2:∀ x c,X.env.cells.lookup x=some c->c≠it) (h3:∀ p∈X.pn++pins,p.1≠it):Inv X pins σ H { s with heap:=h',toks:=t' }:=by
 have nit:∀ b u,H b=some u->b≠it:=fun b u e z=>by rw[z,hn] at e;cases e
 refine I.step (g':=s.gens) (d':=s.drawn) (ch:=[it]) (fun b hb=>?_) (fun b o _ _ hc e _=>k b o (fun z=>hc (by simp[z])) e) (fun b o _ _ hc e _=>⟨o.slots,k b o (fun z=>hc (by simp[z])) e⟩) (fun _ _ _ _ n=>n)
  (fun b o hc e=>⟨o,k b o (fun z=>hc (by simp[z])) e⟩) (fun _ _ e=>e) (fun _ _ _ e=>e) (fun b ps e=>⟨#[],by rw[e];simp⟩) (fun m hm=>?_) (fun b u e=>?_) I.bare
 ·have e:b=it:=by simpa using hb
  subst e
  exact⟨h1,hL,h2,h3⟩
 ·obtain⟨o,es,ep,ho,r⟩:=hm
  exact⟨o,es,ep,k _ o (Bak hL) ho,r⟩
 ·refine (I.hok b u e).stay (fun c v hc q=>k c v ?_ q) (fun _ q=>q) (fun _ _ q=>q) fun _ _ _ q=>q
  rcases hc with z|z
  ·rw[z];exact nit b u e
  ·exact nit c _ z
theorem Inv.tok (I:Inv X pins σ H s) (t:Nat):Inv X pins σ H { s with toks:=t }:=I.un (h':=s.heap) (t':=t) Un.refl I.hok
theorem Inv.kept {t':Nat} (I:Inv X pins σ H s) (k:∀ b u,s.heap.get? b=some u->h'.get? b=some u):Inv X pins σ H { s with heap:=h',toks:=t' }:=I.un (Un.kept k) (I.hok.kept k)
theorem Inv.laid {a:Addr}{o:HO}{t':Nat} (I:Inv X pins σ H s) (k:∀ b u,s.heap.get? b=some u->h'.get? b=some u) (hp:s.heap.objs.size<=a) (new:ObjOk X.prog X.w X.K (upd H a o) h' a o) :
  Inv X pins σ (upd H a o) { s with heap:=h',toks:=t' }:=I.un (Un.laid k hp (I.hok.fresh hp)) (I.hok.laid k hp new)
theorem Inv.write {x e:Addr}{o:HO}{t':Nat} (I:Inv X pins σ H s) (mu:Mut (H x)) (he:e=x\/H e=some (.own x)) (k:∀ b u,b≠e->s.heap.get? b=some u->h'.get? b=some u) (heo:∃ u,h'.get? e=some u)
  (new:ObjOk X.prog X.w X.K (upd H x o) h' x o):Inv X pins σ (upd H x o) { s with heap:=h',toks:=t' }:=I.un (Un.write mu he k heo) (I.hok.write mu he k heo new)
theorem Inv.pins_of {pins':List (Addr×Obj)} (I:Inv X pins σ H s) (h:∀ p∈pins',s.heap.get? p.1=some p.2/\H p.1=none/\p.1≠X.env.locals/\p.1∉X.fs/\∀ v,p.2.data≠.cell v):Inv X pins' σ H s :=
 ⟨I.ok,I.os,I.bare,I.base,I.loc,I.cell,I.free,I.freeC,fun p hp=>(List.mem_append.mp hp).elim (fun z=>I.pin p (Azw _ z)) (h p),I.hok,I.len⟩
theorem Uu {N:List Str} (hN:N.Nodup) {i j:Nat}{x:Str} (a:N[i]?=some x) (b:N[j]?=some x):i=j:=by
 obtain⟨h1,e1⟩:=List.getElem?_eq_some_iff.mp a
 obtain⟨h2,e2⟩:=List.getElem?_eq_some_iff.mp b
 exact (List.getElem_inj hN).mp (e1.trans e2.symm)
theorem Lg {M:Model}{A:Around}{E:Value->Shared->Prop}{i:Nat}{x:Str}{v:V}{u:Value}{Q:Unit->Shared->Prop} (I:Inv X pins σ H s) (hN:X.N.Nodup) (hi:X.N[i]?=some x) (hx:Loc X.env.scope x) (r:RelV v u)
  (h:∀ s',Inv X pins (σ.set i (some v)) H s'->(∃ a,Heap.SameBut a s.heap s'.heap/\(a=X.env.locals\/X.env.cells.lookup x=some a))->Q () s') (hf:X.fn x=true\/X.env.scope.names.lookup x=some .local:=by first|exact .inl rfl|exact .inr rfl|assumption):wpAny M A (storeName X.env x u) Q E s:=by
 obtain⟨m,hn,hl⟩:=id I.loc
 have hcls:(X.env.scope.kind == .class||(X.env.scope.kind == .module&&X.env.locals != X.env.globals))=false:=by rw[I.ok.kind];rfl
 have hiσ:i < σ.length:=by rw[I.len];exact (List.getElem?_eq_some_iff.mp hi).1
 have cne:=I.cne
 have tracked:∀ {a:Addr}{h':Heap},(∃ o,s.heap.get? a=some o/\H a=none)->Heap.SameBut a s.heap h'->HOk X.prog X.w X.K H h':=fun {a h'} ha hs b ob e=>by
  obtain⟨_,_,hfree⟩:=ha
  refine (I.hok b ob e).stay (fun c w' hc q=>(hs.2 c ?_).trans q) (fun _ q=>q) (fun _ _ q=>q) fun _ _ _ q=>q
  rintro rfl
  rcases hc with rfl|hc
  ·rw[hfree] at e;cases e
  ·rw[hfree] at hc;cases hc
 rcases hx with hk|hk
 ·refine wpAny_storeName_local hk hn (fun h' hn' hs=>?_) hcls
  obtain⟨oL,_,_,hoL,_⟩:=id hn
  refine h _ ⟨I.ok,I.os,I.bare,⟨fun b o e n hb hx=>?_,fun b o e n hb hx=>?_,I.base.free,fun b o e hx=>?_,I.base.tups,I.base.frzs,I.base.tbls⟩,⟨_,hn',fun j y v' e1 e2 e3=>?_⟩,fun y c e=>?_,I.free,I.freeC,fun p hp=>?_,tracked ⟨oL,hoL,I.free⟩ hs,by simpa using I.len⟩ ⟨_,hs,.inl rfl⟩
  ·exact (hs.2 b (Az1 (Azt (Azj e) I.ok.above))).trans (I.base.keep b o e n hb hx)
  ·obtain⟨sl,e1⟩:=I.base.slot b o e n hb hx
   exact⟨sl,(hs.2 b (Az1 (Azt (Azj e) I.ok.above))).trans e1⟩
  ·obtain⟨o',e1⟩:=I.base.there b o e hx
   exact⟨o',(hs.2 b (Az1 (Azt (Azj e) I.ok.above))).trans e1⟩
  ·by_cases hj:j=i
   ·subst hj
    rw[hi] at e1;cases e1
    rw[Bbm hiσ] at e2
    cases e2
    exact⟨u,r,.inl ⟨hk,by simp⟩⟩
   ·rw[Bb2 (Bak hj)] at e2
    obtain⟨u',r',q⟩:=hl j y v' e1 e2 e3
    refine⟨u',r',?_⟩
    rcases q with ⟨k,e⟩|⟨k,c,e,z⟩
    ·refine .inl ⟨k,?_⟩
     have:y≠x:=fun e=>hj (Uu hN e1 (e ▸ hi))
     simp[this,e]
    ·exact .inr ⟨k,c,e,z.sameBut hs (cne y c e)⟩
  ·obtain⟨w',z⟩:=I.cell y c e
   exact⟨w',z.sameBut hs (cne y c e)⟩
  ·obtain⟨e,n,ne,nf,d⟩:=I.pin p hp
   exact⟨(hs.2 p.1 ne).trans e,n,ne,nf,d⟩
 ·have hfn:X.fn x=true:=by
   rcases hf with z|z
   ·exact z
   ·rw[z] at hk;cases hk
  obtain⟨c,hc⟩:=I.ok.has x (.inl hk)
  obtain⟨w',z⟩:=I.cell x c hc
  refine wpAny_storeName_cell I.ok.kind hk hc z (fun h' hc' hs=>?_)
  obtain⟨oc,hoc,hocd⟩:=id z
  refine h { s with heap:=h' } ⟨I.ok,I.os,I.bare,⟨fun b o e n hb hx=>?_,fun b o e n hb hx=>?_,I.base.free,fun b o e hx=>?_,I.base.tups,I.base.frzs,I.base.tbls⟩,⟨m,hn.sameBut hs (Bak (cne x c hc)),fun j y v' e1 e2 e3=>?_⟩,fun y c' e=>?_,I.free,I.freeC,fun p hp=>?_,tracked ⟨oc,hoc,I.freeC x c hc⟩ hs,by simpa using I.len⟩ ⟨c,hs,.inr hc⟩
  ·exact (hs.2 b (Az1 (Azt (Azj e) (I.ok.cab x c hfn hc)))).trans (I.base.keep b o e n hb hx)
  ·obtain⟨sl,e1⟩:=I.base.slot b o e n hb hx
   exact⟨sl,(hs.2 b (Az1 (Azt (Azj e) (I.ok.cab x c hfn hc)))).trans e1⟩
  ·obtain⟨o',e1⟩:=I.base.there b o e hx
   exact⟨o',(hs.2 b (Az1 (Azt (Azj e) (I.ok.cab x c hfn hc)))).trans e1⟩
  ·by_cases hj:j=i
   ·subst hj
    rw[hi] at e1;cases e1
    rw[Bbm hiσ] at e2
    cases e2
    exact⟨u,r,.inr ⟨.inl hk,c,hc,hc'⟩⟩
   ·rw[Bb2 (Bak hj)] at e2
    obtain⟨u',r',q⟩:=hl j y v' e1 e2 e3
    refine⟨u',r',?_⟩
    rcases q with q|⟨k,c',e,z'⟩
    ·exact .inl q
    ·refine .inr ⟨k,c',e,z'.sameBut hs ?_⟩
     rintro rfl
     exact hj (Uu hN e1 (I.ok.inj _ _ _ e hc ▸ hi))
  ·by_cases hcc:c'=c
   ·subst hcc;exact⟨_,hc'⟩
   ·obtain⟨w2,z2⟩:=I.cell y c' e
    exact⟨w2,z2.sameBut hs hcc⟩
  ·obtain⟨e,n,ne,nf,d⟩:=I.pin p hp
   refine⟨(hs.2 p.1 ?_).trans e,n,ne,nf,d⟩
   intro q
   rw[q,hoc] at e
   have q':oc=p.2:=Bag e
   exact d w' (by rw[<- q'];exact hocd)
theorem Ve {M:Model}{A:Around}{E:Value->Shared->Prop}{i:Nat}{x:Str}{v:V}{u:Value}{Q:Unit->Shared->Prop} (I:Inv X pins σ H s) (hN:X.N.Nodup) (hi:X.N[i]?=some x) (hx:Loc X.env.scope x) (r:RelV v u)
  (h:∀ s',Inv X pins (σ.set i (some v)) H s'->Q () s') (hf:X.fn x=true\/X.env.scope.names.lookup x=some .local:=by first|exact .inl rfl|exact .inr rfl|assumption):wpAny M A (storeName X.env x u) Q E s :=
 Lg I hN hi hx r (fun s' I' _=>h s' I') hf
theorem Inv.call' {s':Shared}{ch:List Addr} (I:Inv X pins σ H s) (ho:s'.os=s.os) (u:Un (frs X.stack) ch H H' s.heap s'.heap) (hok:HOk X.prog X.w X.K H' s'.heap) (hg:AllBare s'.gens)
  (hch:∀ b∈ch,(b∈X.ex\/X.s₀.heap.objs.size<=b)/\b≠X.env.locals/\(∀ x c,X.env.cells.lookup x=some c->c≠b)/\∀ p∈X.pn++pins,p.1≠b):Inv X pins σ H' s':=by
 obtain⟨h',g',d',t',o'⟩:=s'
 have e:o'=s.os:=ho
 subst e
 exact I.call (g':=g') (t':=t') (d':=d') u hok hg hch
end
abbrev XK:=Value->Option Addr->Hp->Prop
abbrev St:=List (Option V)
abbrev VK:=V->Hp->Prop
abbrev TE:=St->Hp->VK->Prop
abbrev TT:=St->Hp->(Bool->Hp->Prop)->Prop
abbrev TA:=St->Hp->(List V->Hp->Prop)->Prop
structure Ends where
 nx:St->Hp->Prop
 rt:VK
 bk:St->Hp->Prop:=fun _ _=>False
 ct:St->Hp->Prop:=fun _ _=>False
abbrev TS:=Ends->St->Hp->Prop
def EP (X:Cx) (pins:List (Addr×Obj)) (σ:St) (Q:VK) (u:Value) (s':Shared):Prop:=∃ v H',Inv X pins σ H' s'/\RelV v u/\Q v H'
def TP (X:Cx) (pins:List (Addr×Obj)) (σ:St) (Q:Bool->Hp->Prop) (b:Bool) (s':Shared):Prop:=∃ H',Inv X pins σ H' s'/\Q b H'
def AP (X:Cx) (pins:List (Addr×Obj)) (σ:St) (Q:List V->Hp->Prop) (us:List Value) (s':Shared):Prop:=∃ vs H',Inv X pins σ H' s'/\Vals vs us/\Q vs H'
def SP (X:Cx) (pins:List (Addr×Obj)) (D:Ends) (f:Flow) (s':Shared):Prop :=
 match f with
 |.next=>∃ σ' H',Inv X pins σ' H' s'/\D.nx σ' H'
 |.brk=>∃ σ' H',Inv X pins σ' H' s'/\D.bk σ' H'
 |.cont=>∃ σ' H',Inv X pins σ' H' s'/\D.ct σ' H'
 |.ret u=>∃ v σ' H',Inv X pins σ' H' s'/\RelV v u/\D.rt v H'
def PE (X:Cx) (e:Expr) (t:TE):Prop :=
 ∀ (pins:List (Addr×Obj)) (s:Shared) (σ:St) (H:Hp) (Q:VK),Inv X pins σ H s->t σ H Q->wpAny (model X.prog X.w) X.A (eval e X.env) (EP X pins σ Q) X.xe s
def PT (X:Cx) (e:Expr) (t:TT):Prop :=
 ∀ (pins:List (Addr×Obj)) (s:Shared) (σ:St) (H:Hp) (Q:Bool->Hp->Prop),Inv X pins σ H s->t σ H Q->wpAny (model X.prog X.w) X.A (isTrue e X.env (eval e X.env)) (TP X pins σ Q) X.xe s
def PW (X:Cx) (e:Expr) (t:TT):Prop :=
 ∀ (whole:Sem Value) (pins:List (Addr×Obj)) (s:Shared) (σ:St) (H:Hp) (Q:Bool->Hp->Prop),Inv X pins σ H s->t σ H Q->wpAny (model X.prog X.w) X.A (isTrue e X.env whole) (TP X pins σ Q) X.xe s
theorem PW.pt {X:Cx}{e:Expr}{t:TT} (h:PW X e t):PT X e t:=h _
def PA (X:Cx) (es:List Expr) (t:TA):Prop :=
 ∀ (pos:Pos) (pins:List (Addr×Obj)) (s:Shared) (σ:St) (H:Hp) (Q:List V->Hp->Prop),Inv X pins σ H s->t σ H Q->wpAny (model X.prog X.w) X.A (spliced (backTo pos (starEach es X.env))) (AP X pins σ Q) X.xe s
def PS (X:Cx) (st:Stmt) (t:TS):Prop :=
 ∀ (pins:List (Addr×Obj)) (s:Shared) (σ:St) (H:Hp) (D:Ends),Inv X pins σ H s->t D σ H->wpAny (model X.prog X.w) X.A (exec st X.env) (SP X pins D) X.xe s
def PSs (X:Cx) (st:List Stmt) (t:TS):Prop :=
 ∀ (pins:List (Addr×Obj)) (s:Shared) (σ:St) (H:Hp) (D:Ends),Inv X pins σ H s->t D σ H->wpAny (model X.prog X.w) X.A (execs st X.env) (SP X pins D) X.xe s
theorem thn {α:Type}{t:Sem α}{Q Q':α->Shared->Prop}{M:Model}{A:Around}{E:Value->Shared->Prop}{s:Shared} (h:wpAny M A t Q E s) (hQ:∀ a s,Q a s->Q' a s):wpAny M A t Q' E s:=Bal h hQ fun _ _ x=>x
section
variable {X:Cx}
noncomputable def Ay8 (i:Nat):TE:=fun σ H Q=>∃ v,σ[i]?=some (some v)/\Q v H
noncomputable def tC (v:V):TE:=fun _ H Q=>Q v H
theorem Ar6 {i:Nat}{x:Str}{pos:Pos} (hN:X.N[i]?=some x) (hv:Vis X.env.scope x) (hd:(x == ("__debug__":Str))=false:=by decide) (hcd:(x == ("__classdict__":Str))=false:=by decide):PE X (.Name x pos) (Ay8 i):=by
 intro pins s σ H Q I h
 obtain⟨v,e,h⟩:=h
 obtain⟨m,hn,hl⟩:=I.loc
 obtain⟨u,r,l⟩:=hl i x v hN e hv
 have fin:EP X pins σ Q u s:=⟨v,H,I,r,h⟩
 rcases l with ⟨hk,hm⟩|⟨hk,c,hc,hcell⟩
 ·exact wpAny_Name (wpAny_loadName_local I.ok.kind hk hn hm fin) hd
 ·rcases hk with hk|hk
  ·exact wpAny_Name (wpAny_loadName_cell I.ok.kind hk hc hcell fin) hd
  ·exact wpAny_Name (wpAny_loadName_free I.ok.kind hk hc hcell fin hcd) hd
theorem Ar1 {i j pos}:PE X (.Constant (.int i) j pos) (tC (.int i)):=fun _ _ _ H _ I h=>wpAny_Constant_int ⟨.int i,H,I.tok _,⟨_,rfl⟩,h⟩
theorem Av5 {b j pos}:PE X (.Constant (.bool b) j pos) (tC (.bl b)):=fun _ _ _ H _ I h=>Constant_bool ⟨.bl b,H,I,rfl,h⟩
theorem Aat {j pos}:PE X (.Constant .none j pos) (tC .non):=fun _ _ _ H _ I h=>Constant_none ⟨.non,H,I,rfl,h⟩
theorem Ar5 {x j pos}:PE X (.Constant (.str x) j pos) (tC (.str x)):=fun _ _ _ H _ I h=>Calls.Constant_str ⟨.str x,H,I.tok _,⟨_,rfl⟩,h⟩
def Gl (X:Cx) (x:Str):Prop:=X.env.kindOf x=some .globalImplicit
theorem Np {E:Value->Shared->Prop}{pins:List (Addr×Obj)}{s:Shared}{σ:St}{H:Hp}{x:Str}{u:Value}{pos:Pos}{Q:Value->Shared->Prop} (I:Inv X pins σ H s) (hg:Gl X x) (hm:X.mg x=some u) (h:Q u s)
  (hd:(x == ("__debug__":Str))=false:=by decide):wpAny (model X.prog X.w) X.A (eval (.Name x pos) X.env) Q E s :=
 Calls.Name_function_global I.ok.kind hg (Calls.loadGlobal_global (by rw[I.ok.glob];exact I.mod.glob.keeps I.bk) hm h) hd
theorem Dk {E:Value->Shared->Prop}{pins:List (Addr×Obj)}{s:Shared}{σ:St}{H:Hp}{x:Str}{u:Value}{pos:Pos}{Q:Value->Shared->Prop} (I:Inv X pins σ H s) (hg:Gl X x) (hm:X.mg x=none) (hv:bootBuiltins x=some u) (h:Q u s)
  (hn:x≠"__name__":=by decide) (hd:(x == ("__debug__":Str))=false:=by decide):wpAny (model X.prog X.w) X.A (eval (.Name x pos) X.env) Q E s:=by
 obtain⟨mb,h1,h2⟩:=I.mod.blt
 exact Calls.Name_function_global I.ok.kind hg (Calls.loadGlobal_builtin (by rw[I.ok.glob];exact I.mod.glob.keeps I.bk) hm (by rw[I.ok.blt];exact h1.keeps I.bk) ((h2 x hn).trans hv) h) hd
theorem Alf {x:Str}{v:V}{u:Value}{pos:Pos} (hg:Gl X x) (hm:X.mg x=none) (hv:bootBuiltins x=some u) (r:RelV v u) (hn:x≠"__name__":=by decide) (hd:(x == ("__debug__":Str))=false:=by decide):PE X (.Name x pos) (tC v) :=
 fun _ _ _ H _ I h=>Dk I hg hm hv ⟨v,H,I,r,h⟩ hn hd
variable {a b:Expr}{ta tb:TE}{pos:Pos}
variable {tA tB':TT}{rest:List Expr}
noncomputable def Axd (t u:TT):TT:=fun σ H Q=>t σ H fun c H1=>if c=true then u σ H1 Q else Q false H1
noncomputable def tOr (t u:TT):TT:=fun σ H Q=>t σ H fun c H1=>if c=true then Q true H1 else u σ H1 Q
noncomputable def Ay4 (t:TT):TT:=fun σ H Q=>t σ H fun c H1=>Q (!c) H1
theorem Aa9 (ha:PT X a tA):PW X (.BoolOp .And [a] pos) tA:=by
 intro wh pins s σ H Q I h
 refine isTrue_and (thn (ha pins s σ H Q I h) fun c s1 e=>?_)
 cases c with
 |true=>exact isTrue_and_nil e
 |false=>exact e
theorem Asg (ha:PT X a tA):PW X (.BoolOp .Or [a] pos) tA:=by
 intro wh pins s σ H Q I h
 refine isTrue_or (thn (ha pins s σ H Q I h) fun c s1 e=>?_)
 cases c with
 |false=>exact isTrue_or_nil e
 |true=>exact e
theorem Ag6 (ha:PT X a tA) (hb:PW X (.BoolOp .And (b::rest) pos) tB'):PW X (.BoolOp .And (a::b::rest) pos) (Axd tA tB'):=by
 intro wh pins s σ H Q I h
 refine isTrue_and (thn (ha pins s σ H _ I h) fun c s1 ⟨H1,I1,q1⟩=>?_)
 cases c with
 |true=>exact hb wh pins s1 σ H1 Q I1 q1
 |false=>exact⟨H1,I1,q1⟩
theorem Av9 (ha:PT X a tA) (hb:PW X (.BoolOp .Or (b::rest) pos) tB'):PW X (.BoolOp .Or (a::b::rest) pos) (tOr tA tB'):=by
 intro wh pins s σ H Q I h
 refine isTrue_or (thn (ha pins s σ H _ I h) fun c s1 ⟨H1,I1,q1⟩=>?_)
 cases c with
 |true=>exact⟨H1,I1,q1⟩
 |false=>exact hb wh pins s1 σ H1 Q I1 q1
theorem Ase (ha:PT X a tA):PT X (.UnaryOp .Not a pos) (Ay4 tA):=by
 intro pins s σ H Q I h
 exact isTrue_not (ha pins s σ H (fun c H1=>Q (!c) H1) I h)
noncomputable def Awm (ta tb:TE):TE:=fun σ H Q=>ta σ H fun x H1=>∃ c,x=.bl c/\if c=true then tb σ H1 Q else Q (.bl false) H1
noncomputable def Ay5 (ta tb:TE):TE:=fun σ H Q=>ta σ H fun x H1=>∃ c,x=.bl c/\if c=true then Q (.bl true) H1 else tb σ H1 Q
theorem Ar4 {op}{t:TE} (h:PE X a t):PE X (.BoolOp op [a] pos) t:=fun pins s σ H Q I hw=>BoolOp_one (h pins s σ H Q I hw)
theorem Arz (ha:PE X a ta) (hb:PE X (.BoolOp .And (b::rest) pos) tb):PE X (.BoolOp .And (a::b::rest) pos) (Awm ta tb):=by
 intro pins s σ H Q I h
 refine BoolOp_and (thn (ha pins s σ H _ I h) fun v s1 ⟨x,H1,I1,r1,q1⟩=>?_)
 obtain⟨c,rfl,q1⟩:=q1
 cases r1
 refine Ba5 ?_
 cases c with
 |true=>exact hb pins s1 σ H1 Q I1 q1
 |false=>exact⟨.bl false,H1,I1,rfl,q1⟩
theorem Av7 (ha:PE X a ta) (hb:PE X (.BoolOp .Or (b::rest) pos) tb):PE X (.BoolOp .Or (a::b::rest) pos) (Ay5 ta tb):=by
 intro pins s σ H Q I h
 refine BoolOp_or (thn (ha pins s σ H _ I h) fun v s1 ⟨x,H1,I1,r1,q1⟩=>?_)
 obtain⟨c,rfl,q1⟩:=q1
 cases r1
 refine Ba5 ?_
 cases c with
 |false=>exact hb pins s1 σ H1 Q I1 q1
 |true=>exact⟨.bl true,H1,I1,rfl,q1⟩
noncomputable def tIf (t:TT) (ta tb:TE):TE:=fun σ H Q=>t σ H fun c H1=>if c=true then ta σ H1 Q else tb σ H1 Q
theorem Uy {c:Expr} (hc:PT X c tA) (ha:PE X a ta) (hb:PE X b tb):PE X (.IfExp c a b pos) (tIf tA ta tb):=by
 intro pins s σ H Q I h
 refine wpAny_IfExp (thn (hc pins s σ H _ I h) fun d s1 ⟨H1,I1,q1⟩=>?_)
 cases d with
 |true=>exact ha pins s1 σ H1 Q I1 q1
 |false=>exact hb pins s1 σ H1 Q I1 q1
end
def SqL (K:W.Frag) (H:Hp) (a:Addr) (xs:List V):Prop :=
 Rd H a (.lst xs) \/
  ∃ (o:Obj) (its:Array Value) (n:Nat),K.lookup a=some o/\o.cls=.type "list"/\o.dict=none/\o.data=.seq its n/\its.size<=sizeLine/\Vals xs its.toList
noncomputable def Ayo:Value->Option V
 |.none=>some .non
 |.bool b=>some (.bl b)
 |.int i _=>some (.int i)
 |.str x _=>some (.str x)
 |.bytes b _=>some (.byt b)
 |.float b _=>some (.flt b)
 |.ref a=>some (.ref a)
 |.type n=>some (.ty n)
 |_=>none
theorem RelV.abs {x:V}{u:Value} (r:RelV x u):Ayo u=some x:=by
 cases x with
 |non=>cases r;rfl
 |bl _=>cases r;rfl
 |int _=>obtain⟨t,rfl⟩:=r;rfl
 |str _=>obtain⟨t,rfl⟩:=r;rfl
 |byt _=>obtain⟨t,rfl⟩:=r;rfl
 |flt _=>obtain⟨t,rfl⟩:=r;rfl
 |ref _=>cases r;rfl
 |ty _=>cases r;rfl
theorem RelV.inj {x y:V}{u:Value} (r:RelV x u) (q:RelV y u):x=y:=Bag (r.abs.symm.trans q.abs)
theorem Vals.inj:∀ {xs ys:List V}{us:List Value},Vals xs us->Vals ys us->xs=ys
 |_,_,_,.nil,.nil=>rfl
 |_,_,_,.cons r t,.cons r' t'=>by rw[r.inj r',Vals.inj t t']
section
variable {X:Cx}{pins:List (Addr×Obj)}{σ:St}{H:Hp}{s:Shared}{a:Addr}{xs ys:List V}
theorem SqL.of {K:W.Frag} (h:H a=some (.lst xs)):SqL K H a xs:=.inl (.inl h)
inductive LstR (h:Heap) (a:Addr) (xs:List V):Prop where
 |mk (its:List Value) (r:Vals xs its) (p:PlainL h a its.toArray) (z:xs.length<=sizeLine)
inductive TupR (h:Heap) (a:Addr) (xs:List V):Prop where
 |mk (its:List Value) (r:Vals xs its) (p:IsTup h a its.toArray) (z:xs.length<=sizeLine)
theorem Inv.list (I:Inv X pins σ H s) (h:SqL X.K H a xs):LstR s.heap a xs:=by
 rcases h with h|⟨o,its,n,hk,hc,hd,hs,hz,r⟩
 ·obtain⟨z,its,n,r,e⟩:=h.ok I.hok
  exact⟨its,r,⟨_,n,e,rfl,rfl,rfl⟩,z⟩
 ·refine⟨its.toList,r,⟨o,n,I.kIn a o hk,hc,hd,by simpa using hs⟩,?_⟩
  have e:=r.length
  simp only[Bbk] at e
  lia
theorem Inv.tuple (I:Inv X pins σ H s) (h:SqT X.K H a xs):TupR s.heap a xs:=by
 rcases h with h|⟨o,its,n,hk,hc,hs,hz,r,_⟩
 ·obtain⟨z,its,r,p⟩:=h.ok I.hok
  exact⟨its,r,p.is,z⟩
 ·refine⟨its.toList,r,⟨o,I.kIn a o hk,hc,n,by simpa using hs⟩,?_⟩
  have e:=r.length
  simp only[Bbk] at e
  lia
inductive TupRD (h:Heap) (a:Addr) (xs:List V):Prop where
 |mk (its:List Value) (r:Vals xs its) (p:TupD h a its.toArray) (z:xs.length<=sizeLine)
theorem Inv.tupleD (I:Inv X pins σ H s) (h:SqT X.K H a xs):TupRD s.heap a xs:=by
 rcases h with h|⟨o,its,n,hk,hc,hs,hz,r,hd⟩
 ·obtain⟨z,its,r,p⟩:=h.ok I.hok
  exact⟨its,r,p,z⟩
 ·refine⟨its.toList,r,⟨o,I.kIn a o hk,hc,n,by simpa using hs,hd⟩,?_⟩
  have e:=r.length
  simp only[Bbk] at e
  lia
theorem Inv.list_inj (I:Inv X pins σ H s) (h:SqL X.K H a xs) (h':SqL X.K H a ys):xs=ys:=by
 obtain⟨its,r,⟨o,n,e,_,_,d⟩,_⟩:=I.list h
 obtain⟨its',r',⟨o',n',e',_,_,d'⟩,_⟩:=I.list h'
 rw[e] at e';cases e'
 rw[d] at d'
 injection d' with d1 _
 have:its=its':=by simpa using Ba4 Array.toList d1
 subst this
 exact r.inj r'
theorem Inv.tuple_inj (I:Inv X pins σ H s) (h:SqT X.K H a xs) (h':SqT X.K H a ys):xs=ys:=by
 obtain⟨its,r,⟨o,e,_,n,d⟩,_⟩:=I.tuple h
 obtain⟨its',r',⟨o',e',_,n',d'⟩,_⟩:=I.tuple h'
 rw[e] at e';cases e'
 rw[d] at d'
 injection d' with d1 _
 have:its=its':=by simpa using Ba4 Array.toList d1
 subst this
 exact r.inj r'
end
abbrev Cx.wish (X:Cx) (E:Value->Shared->Prop):Cx:={ X with xe:=E }
abbrev Cx.nox (X:Cx):Cx:=X.wish fun _ _=>False
theorem Cx.Ok.wish {X:Cx} (ok:X.Ok) (E:Value->Shared->Prop):(X.wish E).Ok :=
 ⟨ok.mod,ok.kind,ok.glob,ok.blt,ok.above,ok.inj,ok.has,ok.cab,ok.hd,ok.frames,ok.stk,ok.exf,ok.bs,ok.bsz,ok.noex,ok.exfs,ok.funs,ok.frf⟩
theorem Cx.Ok.unwish {X:Cx}{E:Value->Shared->Prop} (ok:(X.wish E).Ok):X.Ok :=
 ⟨ok.mod,ok.kind,ok.glob,ok.blt,ok.above,ok.inj,ok.has,ok.cab,ok.hd,ok.frames,ok.stk,ok.exf,ok.bs,ok.bsz,ok.noex,ok.exfs,ok.funs,ok.frf⟩
section
variable {X:Cx}{pins:List (Addr×Obj)}{σ:St}{H:Hp}{s:Shared}{E:Value->Shared->Prop}
theorem Inv.wish (I:Inv X pins σ H s) (E:Value->Shared->Prop):Inv (X.wish E) pins σ H s:=⟨I.ok.wish E,I.os,I.bare,I.base,I.loc,I.cell,I.free,I.freeC,I.pin,I.hok,I.len⟩
theorem Inv.unwish (I:Inv (X.wish E) pins σ H s):Inv X pins σ H s:=⟨I.ok.unwish,I.os,I.bare,I.base,I.loc,I.cell,I.free,I.freeC,I.pin,I.hok,I.len⟩
theorem SP.unwish {D:Ends}{f:Flow}{s':Shared} (h:SP (X.wish E) pins D f s'):SP X pins D f s':=by
 cases f with
 |next=>obtain⟨σ',H',I,q⟩:=h;exact⟨σ',H',I.unwish,q⟩
 |brk=>obtain⟨σ',H',I,q⟩:=h;exact⟨σ',H',I.unwish,q⟩
 |cont=>obtain⟨σ',H',I,q⟩:=h;exact⟨σ',H',I.unwish,q⟩
 |ret u=>obtain⟨v,σ',H',I,r,q⟩:=h;exact⟨v,σ',H',I.unwish,r,q⟩
theorem PE.nox {e:Expr}{t:TE} (h:PE X.nox e t):PE X e t:=fun pins s σ H Q I hw =>
 Bal (h pins s σ H Q (I.wish _) hw) (fun _ _ ⟨v,H',I',r,q⟩=>⟨v,H',I'.unwish,r,q⟩) fun _ _ z=>False.elim z
theorem PSs.nox {st:List Stmt}{t:TS} (h:PSs X.nox st t):PSs X st t:=fun pins s σ H D I hw =>
 Bal (h pins s σ H D (I.wish _) hw) (fun _ _ q=>q.unwish) fun _ _ z=>False.elim z
end
section
variable {X:Cx}{st:Stmt}{rest:List Stmt}{t u:TS}{e:Expr}{te:TE}{pos:Pos}
noncomputable def Awo:TS:=fun D σ H=>D.nx σ H
noncomputable def Axg (t u:TS):TS:=fun D σ H=>t { D with nx:=u D } σ H
theorem Al4:PSs X [] Awo:=fun _ _ σ H _ I h=>wpAny_execs_nil ⟨σ,H,I,h⟩
theorem Aew (h1:PS X st t) (h2:PSs X rest u):PSs X (st::rest) (Axg t u):=by
 intro pins s σ H D I h
 refine wpAny_execs_cons (thn (h1 pins s σ H { D with nx:=u D } I h) fun f s1 q=>?_)
 cases f with
 |next =>
  obtain⟨σ',H',I',q⟩:=q
  exact h2 pins s1 σ' H' D I' q
 |ret v=>exact q
 |brk=>exact q
 |cont=>exact q
theorem Al5 (h1:PS X st t):PSs X [st] t:=by
 intro pins s σ H D I h
 refine wpAny_execs_cons (thn (h1 pins s σ H D I h) fun f s1 q=>?_)
 cases f with
 |next=>exact wpAny_execs_nil q
 |ret v=>exact q
 |brk=>exact q
 |cont=>exact q
theorem Inv.quiet {pins:List (Addr×Obj)}{σ:St}{H:Hp}{s:Shared} (I:Inv X pins σ H s):interactive X.env=false:=by simp[interactive,I.ok.kind]
noncomputable def Awn (te:TE):TS:=fun D σ H=>te σ H fun _ H1=>D.nx σ H1
theorem Te (he:PE X e te) (hs:swapsWith e none pos.line X.env=pure false:=by rfl):PS X (.Expr e pos) (Awn te):=by
 intro pins s σ H D I h
 exact wpAny_Expr_any (thn (he pins s σ H _ I h) fun v s1 ⟨x,H1,I1,r1,q1⟩=>⟨σ,H1,I1,q1⟩) I.quiet hs
noncomputable def Ay6 (te:TE):TS:=fun D σ H=>te σ H D.rt
theorem Aaz (he:PE X e te):PS X (.Return (some e) pos) (Ay6 te):=by
 intro pins s σ H D I h
 exact wpAny_Return_some (thn (he pins s σ H _ I h) fun v s1 ⟨x,H1,I1,r1,q1⟩=>⟨x,σ,H1,I1,r1,q1⟩)
noncomputable def Ay2 (c:TT) (t u:TS):TS:=fun D σ H=>c σ H fun b H1=>if b=true then t D σ H1 else u D σ H1
theorem Asb {c:Expr}{a b:List Stmt}{tc:TT} (hc:PT X c tc) (ha:PSs X a t) (hb:PSs X b u):PS X (.If c a b pos) (Ay2 tc t u):=by
 intro pins s σ H D I h
 refine wpAny_If (thn (hc pins s σ H _ I h) fun d s1 ⟨H1,I1,q1⟩=>?_)
 cases d with
 |true=>exact ha pins s1 σ H1 D I1 q1
 |false=>exact hb pins s1 σ H1 D I1 q1
end
abbrev TG:=V->St->Hp->(St->Hp->Prop)->Prop
abbrev TGs:=List V->St->Hp->(St->Hp->Prop)->Prop
def PG (X:Cx) (target:Expr) (t:TG):Prop :=
 ∀ (pins:List (Addr×Obj)) (s:Shared) (σ:St) (H:Hp) (v:V) (u:Value) (Q:St->Hp->Prop),Inv X pins σ H s->RelV v u->t v σ H Q ->
  wpAny (model X.prog X.w) X.A (assign target X.env u) (fun _ s'=>∃ σ' H',Inv X pins σ' H' s'/\Q σ' H') X.xe s
def PGs (X:Cx) (ts:List Expr) (t:TGs):Prop :=
 ∀ (pins:List (Addr×Obj)) (s:Shared) (σ:St) (H:Hp) (vs:List V) (us:List Value) (Q:St->Hp->Prop),Inv X pins σ H s->Vals vs us->t vs σ H Q ->
  wpAny (model X.prog X.w) X.A (assignInOrder ((assignEach ts X.env).map (·.2)) us) (fun _ s'=>∃ σ' H',Inv X pins σ' H' s'/\Q σ' H') X.xe s
abbrev At7:=V->V->V->Hp->(Hp->Prop)->Prop
def Aww (X:Cx) (t:At7):Prop :=
 ∀ (pins:List (Addr×Obj)) (s:Shared) (σ:St) (H:Hp) (o i v:V) (ov iv u:Value) (Q:Hp->Prop),Inv X pins σ H s->RelV o ov->RelV i iv->RelV v u->t o i v H Q ->
  wpAny (model X.prog X.w) X.A (setItem ov iv u) (fun _ s'=>∃ H',Inv X pins σ H' s'/\Q H') X.xe s
section
variable {X:Cx}{pos:Pos}
noncomputable def V3 (i:Nat):TG:=fun v σ H Q=>Q (σ.set i (some v)) H
theorem Alm {i:Nat}{x:Str} (hN:X.N.Nodup) (hi:X.N[i]?=some x) (hx:Loc X.env.scope x) (hf:X.fn x=true\/X.env.scope.names.lookup x=some .local:=by first|exact .inl rfl|exact .inr rfl|assumption):PG X (.Name x pos) (V3 i):=by
 intro pins s σ H v u Q I r h
 exact wpAny_assign_Name (Ve I hN hi hx r (fun s' I'=>⟨_,H,I',h⟩) hf)
noncomputable def Ayr:TGs:=fun vs σ H Q=>vs=[]/\Q σ H
noncomputable def Avd (t:TG) (u:TGs):TGs:=fun vs σ H Q=>∃ v r,vs=v::r/\t v σ H fun σ' H'=>u r σ' H' Q
theorem Alo:PGs X [] Ayr:=by
 intro pins s σ H vs us Q I r h
 obtain⟨e,h⟩:=h
 subst e
 cases r
 exact assignInOrder_nil ⟨σ,H,I,h⟩
theorem Aei {e:Expr}{es:List Expr}{t:TG}{u:TGs} (h1:PG X e t) (h2:PGs X es u)
  (hs:(assignEach (e::es) X.env).map (·.2)=assign e X.env::(assignEach es X.env).map (·.2):=by rfl):PGs X (e::es) (Avd t u):=by
 intro pins s σ H vs us Q I r h
 obtain⟨v,vr,e1,h⟩:=h
 subst e1
 cases r with
 |cons r rr =>
  rw[hs]
  refine assignInOrder_cons (thn (h1 pins s σ H _ _ _ I r h) fun _ s1 ⟨σ1,H1,I1,q1⟩=>?_)
  exact h2 pins s1 σ1 H1 _ _ Q I1 rr q1
noncomputable def Ayt (K:W.Frag) (n:Nat) (t:TGs):TG:=fun v σ H Q=>∃ a xs,v=.ref a/\SqT K H a xs/\xs.length=n/\t xs σ H Q
theorem Ar9 {es:List Expr}{k:Nat}{t:TGs}{n:Nat} (hc:X.calm=true) (h:PGs X es t)
  (hn:(assignEach es X.env).length=n:=by rfl) (hst:(assignEach es X.env).findIdx? (·.1)=none:=by rfl):PG X (.Tuple es k pos) (Ayt X.K n t):=by
 intro pins s σ H v u Q I r hw
 obtain⟨a,xs,e1,hq,hl,hw⟩:=hw
 subst e1
 cases r
 obtain⟨its,rv,ht,hz⟩:=I.tuple hq
 refine assign_Tuple_tuple (I.ok.hd hc) ht (by simp[hn,<- hl,rv.length]) hst fun h' hx=>?_
 have I1:Inv X pins σ H { s with heap:=h' }:=I.kept (t':=s.toks) fun b o e=>hx b o (Az1 (Azj e)) e
 exact h pins _ σ H xs _ Q I1 (by simpa using rv) hw
noncomputable def Ays (to ti:TE) (t:At7):TG:=fun v σ H Q=>to σ H fun o H1=>ti σ H1 fun i H2=>t o i v H2 fun H3=>Q σ H3
theorem Ag4 {o i:Expr}{to ti:TE}{t:At7} (ho:PE X o to) (hi:PE X i ti) (hs:Aww X t)
  (ha:∀ v,assign (.Subscript o i pos) X.env v=(do
   let ov <- holding [v] (eval o X.env)
   let iv <- holding [v,ov] (eval i X.env)
   standAt pos
   holding [v,ov,iv] (setItem ov iv v)
   release [v,ov,iv] []):=by intro _;rfl):PG X (.Subscript o i pos) (Ays to ti t):=by
 intro pins s σ H v u Q I r h
 rw[ha]
 refine Azc (Bah (thn (ho pins s σ H _ I h) fun ov s1 ⟨x,H1,I1,r1,q1⟩=>?_))
 refine Azc (Bah (thn (hi pins s1 σ H1 _ I1 q1) fun iv s2 ⟨y,H2,I2,r2,q2⟩=>?_))
 refine Azc (wpAny_standAt (Azc (Bah (thn (hs pins s2 σ H2 x y v ov iv u _ I2 r1 r2 r q2) fun _ s3 ⟨H3,I3,q3⟩=>?_))))
 exact wpAny_release ⟨σ,H3,I3,q3⟩
noncomputable def Anj (te:TE) (g:TG):TS:=fun D σ H=>te σ H fun x H1=>g x σ H1 D.nx
theorem U0 {tg e:Expr}{te:TE}{g:TG} (he:PE X e te) (hg:PG X tg g) (hs:swapsWithSole [tg] e pos.line X.env=pure false:=by rfl) (hw:swappedStores [tg] e X.env=pure none:=by rfl)
  (h1:(assignEach [tg] X.env).map (·.2)=[assign tg X.env]:=by rfl):PS X (.Assign [tg] e pos) (Anj te g):=by
 intro pins s σ H D I h
 refine wpAny_Assign_stores (thn (he pins s σ H _ I h) fun v s1 ⟨x,H1,I1,r1,q1⟩=>?_) hs hw
 rw[h1]
 exact thn (hg pins s1 σ H1 x v _ I1 r1 q1) fun _ s2 q=>q
theorem Aa0 {i:Nat}{x:Str}{e:Expr}{te:TE}{pos':Pos} (hN:X.N.Nodup) (hi:X.N[i]?=some x) (hx:Loc X.env.scope x) (he:PE X e te) (hs:swapsWith e (some (.Name x pos')) pos.line X.env=pure false:=by rfl) (hf:X.fn x=true\/X.env.scope.names.lookup x=some .local:=by first|exact .inl rfl|exact .inr rfl|assumption) :
  PS X (.Assign [.Name x pos'] e pos) (Anj te (V3 i)):=by
 intro pins s σ H D I h
 refine wpAny_Assign_Name (thn (he pins s σ H _ I h) fun v s1 ⟨y,H1,I1,r1,q1⟩=>?_) hs
 exact Ve I1 hN hi hx r1 (fun s2 I2=>⟨_,H1,I2,q1⟩) hf
end
section
variable {X:Cx}{pos:Pos}
noncomputable def Atf (c:TT) (tb:TS):TS:=fun D σ H=>∃ W:Nat->St->Hp->Prop,(∃ m,W m σ H)/\∀ m σ H,W m σ H ->
 c σ H fun b H1=>if b=true then ∃ N:St->Hp->Prop,(∀ σ' H',N σ' H'->∃ m',m' < m/\W m' σ' H')/\tb { D with nx:=N,ct:=N,bk:=D.nx } σ H1 else D.nx σ H1
theorem Aeo {c:Expr}{body:List Stmt}{tc:TT}{tb:TS} (hp:PassesOwn (model X.prog X.w) X.A X.env X.xe) (hc:PT X c tc) (hb:PSs X body tb):PS X (.While c body [] pos) (Atf tc tb):=by
 intro pins s σ H D I h
 obtain⟨W,⟨m0,w0⟩,turn⟩:=h
 refine wpAny_While (codeAny_whileLoop (fun n s'=>∃ σ' H',Inv X pins σ' H' s'/\W n σ' H') ?_ m0 ⟨σ,H,I,w0⟩)
 rintro n s1 ⟨σ1,H1,I1,w1⟩
 refine Bbq hp (thn (hc pins s1 σ1 H1 _ I1 (turn n σ1 H1 w1)) fun b s2 ⟨H2,I2,q2⟩=>?_)
 cases b with
 |true =>
  obtain⟨N,hN,q2⟩:=q2
  rw[Azp rfl]
  refine Bbq hp (thn (hb pins s2 σ1 H2 _ I2 q2) fun f s3 q3=>?_)
  cases f with
  |next =>
   obtain⟨σ3,H3,I3,n3⟩:=q3
   obtain⟨m',hm,w3⟩:=hN σ3 H3 n3
   exact⟨m',hm,σ3,H3,I3,w3⟩
  |cont =>
   obtain⟨σ3,H3,I3,n3⟩:=q3
   obtain⟨m',hm,w3⟩:=hN σ3 H3 n3
   exact⟨m',hm,σ3,H3,I3,w3⟩
  |brk=>exact q3
  |ret v=>exact q3
 |false =>
  rw[Azs Az7]
  exact wpAny_execs_nil ⟨σ1,H2,I2,q2⟩
end
structure It where
 go:Nat->Hp->Prop
 yld:Nat->Hp->V->Hp->Prop
 stop:Nat->Hp->Prop
def Ack (X:Cx) (pins:List (Addr×Obj)) (H:Hp) (b:Addr):Prop :=
 H b=none/\b≠X.env.locals/\b∉X.fs/\(b∈X.ex\/X.s₀.heap.objs.size<=b)/\(∀ x c,X.env.cells.lookup x=some c->c≠b)/\∀ p∈X.pn++pins,p.1≠b
theorem Inv.fpOk {X:Cx}{pins:List (Addr×Obj)}{σ:St}{H H':Hp}{s:Shared}{b:Addr} (I:Inv X pins σ H s) (hb:s.heap.objs.size<=b) (hn:H' b=none):Ack X pins H' b:=by
 refine⟨hn,Bao (Azt I.lt hb),I.nofs hb,.inr (Azy I.sz hb),fun x c e z=>?_,fun p hp z=>?_⟩
 ·obtain⟨v,q⟩:=I.cell x c e
  exact absurd (Azt q.lt (by rw[z];exact hb)) (Az9 _)
 ·exact absurd (Azt (Azj (I.pin p hp).1) (by rw[z];exact hb)) (Az9 _)
structure Turn (P:Program) (w:World) (K:W.Frag) (tg:Expr) (J:It) (fp:List Addr) (it:Addr) (tn:Nat->Heap->Prop):Prop where
 mem:it∈fp
 obj:∀ i h,tn i h->∀ b∈fp,∃ o,h.get? b=some o/\∀ v,o.data≠.cell v
 keep:∀ i h h',tn i h->(∀ b∈fp,∀ o,h.get? b=some o->h'.get? b=some o)->tn i h'
 item:∀ (X:Cx),X.prog=P->X.w=w->X.K=K->X.calm=true->∀ (i:Nat) (pins:List (Addr×Obj)) (s:Shared) (σ:St) (H:Hp) (E:Value->Shared->Prop),Inv X pins σ H s->(∀ b∈fp,Ack X pins H b)->tn i s.heap->J.go i H ->
  wpAny (model P w) X.A (pyNext (.ref it)) (fun r s1=>∃ u,r=some u /\
   wpAny (model P w) X.A (letOwnedTupleGo tg (.ref it) u) (fun _ s2=>∃ x H',Inv X pins σ H' s2/\RelV x u/\J.yld i H x H'/\tn (i+1) s2.heap/\∀ b∈fp,H' b=none) E s1) E s
 done:∀ (X:Cx),X.prog=P->X.w=w->X.K=K->X.calm=true->∀ (i:Nat) (pins:List (Addr×Obj)) (s:Shared) (σ:St) (H:Hp) (E:Value->Shared->Prop),Inv X pins σ H s->(∀ b∈fp,Ack X pins H b)->tn i s.heap->J.stop i H ->
  wpAny (model P w) X.A (pyNext (.ref it)) (fun r s1=>r=none/\Inv X pins σ H s1) E s
 self:∀ (A:Around) (i:Nat) (s:Shared) (Q:Value->Shared->Prop) (E:Value->Shared->Prop),tn i s.heap->Q (.ref it) s->wpAny (model P w) A (pyIter (.ref it)) Q E s
abbrev TI:=St->Hp->(It->Hp->Prop)->Prop
def PIE (X:Cx) (pins:List (Addr×Obj)) (σ:St) (tg:Expr) (R:It->Hp->Prop) (itv:Value) (s2:Shared):Prop :=
 ∃ (it:Addr) (fp:List Addr) (tn:Nat->Heap->Prop) (J:It) (H':Hp),itv=.ref it/\Inv X pins σ H' s2/\Turn X.prog X.w X.K tg J fp it tn/\tn 0 s2.heap/\(∀ b∈fp,Ack X pins H' b)/\R J H'
def PI (X:Cx) (tg iter:Expr) (wi:TI):Prop :=
 ∀ (pins:List (Addr×Obj)) (s:Shared) (σ:St) (H:Hp) (R:It->Hp->Prop),Inv X pins σ H s->wi σ H R ->
  wpAny (model X.prog X.w) X.A (eval iter X.env) (fun v s1=>wpAny (model X.prog X.w) X.A (pyIter v) (PIE X pins σ tg R) X.xe s1) X.xe s
theorem Zd {M:Model}{A:Around}{E:Value->Shared->Prop}{s:Shared}{tg:Expr}{it:Addr}{u:Value}{o:Obj}{n:String}{vs:Array Value}{Q:Unit->Shared->Prop} (ho:s.heap.get? it=some o) (hc:o.cls=.type n) (hd:o.data=.fields vs)
  (hn:["enumerate","zip","dict_itemiterator","dict_reverseitemiterator","odict_iterator","itertools.zip_longest","itertools.pairwise"].contains n=false) (hQ:Q () s):wpAny M A (letOwnedTupleGo tg (.ref it) u) Q E s:=by
 unfold letOwnedTupleGo
 cases tg<;>first
  |exact Azi hQ
  |(cases u<;>first
    |exact Azi hQ
    |(refine Azc (wpAny_load ho ?_)
      rw[hc,hd]
      show wpAny M A (if (["enumerate","zip","dict_itemiterator","dict_reverseitemiterator","odict_iterator","itertools.zip_longest","itertools.pairwise"].contains n&&vs[0]? == some (rawInt _))=true then _ else _) Q E s
      rw[Azs (by intro h;rw[hn,Bool.false_and] at h;cases h)]
      exact Azi hQ))
noncomputable def Itl (K:W.Frag) (a:Addr):It :=
 ⟨fun i H=>∃ xs x,SqL K H a xs/\xs[i]?=some x,fun i H x H'=>H'=H/\∀ xs,SqL K H a xs->xs[i]?=some x,fun i H=>∃ xs,SqL K H a xs/\xs.length<=i⟩
noncomputable def Itt (K:W.Frag) (a:Addr):It :=
 ⟨fun i H=>∃ xs x,SqT K H a xs/\xs[i]?=some x,fun i H x H'=>H'=H/\∀ xs,SqT K H a xs->xs[i]?=some x,fun i H=>∃ xs,SqT K H a xs/\xs.length<=i⟩
noncomputable def Itr (lo:Int) (n:Nat):It:=⟨fun i _=>i < n,fun i H x H'=>H'=H/\x=.int (lo+i),fun i _=>n<=i⟩
theorem Acb {P:Program}{w:World}{K:W.Frag}{tg:Expr} (a it:Addr):Turn P w K tg (Itl K a) [it] it (fun i h=>h.IsListIter it a i) where
 mem:=by simp
 obj:=fun i h st b hb=>by
  have e:b=it:=by simpa using hb
  subst e
  obtain⟨o,e,c,d⟩:=st
  exact⟨o,e,fun v z=>by rw[d] at z;cases z⟩
 keep:=fun i h h' st k=>st.at fun o e=>k it (by simp) o e
 item:=by
  intro X hP hw hK hc i pins s σ H E I hf st hg
  subst hP hw hK
  obtain⟨xs,x,hq,hx⟩:=hg
  obtain⟨its,rv,p,hz⟩:=I.list hq
  obtain⟨u,hu,ru⟩:=rv.get hx
  obtain⟨f0,f1,f2,f3,f4,f5⟩:=hf it (by simp)
  refine wpAny_pyNext_list_item st p.isList (x:=u) (by simpa using hu) fun h' st' sb=>?_
  have I1:Inv X pins σ H { s with heap:=h' }:=I.turned (t':=s.toks) (fun b o hb e=>(sb.2 b hb).trans e) f0 f1 f3 f4 f5
  obtain⟨o,e,c,d⟩:=id st'
  exact⟨u,rfl,Zd (s:={ s with heap:=h' }) e c d (by decide) ⟨x,H,I1,ru,⟨rfl,fun ys hy=>by rw[I.list_inj hy hq];exact hx⟩,st',fun b hb=>(hf b hb).1⟩⟩
 done:=by
  intro X hP hw hK hc i pins s σ H E I hf st hg
  subst hP hw hK
  obtain⟨xs,hq,hx⟩:=hg
  obtain⟨its,rv,p,hz⟩:=I.list hq
  obtain⟨f0,f1,f2,f3,f4,f5⟩:=hf it (by simp)
  have hl:=rv.length
  exact wpAny_pyNext_list_end (I.ok.hd hc) st p.isList (by simp;lia) fun h' eb=>⟨rfl,I.turned (t':=s.toks) (fun b o hb e=>eb b o hb e) f0 f1 f3 f4 f5⟩
 self:=fun _ _ _ _ _ st h=>wpAny_pyIter_listiter st h
theorem X4 {P:Program}{w:World}{K:W.Frag}{tg:Expr} (a it:Addr):Turn P w K tg (Itt K a) [it] it (fun i h=>h.IsTupleIter it a i) where
 mem:=by simp
 obj:=fun i h st b hb=>by
  have e:b=it:=by simpa using hb
  subst e
  obtain⟨o,e,c,d⟩:=st
  exact⟨o,e,fun v z=>by rw[d] at z;cases z⟩
 keep:=fun i h h' st k=>st.at fun o e=>k it (by simp) o e
 item:=by
  intro X hP hw hK hc i pins s σ H E I hf st hg
  subst hP hw hK
  obtain⟨xs,x,hq,hx⟩:=hg
  obtain⟨its,rv,p,hz⟩:=I.tuple hq
  obtain⟨u,hu,ru⟩:=rv.get hx
  obtain⟨f0,f1,f2,f3,f4,f5⟩:=hf it (by simp)
  refine wpAny_pyNext_tuple_item st (show s.heap.IsTuple a its.toArray from p) (x:=u) (by simpa using hu) fun h' st' sb=>?_
  have I1:Inv X pins σ H { s with heap:=h' }:=I.turned (t':=s.toks) (fun b o hb e=>(sb.2 b hb).trans e) f0 f1 f3 f4 f5
  obtain⟨o,e,c,d⟩:=id st'
  exact⟨u,rfl,Zd (s:={ s with heap:=h' }) e c d (by decide) ⟨x,H,I1,ru,⟨rfl,fun ys hy=>by rw[I.tuple_inj hy hq];exact hx⟩,st',fun b hb=>(hf b hb).1⟩⟩
 done:=by
  intro X hP hw hK hc i pins s σ H E I hf st hg
  subst hP hw hK
  obtain⟨xs,hq,hx⟩:=hg
  obtain⟨its,rv,p,hz⟩:=I.tuple hq
  obtain⟨f0,f1,f2,f3,f4,f5⟩:=hf it (by simp)
  have hl:=rv.length
  exact wpAny_pyNext_tuple_end (I.ok.hd hc) st (show s.heap.IsTuple a its.toArray from p) (by simp;lia) fun h' eb=>⟨rfl,I.turned (t':=s.toks) (fun b o hb e=>eb b o hb e) f0 f1 f3 f4 f5⟩
 self:=fun _ _ _ _ _ st h=>wpAny_pyIter_tupleiter st h
theorem X3 {P:Program}{w:World}{K:W.Frag}{tg:Expr} (it:Addr) (lo:Int) (n:Nat):Turn P w K tg (Itr lo n) [it] it (fun i h=>IsRangeIter h it (lo+(i:Nat) * 1) ((n:Int) - (i:Nat)) 1) where
 mem:=by simp
 obj:=fun i h st b hb=>by
  have e:b=it:=by simpa using hb
  subst e
  exact⟨_,st,fun v z=>by
   have z':Data.fields _=Data.cell v:=z
   cases z'⟩
 keep:=fun i h h' st k=>k it (by simp) _ st
 item:=by
  intro X hP hw hK hc i pins s σ H E I hf st hg
  subst hP hw hK
  obtain⟨f0,f1,f2,f3,f4,f5⟩:=hf it (by simp)
  have W:=Walks.range (prog:=X.prog) (w:=X.w) (I.ok.hd hc) it lo 1 n
  refine W.item i s _ _ hg st fun v h' tk hv st' kk=>?_
  obtain⟨t,rfl⟩:=hv
  have I1:Inv X pins σ H { s with heap:=h',toks:=tk }:=I.turned (fun b o hb e=>kk b o (by simpa using hb) e) f0 f1 f3 f4 f5
  refine⟨_,rfl,Zd (s:={ s with heap:=h',toks:=tk }) (n:="range_iterator") st' rfl rfl (by decide) ⟨.int (lo+i),H,I1,⟨t,?_⟩,⟨rfl,rfl⟩,st',fun b hb=>(hf b hb).1⟩⟩
  rw[Int.mul_one]
 done:=by
  intro X hP hw hK hc i pins s σ H E I hf st hg
  subst hP hw hK
  obtain⟨f0,f1,f2,f3,f4,f5⟩:=hf it (by simp)
  exact wpAny_pyNext_range_end (I.ok.hd hc) st (by have:n<=i:=hg;lia) fun h' eb=>⟨rfl,I.turned (t':=s.toks) (fun b o hb e=>eb b o hb e) f0 f1 f3 f4 f5⟩
 self:=fun _ _ _ _ _ st h=>wpAny_pyIter_rangeiter st h
section
variable {X:Cx}{tg:Expr}
theorem Ae9 {pins:List (Addr×Obj)}{σ:St}{H:Hp}{s:Shared}{R:It->Hp->Prop}{E:Value->Shared->Prop}{lo hi:Int}{t u v:Tok}{tk:Nat} (I:Inv X pins σ H s) (h1:-(2 ^ 62)<=lo) (h2:lo < 2 ^ 62) (h3:-(2 ^ 62)<=hi) (h4:hi < 2 ^ 62)
  (q:R (Itr lo (hi - lo).toNat) H):wpAny (model X.prog X.w) X.A (pyIter (.ref s.heap.objs.size)) (PIE X pins σ tg R) E { s with heap:=s.heap.push { cls:=.type "range",data:=.fields #[.int lo t,.int hi u,.int 1 v] },toks:=tk }:=by
 refine wpAny_pyIter_range (IsRange.new ..) (small_one h1 h2 h3 h4) ?_
 have I1:Inv X pins σ H { s with heap:=s.heap.push { cls:=.type "range",data:=.fields #[.int lo t,.int hi u,.int 1 v] },toks:=tk }:=I.kept fun b o e=>Aze _ e
 refine⟨(s.heap.push { cls:=.type "range",data:=.fields #[.int lo t,.int hi u,.int 1 v] }).objs.size,[(s.heap.push { cls:=.type "range",data:=.fields #[.int lo t,.int hi u,.int 1 v] }).objs.size],_,_,H,rfl,
  I1.kept (t':=tk) fun b o e=>Aze _ e,X3 _ lo (hi - lo).toNat,?_,fun b hb=>?_,q⟩
 ·have e1:lo+((0:Nat):Int) * 1=lo:=by simp
  have e2:(((hi - lo).toNat:Nat):Int) - ((0:Nat):Int)=Builtin.Range.rangeSize lo hi 1:=by rw[rangeSize_one];split<;>lia
  show IsRangeIter _ _ (lo+((0:Nat):Int) * 1) ((((hi - lo).toNat:Nat):Int) - ((0:Nat):Int)) 1
  rw[e1,e2]
  exact Azq _ rfl
 ·have e:b=(s.heap.push { cls:=.type "range",data:=.fields #[.int lo t,.int hi u,.int 1 v] }).objs.size:=by simpa using hb
  subst e
  exact I1.fpOk (Azn _) (I1.hok.fresh (Azn _))
def Avm (ta:TA):TI:=fun σ H R=>ta σ H fun vs H1=>∃ j:Int,vs=[.int j]/\-(2 ^ 62)<=j/\j < 2 ^ 62/\R (Itr 0 j.toNat) H1
theorem Py {a:Expr}{ta:TA}{p pos:Pos} (hg:Gl X "range") (hm:X.mg "range"=none) (ha:PA X [a] ta) (hs:starEach [a] X.env=[(false,eval a X.env)]:=by rfl):PI X tg (.Call (.Name "range" p) [a] [] pos) (Avm ta):=by
 intro pins s σ H R I h
 refine Call_ (Dk I hg hm boot_range (PyProof.Rows.callWith_type1 (thn (ha pos pins s σ H _ I h) fun us s1 ⟨vs,H1,I1,r1,q1⟩=>?_) hs rfl))
 obtain⟨j,e,q1,q2,q⟩:=q1
 subst e
 cases r1 with
 |cons r rr =>
  cases rr
  obtain⟨t,rfl⟩:=r
  exact call_range_1 (Ae9 I1 (by lia) (by lia) q1 q2 (by simpa using q))
noncomputable def Ay1 (wi:TI) (g:TG) (tb:TS):TS:=fun D σ H=>wi σ H fun J H1=>∃ W:Nat->Nat->St->Hp->Prop,(∃ m,W 0 m σ H1)/\∀ i m σ H,W i m σ H ->
 (J.stop i H/\D.nx σ H)\/(J.go i H/\∃ N:St->Hp->Prop,(∀ σ' H',N σ' H'->∃ m',m' < m/\W (i+1) m' σ' H')/\∀ x H',J.yld i H x H'->g x σ H' fun σ2 H2=>tb { D with nx:=N,ct:=N,bk:=D.nx } σ2 H2)
noncomputable def Mo (fp:List Addr) (h:Heap):List (Addr×Obj):=fp.filterMap fun b=>(h.get? b).map fun o=>(b,o)
theorem Er {fp:List Addr}{h:Heap}{b:Addr}{o:Obj} (hb:b∈fp) (e:h.get? b=some o):(b,o)∈Mo fp h:=List.mem_filterMap.mpr ⟨b,hb,by rw[e];rfl⟩
theorem Aah {fp:List Addr}{h:Heap}{p:Addr×Obj} (hp:p∈Mo fp h):p.1∈fp/\h.get? p.1=some p.2:=by
 obtain⟨b,hb,e⟩:=List.mem_filterMap.mp hp
 cases q:h.get? b with
 |none=>rw[q] at e;cases e
 |some o =>
  rw[q] at e
  have e':(b,o)=p:=Bag e
  subst e'
  exact⟨hb,q⟩
theorem Inv.pinned {pins:List (Addr×Obj)}{σ:St}{H:Hp}{s:Shared}{fp:List Addr} (I:Inv X pins σ H s) (hf:∀ b∈fp,Ack X pins H b) (ho:∀ b∈fp,∃ o,s.heap.get? b=some o/\∀ v,o.data≠.cell v):Inv X (pins++Mo fp s.heap) σ H s :=
 I.pins_of fun p hp=>(List.mem_append.mp hp).elim (fun z=>I.pin p (Azd _ z)) fun z=>by
  obtain⟨hb,e⟩:=Aah z
  obtain⟨f0,f1,f2,_⟩:=hf p.1 hb
  obtain⟨o,e',d⟩:=ho p.1 hb
  rw[e] at e';cases e'
  exact⟨e,f0,f1,f2,d⟩
theorem Inv.unpinned {pins pl:List (Addr×Obj)}{σ:St}{H:Hp}{s:Shared} (I:Inv X (pins++pl) σ H s):Inv X pins σ H s:=I.pins_of fun p hp=>I.pin p (Azd _ (Azw _ hp))
theorem Ag5 {iter:Expr}{body:List Stmt}{wi:TI}{g:TG}{tb:TS}{pos:Pos} (hp:PassesOwn (model X.prog X.w) X.A X.env X.xe) (hc:X.calm=true) (hi:PI X tg iter wi) (hg:PG X tg g) (hb:PSs X body tb)
  (hs:∀ x,foldedSetIterable iter X.env x=pure x:=by intro _;rfl):PS X (.For tg iter body [] pos) (Ay1 wi g tb):=by
 intro pins s σ H D I h
 refine wpAny_For (thn (hi pins s σ H _ I h) fun v s1 h1=>thn h1 fun itv s2 h2=>?_) hs
 obtain⟨it,fp,tn,J,H2,e,I2,T,st2,f2,W,⟨m0,w0⟩,turn⟩:=h2
 subst e
 -- what stays true of the iterator's objects through the loop
 have stat:∀ {H':Hp},(∀ b∈fp,H' b=none)->∀ b∈fp,Ack X pins H' b:=fun hn b hb=>⟨hn b hb,(f2 b hb).2⟩
 refine codeAny_forLoop_any (fun n s'=>∃ i σ' H',Inv X pins σ' H' s'/\tn i s'.heap/\(∀ b∈fp,H' b=none)/\W i n σ' H') ?_ m0 ⟨0,σ,H2,I2,st2,fun b hb=>(f2 b hb).1,w0⟩
 rintro n s3 ⟨i,σ3,H3,I3,st3,fr3,w3⟩
 rcases turn i n σ3 H3 w3 with ⟨stop,qn⟩|⟨go,N,hN,step⟩
 ·refine Bbq hp (thn (T.done X rfl rfl rfl hc i pins s3 σ3 H3 X.xe I3 (stat fr3) st3 stop) fun r s4 ⟨hr,I4⟩=>?_)
  subst hr
  exact wpAny_execs_nil ⟨σ3,H3,I4,qn⟩
 ·refine Bbq hp (thn (T.item X rfl rfl rfl hc i pins s3 σ3 H3 X.xe I3 (stat fr3) st3 go) fun r s4 ⟨u,hr,h4⟩=>?_)
  subst hr
  refine Bbq hp (thn h4 fun _ s5 ⟨x,H5,I5,r5,y5,st5,fr5⟩=>?_)
  have I5':=I5.pinned (stat fr5) (T.obj _ _ st5)
  refine Bbq hp (thn (hg _ s5 σ3 H5 x u _ I5' r5 (step x H5 y5)) fun _ s6 ⟨σ6,H6,I6,q6⟩=>?_)
  refine Bbq hp (thn (hb _ s6 σ6 H6 _ I6 q6) fun f s7 q7=>?_)
  have again:∀ {σ7:St}{H7:Hp},Inv X (pins++Mo fp s5.heap) σ7 H7 s7->N σ7 H7->∃ m,m < n/\∃ i σ' H',Inv X pins σ' H' s7/\tn i s7.heap/\(∀ b∈fp,H' b=none)/\W i m σ' H':=fun {σ7 H7} I7 n7=>by
   obtain⟨m',hm,w7⟩:=hN σ7 H7 n7
   refine⟨m',hm,i+1,σ7,H7,I7.unpinned,T.keep _ _ _ st5 fun b hb o e=>(I7.pin (b,o) (Azd _ (Azd _ (Er hb e)))).1,fun b hb=>?_,w7⟩
   obtain⟨o,e,d⟩:=T.obj _ _ st5 b hb
   exact (I7.pin (b,o) (Azd _ (Azd _ (Er hb e)))).2.1
  cases f with
  |next=>obtain⟨σ7,H7,I7,n7⟩:=q7;exact again I7 n7
  |cont=>obtain⟨σ7,H7,I7,n7⟩:=q7;exact again I7 n7
  |brk=>obtain⟨σ7,H7,I7,q7⟩:=q7;exact⟨σ7,H7,I7.unpinned,q7⟩
  |ret v=>obtain⟨x7,σ7,H7,I7,r7,q7⟩:=q7;exact⟨x7,σ7,H7,I7.unpinned,r7,q7⟩
end
abbrev R2:=V->V->Hp->VK->Prop
def OpR (X:Cx) (f:Value->Value->Sem Value) (r:R2):Prop :=
 ∀ (pins:List (Addr×Obj)) (s:Shared) (σ:St) (H:Hp) (x y:V) (v u:Value) (Q:VK),Inv X pins σ H s->RelV x v->RelV y u->r x y H Q ->
  wpAny (model X.prog X.w) X.A (f v u) (EP X pins σ Q) X.xe s
def Acj (X:Cx) (f:Value) (r:List V->Hp->VK->Prop):Prop :=
 ∀ (pins:List (Addr×Obj)) (s:Shared) (σ:St) (H:Hp) (xs:List V) (us:List Value) (Q:VK),Inv X pins σ H s->Vals xs us->r xs H Q ->
  wpAny (model X.prog X.w) X.A (call f us) (EP X pins σ Q) X.xe s
def Axj (X:Cx) (r:V->Hp->(Bool->Hp->Prop)->Prop):Prop :=
 ∀ (pins:List (Addr×Obj)) (s:Shared) (σ:St) (H:Hp) (x:V) (v:Value) (Q:Bool->Hp->Prop),Inv X pins σ H s->RelV x v->r x H Q ->
  wpAny (model X.prog X.w) X.A (truthy v) (TP X pins σ Q) X.xe s
noncomputable def tOp (r:R2) (ta tb:TE):TE:=fun σ H Q=>ta σ H fun x H1=>tb σ H1 fun y H2=>r x y H2 Q
noncomputable def rI (C:Int->Int->Prop) (g:Int->Int->V):R2:=fun x y H Q=>∃ i j,x=.int i/\y=.int j/\C i j/\Q (g i j) H
noncomputable def rI0 (g:Int->Int->V):R2:=fun x y H Q=>∃ i j,x=.int i/\y=.int j/\Q (g i j) H
section
variable {X:Cx}{a b c:Expr}{ta tb tc:TE}{pos:Pos}
theorem Atm (ha:PE X a ta) (hb:PE X b tb) {pins:List (Addr×Obj)}{s:Shared}{σ:St}{H:Hp}{R:V->V->Hp->Prop} (I:Inv X pins σ H s)
  (h:ta σ H fun x H1=>tb σ H1 fun y H2=>R x y H2) {Q:Value->Shared->Prop}{f:Value->Value->Sem Value}
  (hf:∀ v u s2 x y H2,Inv X pins σ H2 s2->RelV x v->RelV y u->R x y H2->wpAny (model X.prog X.w) X.A (f v u) Q X.xe s2) :
  wpAny (model X.prog X.w) X.A (eval a X.env) (fun v s₁=>wpAny (model X.prog X.w) X.A (eval b X.env) (fun u s₂=>wpAny (model X.prog X.w) X.A (f v u) Q X.xe s₂) X.xe s₁) X.xe s:=by
 refine thn (ha pins s σ H _ I h) fun v s1 ⟨x,H1,I1,r1,q1⟩=>?_
 refine thn (hb pins s1 σ H1 _ I1 q1) fun u s2 ⟨y,H2,I2,r2,q2⟩=>?_
 exact hf v u s2 x y H2 I2 r1 r2 q2
theorem Av6 {op:Operator}{r:R2} (ho:OpR X (binaryOp op) r) (ha:PE X a ta) (hb:PE X b tb):PE X (.BinOp a op b pos) (tOp r ta tb):=by
 intro pins s σ H Q I h
 exact wpAny_BinOp (Atm ha hb I h fun v u s2 x y H2 I2 rx ry q=>ho pins s2 σ H2 x y v u Q I2 rx ry q)
theorem opI {f:Value->Value->Sem Value}{C:Int->Int->Prop}{g:Int->Int->Int}
  (rule:∀ (i j:Int) (t u:Tok) (s:Shared) (Q:Value->Shared->Prop) (E:Value->Shared->Prop),C i j->Q (.int (g i j) s.toks) { s with toks:=s.toks+1 }->wpAny (model X.prog X.w) X.A (f (.int i t) (.int j u)) Q E s) :
  OpR X f (rI C fun i j=>.int (g i j)):=by
 intro pins s σ H x y v u Q I rx ry h
 obtain⟨i,j,rfl,rfl,hc,q⟩:=h
 obtain⟨t,rfl⟩:=rx
 obtain⟨t',rfl⟩:=ry
 exact rule i j t t' s _ _ hc ⟨.int (g i j),H,I.tok _,⟨_,rfl⟩,q⟩
theorem Aw2 {f:Value->Value->Sem Value}{g:Int->Int->Int}
  (rule:∀ (i j:Int) (t u:Tok) (s:Shared) (Q:Value->Shared->Prop) (E:Value->Shared->Prop),Q (.int (g i j) s.toks) { s with toks:=s.toks+1 }->wpAny (model X.prog X.w) X.A (f (.int i t) (.int j u)) Q E s) :
  OpR X f (rI0 fun i j=>.int (g i j)):=by
 intro pins s σ H x y v u Q I rx ry h
 obtain⟨i,j,rfl,rfl,q⟩:=h
 obtain⟨t,rfl⟩:=rx
 obtain⟨t',rfl⟩:=ry
 exact rule i j t t' s _ _ ⟨.int (g i j),H,I.tok _,⟨_,rfl⟩,q⟩
theorem Aw1 {f:Value->Value->Sem Value}{g:Int->Int->Bool}
  (rule:∀ (i j:Int) (t u:Tok) (s:Shared) (Q:Value->Shared->Prop) (E:Value->Shared->Prop),Q (.bool (g i j)) s->wpAny (model X.prog X.w) X.A (f (.int i t) (.int j u)) Q E s) :
  OpR X f (rI0 fun i j=>.bl (g i j)):=by
 intro pins s σ H x y v u Q I rx ry h
 obtain⟨i,j,rfl,rfl,q⟩:=h
 obtain⟨t,rfl⟩:=rx
 obtain⟨t',rfl⟩:=ry
 exact rule i j t t' s _ _ ⟨.bl (g i j),H,I,rfl,q⟩
def Awu (i j:Int):Prop:=0 < j/\j < 1073741824
def Awv (i j:Int):Prop:=0<=j/\j<=1000000/\i.natAbs < 2 ^ 64
def CMul (i j:Int):Prop:=(-(2 ^ 64) < i/\i < 2 ^ 64)\/(-(2 ^ 64) < j/\j < 2 ^ 64)
theorem CMul.ok {i j:Int} (h:CMul i j):IntMulOk i j:=by
 rcases h with ⟨h1,h2⟩|⟨h1,h2⟩
 ·exact .of_left (intBits_le_64 h1 h2)
 ·exact .of_right (intBits_le_64 h1 h2)
theorem op_add:OpR X (binaryOp .Add) (rI0 fun i j=>.int (i+j)):=Aw2 fun _ _ _ _ _ _ _ q=>add_int q
theorem Ara:OpR X (binaryOp .Sub) (rI0 fun i j=>.int (i - j)):=Aw2 fun _ _ _ _ _ _ _ q=>sub_int q
theorem Aq8:OpR X (binaryOp .Mult) (rI CMul fun i j=>.int (i * j)):=opI fun _ _ _ _ _ _ _ hc q=>mul_int q hc.ok
theorem Ak0:OpR X (binaryOp .FloorDiv) (rI Awu fun i j=>.int (i / j)):=opI fun i j _ _ _ _ _ hc q=>by
 have h1:(0:Int) < j:=hc.1
 have h2:j < 1073741824:=hc.2
 exact floordiv_int (by lia) (by rw[Int.fdiv_eq_ediv_of_nonneg i (by lia)];exact q) (.inl (PyProof.noPylong_small (by lia)))
theorem Aq7:OpR X (binaryOp .Mod) (rI (fun _ j=>0 < j) fun i j=>.int (i % j)):=opI fun i j _ _ _ _ _ hc q=>by
 have h1:(0:Int) < j:=hc
 exact mod_int' (by lia) (by rw[Int.fmod_eq_emod_of_nonneg i (by lia)];exact q)
theorem Aq9:OpR X (binaryOp .Pow) (rI Awv fun i j=>.int (i ^ j.toNat)):=opI fun _ _ _ _ _ _ _ hc q=>pow_int_small hc.1 hc.2.1 hc.2.2 q
end
section
variable {X:Cx}{a b c:Expr}{ta tb tc:TE}{pos:Pos}
theorem Agg {pins:List (Addr×Obj)}{σ:St}{H:Hp}{s:Shared}{Q:VK}{k k':Bool} (I:Inv X pins σ H s) (q:Q (.bl k) H) (e:k=k'):EP X pins σ Q (.bool k') s:=by
 subst e
 exact⟨.bl k,H,I,rfl,q⟩
theorem op_lt:OpR X (compareOp .Lt) (rI0 fun i j=>.bl (decide (i < j))):=Aw1 fun _ _ _ _ _ _ _ q=>lt_int q
theorem Avy:OpR X (compareOp .Gt) (rI0 fun i j=>.bl (decide (j < i))):=Aw1 fun _ _ _ _ _ _ _ q=>gt_int q
theorem Aao:OpR X (compareOp .Lt) (fun x y H Q=>∃ i j,x=.str i/\y=.str j/\Q (.bl (decide (i.cps.toList < j.cps.toList))) H):=by
 intro pins s σ H x y v u Q I rx ry h
 obtain⟨i,j,rfl,rfl,q⟩:=h
 obtain⟨t,rfl⟩:=rx
 obtain⟨t',rfl⟩:=ry
 exact lt_str (Agg I q rfl)
theorem Agz:OpR X (compareOp .Is) (fun x y H Q=>y=.non/\Q (.bl (decide (x=.non))) H):=by
 intro pins s σ H x y v u Q I rx ry h
 obtain⟨rfl,q⟩:=h
 cases ry
 refine is_none_gen (Agg I q ?_)
 cases x<;>first
  |(cases rx;rfl)
  |(obtain⟨t,rfl⟩:=rx;rfl)
theorem OpR.or {f:Value->Value->Sem Value}{r r':R2} (h:OpR X f r) (h':OpR X f r'):OpR X f (fun x y H Q=>r x y H Q\/r' x y H Q):=by
 intro pins s σ H x y v u Q I rx ry q
 rcases q with q|q
 ·exact h pins s σ H x y v u Q I rx ry q
 ·exact h' pins s σ H x y v u Q I rx ry q
theorem Ago (b:Expr) {op:CmpOp} (h:op≠.In:=by decide) (h2:op≠.NotIn:=by decide):behindInMarks op b=false:=by
 have e1:(op == CmpOp.In)=false:=by cases op<;>first|rfl|exact absurd rfl h
 have e2:(op == CmpOp.NotIn)=false:=by cases op<;>first|rfl|exact absurd rfl h2
 cases b<;>simp[behindInMarks,e1,e2]
theorem Alh {op:CmpOp}{r:R2} (ho:OpR X (compareOp op) r) (ha:PE X a ta) (hb:PE X b tb) (hm:behindInMarks op b=false):PE X (.Compare a [op] [b] pos) (tOp r ta tb):=by
 intro pins s σ H Q I h
 exact wpAny_Compare1 (Atm ha hb I h fun v u s2 x y H2 I2 rx ry q=>ho pins s2 σ H2 x y v u Q I2 rx ry q) hm
noncomputable def Awq (t:TE):TT:=fun σ H Q=>t σ H fun x H'=>∃ k,x=.bl k/\Q k H'
theorem Al6 {op:CmpOp}{r:R2} (ho:OpR X (compareOp op) r) (ha:PE X a ta) (hb:PE X b tb) (hm:behindInMarks op b=false):PT X (.Compare a [op] [b] pos) (Awq (tOp r ta tb)):=by
 intro pins s σ H Q I h
 refine wpAny_isTrue_Compare1 (thn (ha pins s σ H _ I h) fun v s1 ⟨x,H1,I1,r1,q1⟩=>thn (hb pins s1 σ H1 _ I1 q1) fun u s2 ⟨y,H2,I2,r2,q2⟩ =>
  thn (ho pins s2 σ H2 x y v u _ I2 r1 r2 q2) fun c s3 ⟨z,H3,I3,r3,k,e,q3⟩=>?_) hm
 subst e
 cases r3
 exact Ba5 ⟨H3,I3,q3⟩
def Atl (K:W.Frag) (x:V) (H:Hp) (k:Bool):Prop :=
 match x with
 |.non=>k=false
 |.bl b=>k=b
 |.int i=>k=(i != 0)
 |.str y=>y.length<=sizeLine/\k=((y.length:Int) != 0)
 |.byt y=>y.size<=sizeLine/\k=((y.size:Int) != 0)
 |.ref p=>(∃ xs,SqL K H p xs/\k=!xs.isEmpty)\/(∃ xs,SqT K H p xs/\k=!xs.isEmpty)\/∃ kvs,H p=some (.dK kvs)/\k=!kvs.isEmpty
 |_=>False
theorem V6 {κ:Type}{kvs:List (κ×V)}{vs:List (κ×Value)} (r:KV kvs vs):(!vs.isEmpty)=!kvs.isEmpty:=by
 cases r<;>rfl
theorem Mb {xs:List V}{its:List Value} (r:Vals xs its):(!its.toArray.isEmpty)=!xs.isEmpty:=by
 cases r<;>simp
theorem Me:(sizeLine:Nat) < 2 ^ 63:=by rw[Bas];decide
theorem Ah6:Axj X (fun x H Q=>∃ k,Atl X.K x H k/\Q k H):=by
 intro pins s σ H x v Q I rx h
 obtain⟨k,e,q⟩:=h
 have hl:=Me
 have hs:sizeLine=16777216:=Bas
 cases x with
 |non =>
  cases rx
  have e':k=false:=e
  subst e'
  exact truthy_none ⟨H,I,q⟩
 |bl b =>
  cases rx
  have e':k=b:=e
  subst e'
  exact Ba5 ⟨H,I,q⟩
 |int i =>
  obtain⟨t,rfl⟩:=rx
  have e':k=(i != 0):=e
  subst e'
  exact PySem.P.truthy_int ⟨H,I,q⟩
 |str y =>
  obtain⟨t,rfl⟩:=rx
  obtain⟨hy,e'⟩:y.length<=sizeLine/\k=((y.length:Int) != 0):=e
  subst e'
  exact PySem.P.truthy_str (by lia) ⟨H,I.tok _,q⟩
 |byt y =>
  obtain⟨t,rfl⟩:=rx
  obtain⟨hy,e'⟩:y.size<=sizeLine/\k=((y.size:Int) != 0):=e
  subst e'
  exact W.truthy_bytes (by lia) ⟨H,I.tok _,q⟩
 |ref p =>
  cases rx
  have e':(∃ xs,SqL X.K H p xs/\k=!xs.isEmpty)\/(∃ xs,SqT X.K H p xs/\k=!xs.isEmpty)\/∃ kvs,H p=some (.dK kvs)/\k=!kvs.isEmpty:=e
  rcases e' with ⟨xs,hx,e'⟩|⟨xs,hx,e'⟩|⟨kvs,hx,e'⟩
  ·subst e'
   obtain⟨its,r,pl,hz⟩:=I.list hx
   have hlen:=r.length
   exact wpAny_truthy_list pl.isList (by simp only[Azh];lia) ⟨H,I.tok _,by rw[Mb r];exact q⟩
  ·subst e'
   obtain⟨its,r,pl,hz⟩:=I.tuple hx
   have hlen:=r.length
   exact truthy_tuple pl (by simp only[Azh];lia) ⟨H,I.tok _,by rw[Mb r];exact q⟩
  ·subst e'
   obtain⟨hz,hS,vs,r,m⟩:kvs.length<=sizeLine/\(p == sysModules)=false/\∃ vs,KV kvs vs/\s.heap.DictOf (Gc X.prog X.w) p vs:=I.hok p _ hx
   have hlen:kvs.length=vs.length:=Paired.length r
   exact wpAny_truthy_dict hS m (by lia) ⟨H,I.tok _,by rw[V6 r];exact q⟩
 |_=>exact (show False from e).elim
theorem Aex (ha:PE X a ta) (he:∀ whole,isTrue a X.env whole=(do let v <- whole;standAt a.pos;holding [v] (truthy v))) :
  PT X a (fun σ H Q=>ta σ H fun x H'=>∃ k,Atl X.K x H' k/\Q k H'):=by
 intro pins s σ H Q I h
 exact isTrue_plain (thn (ha pins s σ H _ I h) fun v s1 ⟨x,H1,I1,r1,q1⟩=>Ah6 pins s1 σ H1 x v Q I1 r1 q1) (he _)
theorem op_add_str:OpR X (binaryOp .Add) (fun x y H Q=>∃ i j,x=.str i/\y=.str j/\i.length+j.length<=sizeLine/\Q (.str (i++j)) H):=by
 intro pins s σ H x y v u Q I rx ry h
 obtain⟨i,j,rfl,rfl,hz,q⟩:=h
 obtain⟨t,rfl⟩:=rx
 obtain⟨t',rfl⟩:=ry
 exact add_str (fun t' tk=>⟨.str (i++j),H,I.tok _,⟨_,rfl⟩,q⟩) hz
inductive V1 (x:V) (us:List Value):Prop where
 |mk (u:Value) (e:us=[u]) (r:RelV x u)
theorem G5 {x:V}{us:List Value} (r:Vals [x] us):V1 x us:=by
 cases r with
 |cons r1 r2=>cases r2;exact⟨_,rfl,r1⟩
theorem Ati {x y:V}{us:List Value} (r:Vals [x,y] us):∃ u w',us=[u,w']/\RelV x u/\RelV y w':=by
 cases r with
 |cons r1 r2 =>
  cases r2 with
  |cons r3 r4=>cases r4;exact⟨_,_,rfl,r1,r3⟩
theorem Ox:Acj X (.type "int") (fun xs H Q=>(∃ i,xs=[.int i]/\Q (.int i) H)\/∃ k,xs=[.bl k]/\Q (.int (if k then 1 else 0)) H):=by
 intro pins s σ H xs us Q I r h
 rcases h with ⟨i,rfl,q⟩|⟨k,rfl,q⟩
 ·obtain⟨u,rfl,t,rfl⟩:=G5 r
  exact call_int_int ⟨.int i,H,I,⟨_,rfl⟩,q⟩
 ·obtain⟨u,rfl,r1⟩:=G5 r
  cases r1
  exact call_int_bool ⟨.int (if k then 1 else 0),H,I.tok _,⟨_,rfl⟩,q⟩
def At6 (K:W.Frag) (x:V) (H:Hp) (n:Nat):Prop :=
 match x with
 |.str y=>y.length<=sizeLine/\n=y.length
 |.byt y=>y.size<=sizeLine/\n=y.size
 |.ref p=>(∃ xs,SqL K H p xs/\n=xs.length)\/∃ xs,SqT K H p xs/\n=xs.length
 |_=>False
theorem Ac7:Acj X (.builtin "len") (fun xs H Q=>∃ x n,xs=[x]/\At6 X.K x H n/\Q (.int n) H):=by
 intro pins s σ H xs us Q I r h
 obtain⟨x,n,rfl,e,q⟩:=h
 obtain⟨u,rfl,rx⟩:=G5 r
 have hl:=Me
 have hs:sizeLine=16777216:=Bas
 cases x with
 |str y =>
  obtain⟨t,rfl⟩:=rx
  obtain⟨hy,e'⟩:y.length<=sizeLine/\n=y.length:=e
  subst e'
  exact len_str (by lia) ⟨.int _,H,I.tok _,⟨_,rfl⟩,q⟩
 |byt y =>
  obtain⟨t,rfl⟩:=rx
  obtain⟨hy,e'⟩:y.size<=sizeLine/\n=y.size:=e
  subst e'
  exact W.len_bytes (by lia) ⟨.int _,H,I.tok _,⟨_,rfl⟩,q⟩
 |ref p =>
  cases rx
  have e':(∃ xs,SqL X.K H p xs/\n=xs.length)\/∃ xs,SqT X.K H p xs/\n=xs.length:=e
  rcases e' with ⟨xs,hx,e'⟩|⟨xs,hx,e'⟩
  ·subst e'
   obtain⟨its,r',pl,hz⟩:=I.list hx
   have hlen:=r'.length
   exact Calls.call_len_list pl.isList (by simp only[Azh];lia) ⟨.int xs.length,H,I.tok _,⟨_,by simp only[Azh];rw[hlen]⟩,q⟩
  ·subst e'
   obtain⟨its,r',pl,hz⟩:=I.tuple hx
   have hlen:=r'.length
   exact len_tuple pl (by simp only[Azh];lia) ⟨.int xs.length,H,I.tok _,⟨_,by simp only[Azh];rw[hlen]⟩,q⟩
 |_=>exact (show False from e).elim
end
structure ObjM (h:Heap) (x dx C:Addr) (mA:Str->Option Value):Prop where
 obj:h.get? x=some (W.instObj C dx)
 ns:h.Ns1 dx mA
 ne:dx≠x
set_option tactic.hygienic true in
theorem Zu {h:Heap}{dx:Addr}{mA:Str->Option Value} (n:h.Ns1 dx mA):∃ od,h.get? dx=some od/\∀ name,W.lookIn name od=some (mA name):=by
 obtain⟨o,es,ep,ho,hd,hk,_,hm⟩:=n
 refine⟨o,ho,fun name=>?_⟩
 have e:=hm name
 unfold nsFind findBy at e
 rw[<- Array.find?_toList] at e
 unfold W.lookIn
 rw[hd]
 dsimp only
 split
 ·rename_i y q
  rw[q] at e
  exact Ba4 some e
 ·rename_i q
  rw[q] at e
  have a:es.toList.any (·.refKey)=false:=by
   rw[List.any_eq_false]
   intro y hy
   obtain⟨z,t,hkey⟩:=hk y (Array.mem_toList_iff.mp hy)
   simp[DictEntry.refKey,hkey]
  have a':¬ es.toList.any (·.refKey)=true:=by rw[a];exact Az7
  rw[Azs a']
  exact Ba4 some e
theorem ObjM.look {h:Heap}{x dx C:Addr}{mA:Str->Option Value} (I:ObjM h x dx C mA):∃ od,W.InstAt h x (W.instObj C dx) C (some od)/\∀ name,W.lookIn name od=some (mA name) :=
 let ⟨od,ho,hl⟩:=Zu I.ns
 ⟨od,⟨I.obj,rfl,rfl,ho⟩,hl⟩
section
variable {prog:Program}{w:World}{A:Around}{E:Value->Shared->Prop}{s:Shared}{K:W.Frag}{x dx C f:Addr}{mA:Str->Option Value}{name:Str}{v:Value}
end
section
variable {P:Program}{w:World}{K:W.Frag}{H H':Hp}{h h':Heap}{a C dx:Addr}{fs fs':List (Str×V)}
theorem Akd (hok:HOk P w K H h) (e:H a=some (.ins C dx fs)):∃ mA,ObjM h a dx C mA/\(∀ f,Ano (fs.lookup f) (mA f))/\PySem.Within mA (fs.map (·.1))/\fs.length<=1000/\H dx=some (.own a):=by
 obtain⟨d,z,ne,ob,mA,n,r,q⟩:=(show ObjOk P w K H h a (.ins C dx fs) from hok a _ e)
 exact⟨mA,⟨ob,n,ne⟩,r,q,z,d⟩
end
structure Cls (K:W.Frag) (C:Addr):Prop where
 pg:W.plainGet K C Str.empty=true
 hd:W.hasDictIn K C=true
 po:W.plainOver K C=true
 sa:W.findIn K (.ref C) "__setattr__"=some (some (.builtin "object.__setattr__"))
theorem Cls.get {K:W.Frag}{C:Addr} (c:Cls K C) (f:Str):W.plainGet K C f=true:=c.pg
section
variable {X:Cx}{pins:List (Addr×Obj)}{σ:St}{H:Hp}{s:Shared}{a C dx:Addr}{fs:List (Str×V)}{f:Str}{v:V}{A:Around}{E:Value->Shared->Prop}
end
section
variable {X:Cx}{o e value:Expr}{f:Str}{pos pos' tpos:Pos}{ta tv:TE}
end
section
variable {X:Cx}{pins:List (Addr×Obj)}{σ:St}{H:Hp}{s:Shared}{A:Around}{E:Value->Shared->Prop}{Q:Value->Shared->Prop}{c:Value}{b:Bool}
inductive TyOf (K:W.Frag) (H:Hp):V->Value->Prop where
 |non:TyOf K H .non (.type "NoneType")
 |bl (x:Bool):TyOf K H (.bl x) (.type "bool")
 |int (i:Int):TyOf K H (.int i) (.type "int")
 |str (x:Str):TyOf K H (.str x) (.type "str")
 |flt (x:UInt64):TyOf K H (.flt x) (.type "float")
 |lst {a:Addr}{xs:List V} (e:H a=some (.lst xs)):TyOf K H (.ref a) (.type "list")
 |frz {a:Addr}{o:Obj}{xs:List V} (e:H a=some (.frz o (.lst xs))):TyOf K H (.ref a) (.type "list")
 |tup {a:Addr}{xs:List V} (e:H a=some (.tup xs)):TyOf K H (.ref a) (.type "tuple")
 |dK {a:Addr}{kvs:List (Key×V)} (e:H a=some (.dK kvs)):TyOf K H (.ref a) (.type "dict")
 |dT {a:Addr}{kvs:List (PyData×V)} (e:H a=some (.dT kvs)):TyOf K H (.ref a) (.type "dict")
 |ins {a C dx:Addr}{fs:List (Str×V)} (e:H a=some (.ins C dx fs)) (cl:Cls K C) (ha:W.findIn K (.ref C) "__class__"=some (some (.builtin "object.__class__")))
   (hn:W.specialIn K (.builtin "object.__class__") "__get__"=some (some (.builtin "getset_descriptor.__get__"))) (htk:W.takesIn K (.builtin "object.__class__")=some true)
   (hm:W.mroIn K C (.type "object")=some true):TyOf K H (.ref a) (.ref C)
theorem C2 {x:V}{u t:Value} (I:Inv X pins σ H s) (rx:RelV x u) (ty:TyOf X.K H x t) (e:W.kitOne X.K t c=some b) (h:∀ tk,Q (.bool b) { s with toks:=tk }) :
  wpAny (model X.prog X.w) A (call (.builtin "isinstance") [u,c]) Q E s:=by
 cases ty with
 |non=>cases (show u=Value.none from rx);exact W.kia_one W.kitx_none I.kIn True.intro e (fun z=>nomatch z) h
 |bl y=>cases (show u=Value.bool y from rx);exact W.kia_one W.kitx_bool I.kIn True.intro e (fun z=>nomatch z) h
 |int i=>obtain⟨t,q⟩:=(show ∃ t,u=Value.int i t from rx);cases q;exact W.kia_one W.kitx_int I.kIn True.intro e (fun z=>nomatch z) h
 |str y=>obtain⟨t,q⟩:=(show ∃ t,u=Value.str y t from rx);cases q;exact W.kia_one W.kitx_str I.kIn True.intro e (fun z=>nomatch z) h
 |flt y=>obtain⟨t,q⟩:=(show ∃ t,u=Value.float y t from rx);cases q;exact W.kia_one W.kitx_float I.kIn True.intro e (fun z=>nomatch z) h
 |@lst a xs ea =>
  cases (show u=Value.ref a from rx)
  obtain⟨_,_,n,_,h1⟩:=(show ObjOk X.prog X.w X.K H s.heap a (.lst xs) from I.hok a _ ea)
  exact W.kia_one W.kitx_list I.kIn ⟨_,h1,rfl⟩ e (fun z=>nomatch z) h
 |@frz a ob xs ea =>
  cases (show u=Value.ref a from rx)
  obtain⟨_,_,_,n,_,h1⟩:=(show ObjOk X.prog X.w X.K H s.heap a (.frz ob (.lst xs)) from I.hok a _ ea)
  exact W.kia_one W.kitx_list I.kIn ⟨_,h1,rfl⟩ e (fun z=>nomatch z) h
 |@tup a xs ea =>
  cases (show u=Value.ref a from rx)
  obtain⟨_,_,_,p⟩:=(show ObjOk X.prog X.w X.K H s.heap a (.tup xs) from I.hok a _ ea)
  obtain⟨o,h1,h2,_⟩:=p
  exact W.kia_one W.kitx_tuple I.kIn ⟨o,h1,h2⟩ e (fun z=>nomatch z) h
 |@dK a kvs ea =>
  cases (show u=Value.ref a from rx)
  obtain⟨_,_,vs,_,p⟩:=(show ObjOk X.prog X.w X.K H s.heap a (.dK kvs) from I.hok a _ ea)
  obtain⟨o,es,ep,h1,h2,_⟩:=p
  exact W.kia_one W.kitx_dict I.kIn ⟨o,h1,h2.1⟩ e (fun z=>nomatch z) h
 |@dT a kvs ea =>
  cases (show u=Value.ref a from rx)
  obtain⟨_,_,xs,_,o,es,ep,h1,h2,_⟩:=(show ObjOk X.prog X.w X.K H s.heap a (.dT kvs) from I.hok a _ ea)
  exact W.kia_one W.kitx_dict I.kIn ⟨o,h1,h2.1⟩ e (fun z=>nomatch z) h
 |@ins a C dx fs ea cl ha hn htk hm =>
  cases (show u=Value.ref a from rx)
  obtain⟨mA,O,_⟩:=Akd I.hok ea
  obtain⟨od,J,_⟩:=O.look
  exact W.kia_one (W.kitx_own (cl.get _) cl.hd ha hn htk hm) I.kIn J e (fun z=>nomatch z) h
end
structure Room (k:Nat) (A:Around):Prop where
 hd:A.handled=none
 dp:A.depth+3 * k+5 < recursionLimit
 un:A.units+16 * k+200 < cLine
theorem Room.mono {j k:Nat}{A:Around} (r:Room k A) (h:j<=k):Room j A:=⟨r.hd,by have:=r.dp;lia,by have:=r.un;lia⟩
theorem Room.deeper {k:Nat}{A:Around} (r:Room (k+1) A) (env:Env):Room k (A.deeper env) :=
 ⟨r.hd,by have:=r.dp;show A.depth+1+3 * k+5 < _;lia,by have:=r.un;show A.units+3+16 * k+200 < _;lia⟩
theorem Room.in1 {k:Nat}{A:Around} (r:Room (k+1) A):Room k A.in1 :=
 ⟨r.hd,by have:=r.dp;show A.depth+3 * k+5 < _;lia,by have:=r.un;show A.units+1+16 * k+200 < _;lia⟩
theorem Room.depth {k:Nat}{A:Around} (r:Room k A):A.depth < recursionLimit:=by have:=r.dp;lia
theorem Room.units {k:Nat}{A:Around} (r:Room k A):A.units+64 < cLine:=by have:=r.un;lia
noncomputable def Axf:TA:=fun _ H Q=>Q [] H
noncomputable def Am7 (ta:TE) (tr:TA):TA:=fun σ H Q=>ta σ H fun x H1=>tr σ H1 fun xs H2=>Q (x::xs) H2
section
variable {X:Cx}{e:Expr}{es:List Expr}{te:TE}{t:TA}{pos:Pos}
theorem Aaq:PA X [] Axf:=fun _ _ _ _ H Q I h=>Calls.spliced_nil ⟨[],H,I,.nil,h⟩
theorem N0 (ha:PE X e te) (hr:PA X es t) (hs:starEach (e::es) X.env=(false,eval e X.env)::starEach es X.env:=by rfl):PA X (e::es) (Am7 te t):=by
 intro pos pins s σ H Q I h
 rw[hs]
 show wpAny _ _ (spliced ((false,eval e X.env)::backTo pos (starEach es X.env))) _ _ s
 refine Calls.spliced_cons (thn (ha pins s σ H _ I h) fun u s1 ⟨x,H1,I1,r1,q1⟩=>?_)
 exact thn (hr pos pins s1 σ H1 _ I1 q1) fun us s2 ⟨xs,H2,I2,r2,q2⟩=>⟨x::xs,H2,I2,.cons r1 r2,q2⟩
def Ay7 (t:TA):TE:=fun σ H Q=>t σ H fun xs H1=>xs.length<=sizeLine/\∀ p,H1 p=none->Q (.ref p) (upd H1 p (.tup xs))
def Ay3 (t:TA):TE:=fun σ H Q=>t σ H fun xs H1=>xs.length<=sizeLine/\∀ p,H1 p=none->Q (.ref p) (upd H1 p (.lst xs))
theorem Ag3 {x1} (h:PA X es t):PE X (.Tuple es x1 pos) (Ay7 t):=by
 intro pins s σ H Q I hq
 refine wpAny_Tuple_spliced (thn (h pos pins s σ H _ I hq) fun us s1 ⟨xs,H1,I1,r,z,q⟩=>⟨by rw[<- r.length];exact z,?_⟩)
 have hf:H1 s1.heap.objs.size=none:=I1.hok.fresh (Azn _)
 refine⟨.ref s1.heap.objs.size,upd H1 s1.heap.objs.size (.tup xs),I1.laid (t':=s1.toks) (fun b u e=>Aze _ e) (Azn _) ?_,rfl,q _ hf⟩
 exact⟨z,us,r,TupD.new _ _⟩
theorem Ag2 (h:PA X es t):PE X (.List es pos) (Ay3 t):=by
 intro pins s σ H Q I hq
 refine wpAny_List_spliced (thn (h pos pins s σ H _ I hq) fun us s1 ⟨xs,H1,I1,r,z,q⟩=>⟨by rw[<- r.length];exact z,?_⟩)
 have hf:H1 s1.heap.objs.size=none:=I1.hok.fresh (Azn _)
 refine⟨.ref s1.heap.objs.size,upd H1 s1.heap.objs.size (.lst xs),I1.laid (t':=s1.toks) (fun b u e=>Aze _ e) (Azn _) ?_,rfl,q _ hf⟩
 exact⟨z,us,0,r,Azq _ rfl⟩
end
abbrev Sp:=List V->Hp->VK->XK->Prop
abbrev CXT:=List Env->Hp->Shared->XK->Value->Shared->Prop
structure Env0 (P:Program) (w:World) (K:W.Frag) (mg:Str->Option Value) (base:Heap) (A:Around) (outer:List Env) (s:Shared) (H:Hp):Prop where
 frames:A.frames=some outer
 mod:Mod K mg base
 bs:∀ b o,base.get? b=some o->s.heap.get? b=some o/\H b=none
 bsz:base.objs.size<=s.heap.objs.size
 funs:s.heap.FunFrames base outer
 frf:∀ b∈frs outer,H b=none
 hok:HOk P w K H s.heap
 bare:AllBare s.gens
def CE (outer:List Env) (P:Program) (w:World) (K:W.Frag) (H:Hp) (s:Shared) (Q:VK) (u:Value) (s':Shared):Prop :=
 ∃ v H',s'.os=s.os/\AllBare s'.gens/\Un (frs outer) [] H H' s.heap s'.heap/\HOk P w K H' s'.heap/\RelV v u/\Q v H'
def CR (CX:CXT) (outer:List Env) (P:Program) (w:World) (K:W.Frag) (H:Hp) (s:Shared) (Q:VK) (E:XK) (r:Result) (s':Shared):Prop :=
 match r with
 |.ok (.ret u)=>CE outer P w K H s Q u s'
 |.ok _=>False
 |.error e=>CX outer H s E e s'
structure FnOk (P:Program) (w:World) (K:W.Frag) (mg:Str->Option Value) (base:Heap) (CX:CXT) (k:Nat) (f:Addr) (fd:FuncData) (ps:List Str) (sp:Sp):Prop where
 len:∀ vs H Q E,sp vs H Q E->vs.length=ps.length
 run:∀ (A:Around) (outer:List Env) (s:Shared) (H:Hp) (args:Args) (us:List Value) (vs:List V) (Q:VK) (E:XK),Room k A->Env0 P w K mg base A outer s H->BindsTo s fd args (ps.zip us)->Vals vs us->sp vs H Q E ->
  codeAny (model P w) A (.call (.ref f) args) (CR CX outer P w K H s Q E) s
theorem Env0.in1 {P:Program}{w:World}{K:W.Frag}{mg:Str->Option Value}{base:Heap}{A:Around}{outer:List Env}{s:Shared}{H:Hp} (e:Env0 P w K mg base A outer s H) :
  Env0 P w K mg base A.in1 outer s H:=⟨e.frames,e.mod,e.bs,e.bsz,e.funs,e.frf,e.hok,e.bare⟩
section
variable {X:Cx}{pins:List (Addr×Obj)}{σ:St}{H:Hp}{s s':Shared}
theorem Inv.env0 (I:Inv X pins σ H s):Env0 X.prog X.w X.K X.mg X.base X.A X.stack s H :=
 ⟨I.ok.frames,I.ok.mod,I.bs,Azy I.ok.bsz I.sz,I.stack,I.stkFree,I.hok,I.bare⟩
theorem Inv.after {Q:VK}{u:Value} (I:Inv X pins σ H s) (h:CE X.stack X.prog X.w X.K H s Q u s'):EP X pins σ Q u s':=by
 obtain⟨v,H',os,bare,un,hok,r,q⟩:=h
 obtain⟨hh,g,d,t,os'⟩:=s'
 obtain rfl:os'=s.os:=os
 exact⟨v,H',I.call (h':=hh) (g':=g) (d':=d) (t':=t) (ch:=[]) un hok bare (fun b z=>absurd z (by simp)),r,q⟩
end
noncomputable def Am6 (sp:Sp) (dvs:List V) (E:XK) (t:TA):TE:=fun σ H Q=>t σ H fun vs H1=>sp (vs++dvs) H1 Q E
def Binds (K:W.Frag) (fd:FuncData) (ps:List Str) (ds:List Value):Prop :=
 ∀ (s:Shared) (us:List Value),K.In s.heap->(us++ds).length=ps.length->BindsTo s fd ⟨us,[]⟩ (ps.zip (us++ds))
theorem Binds.all {K:W.Frag}{fd:FuncData}{ps:List Str} (h:∀ us:List Value,us.length=ps.length->bindArgs fd ⟨us,[]⟩=pure (ps.zip us)):Binds K fd ps []:=fun s us _ hl=>by
 rw[Az2] at hl ⊢
 exact .of_eq (h us hl)
def Oh (CX:CXT) (X:Cx) (E:XK):Prop:=∀ (pins:List (Addr×Obj)) (σ:St) (H:Hp) (s:Shared) (e:Value) (s':Shared),Inv X pins σ H s->CX X.stack H s E e s'->X.xe e s'
section
variable {X:Cx}{CX:CXT}{k:Nat}{f C:Addr}{fd:FuncData}{ps:List Str}{sp:Sp}{dvs:List V}{ds:List Value}{E:XK}{x m:Str}{p pos apos:Pos}{e o:Expr}{es:List Expr}{ta:TE}{t:TA}
theorem Ahe {pins:List (Addr×Obj)}{σ:St}{H:Hp}{s:Shared}{Q:VK}{us:List Value}{vs:List V} (F:FnOk X.prog X.w X.K X.mg X.base CX k f fd ps sp) (hr:Room k X.A) (hb:Binds X.K fd ps ds) (hd:Vals dvs ds) (hx:Oh CX X E)
  (I:Inv X pins σ H s) (r:Vals vs us) (h:sp (vs++dvs) H Q E):wpAny (model X.prog X.w) X.A (call (.ref f) us) (EP X pins σ Q) X.xe s:=by
 have r2:Vals (vs++dvs) (us++ds):=r.append hd
 have hl:(us++ds).length=ps.length:=by rw[<- r2.length];exact F.len _ _ _ _ h
 refine wpAny_call (codeAny_mono (F.run X.A X.stack s H ⟨us,[]⟩ (us++ds) (vs++dvs) Q E hr I.env0 (hb s us I.kIn hl) r2 h) fun r s' hq=>?_)
 cases r with
 |error e=>exact hx pins σ H s e s' I hq
 |ok fl =>
  cases fl with
  |ret u=>exact I.after hq
  |next=>exact False.elim hq
  |brk=>exact False.elim hq
  |cont=>exact False.elim hq
theorem N2 (F:FnOk X.prog X.w X.K X.mg X.base CX k f fd ps sp) (hr:Room k X.A) (hg:Gl X x) (hm:X.mg x=some (.ref f)) (hk:W.keepIn X.K (.ref f)=true) (hb:Binds X.K fd ps ds) (hd:Vals dvs ds) (hx:Oh CX X E)
  (ha:PA X (e::es) t) (hdb:(x == ("__debug__":Str))=false:=by decide) (he:starEach (e::es) X.env=(false,eval e X.env)::starEach es X.env:=by rfl) (hpl:(backTo pos (starEach es X.env)).any (·.1)=false:=by rfl) :
  PE X (.Call (.Name x p) (e::es) [] pos) (Am6 sp dvs E t):=by
 intro pins s σ H Q I h
 refine Bae (Np I hg hm ?_ hdb)
 refine W.callWith_K (h₀:=X.base) I.ok.mod.kin hk (thn (ha pos pins s σ H _ I h) fun us s1 ⟨vs,H1,I1,r,q⟩=>⟨I1.kIn,?_⟩) he hpl
 exact Ahe F hr hb hd hx I1 r q
end
section
variable {X:Cx}{CX:CXT}{k:Nat}{f C:Addr}{fd:FuncData}{ps ks:List Str}{sp:Sp}{E:XK}{x m:Str}{p pos apos kpos:Pos}{e o:Expr}{es:List Expr}{kws:List Keyword}{te ta:TE}{t tk:TA}{nm:Option Str}
variable {g:List Value->List Value->List Value}{gV:List V->List V->List V}
end
structure FnScope (N P:List Str) (sc:Scope):Prop where
 kind:sc.kind=.function
 co:sc.isCoroutine=false
 gen:sc.isGenerator=false
 nd:N.Nodup
 pre:N.take P.length=P
 par:∀ x∈P,sc.names.lookup x=some .local\/sc.names.lookup x=some .cell
 nofree:∀ y∈sc.names,y.2≠.free
theorem Ot {kindOf:Str->Option NameKind}{x:Str}:∀ {binds:List (Str×Value)}{m:Str->Option Value},(∀ v,(x,v)∉binds)->bindL kindOf binds m x=m x
 |[],_,_=>rfl
 |(n,v)::r,m,h=>by
  unfold bindL
  rw[Ot fun w hw=>h w (Azf _ hw)]
  split
  ·have:x≠n:=by rintro rfl;exact h v Azg
   simp[this]
  ·rfl
theorem Oq {kindOf:Str->Option NameKind}{x:Str}:∀ {binds:List (Str×Value)}{m:Str->Option Value},(∀ v,(x,v)∉binds)->bindC kindOf binds m x=m x
 |[],_,_=>rfl
 |(n,v)::r,m,h=>by
  unfold bindC
  rw[Oq fun w hw=>h w (Azf _ hw)]
  split
  ·rfl
  ·have:x≠n:=by rintro rfl;exact h v Azg
   simp[this]
theorem Os {kindOf:Str->Option NameKind}{x:Str}{v:Value}:∀ {P:List Str}{vs:List Value}{i:Nat}{m:Str->Option Value},P.Nodup->P[i]?=some x->vs[i]?=some v->kindOf x=some .local ->
  bindL kindOf (P.zip vs) m x=some v
 |[],_,_,_,_,h,_,_=>by simp at h
 |_::_,[],_,_,_,_,h,_=>by simp at h
 |p::P,w::vs,0,m,nd,h1,h2,hk=>by
  simp at h1 h2;subst h1;subst h2
  show bindL kindOf ((p,w)::P.zip vs) m p=_
  unfold bindL
  rw[Ot fun v hv=>(List.nodup_cons.mp nd).1 (Bcj hv).1,Azp hk]
  simp
 |p::P,w::vs,i+1,m,nd,h1,h2,hk=>by
  show bindL kindOf ((p,w)::P.zip vs) m x=_
  unfold bindL
  exact Os (i:=i) (List.nodup_cons.mp nd).2 (by simpa using h1) (by simpa using h2) hk
theorem Oo {kindOf:Str->Option NameKind}{x:Str}{v:Value}:∀ {P:List Str}{vs:List Value}{i:Nat}{m:Str->Option Value},P.Nodup->P[i]?=some x->vs[i]?=some v->kindOf x≠some .local ->
  bindC kindOf (P.zip vs) m x=some v
 |[],_,_,_,_,h,_,_=>by simp at h
 |_::_,[],_,_,_,_,h,_=>by simp at h
 |p::P,w::vs,0,m,nd,h1,h2,hk=>by
  simp at h1 h2;subst h1;subst h2
  show bindC kindOf ((p,w)::P.zip vs) m p=_
  unfold bindC
  rw[Oq fun v hv=>(List.nodup_cons.mp nd).1 (Bcj hv).1,Azs hk]
  simp
 |p::P,w::vs,i+1,m,nd,h1,h2,hk=>by
  show bindC kindOf ((p,w)::P.zip vs) m x=_
  unfold bindC
  exact Oo (i:=i) (List.nodup_cons.mp nd).2 (by simpa using h1) (by simpa using h2) hk
noncomputable def Eo (N:List Str) (vs:List V):St:=vs.map some++List.replicate (N.length - vs.length) none
noncomputable def Nf (CX:CXT) (P:Program) (w:World) (K:W.Frag) (mg:Str->Option Value) (base:Heap) (N:List Str) (qual:Str) (scope:Scope) (f:Addr) (cd:Value) (A:Around) (outer:List Env) (s:Shared) (H:Hp) (E:XK):Cx where
 prog:=P
 w:=w
 K:=K
 mg:=mg
 base:=base
 A:=A.deeper (envOfC qual scope s.heap.objs.size f cd)
 N:=N
 s₀:=s
 H₀:=H
 env:=envOfC qual scope s.heap.objs.size f cd
 outer:=outer
 stack:=envOfC qual scope s.heap.objs.size f cd::outer
 ex:=[]
 calm:=true
 fn:=fun _=>true
 pn:=[]
 xe:=fun e s'=>wpAny (model P w) (A.deeper (envOfC qual scope s.heap.objs.size f cd)) (leaving (envOfC qual scope s.heap.objs.size f cd) e) (fun _ s''=>CX outer H s E e s'') (fun e' s''=>CX outer H s E e' s'') s'
theorem T7 {sc:Scope}{n:Nat}{x:Str} (h:sc.names.lookup x=some .cell):∃ c,(cellsFrom n sc.names []).lookup x=some c:=by
 have q:=W.cellsFrom_some sc.names n [] (.inl h)
 exact Option.isSome_iff_exists.mp q
theorem Ph {CX:CXT}{P:Program}{w:World}{K:W.Frag}{mg:Str->Option Value}{base:Heap}{N ps:List Str}{qual:Str}{scope:Scope}{f:Addr}{cd:Value}{A:Around}{outer:List Env}{s s1:Shared}{H:Hp}{E:XK}{us:List Value}{vs:List V}
  (S:FnScope N ps scope) (hd:A.handled=none) (e0:Env0 P w K mg base A outer s H) (hl:vs.length=ps.length) (r:Vals vs us)
  (x:InCallC s s.heap.objs.size (bindL (envOfC qual scope s.heap.objs.size f cd).kindOf (ps.zip us) fun _=>none) (cellsFrom (s.heap.objs.size+1) scope.names []) (bindC (envOfC qual scope s.heap.objs.size f cd).kindOf (ps.zip us) fun _=>none) s1) :
  Inv (Nf CX P w K mg base N qual scope f cd A outer s H E) [] (Eo N vs) H s1:=by
 have hpl:ps.length<=N.length:=by have:=Ba4 List.length S.pre;rw[Ba7] at this;lia
 obtain⟨h1,tk,rfl,hk⟩:=x.done
 have noA:∀ b:Addr,b∉(Nf CX P w K mg base N qual scope f cd A outer s H E).ex:=fun b z=>absurd (show b∈([]:List Addr) from z) (by simp)
 refine⟨⟨e0.mod,S.kind,rfl,rfl,Azn _,fun y z c h1 h2=>?_,fun y hy=>?_,fun y c _ h=>?_,fun _=>hd,Around.frames_deeper e0.frames,.inr ⟨rfl,rfl⟩,fun b z=>absurd z (noA b),e0.bs,e0.bsz,fun b _ _=>noA b,fun b z=>absurd z (noA b),e0.funs,e0.frf⟩,
  rfl,e0.bare,Un.kept hk,⟨_,x.toInCall.ns,fun i y v h1 h2 h3=>?_⟩,fun y c h=>⟨_,x.cell y c h⟩,e0.hok.fresh (Azn _),fun y c h=>?_,fun p hp=>absurd (show p∈([]:List (Addr×Obj)) from hp) (by simp),e0.hok.kept hk,?_⟩
 ·exact name_of_addr x.apart (Bac h1) (Bac h2)
 ·have hy:scope.names.lookup y=some .cell\/scope.names.lookup y=some .free:=hy
  rcases hy with hy|hy
  ·exact T7 hy
  ·exact absurd rfl (S.nofree _ (Bac hy))
 ·exact Ba9 (x.above y c (Bac h))
 ·have hi:i < vs.length:=by
   unfold Eo at h2
   by_cases hi:i < vs.length
   ·exact hi
   ·rw[Baj (by simpa using hi)] at h2
    rw[Bbj] at h2
    split at h2<;>cases h2
  have ha:vs[i]?=some v:=by
   unfold Eo at h2
   rw[Azz (by simpa using hi),Az3] at h2
   cases e:vs[i]? with
   |none=>rw[e] at h2;cases h2
   |some a=>rw[e] at h2;cases h2;rfl
  obtain⟨u,hu,rv⟩:=r.get ha
  have hp:ps[i]?=some y:=by
   rw[<- S.pre,List.getElem?_take_of_lt (by lia)];exact h1
  have ndP:ps.Nodup:=by rw[<- S.pre];exact S.nd.sublist (List.take_sublist _ _)
  refine⟨u,rv,?_⟩
  rcases S.par y (Az8 hp) with k|k
  ·exact .inl ⟨k,Os ndP hp hu k⟩
  ·obtain⟨c,e⟩:=T7 (n:=s.heap.objs.size+1) k
   refine .inr ⟨.inl k,c,e,?_⟩
   have q:=x.cell y c e
   rw[Oo ndP hp hu (by show scope.names.lookup y≠_;rw[k];decide)] at q
   exact q
 ·exact e0.hok.fresh (Ba9 (x.above y c (Bac h)))
 ·unfold Eo
  show _=N.length
  rw[Azx,Azr,List.length_replicate]
  lia
theorem Ajl {CX:CXT}{P:Program}{w:World}{K:W.Frag}{mg:Str->Option Value}{base:Heap}{k:Nat}{f:Addr}{name qual:Str}{params:Arguments}{body:List Stmt}{scope:Scope}{dV kV doc pm cdv ct oc:Value}{an od:Option Addr}
  {osl:Array (Option Value)}{N ps:List Str}{sp:Sp} (lk:K.lookup f=some ⟨oc,od,.func (W.fnOf name qual params body scope dV kV doc pm an cdv ct),osl⟩) (hcd:W.codeIn K cdv qual=true) (S:FnScope N ps scope)
  (len:∀ vs H Q E,sp vs H Q E->vs.length=ps.length)
  (hbody:∀ (A:Around) (outer:List Env) (s:Shared) (H:Hp) (vs:List V) (Q:VK) (E:XK),Room k (A.deeper (envOfC qual scope s.heap.objs.size f cdv))->sp vs H Q E ->
   ∃ t,PSs (Nf CX P w K mg base N qual scope f cdv A outer s H E) body t/\t { nx:=fun _ H'=>Q .non H',rt:=Q } (Eo N vs) H) :
  FnOk P w K mg base CX (k+1) f (W.fnOf name qual params body scope dV kV doc pm an cdv ct) ps sp:=by
 refine⟨len,fun A outer s H args us vs Q E hr e0 hb r hsp=>?_⟩
 have hl:=len _ _ _ _ hsp
 have KX:K.In s.heap:=e0.mod.kin.keeps fun b o e=>(e0.bs b o e).1
 have lim:s.heap.NoLimit:=e0.mod.nolimit.keeps fun b o e=>(e0.bs b o e).1
 have hkind:∀ y∈ps.zip us,scope.names.lookup y.1=some .local\/(scope.names.lookup y.1=some .cell/\((cellsFrom (s.heap.objs.size+1) scope.names []).lookup y.1).isSome=true):=fun⟨n,v⟩ hy=>by
  rcases S.par n (Bcj hy).1 with q|q
  ·exact .inl q
  ·exact .inr ⟨q,W.cellsFrom_some _ _ _ (.inl q)⟩
 refine codeAny_call_function hr.depth (KX _ _ lk) rfl S.co S.gen rfl (W.codeRec_of KX hcd) (hb _ _ _ _ ?_)
 refine wpAny_newFunctionEnv_cells S.kind hkind fun env he s1 x=>?_
 subst he
 refine⟨lim.keeps x.toInCall.keep,codeAny_func ?_⟩
 obtain⟨t,ht,hq⟩:=hbody A outer s H vs Q E (hr.deeper _) hsp
 have I:Inv (Nf CX P w K mg base N qual scope f cdv A outer s H E) [] (Eo N vs) H s1:=Ph S hr.hd e0 hl r x
 refine Bal (ht [] s1 (Eo N vs) H _ I hq) (fun fl s' hs=>?_) fun e s' hs=>hs
 have fin:∀ {σ':St}{H':Hp}{v:V}{u:Value},Inv (Nf CX P w K mg base N qual scope f cdv A outer s H E) [] σ' H' s'->RelV v u->Q v H'->CE outer P w K H s Q u s' :=
  fun {σ' H' v u} J rv q=>⟨v,H',J.os,J.bare,J.base,J.hok,rv,q⟩
 cases fl with
 |ret u =>
  obtain⟨v,σ',H',J,rv,q⟩:=hs
  exact fin J rv q
 |next =>
  obtain⟨σ',H',J,q⟩:=hs
  exact fin (v:=V.non) (u:=Value.none) J rfl q
 |brk =>
  obtain⟨_,_,_,q⟩:=hs
  exact False.elim q
 |cont =>
  obtain⟨_,_,_,q⟩:=hs
  exact False.elim q
section
variable {X:Cx}{x:Str}{p pos:Pos}{e:Expr}{es:List Expr}{t:TA}{id T:String}{r:List V->Hp->VK->Prop}
end
end L2
namespace HT
open PySem PyProof.Rows
section
open PySem.SeqAt
open PySem.AutoSeq1 (wpAny_loadPart')
open PySem.MeetsSeq PySem.MeetsSeq2 PySem.MeetsSeq3
end
section
variable {prog:Program}{w:World}{A:Around}{E:Value->Shared->Prop}{s:Shared}
theorem cat_tup {t b:Addr}{vs ws:List Value}{Q:Value->Shared->Prop} (ht:IsTup s.heap t vs.toArray) (hb:IsTup s.heap b ws.toArray) (hv:vs≠[])
  (h1:ws=[]->Q (.ref t) s) (h2:ws≠[]->Q (.ref s.heap.objs.size) { s with heap:=s.heap.push { cls:=.type "tuple",data:=.seq (vs++ws).toArray } })
  (hsz:vs.length+ws.length<=sizeLine):wpAny (model prog w) A (binaryOp .Add (.ref t) (.ref b)) Q E s:=by
 obtain⟨⟨cls,dd,data,sl⟩,ho,hc,n,hd⟩:=id ht
 obtain⟨⟨cls2,dd2,data2,sl2⟩,ho2,hc2,n2,hd2⟩:=id hb
 simp only at hc hd hc2 hd2
 subst hc hd hc2 hd2
 have e:vs.toArray++ws.toArray=(vs++ws).toArray:=by simp
 by_cases hw:ws=[]
 ·exact concat_meets ⟨_,ho,rfl⟩ ⟨_,ho2,rfl⟩ noFill_tuple_add seq_tuple_add PySem.F.slot_tuple_add PySem.F.entry_tuple_add (PySem.F.args_tuple_add_2 _ _)
   (tuple_addW1 t b vs.toArray ws.toArray n n2 dd dd2 sl sl2 (by simpa using hv) (by simp[hw])) ⟨ho,ho2,h1 hw⟩
 ·refine concat_meets ⟨_,ho,rfl⟩ ⟨_,ho2,rfl⟩ noFill_tuple_add seq_tuple_add PySem.F.slot_tuple_add PySem.F.entry_tuple_add (PySem.F.args_tuple_add_2 _ _)
   (tuple_addW2 t b vs.toArray ws.toArray n n2 dd dd2 sl sl2 (by simpa using hv) (by simpa using hw) (by rw[Azh,Azh];exact hsz)) ⟨ho,ho2,?_⟩
  rw[e]
  exact h2 hw
noncomputable def sIx (n d:Nat):Option Int->Nat
 |none=>d
 |some v=>if v < 0 then (v+(n:Int)).toNat else min v.toNat n
theorem sIx_nat (n d k:Nat):sIx n d (some (k:Int))=min k n:=by
 show (if (k:Int) < 0 then ((k:Int)+(n:Int)).toNat else min (k:Int).toNat n)=min k n
 rw[Azs (by lia),Int.toNat_natCast]
theorem Asz (n d:Nat) (hd:d<=n) (o:Option Int):sIx n d o<=n:=by
 cases o with
 |none=>exact hd
 |some v =>
  show (if v < 0 then (v+(n:Int)).toNat else min v.toNat n)<=n
  by_cases hv:v < 0
  ·rw[Azp hv];lia
  ·rw[Azs hv];exact Nat.min_le_right _ _
theorem Yn (v:Int) (n d:Nat):(if v < 0 then max (v+(n:Int)) 0 else min v (n:Int))=((sIx n d (some v):Nat):Int):=by
 show (if v < 0 then max (v+(n:Int)) 0 else min v (n:Int))=(((if v < 0 then (v+(n:Int)).toNat else min v.toNat n):Nat):Int)
 by_cases hv:v < 0
 ·simp only[Azp hv];lia
 ·simp only[Azs hv];lia
theorem Vp (lo hi:Option Int) (n:Nat):Builtin.Slice.sliceAdjust lo hi 1 (n:Int)=(((sIx n 0 lo:Nat):Int),((sIx n n hi:Nat):Int)):=by
 have h1:¬ ((1:Int) < 0):=by lia
 unfold Builtin.Slice.sliceAdjust
 simp only[h1,Bbn]
 refine Prod.ext ?_ ?_
 ·cases lo with
  |none=>rfl
  |some v=>exact Yn v n 0
 ·cases hi with
  |none=>rfl
  |some v=>exact Yn v n n
theorem Xn (i j:Nat):Builtin.Slice.slicePlaces (i:Int) (j:Int) 1=j - i:=by
 unfold Builtin.Slice.slicePlaces
 have h1:(1:Int) > 0:=by lia
 simp only[h1,Bbc,Int.ediv_one]
 split<;>lia
theorem Mu {v:Value}{o:Option Int}{Q:Option Int->Shared->Prop} (p:IsPart v o) (h:Q o s):wpAny (model prog w) A (Builtin.Slice.slicePartIndex v) Q E s:=by
 cases p with
 |none=>exact slicePart_none h
 |int i t=>exact slicePart_int h
theorem sliceApplied_gen {sl:Addr}{vl vu:Value}{lo hi:Option Int}{n:Nat}{Q:Int×Int×Nat->Shared->Prop} (hs:s.heap.IsSliceOf sl vl vu .none) (pl:IsPart vl lo) (pu:IsPart vu hi)
  (h:Q (((sIx n 0 lo:Nat):Int),1,sIx n n hi - sIx n 0 lo) s):wpAny (model prog w) A (Builtin.Slice.sliceApplied (.ref sl) (pure (n:Int))) Q E s:=by
 obtain⟨os,hos,hcs,hds⟩:=id hs
 unfold Builtin.Slice.sliceApplied Builtin.Slice.sliceFields
 refine Azc (Azc (Bbs hos hds (x:=vl) rfl (Azc (Bbs hos hds (x:=vu) rfl (Azc (Bbs hos hds (x:=.none) rfl (Azi ?_)))))))
 refine Azc (slicePart_none ?_)
 show wpAny _ _ (if ((1:Int) == 0)=true then _ else _) _ _ s
 rw[Azs (by decide)]
 refine Azc (Mu pl (Azc (Mu pu (Azc (Azi ?_)))))
 show wpAny _ _ (match Builtin.Slice.sliceAdjust lo hi 1 (n:Int) with|(lo,hi)=>pure (lo,(1:Int),Builtin.Slice.slicePlaces lo hi 1)) _ _ s
 rw[Vp lo hi n]
 show wpAny _ _ (pure (((sIx n 0 lo:Nat):Int),(1:Int),Builtin.Slice.slicePlaces ((sIx n 0 lo:Nat):Int) ((sIx n n hi:Nat):Int) 1)) _ _ s
 rw[Xn]
 exact Azi h
theorem Aek (xs:Array Value) (i k:Nat):((List.range k).filterMap fun (m:Nat)=>xs[((i:Int)+(m:Int) * 1).toNat]?).toArray=((xs.toList.drop i).take k).toArray:=by
 have e:(fun (m:Nat)=>xs[((i:Int)+(m:Int) * 1).toNat]?)=fun m=>xs[i+m]?:=by
  funext m
  have:((i:Int)+(m:Int) * 1).toNat=i+m:=by lia
  rw[this]
 rw[e]
 have:=pick_run xs i k
 rw[List.filterMap_map] at this
 have e2:((fun x=>xs[x]?) ∘ fun x=>i+x)=fun m=>xs[i+m]?:=rfl
 rw[e2] at this
 rw[this]
theorem getItem_tuple_cut {t sl:Addr}{items:Array Value}{vl vu:Value}{lo hi:Option Int}{Q:Value->Shared->Prop} (ht:IsTup s.heap t items) (hs:s.heap.IsSliceOf sl vl vu .none) (pl:IsPart vl lo) (pu:IsPart vu hi)
  (hw:¬ (sIx items.size 0 lo=0/\sIx items.size items.size hi=items.size))
  (h:Q (.ref s.heap.objs.size) { s with heap:=s.heap.push { cls:=.type "tuple",data:=.seq ((items.toList.drop (sIx items.size 0 lo)).take (sIx items.size items.size hi - sIx items.size 0 lo)).toArray } })
  (hsz:items.size<=sizeLine):wpAny (model prog w) A (getItem (.ref t) (.ref sl)) Q E s:=by
 have htake:sizeOk (.seq ((items.toList.drop (sIx items.size 0 lo)).take (sIx items.size items.size hi - sIx items.size 0 lo)).toArray):=by
  show ((items.toList.drop (sIx items.size 0 lo)).take (sIx items.size items.size hi - sIx items.size 0 lo)).toArray.size<=sizeLine
  rw[Azh,Ba7,List.length_drop,Bbk]
  lia
 have hj:sIx items.size items.size hi<=items.size:=Asz _ _ (Azn _) hi
 obtain⟨os,hos,hcs,hds⟩:=id hs
 have hTs:s.TypeIs (.ref sl) "slice":=⟨os,hos,hcs⟩
 unfold getItem
 try with_reducible refine Bah ?_
 first|refine Azc (Azi ?_)|skip
 refine Azc (wpAny_sequenceKey ht.typeIs (by decide) ?_)
 refine Azc (Bb1 (name:=Str.ofString "__getitem__") ht.typeIs PyProof.Rows.slot_tuple_getitem
  (Ba1 PyProof.Rows.slot_tuple_getitem ht.typeIs entry_tuple_getitem ?_ (args_tuple_getitem _ _)))
 show wpAny _ _ (Builtin.Tuple.tupleItemsOf (.ref t) >>= _) _ _ s
 refine Azc (tupleItemsOf_ ht ?_)
 refine Azc (Bbw hTs ?_)
 rw[Azp (by decide)]
 refine Azc (sliceApplied_gen hs pl pu ?_)
 have hno:¬ ((((sIx items.size 0 lo:Nat):Int) == 0&&(1:Int) == 1&&(sIx items.size items.size hi - sIx items.size 0 lo) == items.size)=true):=by
  intro q
  rw[Az0,Az0] at q
  have q1:((sIx items.size 0 lo:Nat):Int)=0:=eq_of_beq q.1.1
  have q2:sIx items.size items.size hi - sIx items.size 0 lo=items.size:=eq_of_beq q.2
  exact hw ⟨by lia,by lia⟩
 show wpAny _ _ (if (((sIx items.size 0 lo:Nat):Int) == 0&&(1:Int) == 1&&(sIx items.size items.size hi - sIx items.size 0 lo) == items.size)=true then _ else _) _ _ s
 rw[Azs hno,Aek]
 first
  |exact Azc (m:=Builtin.Tuple.tupleExact _) (Baw (Azi ⟨_,rfl,Azi h⟩) htake)
  |exact Azc (m:=Builtin.Tuple.tupleExact _) (Baw (Azc (Azi (Azi ⟨_,rfl,Azi h⟩))) htake)
  |exact Azc (Azc (m:=Builtin.Tuple.tupleExact _) (Baw (Azi (Azi ⟨_,rfl,Azi h⟩)) htake))
  |exact Azc (Azc (m:=Builtin.Tuple.tupleExact _) (Baw (Azi ⟨_,rfl,Azi h⟩) htake))
end
end HT
namespace L2
open PySem PySem.Spec PyProof.Rows
abbrev TO:=St->Hp->(Option Int->Hp->Prop)->Prop
def PO (X:Cx) (e:Option Expr) (t:TO):Prop :=
 ∀ (pins:List (Addr×Obj)) (s:Shared) (σ:St) (H:Hp) (Q:Option Int->Hp->Prop),Inv X pins σ H s->t σ H Q ->
  wpAny (model X.prog X.w) X.A (evalPart e X.env) (fun u s'=>∃ o H',Inv X pins σ H' s'/\IsPart u o/\Q o H') X.xe s
noncomputable def Am8:TO:=fun _ H Q=>Q none H
noncomputable def Awp (t:TE):TO:=fun σ H Q=>t σ H fun x H1=>∃ i,x=.int i/\Q (some i) H1
section
variable {X:Cx}{e:Expr}{te:TE}{lo hi:Option Expr}{tl th:TO}{pos p2:Pos}
theorem Als:PO X none Am8:=by
 intro pins s σ H Q I h
 rw[evalPart_none]
 exact Azi ⟨none,H,I,.none,h⟩
theorem Alu (h:PE X e te):PO X (some e) (Awp te):=by
 intro pins s σ H Q I hw
 rw[evalPart_some]
 refine thn (h pins s σ H _ I hw) fun u s1 ⟨x,H1,I1,r1,q1⟩=>?_
 obtain⟨i,rfl,q⟩:=q1
 obtain⟨t,rfl⟩:=r1
 exact⟨some i,H1,I1,.int i t,q⟩
def SlR (X:Cx) (r:V->Option Int->Option Int->Hp->VK->Prop):Prop :=
 ∀ (pins:List (Addr×Obj)) (s:Shared) (σ:St) (H:Hp) (x:V) (v vl vu:Value) (lo hi:Option Int) (sl:Addr) (Q:VK),Inv X pins σ H s->RelV x v->s.heap.IsSliceOf sl vl vu .none->IsPart vl lo->IsPart vu hi->r x lo hi H Q ->
  ∃ T id,typeLookup (.type T) "__getitem__"=pure (some (.builtin id))/\s.TypeIs v T/\wpAny (model X.prog X.w) X.A (getItem v (.ref sl)) (EP X pins σ Q) X.xe s
theorem SlR.or {r r':V->Option Int->Option Int->Hp->VK->Prop} (h:SlR X r) (h':SlR X r'):SlR X (fun x lo hi H Q=>r x lo hi H Q\/r' x lo hi H Q):=by
 intro pins s σ H x v vl vu lo hi sl Q I rx hs pl pu q
 rcases q with q|q
 ·exact h pins s σ H x v vl vu lo hi sl Q I rx hs pl pu q
 ·exact h' pins s σ H x v vl vu lo hi sl Q I rx hs pl pu q
noncomputable def tSl (r:V->Option Int->Option Int->Hp->VK->Prop) (te:TE) (tl th:TO):TE:=fun σ H Q=>te σ H fun x H1=>tl σ H1 fun l H2=>th σ H2 fun u H3=>r x l u H3 Q
theorem Uz {r:V->Option Int->Option Int->Hp->VK->Prop} (hr:SlR X r) (he:PE X e te) (hl:PO X lo tl) (hu:PO X hi th):PE X (.Subscript e (.Slice lo hi none p2) pos) (tSl r te tl th):=by
 intro pins s σ H Q I h
 refine Subscript_ (thn (he pins s σ H _ I h) fun v s1 ⟨x,H1,I1,r1,q1⟩=>?_)
 refine wpAny_Slice (thn (hl pins s1 σ H1 _ I1 q1) fun vl s2 ⟨l,H2,I2,pl,q2⟩=>thn (hu pins s2 σ H2 _ I2 q2) fun vu s3 ⟨u,H3,I3,pu,q3⟩=>?_)
 rw[evalPart_none]
 refine Azi ?_
 have I4:Inv X pins σ H3 { s3 with heap:=s3.heap.push { cls:=.type "slice",data:=.fields #[vl,vu,.none] } }:=I3.kept (t':=s3.toks) fun b ob q=>Aze _ q
 obtain⟨T,id,hT,ht,hg⟩:=hr pins { s3 with heap:=s3.heap.push { cls:=.type "slice",data:=.fields #[vl,vu,.none] } } σ H3 x v vl vu l u s3.heap.objs.size Q I4 r1 (Heap.IsSliceOf.new ..) pl pu q3
 show wpAny (model X.prog X.w) X.A (subscriptTail e (.Slice lo hi none p2) v (.ref s3.heap.objs.size)) (EP X pins σ Q) X.xe { s3 with heap:=s3.heap.push { cls:=.type "slice",data:=.fields #[vl,vu,.none] } }
 exact tail_any (ops:=[.ref s3.heap.objs.size,v]) ht hT hg (by with_unfolding_all rfl)
def Aga (xs:List V) (lo hi:Option Int):List V:=(xs.drop (HT.sIx xs.length 0 lo)).take (HT.sIx xs.length xs.length hi - HT.sIx xs.length 0 lo)
theorem Jj (xs:List V) (lo hi:Option Int):(Aga xs lo hi).length<=xs.length:=by
 unfold Aga
 rw[Ba7,List.length_drop]
 lia
def Ayy (K:W.Frag):V->Option Int->Option Int->Hp->VK->Prop:=fun x lo hi H Q=>∃ a xs,x=.ref a/\SqT K H a xs /\
 ¬ (HT.sIx xs.length 0 lo=0/\HT.sIx xs.length xs.length hi=xs.length)/\∀ p,H p=none->Q (.ref p) (upd H p (.tup (Aga xs lo hi)))
theorem sl_tup:SlR X (Ayy X.K):=by
 intro pins s σ H x v vl vu lo hi sl Q I rx hs pl pu h
 obtain⟨a,xs,rfl,hx,hw,q⟩:=h
 cases rx
 obtain⟨its,r,ht,hz⟩:=I.tuple hx
 have hlen:its.toArray.size=xs.length:=by rw[Azh];exact r.length.symm
 refine⟨"tuple",_,PyProof.Rows.slot_tuple_getitem.lookup,ht.typeIs,?_⟩
 refine HT.getItem_tuple_cut ht hs pl pu (by rw[hlen];exact hw) ?_ (by rw[hlen];exact hz)
 rw[hlen]
 refine⟨.ref s.heap.objs.size,_,I.laid (t':=s.toks) (o:=.tup (Aga xs lo hi)) (fun b ob q=>Aze _ q) (Azn _) ?_,rfl,q _ (I.hok.fresh (Azn _))⟩
 exact⟨Azy (Jj xs lo hi) hz,_,(r.drop (HT.sIx xs.length 0 lo)).take (HT.sIx xs.length xs.length hi - HT.sIx xs.length 0 lo),TupD.new _ _⟩
def Awg (K:W.Frag):R2:=fun x y H Q=>∃ a b xs ys,x=.ref a/\y=.ref b/\SqT K H a xs/\SqT K H b ys/\xs≠[]/\xs.length+ys.length<=sizeLine /\
 (ys=[]->Q (.ref a) H)/\(ys≠[]->∀ p,H p=none->Q (.ref p) (upd H p (.tup (xs++ys))))
theorem Vals.nil_iff {xs:List V}{us:List Value} (r:Vals xs us):us=[] ↔ xs=[]:=by
 cases r with
 |nil=>simp
 |cons _ _=>simp
theorem op_catT:OpR X (binaryOp .Add) (Awg X.K):=by
 intro pins s σ H x y v u Q I rx ry h
 obtain⟨a,b,xs,ys,rfl,rfl,ha,hb,hx,hz,q1,q2⟩:=h
 cases rx
 cases ry
 obtain⟨its,r1,p1,_⟩:=I.tuple ha
 obtain⟨its2,r2,p2,_⟩:=I.tuple hb
 refine HT.cat_tup p1 p2 (fun z=>hx (r1.nil_iff.mp z)) (fun z=>⟨.ref a,H,I,rfl,q1 (r2.nil_iff.mp z)⟩) (fun z=>?_) (by rw[<- r1.length,<- r2.length];exact hz)
 refine⟨.ref s.heap.objs.size,_,I.laid (t':=s.toks) (o:=.tup (xs++ys)) (fun b ob q=>Aze _ q) (Azn _) ?_,rfl,q2 (fun w=>z (r2.nil_iff.mpr w)) _ (I.hok.fresh (Azn _))⟩
 exact⟨by rw[Azx];exact hz,_,r1.append r2,TupD.new _ _⟩
end
noncomputable def ixN (n:Nat) (i:Int):Option Nat:=if 0<=i then (if i < n then some i.toNat else none) else if -(n:Int)<=i then some (i+n).toNat else none
def atI {α:Type} (xs:List α) (i:Int):Option α:=(ixN xs.length i).bind fun j=>xs[j]?
theorem Zl {n:Nat}{i:Int}{j:Nat} (h:ixN n i=some j):seqIndex? i n=some j/\j < n/\-(n:Int)<=i/\i < n:=by
 unfold ixN at h
 by_cases h0:0<=i
 ·rw[Azp h0] at h
  by_cases h1:i < n
  ·rw[Azp h1] at h
   have e:i.toNat=j:=Bag h
   exact⟨by rw[seqIndex_of h0 h1,e],by lia,by lia,h1⟩
  ·rw[Azs h1] at h;cases h
 ·rw[Azs h0] at h
  by_cases h1:-(n:Int)<=i
  ·rw[Azp h1] at h
   have e:(i+n).toNat=j:=Bag h
   exact⟨by rw[seqIndex_neg (by lia) h1,e],by lia,h1,by lia⟩
  ·rw[Azs h1] at h;cases h
theorem M9 {α:Type}{xs:List α}{i:Int}{v:α} (h:atI xs i=some v):∃ j,seqIndex? i xs.length=some j/\xs[j]?=some v/\j < xs.length/\-(xs.length:Int)<=i/\i < xs.length:=by
 unfold atI at h
 cases e:ixN xs.length i with
 |none=>rw[e] at h;cases h
 |some j =>
  rw[e] at h
  obtain⟨h1,h2,h3,h4⟩:=Zl e
  exact⟨j,h1,h,h2,h3,h4⟩
def Jc (b:Expr):Prop:=∀ o i,subscripted b false o i=operate [o,i] (getItem o i)
def IxR (X:Cx) (r:R2):Prop :=
 ∀ (value slice:Expr) (pins:List (Addr×Obj)) (s:Shared) (σ:St) (H:Hp) (x y:V) (v u:Value) (Q:VK),Inv X pins σ H s->RelV x v->RelV y u->r x y H Q ->
  subscripted slice false v u=operate [v,u] (getItem v u)->wpAny (model X.prog X.w) X.A (subscriptTail value slice v u) (EP X pins σ Q) X.xe s
def MtR (X:Cx) (id:String) (r:V->List V->Hp->VK->Prop):Prop :=
 ∀ (pins:List (Addr×Obj)) (s:Shared) (σ:St) (H:Hp) (x:V) (xs:List V) (v:Value) (us:List Value) (Q:VK),Inv X pins σ H s->RelV x v->Vals xs us->r x xs H Q ->
  wpAny (model X.prog X.w) X.A (call (.builtin id) (v::us)) (EP X pins σ Q) X.xe s
section
variable {X:Cx}{a b:Expr}{ta tb:TE}{pos:Pos}
theorem IxR.or {r r':R2} (h:IxR X r) (h':IxR X r'):IxR X (fun x y H Q=>r x y H Q\/r' x y H Q):=by
 intro value slice pins s σ H x y v u Q I rx ry q hs
 rcases q with q|q
 ·exact h value slice pins s σ H x y v u Q I rx ry q hs
 ·exact h' value slice pins s σ H x y v u Q I rx ry q hs
theorem Ar2 {r:R2} (hr:IxR X r) (ha:PE X a ta) (hb:PE X b tb) (hs:Jc b):PE X (.Subscript a b pos) (tOp r ta tb):=by
 intro pins s σ H Q I h
 exact Subscript_ (Atm ha hb I h fun v u s2 x y H2 I2 rx ry q=>hr a b pins s2 σ H2 x y v u Q I2 rx ry q (hs _ _))
def Aw6 (K:W.Frag):R2:=fun x y H Q=>∃ p xs i v,x=.ref p/\y=.int i/\SqL K H p xs/\atI xs i=some v/\Q v H
def Aw8 (K:W.Frag):R2:=fun x y H Q=>∃ p xs i v,x=.ref p/\y=.int i/\SqT K H p xs/\atI xs i=some v/\Q v H
def Aw7:R2:=fun x y H Q=>∃ z i c,x=.str z/\y=.int i/\z.length<=sizeLine/\atI z.cps.toList i=some c/\Q (.str ⟨#[c]⟩) H
theorem ix_list:IxR X (Aw6 X.K):=by
 intro value slice pins s σ H x y v u Q I rx ry h hs
 obtain⟨p,xs,i,z,rfl,rfl,hq,he,q⟩:=h
 cases rx
 obtain⟨t,rfl⟩:=ry
 obtain⟨its,r,pl,hz⟩:=I.list hq
 obtain⟨j,h1,h2,h3,h4,h5⟩:=M9 he
 obtain⟨w,ew,rw'⟩:=r.get h2
 have hl:=r.length
 have hn:=Me
 have fin:EP X pins σ Q w s:=⟨z,H,I,rw',q⟩
 by_cases h0:0<=i
 ·have hj:i.toNat=j:=by
   rw[seqIndex_of h0 h5] at h1
   exact Bag h1
  exact item_listR pl.isList h0 (by lia) (by rw[hj];simpa using ew) fin hs
 ·have hj:(i+(its.toArray.size:Int)).toNat=j:=by
   rw[seqIndex_neg (by lia) h4] at h1
   rw[Azh,<- hl]
   exact Bag h1
  exact subscriptTail_builtinR (x:=w) pl.isList.typeIs slot_list_getitem.lookup
   (wpAny_getItem_list_neg (Q:=fun r s'=>r=w/\EP X pins σ Q r s') pl.isList (by lia) (by rw[Azh]<;>lia) (by lia) (by rw[hj];simpa using ew) ⟨rfl,fin⟩) hs
theorem ix_tup:IxR X (Aw8 X.K):=by
 intro value slice pins s σ H x y v u Q I rx ry h hs
 obtain⟨p,xs,i,z,rfl,rfl,hq,he,q⟩:=h
 cases rx
 obtain⟨t,rfl⟩:=ry
 obtain⟨its,r,pl,hz⟩:=I.tuple hq
 obtain⟨j,h1,h2,h3,h4,h5⟩:=M9 he
 obtain⟨w,ew,rw'⟩:=r.get h2
 have hl:=r.length
 have hn:=Me
 have fin:EP X pins σ Q w s:=⟨z,H,I,rw',q⟩
 exact subscriptTail_builtinR (x:=w) pl.typeIs slot_tuple_getitem.lookup
  (getItem_tuple (j:=j) (Q:=fun r s'=>r=w/\EP X pins σ Q r s') pl (by lia) (by lia) (by rw[Azh,<- hl];exact h1) (by simpa using ew) ⟨rfl,fin⟩) hs
theorem Aps:IxR X Aw7:=by
 intro value slice pins s σ H x y v u Q I rx ry h hs
 obtain⟨z,i,c,rfl,rfl,hz,he,q⟩:=h
 obtain⟨t,rfl⟩:=rx
 obtain⟨t',rfl⟩:=ry
 obtain⟨j,h1,h2,h3,h4,h5⟩:=M9 he
 have hl:z.cps.toList.length=z.length:=by simp[Str.length]
 rw[hl] at h1 h4 h5
 have hn:=Me
 exact tail_any (typeIs_str s z t) slot_str_getitem.lookup (getItem_str (c:=c) (by
  have e1:decide (i < -(2 ^ 63:Int))=false:=Az6 (by lia)
  have e2:decide (i ≥ 2 ^ 63)=false:=Az6 (by lia)
  rw[e1,e2,Bool.or_false]) (by rw[h1];simpa using h2) ⟨.str ⟨#[c]⟩,H,I.tok _,⟨_,rfl⟩,q⟩) hs
def rIx (K:W.Frag):R2:=fun x y H Q=>Aw6 K x y H Q\/Aw8 K x y H Q\/Aw7 x y H Q
theorem Agi:IxR X (rIx X.K):=ix_list.or (ix_tup.or Aps)
theorem Xe (its:List Value) (n j:Nat) (u:Value):Obj.mapSeq (·.setIfInBounds j u) { cls:=.type "list",data:=.seq its.toArray n }={ cls:=.type "list",data:=.seq (its.set j u).toArray n }:=by
 simp[Obj.mapSeq]
theorem Inv.lst {pins:List (Addr×Obj)}{σ:St}{H:Hp}{s:Shared}{p:Addr}{xs:List V} (I:Inv X pins σ H s) (h:H p=some (.lst xs)) :
  ∃ (its:List Value) (n:Nat),Vals xs its/\s.heap.get? p=some { cls:=.type "list",data:=.seq its.toArray n }/\xs.length<=sizeLine:=by
 obtain⟨z,its,n,r,e⟩:=I.hok p _ h
 exact⟨its,n,r,e,z⟩
theorem Inv.lstUpd {pins:List (Addr×Obj)}{σ:St}{H:Hp}{s:Shared}{p:Addr}{xs ys:List V}{its its':List Value}{n n':Nat}{f:Obj->Obj} (I:Inv X pins σ H s) (h:H p=some (.lst xs))
  (ho:s.heap.get? p=some { cls:=.type "list",data:=.seq its.toArray n }) (hf:f { cls:=.type "list",data:=.seq its.toArray n }={ cls:=.type "list",data:=.seq its'.toArray n' }) (r:Vals ys its') (hz:ys.length<=sizeLine) (t:Nat) :
  Inv X pins σ (upd H p (.lst ys)) { s with heap:=s.heap.update p f,toks:=t }:=by
 have e:(s.heap.update p f).get? p=some { cls:=.type "list",data:=.seq its'.toArray n' }:=by
  rw[Bay f ho (by rw[hf]<;>rfl),hf]
 refine I.write (x:=p) (e:=p) (by rw[h];trivial) (.inl rfl) (fun b u hb q=>(Azu _ _ (Bak hb)).trans q) ⟨_,e⟩ ?_
 exact⟨hz,its',n',r,e⟩
def Awh:V->V->V->Hp->(Hp->Prop)->Prop:=fun o i v H Q=>∃ p xs k j,o=.ref p/\i=.int k/\H p=some (.lst xs)/\ixN xs.length k=some j/\Q (upd H p (.lst (xs.set j v)))
theorem U7:Aww X Awh:=by
 intro pins s σ H o i v ov iv u Q I ro ri rv h
 obtain⟨p,xs,k,j,rfl,rfl,hp,hj,q⟩:=h
 cases ro
 obtain⟨t,rfl⟩:=ri
 obtain⟨its,n,r,ho,hz⟩:=I.lst hp
 obtain⟨h1,h2,h3,h4⟩:=Zl hj
 have hl:=r.length
 have hn:=Me
 have I':Inv X pins σ (upd H p (.lst (xs.set j v))) { s with heap:=s.heap.update p (Obj.mapSeq (·.setIfInBounds j u)) } :=
  I.lstUpd hp ho (Xe its n j u) (r.set rv j) (by rw[List.length_set];exact hz) s.toks
 by_cases h0:0<=k
 ·have hk:k.toNat=j:=by
   rw[seqIndex_of h0 h4] at h1
   exact Bag h1
  exact W.ki_setAt ho h0 (by lia) (by rw[Azh,<- hl];exact h4) (by rw[hk];exact⟨_,I',q⟩)
 ·have hk:(k+(its.toArray.size:Int)).toNat=j:=by
   rw[seqIndex_neg (by lia) h3] at h1
   rw[Azh,<- hl]
   exact Bag h1
  exact W.ki_setBack ho (by lia) (by rw[Azh,<- hl];exact h3) (by lia) (by rw[hk];exact⟨_,I',q⟩)
theorem P7 (lo hi:Option Int) (n:Nat):(sliceBounds lo hi none n).1=((HT.sIx n 0 lo:Nat):Int)/\(sliceBounds lo hi none n).2.1=((HT.sIx n n hi:Nat):Int)/\(sliceBounds lo hi none n).2.2=1:=by
 refine⟨?_,?_,rfl⟩
 ·cases lo with
  |none=>simp[sliceBounds,HT.sIx]
  |some i =>
   simp only[sliceBounds,HT.sIx,Option.getD_none,show (1:Int) > 0 by decide,Bbc]
   by_cases h:i < 0
   ·simp only[h,Bbc]<;>lia
   ·simp only[h,Bbn]<;>lia
 ·cases hi with
  |none=>simp[sliceBounds,HT.sIx]
  |some i =>
   simp only[sliceBounds,HT.sIx,Option.getD_none,show (1:Int) > 0 by decide,Bbc]
   by_cases h:i < 0
   ·simp only[h,Bbc]<;>lia
   ·simp only[h,Bbn]<;>lia
theorem Od (its:List Value) (lo hi:Option Int):slicePick its.toArray lo hi none=((its.drop (HT.sIx its.length 0 lo)).take (HT.sIx its.length its.length hi - HT.sIx its.length 0 lo)).toArray:=by
 obtain⟨h1,h2,h3⟩:=P7 lo hi its.toArray.size
 unfold slicePick
 rw[h1,h2,h3]
 simp only[sliceRange_one,pick_run,Azh]<;>rfl
def Aw9 (K:W.Frag):V->Option Int->Option Int->Hp->VK->Prop:=fun x lo hi H Q=>∃ a xs,x=.ref a/\SqL K H a xs/\∀ p,H p=none->Q (.ref p) (upd H p (.lst (Aga xs lo hi)))
theorem Amw:SlR X (Aw9 X.K):=by
 intro pins s σ H x v vl vu lo hi sl Q I rx hs pl pu h
 obtain⟨a,xs,rfl,hx,q⟩:=h
 cases rx
 obtain⟨its,r,ht,hz⟩:=I.list hx
 have hlen:=r.length
 refine⟨"list",_,slot_list_getitem.lookup,ht.isList.typeIs,?_⟩
 refine wpAny_getItem_list_slice ht.isList hs pl pu .none (by simp) ?_ (by rw[Azh]<;>lia)
 rw[Od,<- hlen]
 refine⟨.ref s.heap.objs.size,_,I.laid (t':=s.toks) (o:=.lst (Aga xs lo hi)) (fun b ob q=>Aze _ q) (Azn _) ?_,rfl,q _ (I.hok.fresh (Azn _))⟩
 exact⟨Azy (Jj xs lo hi) hz,_,0,(r.drop (HT.sIx xs.length 0 lo)).take (HT.sIx xs.length xs.length hi - HT.sIx xs.length 0 lo),Azq _ rfl⟩
theorem Oy:Acj X (.type "list") (fun xs H Q=>∃ p ys,xs=[.ref p]/\(SqL X.K H p ys\/SqT X.K H p ys)/\∀ l,H l=none->Q (.ref l) (upd H l (.lst ys))):=by
 intro pins s σ H xs us Q I r h
 obtain⟨p,ys,rfl,hq,q⟩:=h
 obtain⟨u,rfl,rx⟩:=G5 r
 cases rx
 have fin:∀ (its:List Value),Vals ys its->ys.length<=sizeLine->∀ (h':Heap) (c':Nat),(∀ b o',s.heap.get? b=some o'->h'.get? b=some o') ->
   h'.get? s.heap.objs.size=some { cls:=.type "list",dict:=none,data:=.seq its.toArray c',slots:=#[] }->EP X pins σ Q (.ref s.heap.objs.size) { s with heap:=h' }:=fun its r' hz h' c' kp e =>
  ⟨.ref s.heap.objs.size,_,I.laid (t':=s.toks) kp (Azn _) (show ObjOk X.prog X.w X.K _ h' _ (.lst ys) from ⟨hz,its,c',r',e⟩),rfl,q _ (I.hok.fresh (Azn _))⟩
 rcases hq with hq|hq
 ·obtain⟨its,r',pl,hz⟩:=I.list hq
  have hlen:=r'.length
  obtain⟨o,ho,hc,n,hd⟩:=pl.isList
  exact call_list_seq p (.inl rfl) ho hc hd (fun h' c' kp e=>fin its r' hz h' c' kp e) (by simp only[Azh]<;>lia)
 ·obtain⟨its,r',pl,hz⟩:=I.tuple hq
  have hlen:=r'.length
  obtain⟨o,ho,hc,n,hd⟩:=pl
  exact call_list_seq p (.inr rfl) ho hc hd (fun h' c' kp e=>fin its r' hz h' c' kp e) (by simp only[Azh]<;>lia)
theorem Nb:Acj X (.type "tuple") (fun xs H Q=>∃ p ys,xs=[.ref p]/\((SqL X.K H p ys/\∀ l,H l=none->Q (.ref l) (upd H l (.tup ys)))\/(SqT X.K H p ys/\Q (.ref p) H))):=by
 intro pins s σ H xs us Q I r h
 obtain⟨p,ys,rfl,h⟩:=h
 obtain⟨u,rfl,rx⟩:=G5 r
 cases rx
 rcases h with ⟨hq,q⟩|⟨hq,q⟩
 ·obtain⟨its,r',pl,hz⟩:=I.list hq
  have hlen:=r'.length
  refine call_tuple_list pl.isList (fun h' kp=>?_) (by simp only[Azh]<;>lia)
  have I1:Inv X pins σ H { s with heap:=h' }:=I.kept (t':=s.toks) kp
  have I2:Inv X pins σ (upd H h'.objs.size (.tup ys)) { s with heap:=h'.push { cls:=.type "tuple",data:=.seq its.toArray } } :=
   I1.laid (t':=s.toks) (fun b o e=>Aze _ e) (Azn _) (show ObjOk X.prog X.w X.K _ _ _ (.tup ys) from ⟨hz,its,r',TupD.new _ _⟩)
  exact⟨.ref h'.objs.size,_,I2,rfl,q _ (I1.hok.fresh (Azn _))⟩
 ·obtain⟨its,r',pl,hz⟩:=I.tuple hq
  exact call_tuple_same pl ⟨.ref p,H,I,rfl,q⟩
def tyV (K:W.Frag) (T:String) (x:V) (H:Hp):Prop:=match x with
 |.str _=>T="str"
 |.int _=>T="int"
 |.ref p=>(T="list"/\∃ xs,SqL K H p xs)\/(T="tuple"/\∃ o,K.lookup p=some o/\o.cls=.type "tuple"/\o.dict=none) \/
   (T="dict"/\((∃ kvs,H p=some (.dK kvs))\/∃ kvs,H p=some (.dT kvs)))\/(T="set"/\∃ S n,H p=some (.set S n))
 |_=>False
theorem Ah7 {pins:List (Addr×Obj)}{σ:St}{H:Hp}{s:Shared}{T:String}{x:V}{v:Value} (I:Inv X pins σ H s) (r:RelV x v) (ty:tyV X.K T x H) :
  s.TypeIs v T/\∀ a,v=.ref a->∃ ob,s.heap.get? a=some ob/\ob.dict=none:=by
 cases x with
 |str z =>
  obtain⟨t,rfl⟩:=r
  cases (show T="str" from ty)
  exact⟨typeIs_str s z t,fun _ e=>nomatch e⟩
 |int i =>
  obtain⟨t,rfl⟩:=r
  cases (show T="int" from ty)
  exact⟨typeIs_int s i t,fun _ e=>nomatch e⟩
 |ref p =>
  cases r
  rcases ty with ⟨rfl,xs,hq⟩|⟨rfl,o,hk,hc,hd⟩|⟨rfl,hk⟩|⟨rfl,S,n,hk⟩
  ·obtain⟨its,_,pl,_⟩:=I.list hq
   refine⟨pl.isList.typeIs,fun a e=>?_⟩
   cases e
   obtain⟨o,n,e,c,hd,_⟩:=pl
   exact⟨o,e,hd⟩
  ·refine⟨⟨o,I.kIn p o hk,hc⟩,fun a e=>?_⟩
   cases e
   exact⟨o,I.kIn _ o hk,hd⟩
  ·have z:∃ o,s.heap.get? p=some o/\o.ExactDict:=by
    rcases hk with ⟨kvs,hk⟩|⟨kvs,hk⟩
    ·obtain⟨_,_,_,_,o,_,_,e,ex,_⟩:=I.hok p _ hk
     exact⟨o,e,ex⟩
    ·obtain⟨_,_,_,_,o,_,_,e,ex,_⟩:=I.hok p _ hk
     exact⟨o,e,ex⟩
   obtain⟨o,e,ex⟩:=z
   refine⟨⟨o,e,ex.1⟩,fun a e2=>?_⟩
   cases e2
   exact⟨o,e,ex.2.1⟩
  ·obtain⟨o,_,_,_,e,ex,_⟩:=I.hok p _ hk
   refine⟨⟨o,e,ex.1⟩,fun a e2=>?_⟩
   cases e2
   exact⟨o,e,ex.2.1⟩
 |_=>exact False.elim ty
noncomputable def tBM (K:W.Frag) (T:String) (r:V->List V->Hp->VK->Prop) (to:TE) (t:TA):TE:=fun σ H Q=>to σ H fun x H1=>tyV K T x H1/\t σ H1 fun xs H2=>r x xs H2 Q
variable {o e:Expr}{es:List Expr}{to:TE}{t:TA}{name:Str}{apos cpos:Pos}{T id:String}{r:V->List V->Hp->VK->Prop}
theorem Ar0 (pa:PlainAttrs T) (slot:Slot T name id) (hty:typeOf (.builtin id)=pure (.type "method_descriptor")) (hm:MtR X id r) (ho:PE X o to) (ha:PA X (e::es) t)
  (hbase:attributeBase o name X.env (eval o X.env)=eval o X.env:=by rfl)
  (hfew:((backTo cpos (starEach (e::es) X.env)).all (fun x=>!x.1)&&(backToKw cpos (keywordEach [] X.env)).all (fun x=>x.1.isSome)
   &&decide ((e::es).length+([]:List Keyword).length+(if ([]:List Keyword).isEmpty then 0 else 1) < 30))=true:=by rfl)
  (hline:(apos.endLine == cpos.line)=true:=by rfl) (hs:starEach (e::es) X.env=(false,eval e X.env)::starEach es X.env:=by rfl) (hplain:(backTo cpos (starEach es X.env)).any (·.1)=false:=by rfl) :
  PE X (.Call (.Attribute o name apos) (e::es) [] cpos) (tBM X.K T r to t):=by
 intro pins s σ H Q I h
 refine wpAny_Call_method_late hbase hfew hline rfl (thn (ho pins s σ H _ I h) fun v s1 ⟨x,H1,I1,r1,ty,q1⟩=>?_)
 obtain⟨h1,h2⟩:=Ah7 I1 r1 ty
 refine⟨T,id,pa,slot,hty,h1,h2,?_⟩
 have hA:=ha cpos pins s1 σ H1 _ I1 q1
 rw[hs] at hA ⊢
 refine Calls.callWith_builtin (by show (false||(backTo cpos (starEach es X.env)).any (·.1))=false;rw[hplain]<;>rfl) (Calls.evalArgs_plain ?_)
 exact thn hA fun us s2 ⟨vs,H2,I2,r2,q2⟩=>hm pins s2 σ H2 x vs v us Q I2 r1 r2 q2
end
def MtM (X:Cx) (id:String) (r:V->List V->Hp->VK->Prop):Prop :=
 ∀ (pins:List (Addr×Obj)) (s:Shared) (σ:St) (H:Hp) (x:V) (xs:List V) (v:Value) (us:List Value) (Q:VK),Inv X pins σ H s->RelV x v->Vals xs us->r x xs H Q ->
  wpAny (model X.prog X.w) X.A (call (.builtin id) (v::us)) (EP X pins σ Q) X.xe s
theorem Vals.one:∀ {x:V}{us:List Value},Vals [x] us->∃ u,us=[u]/\RelV x u
 |_,_,.cons r .nil=>⟨_,rfl,r⟩
theorem Vals.reverse {xs:List V}{us:List Value} (h:Vals xs us):Vals xs.reverse us.reverse:=by
 induction h with
 |nil=>exact .nil
 |cons r t ih=>rw[Bcd,Bcd];exact Vals.append ih (.cons r .nil)
section
variable {X:Cx}{pins:List (Addr×Obj)}{σ:St}{H:Hp}{s:Shared}{l b:Addr}{xs ys zs:List V}
theorem Inv.lset {its its':List Value}{n:Nat}{f:Array Value->Array Value}{t':Nat} (I:Inv X pins σ H s) (hH:H l=some (.lst xs))
  (e:s.heap.get? l=some { cls:=.type "list",data:=.seq its.toArray n }) (hf:f its.toArray=its'.toArray) (hv:Vals ys its') (hz:ys.length<=sizeLine) :
  Inv X pins σ (upd H l (.lst ys)) { s with heap:=s.heap.update l (Obj.mapSeq f),toks:=t' }:=by
 have q:=PySem.IsL.update e f
 rw[hf] at q
 refine I.write (x:=l) (e:=l) (by rw[hH];exact trivial) (.inl rfl) (fun b' u hb hu=>(Azu s.heap (Obj.mapSeq f) (Bak hb)).trans hu) ⟨_,q⟩ ?_
 exact⟨hz,its',_,hv,q⟩
theorem Inv.lnew {its:List Value}{t':Nat} (I:Inv X pins σ H s) (hv:Vals ys its) (hz:ys.length<=sizeLine) :
  Inv X pins σ (upd H s.heap.objs.size (.lst ys)) { s with heap:=s.heap.push { cls:=.type "list",data:=.seq its.toArray },toks:=t' } :=
 I.laid (fun _ _ q=>Aze _ q) (Azn _) ⟨hz,its,0,hv,Azq _ rfl⟩
theorem Inv.fresh (I:Inv X pins σ H s):H s.heap.objs.size=none:=I.hok.fresh (Azn _)
inductive LstM (h:Heap) (l:Addr) (xs:List V):Prop where
 |mk (z:xs.length<=sizeLine) (its:List Value) (n:Nat) (r:Vals xs its) (q:xs.length=its.length) (e:h.get? l=some { cls:=.type "list",data:=.seq its.toArray n })
theorem Inv.lstM (I:Inv X pins σ H s) (hH:H l=some (.lst xs)):LstM s.heap l xs:=by
 obtain⟨z,its,n,r,e⟩:=I.hok l _ hH
 exact⟨z,its,n,r,r.length,e⟩
theorem Ad7 {n:Nat} (h:n<=sizeLine):Builtin.List.listTooLong n=false:=by
 unfold Builtin.List.listTooLong
 exact Az6 (by lia)
end
section
variable {X:Cx}
def Abm:V->List V->Hp->VK->Prop:=fun x vs H Q=>∃ l xs y,x=.ref l/\vs=[y]/\H l=some (.lst xs)/\xs.length < sizeLine/\Q .non (upd H l (.lst (xs++[y])))
theorem Po:MtM X "list.append" Abm:=by
 intro pins s σ H x vs v us Q I rx rv h
 obtain⟨l,xs,y,rfl,rfl,hH,hz,q⟩:=h
 cases rx
 obtain⟨u,rfl,ru⟩:=rv.one
 obtain⟨z,its,n,r,hl,e⟩:=I.lstM hH
 refine call_meets F.slot_list_append ⟨_,e,rfl⟩ F.entry_list_append (F.args_list_append_2 _ _) (PySem.list_append l its.toArray n u (by rw[Azh];lia)) ⟨e,?_⟩
 refine⟨.non,_,I.lset (its':=its++[u]) hH e (by simp) (r.append (.cons ru .nil)) ?_,rfl,q⟩
 rw[Azx,Bcl]
 lia
end
section
variable {prog:Program}{w:World}{A:Around}{E:Value->Shared->Prop}{s:Shared}
set_option maxRecDepth 100000 in
end
section
variable {X:Cx}
end
end L2
namespace Att
open PySem PySem.W PySem.Calls PyProof.Rows
theorem Jr {P:Params}{h:Heap}:∀ (ns:List Int) (vs:List Value),WellAll P h vs (ns.map WData.int)->IntsAre vs ns:=by
 intro ns
 induction ns with
 |nil =>
  intro vs w
  rw[Bbb] at w
  cases w
  exact .nil
 |cons n ns ih =>
  intro vs w
  rw[Azm] at w
  cases w with
  |cons a b =>
   cases a
   exact .cons _ _ (ih _ b)
theorem Abv {l:OpenLaw}{n:Nat} (hn:l.most=some n) {P:Params}{h:Heap}{args:List WData}{vals:List Value}
  (hpre:l.row.toRowW.claim.pre args=true) (hwl:WellAll P h vals args) :
  ∃ a vs ns,vals=[Value.ref a]/\args=[WData.list (ns.map WData.int)]/\h.get? a=some { cls:=.type "list",data:=.seq vs.toArray }/\IntsAre vs ns/\ns.length<=n:=by
 have hsh:WShape.hasAll [] args [.list .int]=true:=(pre_splitW hpre).1
 have hc:l.pre.holds [] { args:=args }=true:=(pre_splitW hpre).2
 obtain⟨d,r,rfl,h1,h2⟩:=hasAllW_cons hsh
 obtain rfl:=hasAllW_nil h2
 obtain⟨xs,rfl,h3⟩:=hasW_list h1
 obtain⟨ns,rfl⟩:=items_int h3
 have hlen:ns.length<=n:=by
  unfold OpenLaw.pre at hc
  have h4:(WTm.not (.lt (.lit (.int (n:Int))) (.len (.arg 0)))).holds [] { args:=[.list (ns.map .int)] }=true:=by
   have h4:=(holds_andW hc).1
   rw[hn] at h4
   exact h4
  have h5:=condW_of h4 (w_not (w_lt w_lit (w_len_list (w_arg rfl))))
  rw[Azr] at h5
  refine Nat.le_of_not_lt fun q=>?_
  have q':(n:Int) < ((ns.length:Nat):Int):=by lia
  first
   |(rw[Bbd q'] at h5;exact absurd h5 (by decide))
   |(simp at h5;lia)
 cases hwl with
 |cons w1 w2 =>
  cases w2
  cases w1 with
  |list ho hall=>exact⟨_,_,ns,rfl,rfl,ho,Jr ns _ hall,hlen⟩
theorem Aay (l:OpenLaw) (args:List WData):l.row.toRowW.claim.post args (.bool true) args=true :=
 postW_of (r:=l.row.toRowW) (X:=(true == true))
  (show WShape.has [] (.bool true) .bool=true by first|rfl|decide|simp[WShape.has,WShape.arms,WShape.armsAll])
  (show (WTm.eq .res (.lit (.bool true))).value [] { args:=args,res:=some (.bool true),after:=args }=some (.bool (true == true)) from w_eq_bool (w_res rfl) w_lit) rfl
theorem attach_call {l:OpenLaw}{n:Nat}{q:Program}{loose:List Str}{XP:(Str->Option Value)->Heap->Prop}{YP:World->Heap->Prop}{d:DefRec}
  (hn:l.most=some n) (hdf:d.params.defaults=[])
  (call:∀ (w:World) (s₀ s₁:Shared) (mg mb:Str->Option Value) (fa:Addr) (o:Obj) (pm cd doc:Value) (a:Addr) (vs:List Value) (ns:List Int),
   Ground q loose [] XP w s₀ mg mb s₁.heap->YP w s₁.heap ->
   s₁.heap.get? fa=some o->o.data=.func (docDef d.name d.params d.body d.scope pm cd doc)->s₁.heap.CodeRec cd d.name->mg d.name=some (.ref fa) ->
   s₁.heap.get? a=some { cls:=.type "list",data:=.seq vs.toArray }->IntsAre vs ns->ns.length<=n->s₁.gens=#[] ->
   codeAny (model l.prog w) callerA (.call (.ref fa) ⟨[.ref a],[]⟩) (fun r s'=>r=.ok (.ret (.bool true))/\OldK s₁.heap s'.heap/\s'.os=s₁.os/\AllBare s'.gens) s₁) :
  WalkO q loose XP YP l.row.toRowW d [] (fun f vs=>PySem.call f vs):=by
 intro w s₀ s₁ mg mb G Y fa o pm cd doc dV kV ho hd hcd hD hmg hg args vals as hpre hlay hrd hwl hlo
 obtain rfl:dV=.none:=Dflts.none hD hdf
 obtain rfl:kV=.none:=Dflts.noKw hD
 obtain⟨a,vs,ns,rfl,rfl,hobj,hints,hlen⟩:=Abv hn hpre hwl
 refine enter_call (codeAny_mono (call w s₀ s₁ mg mb fa o pm cd doc a vs ns G Y ho (fd_plain hd) hcd hmg hobj hints hlen hg) fun r s' hq=>?_)
 obtain⟨rfl,h2,h3,h4⟩:=hq
 exact⟨.inl ⟨.bool true,.bool true,[],rfl,fun _=>rfl,.bool true,Aay l _,fun _=>⟨List.Pairwise.nil,fun _ hm=>(nomatch hm)⟩⟩,h2,h3,h4⟩
section
variable {prog:Program}{w:World}{A:Around}{E:Value->Shared->Prop}{s:Shared}{K:Frag}
end
end Att
namespace L2
open PySem PySem.Spec PyProof.Rows
theorem Rh:∀ {vs:List Value}{ns:List Int},IntsAre vs ns->Vals (ns.map V.int) vs
 |_,_,.nil=>.nil
 |_,_,.cons n t h=>.cons ⟨t,rfl⟩ (Rh h)
def Axi (H:Hp):Prop:=∀ b,H b=none\/∃ o xs,H b=some (.frz o (.lst xs))
noncomputable def Dy (s:Stmt):Arguments:=match s with
 |.FunctionDef _ a _ _ _ _ _ _ _ _=>a
 |_=>{ posonlyargs:=[],args:=[],vararg:=none,kwonlyargs:=[],kw_defaults:=[],kwarg:=none,defaults:=[] }
noncomputable def Bw (s:Stmt):List Stmt:=match s with
 |.FunctionDef _ _ b _ _ _ _ _ _ _=>b
 |_=>[]
noncomputable def Aq (s:Stmt):Scope:=match s with
 |.FunctionDef _ _ _ _ _ _ sc _ _ _=>sc
 |_=>{ kind:=.function,names:=[],isGenerator:=false,isCoroutine:=false }
abbrev CX0:CXT:=fun _ _ _ _ _ _=>False
abbrev E0:XK:=fun _ _ _=>False
theorem Aar {X:Cx}:Oh CX0 X E0:=fun _ _ _ _ _ _ _ h=>h.elim
structure Fun (K:W.Frag) (x qual:Str) (st:Stmt) (f:Addr) (fd:FuncData):Prop where
 ex:∃ (oc:Value) (od:Option Addr) (kV doc pm:Value) (an:Option Addr) (cdv ct:Value) (osl:Array (Option Value)),
  fd=W.fnOf x qual (Dy st) (Bw st) (Aq st) .none kV doc pm an cdv ct/\K.lookup f=some ⟨oc,od,.func fd,osl⟩/\W.codeIn K cdv qual=true
 kp:W.keepIn K (.ref f)=true
section
variable {P:Program}{w:World}{K:W.Frag}{mg:Str->Option Value}{base:Heap}
theorem Fun.ok {x qual:Str}{st:Stmt}{f:Addr}{fd:FuncData}{N ps:List Str}{k:Nat}{sp:Sp} (F:Fun K x qual st f fd) (S:FnScope N ps (Aq st)) (len:∀ vs H Q E,sp vs H Q E->vs.length=ps.length)
  (hbody:∀ (cdv:Value) (A:Around) (outer:List Env) (s:Shared) (H:Hp) (vs:List V) (Q:VK) (E:XK),Room k (A.deeper (envOfC qual (Aq st) s.heap.objs.size f cdv))->sp vs H Q E ->
   ∃ t,PSs (Nf CX0 P w K mg base N qual (Aq st) f cdv A outer s H E).nox (Bw st) t/\t { nx:=fun _ H'=>Q .non H',rt:=Q } (Eo N vs) H):FnOk P w K mg base CX0 (k+1) f fd ps sp:=by
 obtain⟨oc,od,kV,doc,pm,an,cdv,ct,osl,rfl,lk,hcd⟩:=F.ex
 refine Ajl lk hcd S len fun A outer s H vs Q E hr hsp=>?_
 obtain⟨t,h,q⟩:=hbody cdv A outer s H vs Q E hr hsp
 exact⟨t,h.nox,q⟩
theorem Fun.binds {x qual:Str}{st:Stmt}{f:Addr}{fd:FuncData}{ps:List Str} (F:Fun K x qual st f fd)
  (h:∀ (kV doc pm:Value) (an:Option Addr) (cdv ct:Value) (us:List Value),us.length=ps.length->bindArgs (W.fnOf x qual (Dy st) (Bw st) (Aq st) .none kV doc pm an cdv ct) ⟨us,[]⟩=pure (ps.zip us)):Binds K fd ps []:=by
 obtain⟨oc,od,kV,doc,pm,an,cdv,ct,osl,rfl,lk,hcd⟩:=F.ex
 exact .all (h kV doc pm an cdv ct)
theorem Uj {x qual:Str}{st:Stmt}{f:Addr}{oc:Value}{od an:Option Addr}{osl:Array (Option Value)}{kV doc pm cdv ct:Value} (l:K.lookup f=some ⟨oc,od,.func (W.fnOf x qual (Dy st) (Bw st) (Aq st) .none kV doc pm an cdv ct),osl⟩)
  (c:W.codeIn K cdv qual=true) (k:W.keepIn K (.ref f)=true):Fun K x qual st f (W.fnOf x qual (Dy st) (Bw st) (Aq st) .none kV doc pm an cdv ct):=⟨⟨oc,od,kV,doc,pm,an,cdv,ct,osl,rfl,l,c⟩,k⟩
end
section
variable {X:Cx}
end
theorem Atp {A B:Prop} (h:B):if false=true then A else B:=by
 rw[Azs Az7]
 exact h
theorem Atq {A B:Prop} (h:A):if true=true then A else B:=by
 rw[Azp rfl]
 exact h
def Same (H H':Hp):Prop:=∀ b o,H b=some o->H' b=some o
theorem Same.refl (H:Hp):Same H H:=fun _ _ h=>h
theorem Same.trans {H H1 H2:Hp} (a:Same H H1) (b:Same H1 H2):Same H H2:=fun c o h=>b c o (a c o h)
theorem Same.free {H H':Hp} (e:Same H H') {l:Addr} (h:H' l=Option.none):H l=Option.none:=by
 cases q:H l with
 |none=>rfl
 |some o =>
  rw[e l o q] at h
  cases h
theorem Same.seq {K:W.Frag}{H H':Hp}{a:Addr}{xs:List V} (e:Same H H') (h:SqL K H a xs):SqL K H' a xs:=by
 rcases h with (h|⟨o,h⟩)|h
 ·exact .inl (.inl (e _ _ h))
 ·exact .inl (.inr ⟨o,e _ _ h⟩)
 ·exact .inr h
end L2
end S_LayL
section S_ML1
namespace L2
namespace ML
open PySem PySem.Spec PyProof.Rows
theorem Ad {z:α}{P:Prop} (e:none=some z):P:=nomatch e
theorem Cv {P:Prop} (e:false=true):P:=nomatch e
structure Lam where
 qual:Str
 args:Arguments
 body:Expr
 scope:Scope
abbrev Fz:=List Str->List PyData->List Int->W.Frag->Hp->Addr->HO->Prop
inductive D where
 |non|bl (b:Bool)|int (i:Int)|str (x:Str)|tup (ds:List D)|lst (ds:List D)|ref (n:Nat)|kl (ds:List D)|dic (ks vs:List D)|fn (i:Nat) (l:Lam)|dks (ks:List Str) (vs:List D)|fz (φ:Fz) (ss:List Str) (ps:List PyData) (is:List Int)
inductive MObj where
 |lst (ds:List D)
 |dct (ks vs:List D)
 |dcs (ks:List Str) (vs:List D)
abbrev MH:=List MObj
abbrev Bc:=List (Option D)
mutual
def pyD:D->PyData
 |.non=>.none|.bl b=>.bool b|.int i=>.int i|.str x=>.str x
 |.tup ds=>.tuple (J6 ds)|.lst ds=>.list (J6 ds)|.kl ds=>.list (J6 ds)|.ref _=>.none|.dic _ _=>.none|.fn _ _=>.none|.dks _ _=>.none|.fz _ _ _ _=>.none
def J6:List D->List PyData
 |[]=>[]
 |d::ds=>pyD d::J6 ds
end
def KL (K:W.Frag) (H:Hp) (a:Addr) (xs:List V):Prop:=(∃ o,H a=some (.frz o (.lst xs))) \/
 ∃ (o:Obj) (its:Array Value) (n:Nat),K.lookup a=some o/\o.cls=.type "list"/\o.dict=none/\o.data=.seq its n/\its.size<=sizeLine/\Vals xs its.toList
theorem KL.sq {K:W.Frag}{H:Hp}{a:Addr}{xs:List V} (h:KL K H a xs):SqL K H a xs:=h.elim (fun z=>.inl (.inr z)) .inr
noncomputable def Lk:HO->Prop
 |.lst _=>True
 |.dT _=>True
 |.dK _=>True
 |_=>False
noncomputable def Kpt:HO->Prop
 |.tup _=>True
 |.frz _ _=>True
 |_=>False
def At3 (o:Obj) (l:Lam) (c:Addr):Prop:=∃ doc pm ctv:Value,o=W.kdv_obj "<lambda>" l.qual l.args (.expr l.body) l.scope [] .none doc pm c ctv
def FnAt (H:Hp) (a:Addr) (l:Lam):Prop:=∃ o u c oc u',H a=some (.frz o u)/\At3 o l c/\H c=some (.frz oc u')/\X7 oc l.qual
def FnK (K:W.Frag) (H:Hp) (a:Addr) (i:Nat) (l:Lam):Prop:=(i < 1000/\FnAt H a l)\/(1000<=i/\W.nsIn K mainGlobals l.qual=some (some (.ref a)))
def FzM (φ:Fz):Prop:=∀ ss ps is K H H' a o,(∀ a o,Kpt o->H a=some o->H' a=some o)->φ ss ps is K H a o->φ ss ps is K H' a o
mutual
inductive Rep (K:W.Frag) (H:Hp) (μ:List Addr) (B:Addr->Prop):D->V->Prop where
 |non:Rep K H μ B .non .non
 |bl (b:Bool):Rep K H μ B (.bl b) (.bl b)
 |int (i:Int):Rep K H μ B (.int i) (.int i)
 |str (x:Str):PyData.strOk x=true->Rep K H μ B (.str x) (.str x)
 |tup {ds:List D}{a:Addr}{xs:List V}:SqT K H a xs->Reps K H μ B ds xs->Rep K H μ B (.tup ds) (.ref a)
 |lst {ds:List D}{a:Addr}{xs:List V}:Rd H a (.lst xs)->¬ B a->Reps K H μ B ds xs->Rep K H μ B (.lst ds) (.ref a)
 |ref {n:Nat}{a:Addr}:μ[n]?=some a->Rep K H μ B (.ref n) (.ref a)
 |kl {ds:List D}{a:Addr}{xs:List V}:KL K H a xs->Reps K H μ B ds xs->Rep K H μ B (.kl ds) (.ref a)
 |dic {ks vs:List D}{a:Addr}{kvs:List (PyData×V)}:Rd H a (.dT kvs)->¬ B a->J6 ks=kvs.map (·.1)->Reps K H μ B vs (kvs.map (·.2))->Rep K H μ B (.dic ks vs) (.ref a)
 |fn {i:Nat}{l:Lam}{a:Addr}:FnK K H a i l->Rep K H μ B (.fn i l) (.ref a)
 |dks {ks:List Str}{vs:List D}{a:Addr}{kvs:List (Key×V)}:Rd H a (.dK kvs)->¬ B a->ks.map Sum.inr=kvs.map (·.1)->Reps K H μ B vs (kvs.map (·.2))->Rep K H μ B (.dks ks vs) (.ref a)
 |fz {φ:Fz}{ss:List Str}{ps:List PyData}{is:List Int}{a:Addr}{o:Obj}{u:HO}:H a=some (.frz o u)->φ ss ps is K H a (.frz o u)->FzM φ->Rep K H μ B (.fz φ ss ps is) (.ref a)
inductive Reps (K:W.Frag) (H:Hp) (μ:List Addr) (B:Addr->Prop):List D->List V->Prop where
 |nil:Reps K H μ B [] []
 |cons {d:D}{v:V}{ds:List D}{vs:List V}:Rep K H μ B d v->Reps K H μ B ds vs->Reps K H μ B (d::ds) (v::vs)
end
section
variable {K:W.Frag}{H H':Hp}{μ μ':List Addr}{B B':Addr->Prop}
theorem SqT.up (hk:∀ a o,Kpt o->H a=some o->H' a=some o) (h:SqT K H a xs):SqT K H' a xs:=by
 rcases h with (h|⟨o,h⟩)|h
 ·exact .inl (.inl (hk _ _ trivial h))
 ·exact .inl (.inr ⟨o,hk _ _ trivial h⟩)
 ·exact .inr h
theorem FnAt.up (hk:∀ a o,Kpt o->H a=some o->H' a=some o) {l:Lam} (h:FnAt H a l):FnAt H' a l :=
 let ⟨o,u,c,oc,u',h1,h2,h3,h4⟩:=h;⟨o,u,c,oc,u',hk _ _ trivial h1,h2,hk _ _ trivial h3,h4⟩
theorem FnK.up (hk:∀ a o,Kpt o->H a=some o->H' a=some o) {l:Lam} (h:FnK K H a i l):FnK K H' a i l:=h.imp (fun⟨h1,h2⟩=>⟨h1,h2.up hk⟩) id
theorem KL.up (hk:∀ a o,Kpt o->H a=some o->H' a=some o) (h:KL K H a xs):KL K H' a xs:=by
 rcases h with ⟨o,h⟩|h
 ·exact .inl ⟨o,hk _ _ trivial h⟩
 ·exact .inr h
mutual
theorem Rep.up (hk:∀ a o,Kpt o->H a=some o->H' a=some o) (hl:∀ a u,Lk u->Rd H a u->¬ B a->Rd H' a u/\¬ B' a) (hm:∀ (n:Nat) (a:Addr),μ[n]?=some a->μ'[n]?=some a)
  {d:D}{v:V} (r:Rep K H μ B d v):Rep K H' μ' B' d v:=by
 cases r with
 |non=>exact .non
 |bl b=>exact .bl b
 |int b=>exact .int b
 |str b h=>exact .str b h
 |tup h r=>exact .tup (SqT.up hk h) (Reps.up hk hl hm r)
 |lst h b r=>have z:=hl _ (.lst _) trivial h b;exact .lst z.1 z.2 (Reps.up hk hl hm r)
 |ref h=>exact .ref (hm _ _ h)
 |kl h r=>exact .kl (KL.up hk h) (Reps.up hk hl hm r)
 |dic h b e r=>have z:=hl _ (.dT _) trivial h b;exact .dic z.1 z.2 e (Reps.up hk hl hm r)
 |fn h=>exact .fn (h.up hk)
 |dks h b e r=>have z:=hl _ (.dK _) trivial h b;exact .dks z.1 z.2 e (Reps.up hk hl hm r)
 |fz h q f=>exact .fz (hk _ _ trivial h) (f _ _ _ _ _ _ _ _ hk q) f
theorem Reps.up (hk:∀ a o,Kpt o->H a=some o->H' a=some o) (hl:∀ a u,Lk u->Rd H a u->¬ B a->Rd H' a u/\¬ B' a) (hm:∀ (n:Nat) (a:Addr),μ[n]?=some a->μ'[n]?=some a)
  {ds:List D}{vs:List V} (r:Reps K H μ B ds vs):Reps K H' μ' B' ds vs:=by
 cases r with
 |nil=>exact .nil
 |cons h r=>exact .cons (Rep.up hk hl hm h) (Reps.up hk hl hm r)
end
theorem Same.rd (e:Same H H') (h:Rd H a u):Rd H' a u:=by
 rcases h with h|⟨o,h⟩
 ·exact .inl (e _ _ h)
 ·exact .inr ⟨o,e _ _ h⟩
theorem Rep.same (e:Same H H') {d:D}{v:V} (h:Rep K H μ B d v):Rep K H' μ B d v:=h.up (fun _ _ _ h=>e _ _ h) (fun _ _ _ h b=>⟨Same.rd e h,b⟩) fun _ _ h=>h
theorem Reps.same (e:Same H H') {d:List D}{v:List V} (h:Reps K H μ B d v):Reps K H' μ B d v:=h.up (fun _ _ _ h=>e _ _ h) (fun _ _ _ h b=>⟨Same.rd e h,b⟩) fun _ _ h=>h
theorem Reps.length:∀ {ds:List D}{vs:List V},Reps K H μ B ds vs->ds.length=vs.length
 |_,_,.nil=>rfl
 |_,_,.cons _ r=>by simp[Reps.length r]
theorem Reps.get:∀ {ds:List D}{vs:List V}{i:Nat}{d:D},Reps K H μ B ds vs->ds[i]?=some d->∃ v,vs[i]?=some v/\Rep K H μ B d v
 |_,_,_,_,.nil,e=>by simp at e
 |_,_,0,_,.cons h _,e=>by simp at e;subst e;exact⟨_,rfl,h⟩
 |_,_,i+1,d,.cons _ r,e=>by
  obtain⟨v,h1,h2⟩:=Reps.get (i:=i) (d:=d) r (by simpa using e)
  exact⟨v,by simpa using h1,h2⟩
theorem Reps.append:∀ {ds es:List D}{vs ws:List V},Reps K H μ B ds vs->Reps K H μ B es ws->Reps K H μ B (ds++es) (vs++ws)
 |_,_,_,_,.nil,s=>s
 |_,_,_,_,.cons h r,s=>.cons h (Reps.append r s)
theorem Reps.take:∀ {ds:List D}{vs:List V} (n:Nat),Reps K H μ B ds vs->Reps K H μ B (ds.take n) (vs.take n)
 |_,_,0,_=>.nil
 |_,_,_+1,.nil=>.nil
 |_,_,n+1,.cons h r=>.cons h (Reps.take n r)
theorem Reps.drop:∀ {ds:List D}{vs:List V} (n:Nat),Reps K H μ B ds vs->Reps K H μ B (ds.drop n) (vs.drop n)
 |_,_,0,h=>h
 |_,_,_+1,.nil=>.nil
 |_,_,n+1,.cons h r=>Reps.drop n r
theorem Reps.set {d:D} (h:Rep K H μ B d v):∀ {ds:List D}{vs:List V} (i:Nat),Reps K H μ B ds vs->Reps K H μ B (ds.set i d) (vs.set i v)
 |_,_,_,.nil=>.nil
 |_,_,0,.cons _ r=>.cons h r
 |_,_,i+1,.cons q r=>.cons q (Reps.set h i r)
theorem Reps.reverse:∀ {ds:List D}{vs:List V},Reps K H μ B ds vs->Reps K H μ B ds.reverse vs.reverse
 |_,_,.nil=>.nil
 |_,_,.cons h r=>by
  rw[Bcd,Bcd]
  exact (Reps.reverse r).append (.cons h .nil)
end
noncomputable def OR (K:W.Frag) (H:Hp) (μ:List Addr) (a:Addr):MObj->Prop
 |.lst ds=>∃ xs,H a=some (.lst xs)/\Reps K H μ (·∈μ) ds xs
 |.dct ks vs=>∃ kvs,H a=some (.dT kvs)/\J6 ks=kvs.map (·.1)/\Reps K H μ (·∈μ) vs (kvs.map (·.2))
 |.dcs ks vs=>∃ kvs,H a=some (.dK kvs)/\ks.map Sum.inr=kvs.map (·.1)/\Reps K H μ (·∈μ) vs (kvs.map (·.2))
structure Sim (K:W.Frag) (H:Hp) (μ:List Addr) (m:MH):Prop where
 nd:μ.Nodup
 len:μ.length=m.length
 obj:∀ (n:Nat) (a:Addr) (o:MObj),μ[n]?=some a->m[n]?=some o->OR K H μ a o
structure Step (H:Hp) (μ:List Addr) (H':Hp) (μ':List Addr):Prop where
 pre:∃ l,μ'=μ++l/\∀ b∈l,H b=none
 keep:∀ b o,H b=some o->b∉μ->H' b=some o
structure EnvRep (K:W.Frag) (H:Hp) (μ:List Addr) (σ:St) (env:Bc):Prop where
 len:σ.length=env.length
 get:∀ (i:Nat) (d:D),env[i]?=some (some d)->∃ v,σ[i]?=some (some v)/\Rep K H μ (·∈μ) d v
section
variable {K:W.Frag}{H H' H'':Hp}{μ μ' μ'':List Addr}{m m':MH}
theorem Sim.at (S:Sim K H μ m) (h:a∈μ):∃ (n:Nat) (o:MObj),μ[n]?=some a/\m[n]?=some o/\OR K H μ a o:=by
 obtain⟨n,hn⟩:=Bbp h
 have hl:n < m.length:=by rw[<- S.len];exact (List.getElem?_eq_some_iff.mp hn).1
 exact⟨n,m[n],hn,by simp[hl],S.obj n a _ hn (by simp[hl])⟩
theorem Sim.trk (S:Sim K H μ m) (h:a∈μ):∃ o,H a=some o/\Lk o:=by
 obtain⟨n,o,_,_,q⟩:=S.at h
 cases o with
 |lst ds=>obtain⟨xs,e,_⟩:=q;exact⟨_,e,trivial⟩
 |dct ks vs=>obtain⟨kvs,e,_⟩:=q;exact⟨_,e,trivial⟩
 |dcs ks vs=>obtain⟨kvs,e,_⟩:=q;exact⟨_,e,trivial⟩
theorem Sim.nkpt (S:Sim K H μ m) (k:Kpt o) (h:H a=some o):a∉μ:=fun q=>by
 obtain⟨xs,e,l⟩:=S.trk q
 rw[e] at h
 cases h
 cases o<;>first|exact l|exact k
theorem Sim.nnone (S:Sim K H μ m) (h:H a=none):a∉μ:=fun q=>by
 obtain⟨xs,e,l⟩:=S.trk q
 rw[e] at h;cases h
theorem Step.refl:Step H μ H μ:=⟨⟨[],by simp,by simp⟩,fun _ _ h _=>h⟩
theorem Step.trans (a:Step H μ H' μ') (b:Step H' μ' H'' μ'') (hm:∀ c,H' c=none->H c=none):Step H μ H'' μ'':=by
 obtain⟨l,rfl,h1⟩:=a.pre
 obtain⟨l',rfl,h2⟩:=b.pre
 refine⟨⟨l++l',by simp,fun c hc=>?_⟩,fun c o e n=>?_⟩
 ·rcases List.mem_append.mp hc with z|z
  ·exact h1 c z
  ·exact hm c (h2 c z)
 ·refine b.keep c o (a.keep c o e n) fun z=>?_
  rcases List.mem_append.mp z with z|z
  ·exact n z
  ·rw[h1 c z] at e;cases e
theorem Step.none (S:Sim K H μ m) (S':Sim K H' μ' m') (a:Step H μ H' μ'):∀ c,H' c=none->H c=none:=fun c h=>by
 cases e:H c with
 |none=>rfl
 |some o =>
  by_cases q:c∈μ
  ·obtain⟨l,rfl,_⟩:=a.pre
   exact absurd (Azw _ q) (S'.nnone h)
  ·rw[a.keep c o e q] at h;cases h
theorem Step.of_same (e:Same H H'):Step H μ H' μ:=⟨⟨[],by simp,by simp⟩,fun b o h _=>e b o h⟩
theorem Step.rd (s:Step H μ H' μ') (h:Rd H a u) (n:a∉μ):Rd H' a u:=by
 rcases h with h|⟨o,h⟩
 ·exact .inl (s.keep _ _ h n)
 ·exact .inr ⟨o,s.keep _ _ h n⟩
theorem Step.nin (s:Step H μ H' μ') (h:Rd H a u) (n:a∉μ):a∉μ':=by
 obtain⟨l,rfl,hn⟩:=s.pre
 intro z
 rcases List.mem_append.mp z with z|z
 ·exact n z
 ·have:=hn a z
  rcases h with h|⟨o,h⟩<;>rw[this] at h<;>cases h
theorem Step.ix (s:Step H μ H' μ') {n:Nat}{a:Addr} (h:μ[n]?=some a):μ'[n]?=some a:=by
 obtain⟨l,rfl,_⟩:=s.pre
 rw[Azz (List.getElem?_eq_some_iff.mp h).1]
 exact h
theorem Rep.step (S:Sim K H μ m) (s:Step H μ H' μ') {d:D}{v:V} (h:Rep K H μ (·∈μ) d v):Rep K H' μ' (·∈μ') d v :=
 h.up (fun a o k q=>s.keep a o q (S.nkpt k q)) (fun _ _ _ q b=>⟨s.rd q b,s.nin q b⟩) fun _ _=>s.ix
theorem Reps.step (S:Sim K H μ m) (s:Step H μ H' μ') {d:List D}{v:List V} (h:Reps K H μ (·∈μ) d v):Reps K H' μ' (·∈μ') d v :=
 h.up (fun a o k q=>s.keep a o q (S.nkpt k q)) (fun _ _ _ q b=>⟨s.rd q b,s.nin q b⟩) fun _ _=>s.ix
theorem EnvRep.step (S:Sim K H μ m) (s:Step H μ H' μ') (h:EnvRep K H μ σ env):EnvRep K H' μ' σ env :=
 ⟨h.len,fun i d e=>let ⟨v,h1,h2⟩:=h.get i d e;⟨v,h1,h2.step S s⟩⟩
theorem Sim.same (S:Sim K H μ m) (e:Same H H'):Sim K H' μ m:=⟨S.nd,S.len,fun n a o h1 h2=>by
 have q:=S.obj n a o h1 h2
 cases o with
 |lst ds=>obtain⟨xs,q1,q2⟩:=q;exact⟨xs,e _ _ q1,q2.same e⟩
 |dcs ks vs=>obtain⟨xs,q1,q2,q3⟩:=q;exact⟨xs,e _ _ q1,q2,q3.same e⟩
 |dct ks vs=>obtain⟨xs,q1,q2,q3⟩:=q;exact⟨xs,e _ _ q1,q2,q3.same e⟩⟩
theorem EnvRep.same (e:Same H H') {σ:St}{env:Bc} (h:EnvRep K H μ σ env):EnvRep K H' μ σ env :=
 ⟨h.len,fun i d q=>let ⟨v,h1,h2⟩:=h.get i d q;⟨v,h1,h2.same e⟩⟩
theorem EnvRep.set (h:EnvRep K H μ σ env) (i:Nat) {d:D} (r:Rep K H μ (·∈μ) d v):EnvRep K H μ (σ.set i (some v)) (env.set i (some d)):=by
 refine⟨by simpa using h.len,fun j d' e=>?_⟩
 by_cases q:j=i
 ·subst q
  have hj:j < env.length:=by
   have:=(List.getElem?_eq_some_iff.mp e).1
   simpa using this
  rw[Bbm hj] at e
  cases e
  exact⟨v,by rw[Bbm (by rw[h.len];exact hj)],r⟩
 ·rw[Bb2 (Bak q)] at e ⊢
  exact h.get j d' e
end
abbrev FE:=Bc->MH->Option D
abbrev FL:=Bc->MH->Option (List D)
abbrev FB:=Bc->MH->Option Bool
inductive tE (K:W.Frag) (f:FE) (σ:St) (H:Hp) (Q:VK):Prop
 |mk (env:Bc) (μ:List Addr) (m:MH) (d:D) (S:Sim K H μ m) (E:EnvRep K H μ σ env) (h:f env m=some d) (q:∀ v H',Same H H'->Rep K H' μ (·∈μ) d v->Q v H')
def nw (μ:List Addr) (a:Addr):Addr->Prop:=fun b=>b∈μ\/b=a
inductive tF (K:W.Frag) (f:FL) (σ:St) (H:Hp) (Q:VK):Prop
 |mk (env:Bc) (μ:List Addr) (m:MH) (ds:List D) (S:Sim K H μ m) (E:EnvRep K H μ σ env) (h:f env m=some ds) (q:∀ a xs H',Same H H'->H a=none->H' a=some (.lst xs)->Reps K H' μ (nw μ a) ds xs->Q (.ref a) H')
inductive tB' (K:W.Frag) (f:FB) (σ:St) (H:Hp) (Q:Bool->Hp->Prop):Prop
 |mk (env:Bc) (μ:List Addr) (m:MH) (b:Bool) (S:Sim K H μ m) (E:EnvRep K H μ σ env) (h:f env m=some b) (q:∀ H',Same H H'->Q b H')
inductive tL (K:W.Frag) (f:FL) (σ:St) (H:Hp) (Q:List V->Hp->Prop):Prop
 |mk (env:Bc) (μ:List Addr) (m:MH) (ds:List D) (S:Sim K H μ m) (E:EnvRep K H μ σ env) (h:f env m=some ds) (q:∀ vs H',Same H H'->Reps K H' μ (·∈μ) ds vs->Q vs H')
abbrev PD (X:Cx) (e:Expr) (f:FE):Prop:=PE X e (tE X.K f)
abbrev PF (X:Cx) (e:Expr) (f:FL):Prop:=PE X e (tF X.K f)
abbrev PB (X:Cx) (e:Expr) (f:FB):Prop:=PT X e (tB' X.K f)
abbrev PL (X:Cx) (es:List Expr) (f:FL):Prop:=PA X es (tL X.K f)
theorem Reps.fresh {K:W.Frag}{H:Hp}{μ:List Addr}{p:Addr}{o:HO}{ds:List D}{vs:List V} (r:Reps K H μ (·∈μ) ds vs) (hp:H p=none):Reps K (upd H p o) μ (nw μ p) ds vs:=by
 have s:Same H (upd H p o):=fun b u e=>by rw[A0 (As e hp)];exact e
 refine r.up (fun _ _ _ h=>s _ _ h) (fun a u _ h b=>⟨Same.rd s h,fun z=>?_⟩) fun _ _ h=>h
 rcases z with z|z
 ·exact b z
 ·subst z
  rcases h with h|⟨o,h⟩
  ·exact nomatch (hp.symm.trans h)
  ·exact nomatch (hp.symm.trans h)
theorem Reps.unw {K:W.Frag}{H:Hp}{μ:List Addr}{p:Addr}{ds:List D}{vs:List V} (r:Reps K H μ (nw μ p) ds vs):Reps K H μ (·∈μ) ds vs :=
 r.up (fun _ _ _ h=>h) (fun _ _ _ h b=>⟨h,fun z=>b (.inl z)⟩) fun _ _ h=>h
theorem PE.imp {t t':TE} (h:PE X e t) (i:∀ σ H Q,t' σ H Q->t σ H Q):PE X e t':=fun pins s σ H Q I q=>h pins s σ H Q I (i σ H Q q)
theorem PT.imp {t t':TT} (h:PT X e t) (i:∀ σ H Q,t' σ H Q->t σ H Q):PT X e t':=fun pins s σ H Q I q=>h pins s σ H Q I (i σ H Q q)
theorem PA.imp {t t':TA} (h:PA X e t) (i:∀ σ H Q,t' σ H Q->t σ H Q):PA X e t':=fun pos pins s σ H Q I q=>h pos pins s σ H Q I (i σ H Q q)
inductive BS {α β:Type} (o:Option α) (f:α->Option β) (b:β):Prop where
 |mk (a:α) (h1:o=some a) (h2:f a=some b)
theorem bind_some {α β:Type}{o:Option α}{f:α->Option β}{b:β} (h:o.bind f=some b):BS o f b:=by
 cases o with
 |none=>cases h
 |some a=>exact⟨a,rfl,h⟩
section
variable {X:Cx}{a b c e:Expr}{es:List Expr}{pos:Pos}
theorem tE.bin {K:W.Frag}{f g:FE}{o:D->D->MH->Option D}{σ:St}{H:Hp}{Q:VK} (h:tE K (fun env m=>(f env m).bind fun x=>(g env m).bind fun y=>o x y m) σ H Q)
  (r:R2) (hr:∀ μ m x y z v u H' (Q:VK),Sim K H' μ m->Rep K H' μ (·∈μ) x v->Rep K H' μ (·∈μ) y u->o x y m=some z->(∀ w H2,Same H' H2->Rep K H2 μ (·∈μ) z w->Q w H2)->r v u H' Q) :
  tOp r (tE K f) (tE K g) σ H Q:=by
 obtain⟨env,μ,m,d,S,E,h,q⟩:=h
 obtain⟨x,hx,h⟩:=bind_some h
 obtain⟨y,hy,h⟩:=bind_some h
 refine⟨env,μ,m,x,S,E,hx,fun v H1 s1 r1=>⟨env,μ,m,y,S.same s1,E.same s1,hy,fun u H2 s2 r2=>?_⟩⟩
 exact hr μ m x y d v u H2 Q (S.same (s1.trans s2)) (r1.same s2) r2 h fun w H3 s3 r3=>q w H3 ((s1.trans s2).trans s3) r3
noncomputable def Ac (i:Nat):FE:=fun env _=>(env[i]?).bind id
theorem Ag1 (i:Nat) {pos:Pos} (hN:X.N[i]?=some x) (hv:Vis X.env.scope x) (hd:(x == ("__debug__":Str))=false) (hcd:(x == ("__classdict__":Str))=false):PD X (.Name x pos) (Ac i) :=
 PE.imp (Ar6 hN hv hd hcd) fun σ H Q ⟨env,μ,m,d,S,E,h,q⟩=>by
  unfold Ac at h
  obtain⟨o,h1,h2⟩:=bind_some h
  have h2:o=some d:=h2
  subst h2
  obtain⟨v,e,r⟩:=E.get i d h1
  exact⟨v,e,q v H (Same.refl H) r⟩
noncomputable def fC (d:D):FE:=fun _ _=>some d
theorem Arn {i j pos}:PD X (.Constant (.int i) j pos) (fC (.int i)):=PE.imp Ar1 fun σ H Q ⟨env,μ,m,d,S,E,h,q⟩=>by cases h;exact q _ H (Same.refl H) (.int i)
theorem Avz {i j pos}:PD X (.Constant (.bool i) j pos) (fC (.bl i)):=PE.imp Av5 fun σ H Q ⟨env,μ,m,d,S,E,h,q⟩=>by cases h;exact q _ H (Same.refl H) (.bl i)
theorem Arq {j pos}:PD X (.Constant .none j pos) (fC .non):=PE.imp Aat fun σ H Q ⟨env,μ,m,d,S,E,h,q⟩=>by cases h;exact q _ H (Same.refl H) .non
theorem Aru {i j pos} (ok:PyData.strOk i=true):PD X (.Constant (.str i) j pos) (fC (.str i)):=PE.imp Ar5 fun σ H Q ⟨env,μ,m,d,S,E,h,q⟩=>by cases h;exact q _ H (Same.refl H) (.str i ok)
noncomputable def oI (g:Int->Int->Option D):D->D->MH->Option D
 |.int i,.int j,_=>g i j
 |_,_,_=>none
noncomputable def Ew:D->D->MH->Option D
 |.int i,.int j,_=>some (.int (i+j))
 |.str i,.str j,_=>if i.length+j.length<=1000000 then some (.str (i++j)) else none
 |.tup i,.tup j,_=>if i.length+j.length<=1000000 then some (.tup (i++j)) else none
 |_,_,_=>none
def Aea:D->D->MH->Option D:=oI fun i j=>some (.int (i - j))
def Ad8:D->D->MH->Option D:=oI fun i j=>if (-(2 ^ 64) < i/\i < 2 ^ 64)\/(-(2 ^ 64) < j/\j < 2 ^ 64) then some (.int (i * j)) else none
def Aqj:D->D->MH->Option D:=oI fun i j=>if 0 < j/\j < 1073741824 then some (.int (i / j)) else none
def Xi:D->D->MH->Option D:=oI fun i j=>if 0 < j then some (.int (i % j)) else none
def Atv:D->D->MH->Option D:=oI fun i j=>if 0<=j/\j<=1000000/\i.natAbs < 2 ^ 64 then some (.int (i ^ j.toNat)) else none
noncomputable def f2 (o:D->D->MH->Option D) (f g:FE):FE:=fun env m=>(f env m).bind fun x=>(g env m).bind fun y=>o x y m
noncomputable def f1 (o:D->MH->Option D) (f:FE):FE:=fun env m=>(f env m).bind fun x=>o x m
def OpD (X:Cx) (o:D->D->MH->Option D) (r:R2):Prop :=
 ∀ (μ:List Addr) (m:MH) (x y z:D) (v u:V) (H:Hp) (Q:VK),Sim X.K H μ m->Rep X.K H μ (·∈μ) x v->Rep X.K H μ (·∈μ) y u->o x y m=some z->(∀ w H2,Same H H2->Rep X.K H2 μ (·∈μ) z w->Q w H2)->r v u H Q
set_option tactic.hygienic true in
theorem OpD.int {C:Int->Int->Prop}{g:Int->Int->V}{k:Int->Int->Option D} (h:∀ i j z,k i j=some z->C i j/\∀ H μ B,Rep X.K H μ B z (g i j)):OpD X (oI k) (rI C g):=by
 intro μ m x y z v u H Q S rx ry e q
 cases rx<;>first|exact Ad e|skip
 cases ry<;>first|exact Ad e|skip
 rename_i i j
 obtain⟨hc,hr⟩:=h i j z e
 exact⟨i,j,rfl,rfl,hc,q _ H (Same.refl H) (hr H μ _)⟩
set_option tactic.hygienic true in
theorem OpD.int0 (h:∀ i j z,k i j=some z->∀ H μ B,Rep X.K H μ B z (g i j)):OpD X (oI k) (rI0 g):=by
 intro μ m x y z v u H Q S rx ry e q
 cases rx<;>first|exact Ad e|skip
 cases ry<;>first|exact Ad e|skip
 rename_i i j
 exact⟨i,j,rfl,rfl,q _ H (Same.refl H) (h i j z e H μ _)⟩
theorem Ak5:OpD X Aea (rI0 fun i j=>.int (i - j)):=OpD.int0 fun i j z e H μ B=>by cases e;exact .int _
theorem Ak3:OpD X Ad8 (rI CMul fun i j=>.int (i * j)):=OpD.int fun i j z e=>by
 split at e
 ·cases e;exact⟨by assumption,fun _ _ _=>.int _⟩
 ·cases e
theorem Ak1:OpD X Aqj (rI Awu fun i j=>.int (i / j)):=OpD.int fun i j z e=>by
 split at e
 ·cases e;exact⟨by assumption,fun _ _ _=>.int _⟩
 ·cases e
theorem Ak2:OpD X Xi (rI (fun _ j=>0 < j) fun i j=>.int (i % j)):=OpD.int fun i j z e=>by
 split at e
 ·cases e;exact⟨by assumption,fun _ _ _=>.int _⟩
 ·cases e
theorem Ak4:OpD X Atv (rI Awv fun i j=>.int (i ^ j.toNat)):=OpD.int fun i j z e=>by
 split at e
 ·cases e;exact⟨by assumption,fun _ _ _=>.int _⟩
 ·cases e
end
mutual
def Bt:D->Bool
 |.ref _=>false
 |.tup ds=>A1 ds
 |.lst ds=>A1 ds
 |.kl ds=>A1 ds
 |.dic _ _=>false
 |.dks _ _=>false
 |.fz _ _ _ _=>false
 |.fn _ _=>false
 |_=>true
def A1:List D->Bool
 |[]=>true
 |d::ds=>Bt d&&A1 ds
def dep:D->Nat
 |.tup ds=>Cz ds+1
 |.lst ds=>Cz ds+1
 |.kl ds=>Cz ds+1
 |_=>0
def Cz:List D->Nat
 |[]=>0
 |d::ds=>max (dep d) (Cz ds)
end
noncomputable def B7 (m:MH):D->Option D
 |.ref n=>match m[n]? with
  |some (.lst ds)=>if A1 ds=true then some (.lst ds) else none
  |_=>none
 |d=>if Bt d=true then some d else none
def Cw (m:MH):List D->Option (List D)
 |[]=>some []
 |d::ds=>(B7 m d).bind fun d'=>(Cw m ds).bind fun ds'=>some (d'::ds')
noncomputable def sq (m:MH):D->Option (List D)
 |.tup ds=>some ds
 |.lst ds=>some ds
 |.kl ds=>some ds
 |.ref n=>match m[n]? with
  |some (.lst ds)=>some ds
  |_=>none
 |_=>none
section
variable {K:W.Frag}{H H':Hp}{μ μ':List Addr}{B B':Addr->Prop}{m:MH}
mutual
theorem Rep.noref (hk:∀ a u,Rd H a (.lst u)->¬ B a->¬ B' a) {d:D}{v:V} (r:Rep K H μ B d v) (e:Bt d=true):Rep K H μ' B' d v:=by
 cases r with
 |non=>exact .non
 |bl b=>exact .bl b
 |int b=>exact .int b
 |str b h=>exact .str b h
 |tup h r=>exact .tup h (Reps.noref hk r e)
 |lst h b r=>exact .lst h (hk _ _ h b) (Reps.noref hk r e)
 |kl h r=>exact .kl h (Reps.noref hk r e)
 |_=>exact Cv e
theorem Reps.noref (hk:∀ a u,Rd H a (.lst u)->¬ B a->¬ B' a) {ds:List D}{vs:List V} (r:Reps K H μ B ds vs) (e:A1 ds=true):Reps K H μ' B' ds vs:=by
 cases r with
 |nil=>exact .nil
 |cons h r =>
  have e':=(Bool.and_eq_true_iff.mp e)
  exact .cons (Rep.noref hk h e'.1) (Reps.noref hk r e'.2)
end
theorem Bd (S:Sim K H μ m) {d d':D} (r:Rep K H μ (·∈μ) d v) (h:B7 m d=some d'):Rep K H [] (fun _=>False) d' v/\Bt d'=true:=by
 cases r with
 |@ref n a e =>
  unfold B7 at h
  cases q:m[n]? with
  |none=>simp[q] at h
  |some o =>
   simp only[q] at h
   cases o with
   |dcs _ _=>cases h
   |dct _ _=>cases h
   |lst ds =>
    simp only at h
    split at h
    ·rename_i hn
     cases h
     obtain⟨xs,e1,e2⟩:=S.obj n a _ e q
     exact⟨.lst (.inl e1) (fun z=>z) (e2.noref (fun _ _ _ _ z=>z) hn),hn⟩
    ·cases h
 |non=>unfold B7 at h;simp[Bt] at h;subst h;exact⟨.non,rfl⟩
 |bl b=>unfold B7 at h;simp[Bt] at h;subst h;exact⟨.bl b,rfl⟩
 |int b=>unfold B7 at h;simp[Bt] at h;subst h;exact⟨.int b,rfl⟩
 |str b ok=>unfold B7 at h;simp[Bt] at h;subst h;exact⟨.str b ok,rfl⟩
 |@tup ds a xs h1 h2 =>
  unfold B7 at h
  simp only at h
  split at h
  ·rename_i hn
   cases h
   exact⟨(Rep.tup h1 h2).noref (fun _ _ _ _ z=>z) hn,hn⟩
  ·cases h
 |@lst ds a xs h1 h3 h2 =>
  unfold B7 at h
  simp only at h
  split at h
  ·rename_i hn
   cases h
   exact⟨(Rep.lst h1 h3 h2).noref (fun _ _ _ _ z=>z) hn,hn⟩
  ·cases h
 |@kl ds a xs h1 h2 =>
  unfold B7 at h
  simp only at h
  split at h
  ·rename_i hn
   cases h
   exact⟨(Rep.kl h1 h2).noref (fun _ _ _ _ z=>z) hn,hn⟩
  ·exact Ad h
 |dic h1 h2 h3 h4=>unfold B7 at h;simp[Bt] at h
 |dks _ _ _ _=>unfold B7 at h;simp[Bt] at h
 |fz _ _ _=>unfold B7 at h;simp[Bt] at h
 |fn _=>unfold B7 at h;simp[Bt] at h
theorem Di (S:Sim K H μ m):∀ {ds ds':List D}{vs:List V},Reps K H μ (·∈μ) ds vs->Cw m ds=some ds'->Reps K H [] (fun _=>False) ds' vs
 |_,_,_,.nil,h=>by cases h;exact .nil
 |_,_,_,.cons r rs,h=>by
  unfold Cw at h
  obtain⟨d',h1,h⟩:=bind_some h
  obtain⟨ds',h2,h⟩:=bind_some h
  cases h
  exact .cons (Bd S r h1).1 (Di S rs h2)
theorem Mv (S:Sim K H μ m) {d:D} (r:Rep K H μ (·∈μ) d v) (h:sq m d=some ds):∃ a xs,v=.ref a/\(SqL K H a xs\/SqT K H a xs)/\Reps K H μ (·∈μ) ds xs:=by
 cases r with
 |@ref n a e =>
  unfold sq at h
  cases q:m[n]? with
  |none=>simp[q] at h
  |some o =>
   simp only[q] at h
   cases o with
   |dcs _ _=>cases h
   |dct _ _=>cases h
   |lst ds =>
    cases h
    obtain⟨xs,e1,e2⟩:=S.obj n a _ e q
    exact⟨a,xs,rfl,.inl (SqL.of e1),e2⟩
 |@tup ds a xs h1 h2=>cases h;exact⟨a,xs,rfl,.inr h1,h2⟩
 |@lst ds a xs h1 h3 h2=>cases h;exact⟨a,xs,rfl,.inl (.inl h1),h2⟩
 |@kl ds a xs h1 h2=>cases h;exact⟨a,xs,rfl,.inl h1.sq,h2⟩
 |non=>exact Ad h
 |bl b=>exact Ad h
 |int b=>exact Ad h
 |str b ok=>exact Ad h
 |dic h1 h2 h3 h4=>exact Ad h
 |dks _ _ _ _=>exact Ad h
 |fz _ _ _=>exact Ad h
 |fn _=>exact Ad h
end
mutual
theorem D4 {H:Hp}{s:Shared} (I:Inv X pins σ H s) {d:D}{v:V}{u:Value} (q:Rep X.K H μ B d v) (e:Bt d=true) (r:RelV v u):∃ as,Reads s.heap u (pyD d) as:=by
 cases q with
 |non=>cases r;exact⟨_,.none⟩
 |bl b=>cases r;exact⟨_,.bool b⟩
 |int i=>obtain⟨t,rfl⟩:=r;exact⟨_,.int i t⟩
 |str x _=>obtain⟨t,rfl⟩:=r;exact⟨_,.str x t⟩
 |tup h rs =>
  cases r
  obtain⟨its,rv,⟨o,ho,hc,n,hd⟩,hz⟩:=I.tuple h
  obtain⟨as,ra⟩:=D3 I rs e rv
  exact⟨_,.tuple ho hc hd ra⟩
 |lst h b rs =>
  cases r
  obtain⟨its,rv,⟨o,n,ho,hc,_,hd⟩,hz⟩:=I.list (.inl h)
  obtain⟨as,ra⟩:=D3 I rs e rv
  exact⟨_,.list ho hc hd ra⟩
 |kl h rs =>
  cases r
  obtain⟨its,rv,⟨o,n,ho,hc,_,hd⟩,hz⟩:=I.list h.sq
  obtain⟨as,ra⟩:=D3 I rs e rv
  exact⟨_,.list ho hc hd ra⟩
 |_=>cases e
theorem D3 {H:Hp}{s:Shared} (I:Inv X pins σ H s) {ds:List D}{vs:List V}{us:List Value} (q:Reps X.K H μ B ds vs) (e:A1 ds=true) (r:Vals vs us):∃ as,ReadsAll s.heap us (J6 ds) as:=by
 cases q with
 |nil=>cases r;exact⟨_,.nil⟩
 |cons h rs =>
  cases r with
  |cons r rv =>
  have e':=(Bool.and_eq_true_iff.mp e)
  obtain⟨as,h1⟩:=D4 I h e'.1 r
  obtain⟨bs,h2⟩:=D3 I rs e'.2 rv
  exact⟨_,.cons h1 h2⟩
end
mutual
theorem Ga {K:W.Frag}{H:Hp}{μ:List Addr}{B:Addr->Prop}{d:D}{v:V} (r:Rep K H μ B d v):(pyD d).canLay0=true:=by
 cases r with
 |str _ h=>exact h
 |tup _ rs=>exact Iq rs
 |lst _ _ rs=>exact Iq rs
 |kl _ rs=>exact Iq rs
 |_=>rfl
theorem Iq {K:W.Frag}{H:Hp}{μ:List Addr}{B:Addr->Prop}{ds:List D}{vs:List V} (r:Reps K H μ B ds vs):PyData.canLayAll0 (J6 ds)=true:=by
 cases r with
 |nil=>rfl
 |cons r rs=>rw[J6,PyData.canLayAll0,Ga r,Iq rs];rfl
end
mutual
theorem Jl:∀ d:D,(pyD d).depth=dep d
 |.non=>rfl
 |.bl _=>rfl
 |.int _=>rfl
 |.str _=>rfl
 |.tup ds=>by rw[pyD,PyData.depth,dep,Il ds]
 |.lst ds=>by rw[pyD,PyData.depth,dep,Il ds]
 |.kl ds=>by rw[pyD,PyData.depth,dep,Il ds]
 |.ref _=>rfl
 |.dic _ _=>rfl
 |.dks _ _=>rfl
 |.fz _ _ _ _=>rfl
 |.fn _ _=>rfl
theorem Il:∀ ds:List D,PyData.depthAll (J6 ds)=Cz ds
 |[]=>rfl
 |d::ds=>by rw[J6,PyData.depthAll,Jl d,Il ds,Cz]
end
noncomputable def deq (x y:D):Bool:=PyData.eqv (pyD x) (pyD y)
def eqO (m:MH) (x y:D):Option Bool:=(B7 m x).bind fun x'=>(B7 m y).bind fun y'=>if dep x'<=60 then some (deq x' y') else none
def oEq:D->D->MH->Option D:=fun x y m=>(eqO m x y).bind fun b=>some (.bl b)
def oNe:D->D->MH->Option D:=fun x y m=>(eqO m x y).bind fun b=>some (.bl (!b))
section
variable {X:Cx}{a b c e:Expr}{es:List Expr}{pos:Pos}
def OpM (X:Cx) (f:Value->Value->Sem Value) (o:D->D->MH->Option D):Prop :=
 ∀ (pins:List (Addr×Obj)) (s:Shared) (σ:St) (H:Hp) (μ:List Addr) (m:MH) (x y z:D) (v u:V) (v' u':Value) (Q:VK),Inv X pins σ H s->Sim X.K H μ m->Rep X.K H μ (·∈μ) x v->Rep X.K H μ (·∈μ) y u->RelV v v'->RelV u u'->o x y m=some z ->
  (∀ w H2,Same H H2->Rep X.K H2 μ (·∈μ) z w->Q w H2)->wpAny (model X.prog X.w) X.A (f v' u') (EP X pins σ Q) X.xe s
theorem OpM.of (h:OpR X f r) (d:OpD X o r):OpM X f o :=
 fun pins s σ H μ m x y z v u v' u' Q I S rx ry r1 r2 e q=>h pins s σ H v u v' u' Q I r1 r2 (d μ m x y z v u H Q S rx ry e q)
theorem A6 {H:Hp} (h:H p=none):Same H (upd H p o):=fun b u e=>by
 rw[A0 (As e h)];exact e
theorem tE.two {K:W.Frag}{f g:FE}{o:D->D->MH->Option D}{σ:St}{H:Hp}{Q:VK} (h:tE K (f2 o f g) σ H Q) :
  ∃ env μ m x y z,Sim K H μ m/\EnvRep K H μ σ env/\f env m=some x/\g env m=some y/\o x y m=some z/\∀ v H',Same H H'->Rep K H' μ (·∈μ) z v->Q v H':=by
 obtain⟨env,μ,m,d,S,E,h,q⟩:=h
 obtain⟨x,hx,h⟩:=bind_some h
 obtain⟨y,hy,h⟩:=bind_some h
 exact⟨env,μ,m,x,y,d,S,E,hx,hy,h,q⟩
theorem Au7 (ho:OpM X k o) (ha:PD X a f) (hb:PD X b g) {s:Shared}{H:Hp} (I:Inv X pins σ H s) (h:tE X.K (f2 o f g) σ H Q) :
  wpAny (model X.prog X.w) X.A (eval a X.env) (fun v s₁=>wpAny (model X.prog X.w) X.A (eval b X.env) (fun u s₂=>wpAny (model X.prog X.w) X.A (k v u) (EP X pins σ Q) X.xe s₂) X.xe s₁) X.xe s:=by
 obtain⟨env,μ,m,x,y,z,S,E,hx,hy,hz,q⟩:=h.two
 refine thn (ha pins s σ H (fun v H1=>Same H H1/\Rep X.K H1 μ (·∈μ) x v) I ⟨env,μ,m,x,S,E,hx,fun v H1 s1 r1=>⟨s1,r1⟩⟩) fun v' s1 ⟨v,H1,I1,r1,s1',rx⟩=>?_
 refine thn (hb pins s1 σ H1 (fun u H2=>Same H1 H2/\Rep X.K H2 μ (·∈μ) y u) I1 ⟨env,μ,m,y,S.same s1',E.same s1',hy,fun v H1 s1 r1=>⟨s1,r1⟩⟩) fun u' s2 ⟨u,H2,I2,r2,s2',ry⟩=>?_
 exact ho pins s2 σ H2 μ m x y z v u v' u' Q I2 (S.same (s1'.trans s2')) (rx.same s2') ry r1 r2 hz fun w H3 s3 r3=>q w H3 ((s1'.trans s2').trans s3) r3
theorem Arl (ho:OpM X (binaryOp op) o) (ha:PD X a f) (hb:PD X b g):PD X (.BinOp a op b pos) (f2 o f g) :=
 fun pins s σ H Q I h=>wpAny_BinOp (Au7 ho ha hb I h)
theorem Arm (ho:OpM X (compareOp op) o) (ha:PD X a f) (hb:PD X b g) (hm:behindInMarks op b=false):PD X (.Compare a [op] [b] pos) (f2 o f g) :=
 fun pins s σ H Q I h=>wpAny_Compare1 (Au7 ho ha hb I h) hm
noncomputable def asB:D->Option Bool
 |.bl b=>some b
 |_=>none
def Bm (f:FE):FB:=fun env m=>(f env m).bind asB
theorem Ik {d:D}{b:Bool} (h:asB d=some b):d=.bl b:=by
 cases d<;>first|(cases h;rfl)|cases h
theorem tB'.val {K:W.Frag}{f:FE}{σ:St}{H:Hp}{Q:Bool->Hp->Prop} (h:tB' K (Bm f) σ H Q):tE K f σ H fun x H'=>∃ k,x=.bl k/\Q k H':=by
 obtain⟨env,μ,m,b,S,E,h,q⟩:=h
 obtain⟨d,h1,h2⟩:=bind_some h
 cases Ik h2
 exact⟨env,μ,m,_,S,E,h1,fun v H' s r=>by cases r;exact⟨_,rfl,q H' s⟩⟩
theorem Arb (ho:OpM X (compareOp op) o) (ha:PD X a f) (hb:PD X b g) (hm:behindInMarks op b=false):PB X (.Compare a [op] [b] pos) (Bm (f2 o f g)):=by
 intro pins s σ H Q I h
 refine wpAny_isTrue_Compare1 (thn (Au7 ho ha hb I h.val) fun v s1 h1=>thn h1 fun u s2 h2=>thn h2 fun c s3 ⟨x,H1,I1,r1,k,e,q⟩=>?_) hm
 subst e
 cases r1
 exact Ba5 ⟨H1,I1,q⟩
theorem big {n:Nat} (h:n<=1000000):n<=sizeLine:=Azy h (by rw[Bas];decide)
def Ah5 (m:MH):D->Option Bool
 |.non=>some false
 |.bl b=>some b
 |.int i=>some (i != 0)
 |.str y=>if y.length<=1000000 then some ((y.length:Int) != 0) else none
 |d=>(sq m d).bind fun ds=>some (!ds.isEmpty)
def Rl (f:FE):FB:=fun env m=>(f env m).bind (Ah5 m)
theorem Reps.isEmpty {K:W.Frag}{H:Hp}{μ:List Addr}{B:Addr->Prop}{ds:List D}{vs:List V} (r:Reps K H μ B ds vs):ds.isEmpty=vs.isEmpty:=by cases r<;>rfl
theorem Aca {K:W.Frag}{H:Hp}{μ:List Addr}{m:MH} (S:Sim K H μ m) {d:D}{v:V}{k:Bool} (r:Rep K H μ (·∈μ) d v) (h:Ah5 m d=some k):Atl K v H k:=by
 have seq:∀ {a:Addr},v=.ref a->(∃ ds,sq m d=some ds/\k=!ds.isEmpty)->Atl K v H k:=fun {a} e ⟨ds,h1,h2⟩=>by
  obtain⟨a',xs,e',hq,rs⟩:=Mv S r h1
  subst e'
  subst h2
  rw[rs.isEmpty]
  rcases hq with hq|hq
  ·exact .inl ⟨xs,hq,rfl⟩
  ·exact .inr (.inl ⟨xs,hq,rfl⟩)
 have sq':∀ {x:D},((sq m x).bind fun ds=>some (!ds.isEmpty))=some k->∃ ds,sq m x=some ds/\k=!ds.isEmpty:=fun {x} h=>by
  obtain⟨ds,h1,h2⟩:=bind_some h
  exact⟨ds,h1,(Bag h2).symm⟩
 cases r with
 |non=>cases h;rfl
 |bl b=>cases h;rfl
 |int b=>cases h;rfl
 |str b ok =>
  unfold Ah5 at h
  simp only at h
  split at h
  ·cases h;exact⟨big (by assumption),rfl⟩
  ·exact Ad h
 |@tup ds a xs h1 h2=>exact seq rfl (sq' h)
 |@lst ds a xs h1 h3 h2=>exact seq rfl (sq' h)
 |@kl ds a xs h1 h2=>exact seq rfl (sq' h)
 |@ref n a e=>exact seq rfl (sq' h)
 |dic h1 h2 h3 h4=>exact Ad h
 |dks _ _ _ _=>exact Ad h
 |fz _ _ _=>exact Ad h
 |fn _=>exact Ad h
theorem Are (ha:PD X a f) (he:∀ whole,isTrue a X.env whole=(do let v <- whole;standAt a.pos;holding [v] (truthy v))):PB X a (Rl f) :=
 PT.imp (Aex ha he) fun σ H Q ⟨env,μ,m,b,S,E,h,q⟩=>by
  obtain⟨d,h1,h2⟩:=bind_some h
  exact⟨env,μ,m,d,S,E,h1,fun v H' s r=>⟨b,Aca (S.same s) r h2,q H' s⟩⟩
noncomputable def Acf (f g:FB):FB:=fun env m=>(f env m).bind fun c=>if c=true then g env m else some false
noncomputable def fOr (f g:FB):FB:=fun env m=>(f env m).bind fun c=>if c=true then some true else g env m
noncomputable def Ach (f:FB):FB:=fun env m=>(f env m).bind fun c=>some (!c)
abbrev PWB (X:Cx) (e:Expr) (f:FB):Prop:=PW X e (tB' X.K f)
theorem PW.imp {t t':TT} (h:PW X e t) (i:∀ σ H Q,t' σ H Q->t σ H Q):PW X e t':=fun w pins s σ H Q I q=>h w pins s σ H Q I (i σ H Q q)
theorem tB'.and {K:W.Frag}{f g:FB}{σ:St}{H:Hp}{Q:Bool->Hp->Prop} (h:tB' K (Acf f g) σ H Q):Axd (tB' K f) (tB' K g) σ H Q:=by
 obtain⟨env,μ,m,b,S,E,h,q⟩:=h
 obtain⟨c,h1,h2⟩:=bind_some h
 refine⟨env,μ,m,c,S,E,h1,fun H1 s1=>?_⟩
 cases c with
 |true =>
  rw[Azp rfl] at h2 ⊢
  exact⟨env,μ,m,b,S.same s1,E.same s1,h2,fun H2 s2=>q H2 (s1.trans s2)⟩
 |false =>
  rw[Azs Az7] at h2 ⊢
  cases h2
  exact q H1 s1
theorem tB'.or {K:W.Frag}{f g:FB}{σ:St}{H:Hp}{Q:Bool->Hp->Prop} (h:tB' K (fOr f g) σ H Q):tOr (tB' K f) (tB' K g) σ H Q:=by
 obtain⟨env,μ,m,b,S,E,h,q⟩:=h
 obtain⟨c,h1,h2⟩:=bind_some h
 refine⟨env,μ,m,c,S,E,h1,fun H1 s1=>?_⟩
 cases c with
 |false =>
  rw[Azs Az7] at h2 ⊢
  exact⟨env,μ,m,b,S.same s1,E.same s1,h2,fun H2 s2=>q H2 (s1.trans s2)⟩
 |true =>
  rw[Azp rfl] at h2 ⊢
  cases h2
  exact q H1 s1
variable {rest:List Expr}
theorem Aey (ha:PB X a f):PWB X (.BoolOp .And [a] pos) f:=Aa9 ha
theorem Amb (ha:PB X a f):PWB X (.BoolOp .Or [a] pos) f:=Asg ha
theorem Ama (ha:PB X a f) (hb:PWB X (.BoolOp .And (b::rest) pos) g):PWB X (.BoolOp .And (a::b::rest) pos) (Acf f g):=PW.imp (Ag6 ha hb) fun _ _ _ h=>h.and
theorem Ash (ha:PB X a f) (hb:PWB X (.BoolOp .Or (b::rest) pos) g):PWB X (.BoolOp .Or (a::b::rest) pos) (fOr f g):=PW.imp (Av9 ha hb) fun _ _ _ h=>h.or
theorem Ak6 (h:PWB X (.BoolOp op es pos) f):PB X (.BoolOp op es pos) f:=h.pt
theorem Ard (ha:PB X a f):PB X (.UnaryOp .Not a pos) (Ach f):=PT.imp (Ase ha) fun σ H Q ⟨env,μ,m,b,S,E,h,q⟩=>by
 obtain⟨c,h1,h2⟩:=bind_some h
 cases h2
 exact⟨env,μ,m,c,S,E,h1,fun H1 s1=>q H1 s1⟩
def Vz (f g:FE):FE:=fun env m=>(Bm f env m).bind fun c=>if c=true then g env m else some (.bl false)
def Anf (f g:FE):FE:=fun env m=>(Bm f env m).bind fun c=>if c=true then some (.bl true) else g env m
theorem Art {op} (h:PD X a f):PD X (.BoolOp op [a] pos) f:=Ar4 h
theorem Ark {f g:FE} (ha:PD X a f) (hb:PD X (.BoolOp .And (b::rest) pos) g):PD X (.BoolOp .And (a::b::rest) pos) (Vz f g):=PE.imp (Arz ha hb) fun σ H Q ⟨env,μ,m,z,S,E,h,q⟩=>by
 obtain⟨c,h1,h2⟩:=bind_some h
 obtain⟨d,h0,h1⟩:=bind_some h1
 cases Ik h1
 refine⟨env,μ,m,_,S,E,h0,fun v H1 s1 r1=>⟨c,by cases r1;rfl,?_⟩⟩
 cases c with
 |true =>
  rw[Azp rfl] at h2 ⊢
  exact⟨env,μ,m,z,S.same s1,E.same s1,h2,fun v H2 s2 r2=>q v H2 (s1.trans s2) r2⟩
 |false =>
  rw[Azs Az7] at h2 ⊢
  cases h2
  exact q _ H1 s1 (.bl false)
theorem Av3 {f g:FE} (ha:PD X a f) (hb:PD X (.BoolOp .Or (b::rest) pos) g):PD X (.BoolOp .Or (a::b::rest) pos) (Anf f g):=PE.imp (Av7 ha hb) fun σ H Q ⟨env,μ,m,z,S,E,h,q⟩=>by
 obtain⟨c,h1,h2⟩:=bind_some h
 obtain⟨d,h0,h1⟩:=bind_some h1
 cases Ik h1
 refine⟨env,μ,m,_,S,E,h0,fun v H1 s1 r1=>⟨c,by cases r1;rfl,?_⟩⟩
 cases c with
 |false =>
  rw[Azs Az7] at h2 ⊢
  exact⟨env,μ,m,z,S.same s1,E.same s1,h2,fun v H2 s2 r2=>q v H2 (s1.trans s2) r2⟩
 |true =>
  rw[Azp rfl] at h2 ⊢
  cases h2
  exact q _ H1 s1 (.bl true)
def Y3 (f:FE):FE:=fun env m=>(Rl f env m).bind fun c=>some (.bl (!c))
theorem Ars (ha:PD X a f):PD X (.UnaryOp .Not a pos) (Y3 f):=by
 intro pins s σ H Q I h
 obtain⟨env,μ,m,z,S,E,h,q⟩:=h
 obtain⟨c,h1,h2⟩:=bind_some h
 obtain⟨d,h0,h1⟩:=bind_some h1
 cases h2
 refine UnaryOp_ (thn (ha pins s σ H (fun v H1=>Same H H1/\Rep X.K H1 μ (·∈μ) d v) I ⟨env,μ,m,d,S,E,h0,fun v H1 s1 r1=>⟨s1,r1⟩⟩) fun v' s1 ⟨v,H1,I1,r1,s1',rx⟩=>?_)
 exact not_of (thn (Ah6 pins s1 σ H1 v v' (fun b H2=>b=c/\H2=H1) I1 r1 ⟨c,Aca (S.same s1') rx h1,rfl,rfl⟩) fun b s2 ⟨H2,I2,e,e2⟩=>⟨.bl (!c),H2,I2,by rw[e];rfl,q _ H2 (by rw[e2];exact s1') (.bl _)⟩)
noncomputable def fIf (t:FB) (f g:FE):FE:=fun env m=>(t env m).bind fun c=>if c=true then f env m else g env m
theorem Av0 {t:FB} (hc:PB X c t) (ha:PD X a f) (hb:PD X b g):PD X (.IfExp c a b pos) (fIf t f g):=PE.imp (Uy hc ha hb) fun σ H Q ⟨env,μ,m,z,S,E,h,q⟩=>by
 obtain⟨c,h1,h2⟩:=bind_some h
 refine⟨env,μ,m,c,S,E,h1,fun H1 s1=>?_⟩
 cases c with
 |true =>
  rw[Azp rfl] at h2 ⊢
  exact⟨env,μ,m,z,S.same s1,E.same s1,h2,fun v H2 s2 r2=>q v H2 (s1.trans s2) r2⟩
 |false =>
  rw[Azs Az7] at h2 ⊢
  exact⟨env,μ,m,z,S.same s1,E.same s1,h2,fun v H2 s2 r2=>q v H2 (s1.trans s2) r2⟩
theorem Dj (hr:Room k X.A):OpM X (compareOp .Eq) oEq:=by
 intro pins s σ H μ m x y z v u v' u' Q I S rx ry r1 r2 e q
 obtain⟨b,h1,h2⟩:=bind_some e
 obtain⟨x',e1,h1⟩:=bind_some h1
 obtain⟨y',e2,h1⟩:=bind_some h1
 split at h1
 ·rename_i hd
  cases h1
  cases h2
  obtain⟨a1,n1⟩:=Bd S rx e1
  obtain⟨a2,n2⟩:=Bd S ry e2
  obtain⟨as,ra⟩:=D4 I a1 n1 r1
  obtain⟨bs,rb⟩:=D4 I a2 n2 r2
  have hu:=hr.units
  refine SeqAt.compareEq_reads ra rb (Ga a1) (Ga a2) ?_ ⟨.bl (deq x' y'),H,I,rfl,q _ H (Same.refl H) (.bl _)⟩
  rw[Jl]
  lia
 ·cases h1
theorem Aky (hr:Room k X.A):OpM X (compareOp .NotEq) oNe:=by
 intro pins s σ H μ m x y z v u v' u' Q I S rx ry r1 r2 e q
 obtain⟨b,h1,h2⟩:=bind_some e
 obtain⟨x',e1,h1⟩:=bind_some h1
 obtain⟨y',e2,h1⟩:=bind_some h1
 split at h1
 ·rename_i hd
  cases h1
  cases h2
  obtain⟨a1,n1⟩:=Bd S rx e1
  obtain⟨a2,n2⟩:=Bd S ry e2
  obtain⟨as,ra⟩:=D4 I a1 n1 r1
  obtain⟨bs,rb⟩:=D4 I a2 n2 r2
  have hu:=hr.units
  refine SeqAt.compareNe_reads ra rb (Ga a1) (Ga a2) ?_ ⟨.bl (!deq x' y'),H,I,rfl,q _ H (Same.refl H) (.bl _)⟩
  rw[Jl]
  lia
 ·cases h1
noncomputable def oLt:D->D->MH->Option D
 |.int i,.int j,_=>some (.bl (decide (i < j)))
 |.str i,.str j,_=>some (.bl (decide (i.cps.toList < j.cps.toList)))
 |_,_,_=>none
def oGt:D->D->MH->Option D:=oI fun i j=>some (.bl (decide (j < i)))
theorem Akx:OpM X (compareOp .Lt) oLt:=OpM.of (op_lt.or Aao) fun μ m x y z v u H Q S rx ry e q=>by
 cases rx<;>first|exact Ad e|skip
 all_goals cases ry<;>first|exact Ad e|skip
 ·cases e;exact .inl ⟨_,_,rfl,rfl,q _ H (Same.refl H) (.bl _)⟩
 ·cases e;exact .inr ⟨_,_,rfl,rfl,q _ H (Same.refl H) (.bl _)⟩
theorem Akv:OpM X (compareOp .Gt) oGt:=OpM.of Avy (OpD.int0 fun i j z e H μ B=>by cases e;exact .bl _)
theorem Mm:OpM X (binaryOp .Sub) Aea:=OpM.of Ara Ak5
theorem Ml:OpM X (binaryOp .Mult) Ad8:=OpM.of Aq8 Ak3
theorem Agw:OpM X (binaryOp .FloorDiv) Aqj:=OpM.of Ak0 Ak1
theorem Gy:OpM X (binaryOp .Mod) Xi:=OpM.of Aq7 Ak2
theorem Aq6:OpM X (binaryOp .Pow) Atv:=OpM.of Aq9 Ak4
noncomputable def Agq:D->MH->Option D:=fun x _=>match x with|.non=>some (.bl true)|_=>some (.bl false)
theorem Zi {K:W.Frag}{H:Hp}{μ:List Addr}{B:Addr->Prop}{d z:D}{v:V}{m:MH} (r:Rep K H μ B d v) (h:Agq d m=some z):z=.bl (decide (v=.non)):=by
 cases r<;>(cases h;simp)
theorem Aro {f:FE} {j pos'} (ha:PD X a f):PD X (.Compare a [.Is] [.Constant .none j pos'] pos) (f1 Agq f):=PE.imp (Alh Agz ha Aat (Ago _)) fun σ H Q ⟨env,μ,m,z,S,E,h,q⟩=>by
 obtain⟨d,h1,h2⟩:=bind_some h
 exact⟨env,μ,m,d,S,E,h1,fun v H1 s1 r1=>⟨rfl,q _ H1 s1 (by rw[Zi r1 h2];exact .bl _)⟩⟩
theorem Arc {f:FE} {j pos'} (ha:PD X a f):PB X (.Compare a [.Is] [.Constant .none j pos'] pos) (Bm (f1 Agq f)):=PT.imp (Al6 Agz ha Aat (Ago _)) fun σ H Q h=>by
 obtain⟨env,μ,m,z,S,E,h,q⟩:=h.val
 obtain⟨d,h1,h2⟩:=bind_some h
 exact⟨env,μ,m,d,S,E,h1,fun v H1 s1 r1=>⟨rfl,q _ H1 s1 (by rw[Zi r1 h2];exact .bl _)⟩⟩
end
theorem Lh:PyData.strOk x=true ↔ ∀ c∈x.cps.toList,c < 0x110000:=by
 unfold PyData.strOk
 rw[Array.all_eq_true']
 simp
theorem Ig (hx:PyData.strOk x=true) (hy:PyData.strOk y=true):PyData.strOk (x++y)=true:=by
 rw[Lh] at *
 intro c hc
 have:(x++y).cps.toList=x.cps.toList++y.cps.toList:=by
  show (x.cps++y.cps).toList=_
  simp
 rw[this] at hc
 rcases List.mem_append.mp hc with h|h
 ·exact hx c h
 ·exact hy c h
theorem Li (hx:PyData.strOk x=true) (h:∀ c∈y.cps.toList,c∈x.cps.toList):PyData.strOk y=true:=by
 rw[Lh] at *
 exact fun c hc=>hx c (h c hc)
theorem Ab1 (hx:PyData.strOk x=true) (h:atI x.cps.toList i=some c):PyData.strOk ⟨#[c]⟩=true:=by
 refine Li hx fun c' hc=>?_
 have e:c'=c:=by simpa using hc
 subst e
 obtain⟨j,_,h2,_⟩:=M9 h
 exact Az8 h2
theorem Tt {x:Str}{lo hi:Option Int} (hx:PyData.strOk x=true):PyData.strOk (Txt.slice x lo hi)=true:=by
 unfold Txt.slice
 split
 ·exact hx
 ·refine Li hx fun c hc=>?_
  simp only[List.toList_toArray] at hc
  obtain⟨i,_,h⟩:=List.mem_filterMap.mp hc
  have:=Array.mem_of_getElem? h
  simpa using this
section
variable {X:Cx}{a b c e:Expr}{es:List Expr}{pos p:Pos}{x:Str}{id T:String}
noncomputable def Aj:FL:=fun _ _=>some []
noncomputable def Aa (f:FE) (g:FL):FL:=fun env m=>(f env m).bind fun x=>(g env m).bind fun xs=>some (x::xs)
theorem Asa:PL X [] Aj:=PA.imp Aaq fun σ H Q ⟨env,μ,m,ds,S,E,h,q⟩=>by cases h;exact q [] H (Same.refl H) .nil
theorem Alq (ha:PD X e f) (hr:PL X es g) (hs:starEach (e::es) X.env=(false,eval e X.env)::starEach es X.env):PL X (e::es) (Aa f g) :=
 PA.imp (N0 ha hr hs) fun σ H Q ⟨env,μ,m,ds,S,E,h,q⟩=>by
  obtain⟨d,h1,h⟩:=bind_some h
  obtain⟨ds',h2,h⟩:=bind_some h
  cases h
  exact⟨env,μ,m,d,S,E,h1,fun v H1 s1 r1=>⟨env,μ,m,ds',S.same s1,E.same s1,h2,fun vs H2 s2 r2=>q _ H2 (s1.trans s2) (.cons (r1.same s2) r2)⟩⟩
noncomputable def C0 (g:FL):FE:=fun env m=>(g env m).bind fun ds=>some (.lst ds)
theorem Aee (h:PF X e g):PD X e (C0 g):=PE.imp h fun σ H Q ⟨env,μ,m,d,S,E,h,q⟩=>by
 obtain⟨ds,h1,h⟩:=bind_some h
 cases h
 exact⟨env,μ,m,ds,S,E,h1,fun a xs H' s1 hn ha r=>q _ H' s1 (.lst (.inl ha) (S.nnone hn) r.unw)⟩
noncomputable def C1 (g:FL):FE:=fun env m=>(g env m).bind fun ds=>if ds.length<=1000000 then some (.tup ds) else none
noncomputable def B2 (g:FL):FL:=fun env m=>(g env m).bind fun ds=>if ds.length<=1000000 then some ds else none
theorem Arv {x1} (h:PL X es g):PD X (.Tuple es x1 pos) (C1 g):=PE.imp (Ag3 h) fun σ H Q ⟨env,μ,m,d,S,E,h,q⟩=>by
 obtain⟨ds,h1,h⟩:=bind_some h
 split at h
 ·rename_i hl
  cases h
  refine⟨env,μ,m,ds,S,E,h1,fun vs H1 s1 r1=>⟨by rw[<- r1.length];exact big hl,fun p hp=>q _ _ (s1.trans (A6 hp)) (.tup (.inl (.inl A3)) (r1.same (A6 hp)))⟩⟩
 ·cases h
theorem Ar8 (h:PL X es g):PF X (.List es pos) (B2 g):=PE.imp (Ag2 h) fun σ H Q ⟨env,μ,m,d,S,E,h,q⟩=>by
 obtain⟨ds,h1,h⟩:=bind_some h
 split at h
 ·rename_i hl
  cases h
  refine⟨env,μ,m,_,S,E,h1,fun vs H1 s1 r1=>⟨by rw[<- r1.length];exact big hl,fun p hp=>q _ vs _ (s1.trans (A6 hp)) (s1.free hp) A3 (r1.fresh hp)⟩⟩
 ·cases h
def oIx:D->D->MH->Option D:=fun x y m=>match y with
 |.int i=>(match x with
  |.str z=>if z.length<=1000000 then (atI z.cps.toList i).bind fun c=>some (.str ⟨#[c]⟩) else none
  |x=>(sq m x).bind fun ds=>atI ds i)
 |_=>none
theorem Reps.atI {K:W.Frag}{H:Hp}{μ:List Addr}{B:Addr->Prop}{ds:List D}{vs:List V}{i:Int}{d:D} (r:Reps K H μ B ds vs) (h:L2.atI ds i=some d):∃ v,L2.atI vs i=some v/\Rep K H μ B d v:=by
 unfold L2.atI at *
 rw[r.length] at h
 obtain⟨j,h1,h2⟩:=bind_some h
 obtain⟨v,h3,h4⟩:=r.get h2
 exact⟨v,by rw[h1];exact h3,h4⟩
set_option tactic.hygienic true in
theorem Ag0:OpD X oIx (rIx X.K):=by
 intro μ m x y z v u H Q S rx ry e q
 cases ry<;>first|exact Ad e|skip
 rename_i i
 have seq:((sq m x).bind fun ds=>atI ds i)=some z->rIx X.K v (.int i) H Q:=fun e=>by
  obtain⟨ds,h1,h2⟩:=bind_some e
  obtain⟨a,xs,rfl,hq,rs⟩:=Mv S rx h1
  obtain⟨w,h3,h4⟩:=rs.atI h2
  rcases hq with hq|hq
  ·exact .inl ⟨a,xs,i,w,rfl,rfl,hq,h3,q w H (Same.refl H) h4⟩
  ·exact .inr (.inl ⟨a,xs,i,w,rfl,rfl,hq,h3,q w H (Same.refl H) h4⟩)
 cases rx with
 |str zz ok =>
  unfold oIx at e
  simp only at e
  split at e
  ·obtain⟨c,h1,h2⟩:=bind_some e
   cases h2
   exact .inr (.inr ⟨zz,i,c,rfl,rfl,big (by assumption),h1,q _ H (Same.refl H) (.str _ (Ab1 ok h1))⟩)
  ·cases e
 |non=>exact seq e
 |bl _=>exact seq e
 |int _=>exact seq e
 |tup h1 h2=>exact seq e
 |lst h1 h2 h3=>exact seq e
 |kl h1 h2=>exact seq e
 |dic h1 h2 h3 h4=>exact seq e
 |dks _ _ _ _=>exact seq e
 |fz _ _ _=>exact seq e
 |fn _=>exact seq e
 |ref h=>exact seq e
theorem Av1 (ha:PD X a f) (hb:PD X b g) (hs:Jc b):PD X (.Subscript a b pos) (f2 oIx f g):=PE.imp (Ar2 Agi ha hb hs) fun σ H Q h=>tE.bin h _ Ag0
abbrev FO:=Bc->MH->Option (Option Int)
inductive tO' (K:W.Frag) (f:FO) (σ:St) (H:Hp) (Q:Option Int->Hp->Prop):Prop
 |mk (env:Bc) (μ:List Addr) (m:MH) (o:Option Int) (S:Sim K H μ m) (E:EnvRep K H μ σ env) (h:f env m=some o) (q:∀ H',Same H H'->Q o H')
abbrev PO' (X:Cx) (e:Option Expr) (f:FO):Prop:=PO X e (tO' X.K f)
theorem PO.imp {X:Cx}{e:Option Expr}{t t':TO} (h:PO X e t) (i:∀ σ H Q,t' σ H Q->t σ H Q):PO X e t':=fun pins s σ H Q I q=>h pins s σ H Q I (i σ H Q q)
noncomputable def fNo:FO:=fun _ _=>some none
noncomputable def asI:D->Option Int
 |.int i=>some i
 |_=>none
def Hc (f:FE):FO:=fun env m=>(f env m).bind fun d=>(asI d).bind fun i=>some (some i)
theorem Aem:PO' X none fNo:=PO.imp Als fun σ H Q ⟨env,μ,m,o,S,E,h,q⟩=>by cases h;exact q H (Same.refl H)
theorem Aen (h:PD X e f):PO' X (some e) (Hc f):=PO.imp (Alu h) fun σ H Q ⟨env,μ,m,o,S,E,h,q⟩=>by
 obtain⟨d,h1,h⟩:=bind_some h
 obtain⟨i,h2,h⟩:=bind_some h
 cases h
 refine⟨env,μ,m,d,S,E,h1,fun v H' s r=>?_⟩
 cases r<;>first|(cases h2;exact⟨_,rfl,q H' s⟩)|cases h2
def Ln {α:Type} (xs:List α) (lo hi:Option Int):List α:=(xs.drop (HT.sIx xs.length 0 lo)).take (HT.sIx xs.length xs.length hi - HT.sIx xs.length 0 lo)
theorem Reps.cut {K:W.Frag}{H:Hp}{μ:List Addr}{B:Addr->Prop}{ds:List D}{vs:List V} (r:Reps K H μ B ds vs) (lo hi:Option Int):Reps K H μ B (Ln ds lo hi) (Aga vs lo hi):=by
 unfold Ln Aga
 rw[r.length]
 exact (r.drop _).take _
theorem sl_str:SlR X (fun x lo hi H Q=>∃ z,x=.str z/\z.length<=sizeLine/\Q (.str (Txt.slice z lo hi)) H):=by
 intro pins s σ H x v vl vu lo hi sl Q I rx hs pl pu h
 obtain⟨z,rfl,hz,q⟩:=h
 obtain⟨t,rfl⟩:=rx
 refine⟨"str",_,F.slot_str_getitem.lookup,typeIs_str _ _ _,?_⟩
 cases pl with
 |none =>
  cases pu with
  |none=>exact Bb0 (l:=none) (u:=none) (st:=none) hs rfl (post_val_or_str ⟨Azy (Txt.slice_le z _ _) hz,fun t' k=>⟨.str (Txt.slice z _ _),H,I.tok _,⟨_,rfl⟩,q⟩⟩)
  |int j t'=>exact Bb0 (l:=none) (u:=some (j,t')) (st:=none) hs rfl (post_val_or_str ⟨Azy (Txt.slice_le z _ _) hz,fun t' k=>⟨.str (Txt.slice z _ _),H,I.tok _,⟨_,rfl⟩,q⟩⟩)
 |int i t1 =>
  cases pu with
  |none=>exact Bb0 (l:=some (i,t1)) (u:=none) (st:=none) hs rfl (post_val_or_str ⟨Azy (Txt.slice_le z _ _) hz,fun t' k=>⟨.str (Txt.slice z _ _),H,I.tok _,⟨_,rfl⟩,q⟩⟩)
  |int j t'=>exact Bb0 (l:=some (i,t1)) (u:=some (j,t')) (st:=none) hs rfl (post_val_or_str ⟨Azy (Txt.slice_le z _ _) hz,fun t' k=>⟨.str (Txt.slice z _ _),H,I.tok _,⟨_,rfl⟩,q⟩⟩)
def oSl:D->Option Int->Option Int->Option D
 |.str z,lo,hi=>if z.length<=1000000 then some (.str (Txt.slice z lo hi)) else none
 |.tup ds,lo,hi=>some (.tup (Ln ds lo hi))
 |_,_,_=>none
def fSl (f:FE) (l h:FO):FE:=fun env m=>(f env m).bind fun x=>(l env m).bind fun lo=>(h env m).bind fun hi=>oSl x lo hi
def Aje (f:FE) (l h:FO):FL:=fun env m=>(f env m).bind fun x=>(l env m).bind fun lo=>(h env m).bind fun hi=>match x with
 |.tup _=>none
 |x=>(sq m x).bind fun ds=>some (Ln ds lo hi)
end
theorem E9 {prog:Program}{w:World}{A:Around}{E:Value->Shared->Prop}{s:Shared}{t sl:Addr}{items:Array Value}{vl vu:Value}{lo hi:Option Int}{Q:Value->Shared->Prop} (ht:IsTup s.heap t items) (hs:s.heap.IsSliceOf sl vl vu .none) (pl:IsPart vl lo) (pu:IsPart vu hi)
  (hw:HT.sIx items.size 0 lo=0/\HT.sIx items.size items.size hi=items.size) (h:Q (.ref t) s):wpAny (model prog w) A (getItem (.ref t) (.ref sl)) Q E s:=by
 obtain⟨os,hos,hcs,hds⟩:=id hs
 have hTs:s.TypeIs (.ref sl) "slice":=⟨os,hos,hcs⟩
 unfold getItem
 try with_reducible refine Bah ?_
 first|refine Azc (Azi ?_)|skip
 refine Azc (wpAny_sequenceKey ht.typeIs (by decide) ?_)
 refine Azc (Bb1 (name:=Str.ofString "__getitem__") ht.typeIs PyProof.Rows.slot_tuple_getitem
  (Ba1 PyProof.Rows.slot_tuple_getitem ht.typeIs entry_tuple_getitem ?_ (args_tuple_getitem _ _)))
 show wpAny _ _ (Builtin.Tuple.tupleItemsOf (.ref t) >>= _) _ _ s
 refine Azc (tupleItemsOf_ ht ?_)
 refine Azc (Bbw hTs ?_)
 rw[Azp (by decide)]
 refine Azc (HT.sliceApplied_gen hs pl pu ?_)
 have hyes:(((HT.sIx items.size 0 lo:Nat):Int) == 0&&(1:Int) == 1&&(HT.sIx items.size items.size hi - HT.sIx items.size 0 lo) == items.size)=true:=by
  rw[hw.1,hw.2]
  simp
 show wpAny _ _ (if (((HT.sIx items.size 0 lo:Nat):Int) == 0&&(1:Int) == 1&&(HT.sIx items.size items.size hi - HT.sIx items.size 0 lo) == items.size)=true then _ else _) _ _ s
 rw[Azp hyes]
 unfold Builtin.Tuple.tupleIsExact
 refine Azc (Azc (Bbw ht.typeIs (Azi ?_)))
 rw[Azp (by decide)]
 exact Azc (wpAny_rule (Azi ⟨_,rfl,Azi h⟩))
theorem Ace {α:Type}{xs:List α}{lo hi:Option Int} (h:HT.sIx xs.length 0 lo=0/\HT.sIx xs.length xs.length hi=xs.length):Ln xs lo hi=xs:=by
 unfold Ln
 rw[h.1,h.2]
 simp
section
variable {X:Cx}{a b c e:Expr}{es:List Expr}{pos p:Pos}{x:Str}{id T:String}
theorem Amx:SlR X (fun x lo hi H Q=>∃ a xs,x=.ref a/\SqT X.K H a xs/\(HT.sIx xs.length 0 lo=0/\HT.sIx xs.length xs.length hi=xs.length)/\Q (.ref a) H):=by
 intro pins s σ H x v vl vu lo hi sl Q I rx hs pl pu h
 obtain⟨a,xs,rfl,hx,hw,q⟩:=h
 cases rx
 obtain⟨its,r,ht,hz⟩:=I.tuple hx
 have hlen:its.toArray.size=xs.length:=by rw[Azh];exact r.length.symm
 refine⟨"tuple",_,PyProof.Rows.slot_tuple_getitem.lookup,ht.typeIs,?_⟩
 exact E9 ht hs pl pu (by rw[hlen];exact hw) ⟨.ref a,H,I,rfl,q⟩
theorem Av4 {f:FE}{l h:FO}{lo hi:Option Expr}{p2:Pos} (ha:PD X a f) (hl:PO' X lo l) (hh:PO' X hi h):PD X (.Subscript a (.Slice lo hi none p2) pos) (fSl f l h) :=
 PE.imp (Uz (sl_str.or (sl_tup.or Amx)) ha hl hh) fun σ H Q ⟨env,μ,m,d,S,E,h,q⟩=>by
  obtain⟨x,h1,h⟩:=bind_some h
  obtain⟨lo,h2,h⟩:=bind_some h
  obtain⟨hi,h3,h⟩:=bind_some h
  refine⟨env,μ,m,x,S,E,h1,fun v H1 s1 r1=>⟨env,μ,m,lo,S.same s1,E.same s1,h2,fun H2 s2=>⟨env,μ,m,hi,S.same (s1.trans s2),E.same (s1.trans s2),h3,fun H3 s3=>?_⟩⟩⟩
  have s':=(s1.trans s2).trans s3
  have r3:=(r1.same s2).same s3
  cases r3 with
  |str z ok =>
   unfold oSl at h
   simp only at h
   split at h
   ·cases h
    exact .inl ⟨z,rfl,big (by assumption),q _ H3 s' (.str _ (Tt ok))⟩
   ·cases h
  |@tup ds a xs hq rs =>
   cases h
   by_cases hw:HT.sIx xs.length 0 lo=0/\HT.sIx xs.length xs.length hi=xs.length
   ·exact .inr (.inr ⟨a,xs,rfl,hq,hw,q _ H3 s' (by rw[Ace (by rw[rs.length];exact hw)];exact .tup hq rs)⟩)
   ·exact .inr (.inl ⟨a,xs,rfl,hq,hw,fun p hp=>q _ _ (s'.trans (A6 hp)) (.tup (.inl (.inl A3)) ((rs.cut lo hi).same (A6 hp)))⟩)
  |non=>cases h
  |bl _=>exact Ad h
  |int _=>exact Ad h
  |lst _ _ _=>exact Ad h
  |kl _ _=>exact Ad h
  |ref _=>exact Ad h
  |dic _ _ _ _=>exact Ad h
  |dks _ _ _ _=>exact Ad h
  |fz _ _ _=>exact Ad h
  |fn _=>exact Ad h
theorem Av8 {f:FE}{l h:FO}{lo hi:Option Expr}{p2:Pos} (ha:PD X a f) (hl:PO' X lo l) (hh:PO' X hi h):PF X (.Subscript a (.Slice lo hi none p2) pos) (Aje f l h) :=
 PE.imp (Uz Amw ha hl hh) fun σ H Q ⟨env,μ,m,d,S,E,h,q⟩=>by
  obtain⟨x,h1,h⟩:=bind_some h
  obtain⟨lo,h2,h⟩:=bind_some h
  obtain⟨hi,h3,h⟩:=bind_some h
  refine⟨env,μ,m,x,S,E,h1,fun v H1 s1 r1=>⟨env,μ,m,lo,S.same s1,E.same s1,h2,fun H2 s2=>⟨env,μ,m,hi,S.same (s1.trans s2),E.same (s1.trans s2),h3,fun H3 s3=>?_⟩⟩⟩
  have s':=(s1.trans s2).trans s3
  have r3:=(r1.same s2).same s3
  have fin:∀ {a:Addr}{xs:List V}{ds:List D},v=.ref a->SqL X.K H3 a xs->Reps X.K H3 μ (·∈μ) ds xs->d=Ln ds lo hi->Aw9 X.K v lo hi H3 Q:=fun {a xs ds} e hq rs e2=>by
   subst e
   subst e2
   exact⟨a,xs,rfl,hq,fun p hp=>q p _ _ (s'.trans (A6 hp)) (s'.free hp) A3 ((rs.cut lo hi).fresh hp)⟩
  cases r3 with
  |@lst ds a xs hq _ rs=>cases h;exact fin rfl (.inl hq) rs rfl
  |@kl ds a xs hq rs=>cases h;exact fin rfl hq.sq rs rfl
  |@ref n a e =>
   simp only at h
   obtain⟨ds,h4,h⟩:=bind_some h
   cases h
   unfold sq at h4
   cases q':m[n]? with
   |none=>simp[q'] at h4
   |some o =>
    simp only[q'] at h4
    cases o with
    |dcs _ _=>cases h4
    |dct _=>cases h4
    |lst ds' =>
     cases h4
     obtain⟨xs,e1,e2⟩:=(S.same s').obj n a _ e q'
     exact fin rfl (SqL.of e1) e2 rfl
  |_=>cases h
theorem Rp {s:Shared}{A:Around}{prog:Program}{w:World}{E:Value->Shared->Prop}{t b:Addr}{ws:List Value}{Q:Value->Shared->Prop} (ht:IsTup s.heap t #[]) (hb:IsTup s.heap b ws.toArray) (h:Q (.ref b) s) :
  wpAny (model prog w) A (binaryOp .Add (.ref t) (.ref b)) Q E s:=by
 obtain⟨⟨cls,dd,data,sl⟩,ho,hc,n,hd⟩:=id ht
 obtain⟨⟨cls2,dd2,data2,sl2⟩,ho2,hc2,n2,hd2⟩:=id hb
 simp only at hc hd hc2 hd2
 subst hc hd hc2 hd2
 exact concat_meets ⟨_,ho,rfl⟩ ⟨_,ho2,rfl⟩ noFill_tuple_add seq_tuple_add PySem.F.slot_tuple_add PySem.F.entry_tuple_add (PySem.F.args_tuple_add_2 _ _)
   (tuple_addW0 t b #[] ws.toArray n n2 dd dd2 sl sl2 (by simp)) ⟨ho,ho2,h⟩
theorem Aeb:OpR X (binaryOp .Add) (fun x y H Q=>∃ a b ys,x=.ref a/\y=.ref b/\SqT X.K H a []/\SqT X.K H b ys/\Q (.ref b) H):=by
 intro pins s σ H x y v u Q I rx ry h
 obtain⟨a,b,ys,rfl,rfl,ha,hb,q⟩:=h
 cases rx
 cases ry
 obtain⟨its,r1,p1,_⟩:=I.tuple ha
 cases r1
 obtain⟨its2,r2,p2,_⟩:=I.tuple hb
 exact Rp p1 p2 ⟨.ref b,H,I,rfl,q⟩
set_option tactic.hygienic true in
theorem B3:OpM X (binaryOp .Add) Ew:=OpM.of (op_add.or (op_add_str.or (op_catT.or Aeb))) fun μ m x y z v u H Q S rx ry e q=>by
 cases rx<;>first|exact Ad e|skip
 all_goals cases ry<;>first|exact Ad e|skip
 ·cases e;exact .inl ⟨_,_,rfl,rfl,q _ H (Same.refl H) (.int _)⟩
 ·rename_i i ok j ok'
  unfold Ew at e
  simp only at e
  split at e
  ·cases e;exact .inr (.inl ⟨_,_,rfl,rfl,big (by assumption),q _ H (Same.refl H) (.str _ (Ig ok ok'))⟩)
  ·cases e
 ·rename_i ds a xs hq rs es b ys hq' rs'
  unfold Ew at e
  simp only at e
  split at e
  ·rename_i hl
   cases e
   by_cases hx:xs=[]
   ·subst hx
    cases rs
    exact .inr (.inr (.inr ⟨a,b,ys,rfl,rfl,hq,hq',q _ H (Same.refl H) (by rw[Bb6];exact .tup hq' rs')⟩))
   ·refine .inr (.inr (.inl ⟨a,b,xs,ys,rfl,rfl,hq,hq',hx,by rw[<- rs.length,<- rs'.length];exact big hl,fun hy=>?_,fun hy p hp=>?_⟩))
    ·subst hy
     cases rs'
     exact q _ H (Same.refl H) (by rw[Az2];exact .tup hq rs)
    ·exact q _ _ (A6 hp) (.tup (.inl (.inl A3)) ((rs.append rs').same (A6 hp)))
  ·cases e
def sqL (m:MH):D->Option (List D)
 |.tup _=>none
 |d=>sq m d
def Acg (f g:FE):FL:=fun env m=>(f env m).bind fun x=>(g env m).bind fun y=>(sqL m x).bind fun xs=>(sqL m y).bind fun ys=>if xs.length+ys.length<=1000000 then some (xs++ys) else none
theorem Gg {K:W.Frag}{H:Hp}{μ:List Addr}{m:MH} (S:Sim K H μ m) {d:D}{v:V}{ds:List D} (r:Rep K H μ (·∈μ) d v) (h:sqL m d=some ds):∃ a xs,v=.ref a/\SqL K H a xs/\Reps K H μ (·∈μ) ds xs:=by
 cases r with
 |@ref n a e =>
  unfold sqL sq at h
  cases q:m[n]? with
  |none=>simp[q] at h
  |some o =>
   simp only[q] at h
   cases o with
   |dcs _ _=>cases h
   |dct _=>cases h
   |lst ds =>
    cases h
    obtain⟨xs,e1,e2⟩:=S.obj n a _ e q
    exact⟨a,xs,rfl,SqL.of e1,e2⟩
 |@lst ds a xs h1 h3 h2=>cases h;exact⟨a,xs,rfl,.inl h1,h2⟩
 |@kl ds a xs h1 h2=>cases h;exact⟨a,xs,rfl,h1.sq,h2⟩
 |_=>exact Ad h
theorem Akz:OpR X (binaryOp .Add) (fun x y H Q=>∃ l b xs zs,x=.ref l/\y=.ref b/\SqL X.K H l xs/\SqL X.K H b zs/\xs.length+zs.length<=sizeLine/\∀ p,H p=none->Q (.ref p) (upd H p (.lst (xs++zs)))):=by
 intro pins s σ H x y v u Q I rx ry h
 obtain⟨l,b,xs,zs,rfl,rfl,hl,hb,hz,q⟩:=h
 cases rx
 cases ry
 obtain⟨its,r,⟨⟨cls,dd,data,sl⟩,n,ho,hc,hdd,hd⟩,z⟩:=I.list hl
 obtain⟨its2,r2,⟨⟨cls2,dd2,data2,sl2⟩,n2,ho2,hc2,hdd2,hd2⟩,z2⟩:=I.list hb
 simp only at hc hd hc2 hd2 hdd hdd2
 subst hc hd hc2 hd2 hdd hdd2
 have hl:=r.length
 have hl2:=r2.length
 refine concat_meets ⟨_,ho,rfl⟩ ⟨_,ho2,rfl⟩ noFill_list_add seq_list_add PySem.F.slot_list_add PySem.F.entry_list_add (PySem.F.args_list_add_2 _ _)
   (list_addW l b its.toArray its2.toArray n n2 none none sl sl2 (by rw[Azh,Azh];lia)) ⟨ho,ho2,?_⟩
 have ea:its.toArray++its2.toArray=(its++its2).toArray:=by simp
 rw[ea]
 exact⟨.ref _,_,I.lnew (t':=s.toks) (r.append r2) (by rw[Azx];lia),rfl,q _ I.fresh⟩
theorem Ar7 {f g:FE} (ha:PD X a f) (hb:PD X b g):PF X (.BinOp a .Add b pos) (Acg f g):=PE.imp (Av6 Akz ha hb) fun σ H Q ⟨env,μ,m,d,S,E,h,q⟩=>by
 obtain⟨x,h1,h⟩:=bind_some h
 obtain⟨y,h2,h⟩:=bind_some h
 obtain⟨xs,h3,h⟩:=bind_some h
 obtain⟨ys,h4,h⟩:=bind_some h
 split at h
 ·rename_i hl
  cases h
  refine⟨env,μ,m,x,S,E,h1,fun v H1 s1 r1=>⟨env,μ,m,y,S.same s1,E.same s1,h2,fun u H2 s2 r2=>?_⟩⟩
  obtain⟨l,vs,rfl,e1,rs⟩:=Gg (S.same (s1.trans s2)) (r1.same s2) h3
  obtain⟨b,ws,rfl,e2,rs'⟩:=Gg (S.same (s1.trans s2)) r2 h4
  exact⟨l,b,vs,ws,rfl,rfl,e1,e2,by rw[<- rs.length,<- rs'.length];exact big hl,fun p hp=>q p _ _ ((s1.trans s2).trans (A6 hp)) ((s1.trans s2).free hp) A3 ((rs.append rs').fresh hp)⟩
 ·cases h
def Lp (X:Cx) (f:Value) (o:List D->MH->Option D):Prop :=
 ∀ (pins:List (Addr×Obj)) (s:Shared) (σ:St) (H:Hp) (μ:List Addr) (m:MH) (xs:List D) (z:D) (vs:List V) (us:List Value) (Q:VK),Inv X pins σ H s->Sim X.K H μ m->Reps X.K H μ (·∈μ) xs vs->Vals vs us->o xs m=some z ->
  (∀ w H2,Same H H2->Rep X.K H2 μ (·∈μ) z w->Q w H2)->wpAny (model X.prog X.w) X.A (call f us) (EP X pins σ Q) X.xe s
def X6 (X:Cx) (f:Value) (o:List D->MH->Option (List D)):Prop :=
 ∀ (pins:List (Addr×Obj)) (s:Shared) (σ:St) (H:Hp) (μ:List Addr) (m:MH) (xs:List D) (z:List D) (vs:List V) (us:List Value) (Q:VK),Inv X pins σ H s->Sim X.K H μ m->Reps X.K H μ (·∈μ) xs vs->Vals vs us->o xs m=some z ->
  (∀ a ys H2,Same H H2->H a=none->H2 a=some (.lst ys)->Reps X.K H2 μ (nw μ a) z ys->Q (.ref a) H2)->wpAny (model X.prog X.w) X.A (call f us) (EP X pins σ Q) X.xe s
noncomputable def A7 (o:List D->MH->Option D) (g:FL):FE:=fun env m=>(g env m).bind fun xs=>o xs m
noncomputable def Bi (o:List D->MH->Option (List D)) (g:FL):FL:=fun env m=>(g env m).bind fun xs=>o xs m
theorem Ao5 (ho:Lp X k o) (ha:PL X es g) {s:Shared}{H:Hp} (I:Inv X pins σ H s) (h:tE X.K (A7 o g) σ H Q) :
  wpAny (model X.prog X.w) X.A (spliced (backTo pos (starEach es X.env))) (fun us s1=>wpAny (model X.prog X.w) X.A (call k us) (EP X pins σ Q) X.xe s1) X.xe s:=by
 obtain⟨env,μ,m,d,S,E,h,q⟩:=h
 obtain⟨xs,h1,h2⟩:=bind_some h
 refine thn (ha pos pins s σ H (fun vs H1=>Same H H1/\Reps X.K H1 μ (·∈μ) xs vs) I ⟨env,μ,m,xs,S,E,h1,fun v H1 s1 r1=>⟨s1,r1⟩⟩) fun us s1 ⟨vs,H1,I1,r1,s1',rx⟩=>?_
 exact ho pins s1 σ H1 μ m xs d vs us Q I1 (S.same s1') rx r1 h2 fun w H2 s2 r2=>q w H2 (s1'.trans s2) r2
theorem Ao4 (ho:X6 X k o) (ha:PL X es g) {s:Shared}{H:Hp} (I:Inv X pins σ H s) (h:tF X.K (Bi o g) σ H Q) :
  wpAny (model X.prog X.w) X.A (spliced (backTo pos (starEach es X.env))) (fun us s1=>wpAny (model X.prog X.w) X.A (call k us) (EP X pins σ Q) X.xe s1) X.xe s:=by
 obtain⟨env,μ,m,d,S,E,h,q⟩:=h
 obtain⟨xs,h1,h2⟩:=bind_some h
 refine thn (ha pos pins s σ H (fun vs H1=>Same H H1/\Reps X.K H1 μ (·∈μ) xs vs) I ⟨env,μ,m,xs,S,E,h1,fun v H1 s1 r1=>⟨s1,r1⟩⟩) fun us s1 ⟨vs,H1,I1,r1,s1',rx⟩=>?_
 exact ho pins s1 σ H1 μ m xs d vs us Q I1 (S.same s1') rx r1 h2 fun a ys H2 s2 hn ha r2=>q a ys H2 (s1'.trans s2) (s1'.free hn) ha r2
theorem Ux (hc:Lp X (.builtin id) o) (hg:Gl X x) (hm:X.mg x=none) (hv:bootBuiltins x=some (.builtin id)) (ha:PL X (e::es) g) (hn:x≠"__name__") (hdb:(x == ("__debug__":Str))=false) (he:starEach (e::es) X.env=(false,eval e X.env)::starEach es X.env) (hpl:(backTo pos (starEach es X.env)).any (·.1)=false):PD X (.Call (.Name x p) (e::es) [] pos) (A7 o g):=by
 intro pins s σ H Q I h
 refine Bae (Dk I hg hm hv ?_ hn hdb)
 exact PyProof.Rows.callWith_builtin1 (Ao5 hc ha I h) he hpl
theorem J4 (hc:Lp X (.type T) o) (hg:Gl X x) (hm:X.mg x=none) (hv:bootBuiltins x=some (.type T)) (ha:PL X (e::es) g) (hn:x≠"__name__") (hdb:(x == ("__debug__":Str))=false) (he:starEach (e::es) X.env=(false,eval e X.env)::starEach es X.env) (hpl:(backTo pos (starEach es X.env)).any (·.1)=false):PD X (.Call (.Name x p) (e::es) [] pos) (A7 o g):=by
 intro pins s σ H Q I h
 refine Bae (Dk I hg hm hv ?_ hn hdb)
 exact PyProof.Rows.callWith_type1 (Ao5 hc ha I h) he hpl
theorem Aef (hc:X6 X (.builtin id) o) (hg:Gl X x) (hm:X.mg x=none) (hv:bootBuiltins x=some (.builtin id)) (ha:PL X (e::es) g) (hn:x≠"__name__") (hdb:(x == ("__debug__":Str))=false) (he:starEach (e::es) X.env=(false,eval e X.env)::starEach es X.env) (hpl:(backTo pos (starEach es X.env)).any (·.1)=false):PF X (.Call (.Name x p) (e::es) [] pos) (Bi o g):=by
 intro pins s σ H Q I h
 refine Bae (Dk I hg hm hv ?_ hn hdb)
 exact PyProof.Rows.callWith_builtin1 (Ao4 hc ha I h) he hpl
theorem Aau (hc:X6 X (.type T) o) (hg:Gl X x) (hm:X.mg x=none) (hv:bootBuiltins x=some (.type T)) (ha:PL X (e::es) g) (hn:x≠"__name__") (hdb:(x == ("__debug__":Str))=false) (he:starEach (e::es) X.env=(false,eval e X.env)::starEach es X.env) (hpl:(backTo pos (starEach es X.env)).any (·.1)=false):PF X (.Call (.Name x p) (e::es) [] pos) (Bi o g):=by
 intro pins s σ H Q I h
 refine Bae (Dk I hg hm hv ?_ hn hdb)
 exact PyProof.Rows.callWith_type1 (Ao4 hc ha I h) he hpl
inductive R1 (K:W.Frag) (H:Hp) (μ:List Addr) (B:Addr->Prop) (d:D) (vs:List V):Prop where
 |mk (v:V) (e:vs=[v]) (r:Rep K H μ B d v)
theorem Reps.one {K:W.Frag}{H:Hp}{μ:List Addr}{B:Addr->Prop}{d:D}{vs:List V} (r:Reps K H μ B [d] vs):R1 K H μ B d vs:=by
 cases r with
 |cons h r=>cases r;exact⟨_,rfl,h⟩
theorem Reps.two {K:W.Frag}{H:Hp}{μ:List Addr}{B:Addr->Prop}{d d':D}{vs:List V} (r:Reps K H μ B [d,d'] vs):∃ v v',vs=[v,v']/\Rep K H μ B d v/\Rep K H μ B d' v':=by
 cases r with
 |cons h r =>
  cases r with
  |cons h' r=>cases r;exact⟨_,_,rfl,h,h'⟩
def Avp (m:MH):D->Option Nat
 |.str z=>if z.length<=1000000 then some z.length else none
 |d=>(sq m d).bind fun ds=>some ds.length
def J0:List D->MH->Option D:=fun xs m=>match xs with
 |[d]=>(Avp m d).bind fun n=>some (.int n)
 |_=>none
theorem Akj {K:W.Frag}{H:Hp}{μ:List Addr}{m:MH} (S:Sim K H μ m) {d:D}{v:V}{n:Nat} (r:Rep K H μ (·∈μ) d v) (h:Avp m d=some n):At6 K v H n:=by
 have seq:((sq m d).bind fun ds=>some ds.length)=some n->At6 K v H n:=fun h=>by
  obtain⟨ds,h1,h2⟩:=bind_some h
  cases h2
  obtain⟨a,xs,rfl,hq,rs⟩:=Mv S r h1
  rcases hq with hq|hq
  ·exact .inl ⟨xs,hq,rs.length⟩
  ·exact .inr ⟨xs,hq,rs.length⟩
 cases r with
 |str z ok =>
  unfold Avp at h
  simp only at h
  split at h
  ·cases h;exact⟨big (by assumption),rfl⟩
  ·exact Ad h
 |non=>exact seq h
 |bl _=>exact seq h
 |int _=>exact seq h
 |tup h1 h2=>exact seq h
 |lst h1 h2 h3=>exact seq h
 |kl h1 h2=>exact seq h
 |dic h1 h2 h3 h4=>exact seq h
 |dks _ _ _ _=>exact seq h
 |fz _ _ _=>exact seq h
 |fn _=>exact seq h
 |ref h'=>exact seq h
theorem Apa:Lp X (.builtin "len") J0:=by
 intro pins s σ H μ m xs z vs us Q I S rx rv e q
 match xs,e with
 |[d],e =>
  obtain⟨n,h1,h2⟩:=bind_some e
  cases h2
  obtain⟨v,rfl,r⟩:=rx.one
  exact Ac7 pins s σ H [v] us Q I rv ⟨v,n,rfl,Akj S r h1,q _ H (Same.refl H) (.int _)⟩
noncomputable def Agp:List D->MH->Option D:=fun xs _=>match xs with
 |[.int i]=>some (.int i)
 |[.bl b]=>some (.int (if b then 1 else 0))
 |[.str z]=>if z.length<=640 then (PySem.intText? z).bind fun i=>some (.int i) else none
 |_=>none
theorem Agy {α:Type}{o:List D->Option α}{xs:List D}{z:α} (hn:o []=none) (hc:∀ a b l,o (a::b::l)=none) (e:o xs=some z):∃ d,xs=[d]:=by
 cases xs with
 |nil=>rw[hn] at e;exact Ad e
 |cons a l =>
  cases l with
  |nil=>exact⟨a,rfl⟩
  |cons b l=>rw[hc] at e;exact Ad e
theorem Af9:Lp X (.type "int") Agp:=by
 intro pins s σ H μ m xs z vs us Q I S rx rv e q
 obtain⟨d,rfl⟩:=Agy (o:=(Agp · m)) rfl (fun a _ _=>by cases a<;>rfl) e
 obtain⟨v,rfl,r⟩:=rx.one
 cases r with
 |int i =>
  cases e
  exact Ox pins s σ H _ us Q I rv (.inl ⟨i,rfl,q _ H (Same.refl H) (.int _)⟩)
 |bl b =>
  cases e
  exact Ox pins s σ H _ us Q I rv (.inr ⟨b,rfl,q _ H (Same.refl H) (.int _)⟩)
 |str x _ =>
  unfold Agp at e
  simp only at e
  split at e
  ·obtain⟨i,h1,h2⟩:=bind_some e
   cases h2
   obtain⟨u,rfl,t,rfl⟩:=G5 rv
   exact W.KIN.call_text h1 (by assumption) ⟨.int i,H,I.tok _,⟨_,rfl⟩,q _ H (Same.refl H) (.int _)⟩
  ·cases e
 |_=>exact Ad e
theorem E2 (z:String):PyData.strOk (Str.ofString z)=true:=by
 rw[Lh]
 intro c hc
 rw[Str.ofString_eq_toList] at hc
 have:c∈z.toList.map Char.toNat:=by simpa using hc
 obtain⟨k,_,rfl⟩:=List.mem_map.mp this
 have:=k.valid
 rcases this with h|h
 ·show k.val.toNat < _
  lia
 ·show k.val.toNat < _
  lia
def Ea:List D->MH->Option D:=fun xs m=>match xs with
 |[d]=>(sq m d).bind fun ds=>some (.tup ds)
 |_=>none
theorem Adb:Lp X (.type "tuple") Ea:=by
 intro pins s σ H μ m xs z vs us Q I S rx rv e q
 match xs,e with
 |[d],e =>
  obtain⟨ds,h1,h2⟩:=bind_some e
  cases h2
  obtain⟨v,rfl,r⟩:=rx.one
  obtain⟨a,ys,rfl,hq,rs⟩:=Mv S r h1
  refine Nb pins s σ H _ us Q I rv ⟨a,ys,rfl,?_⟩
  rcases hq with hq|hq
  ·exact .inl ⟨hq,fun l hl=>q _ _ (A6 hl) (.tup (.inl (.inl A3)) (rs.same (A6 hl)))⟩
  ·exact .inr ⟨hq,q _ H (Same.refl H) (.tup hq rs)⟩
def Aag:List D->MH->Option (List D):=fun xs m=>match xs with
 |[d]=>sq m d
 |_=>none
theorem Ai8:X6 X (.type "list") Aag:=by
 intro pins s σ H μ m xs z vs us Q I S rx rv e q
 match xs,e with
 |[d],e =>
  obtain⟨v,rfl,r⟩:=rx.one
  obtain⟨a,ys,rfl,hq,rs⟩:=Mv S r e
  exact Oy pins s σ H _ us Q I rv ⟨a,ys,rfl,hq,fun l hl=>q l _ _ (A6 hl) hl A3 (rs.fresh hl)⟩
noncomputable def tyD (m:MH):D->Option String
 |.non=>some "NoneType"|.bl _=>some "bool"|.int _=>some "int"|.str _=>some "str"|.tup _=>some "tuple"|.lst _=>some "list"|.kl _=>some "list"
 |.ref n=>match m[n]? with
  |some (.lst _)=>some "list"
  |some (.dct _ _)=>none
  |some (.dcs _ _)=>none
  |none=>none
 |.dic _ _=>none
 |.dks _ _=>none
 |.fz _ _ _ _=>none
 |.fn _ _=>none
noncomputable def Adn (T U:String):Option Bool:=if U="int"\/U="bool"\/U="str"\/U="tuple"\/U="list" then some (T == U||(T == "bool"&&U == "int")) else none
theorem Lr (K:W.Frag) {T U:String}{b:Bool} (hT:T="NoneType"\/T="bool"\/T="int"\/T="str"\/T="tuple"\/T="list") (h:Adn T U=some b):W.kitOne K (.type T) (.type U)=some b:=by
 unfold Adn at h
 split at h
 ·rename_i hU
  cases h
  rcases hT with rfl|rfl|rfl|rfl|rfl|rfl<;>rcases hU with rfl|rfl|rfl|rfl|rfl<;>kernel_rfl
 ·cases h
def Ane (U:String) (f:FE):FE:=fun env m=>(f env m).bind fun d=>(tyD m d).bind fun T=>(Adn T U).bind fun b=>some (.bl b)
end
section
variable {X:Cx}{a b c e o':Expr}{es:List Expr}{pos p p' apos cpos:Pos}{x:Str}{id T:String}
theorem Akf {pins:List (Addr×Obj)}{σ:St}{H:Hp}{s:Shared}{A:Around}{E:Value->Shared->Prop}{Q:Value->Shared->Prop}{a:Addr}{xs:List V}{c:Value}{b:Bool} (I:Inv X pins σ H s) (h:SqT X.K H a xs) (e:W.kitOne X.K (.type "tuple") c=some b) (q:∀ tk,Q (.bool b) { s with toks:=tk }) :
  wpAny (model X.prog X.w) A (call (.builtin "isinstance") [.ref a,c]) Q E s:=by
 obtain⟨its,_,⟨o,h1,h2,_⟩,_⟩:=I.tuple h
 exact W.kia_one W.kitx_tuple I.kIn ⟨o,h1,h2⟩ e (fun z=>nomatch z) q
theorem Avo {pins:List (Addr×Obj)}{σ:St}{H:Hp}{s:Shared}{A:Around}{E:Value->Shared->Prop}{Q:Value->Shared->Prop}{μ:List Addr}{m:MH}{d:D}{v:V}{u:Value}{T U:String}{b:Bool} (I:Inv X pins σ H s) (S:Sim X.K H μ m) (r:Rep X.K H μ (·∈μ) d v) (ru:RelV v u)
  (h:tyD m d=some T) (hb:Adn T U=some b) (q:∀ tk,Q (.bool b) { s with toks:=tk }):wpAny (model X.prog X.w) A (call (.builtin "isinstance") [u,.type U]) Q E s:=by
 cases r with
 |non=>cases h;exact C2 I ru .non (Lr X.K (by simp) hb) q
 |bl b=>cases h;exact C2 I ru (.bl b) (Lr X.K (by simp) hb) q
 |int b=>cases h;exact C2 I ru (.int b) (Lr X.K (by simp) hb) q
 |str b _=>cases h;exact C2 I ru (.str b) (Lr X.K (by simp) hb) q
 |tup h1 h2=>cases h;cases ru;exact Akf I h1 (Lr X.K (by simp) hb) q
 |lst h1 h2 h3 =>
  cases h
  rcases h1 with h1|⟨o,h1⟩
  ·exact C2 I ru (.lst h1) (Lr X.K (by simp) hb) q
  ·exact C2 I ru (.frz h1) (Lr X.K (by simp) hb) q
 |kl h1 h2 =>
  cases h
  cases ru
  rcases h1 with ⟨o,h1⟩|⟨o,its,n,hk,hc,_⟩
  ·exact C2 (x:=.ref _) (u:=.ref _) I rfl (.frz h1) (Lr X.K (by simp) hb) q
  ·exact W.kia_one W.kitx_list I.kIn ⟨o,I.kIn _ _ hk,hc⟩ (Lr X.K (by simp) hb) (fun z=>nomatch z) q
 |dic h1 h2 h3 h4=>exact Ad h
 |dks _ _ _ _=>exact Ad h
 |fz _ _ _=>exact Ad h
 |fn _=>exact Ad h
 |@ref n a e =>
  unfold tyD at h
  cases q':m[n]? with
  |none=>simp[q'] at h
  |some ob =>
   simp only[q'] at h
   cases ob with
   |dcs _ _=>cases h
   |dct _ _=>cases h
   |lst ds =>
    cases h
    obtain⟨xs,e1,e2⟩:=S.obj n a _ e q'
    exact C2 I ru (.lst e1) (Lr X.K (by simp) hb) q
theorem Arp (ha:PD X e f) (hg:Gl X "isinstance") (hm:X.mg "isinstance"=none) (hg':Gl X y) (hm':X.mg y=none) (hv':bootBuiltins y=some (.type U)) (hn:y≠"__name__") (hdb:(y == ("__debug__":Str))=false) (hv:bootBuiltins "isinstance"=some (.builtin "isinstance")) (he:starEach [e,.Name y p'] X.env=(false,eval e X.env)::starEach [.Name y p'] X.env) (he':starEach [.Name y p'] X.env=(false,eval (.Name y p') X.env)::starEach [] X.env) (hpl:(backTo pos (starEach [.Name y p'] X.env)).any (·.1)=false) :
  PD X (.Call (.Name "isinstance" p) [e,.Name y p'] [] pos) (Ane U f):=by
 intro pins s σ H Q I h
 obtain⟨env,μ,m,z,S,E,h,q⟩:=h
 obtain⟨d,h1,h⟩:=bind_some h
 obtain⟨T,h2,h⟩:=bind_some h
 obtain⟨b,h3,h⟩:=bind_some h
 cases h
 have hA:PA X [e,.Name y p'] (Am7 (tE X.K f) (Am7 (tC (.ty U)) Axf)):=N0 ha (N0 (Alf hg' hm' hv' rfl hn hdb) Aaq he') he
 refine Bae (Dk I hg hm hv ?_ (by decide) (by decide))
 refine PyProof.Rows.callWith_builtin1 (thn (hA pos pins s σ H (fun vs H1=>∃ v,vs=[v,.ty U]/\Same H H1/\Rep X.K H1 μ (·∈μ) d v) I ⟨env,μ,m,d,S,E,h1,fun v H1 s1 r1=>⟨v,rfl,s1,r1⟩⟩) fun us s1 ⟨vs,H1,I1,rv,v,e1,s1',rx⟩=>?_) he hpl
 subst e1
 obtain⟨u,w,rfl,r1,r2⟩:=Ati rv
 cases r2
 have S1:=S.same s1'
 have fin:∀ tk,EP X pins σ Q (.bool b) { s1 with toks:=tk }:=fun tk=>⟨.bl b,H1,I1.tok _,rfl,q _ H1 s1' (.bl b)⟩
 exact Avo I1 S1 rx r1 h2 h3 fin
noncomputable def Rt:List D->Option (List Bool)
 |[]=>some []
 |.bl b::ds=>(Rt ds).bind fun bs=>some (b::bs)
 |_=>none
def Aqh:List D->MH->Option D:=fun xs m=>match xs with
 |[d]=>(sqL m d).bind fun ds=>(Rt ds).bind fun bs=>some (.bl (bs.any (fun b=>b)))
 |_=>none
theorem Ly {K:W.Frag}{H:Hp}{μ:List Addr}{B:Addr->Prop}:∀ {ds:List D}{bs:List Bool}{vs:List V}{us:List Value},Reps K H μ B ds vs->Rt ds=some bs->Vals vs us->us=bs.map Value.bool
 |_,_,_,_,.nil,h,.nil=>by cases h;rfl
 |_,_,_,_,.cons r rs,h,.cons q qs=>by
  cases r<;>first|(cases h;done)|skip
  obtain⟨bs',h1,h2⟩:=bind_some h
  cases h2
  cases q
  rw[Ly rs h1 qs]
  rfl
theorem Yg {bs:List Bool}:(List.range bs.length).any (fun i=>bs.getD i false)=bs.any (fun b=>b):=by
 induction bs with
 |nil=>rfl
 |cons b bs ih =>
  rw[Azo,List.range_succ_eq_map,Ba0,List.any_map,Ba0,<- ih]
  rfl
theorem Oe {bs:List Bool}:TruthOf prog w A (fun i v=>(bs.map Value.bool).toArray[i]?=some v) fun i=>bs.getD i false:=by
 intro i v s Q E h q
 have h':(bs.map Value.bool)[i]?=some v:=by simpa using h
 rw[Az3] at h'
 cases e:bs[i]? with
 |none=>rw[e] at h';cases h'
 |some b =>
  rw[e] at h'
  cases h'
  have q':Q (bs.getD i false) s:=q
  rw[Azk,e] at q'
  exact Ba5 q'
theorem Ao9 (hc:X.calm=true):Lp X (.builtin "any") Aqh:=by
 intro pins s σ H μ m xs z vs us Q I S rx rv e q
 match xs,e with
 |[d],e =>
  obtain⟨ds,h1,h2⟩:=bind_some e
  obtain⟨bs,hbs,h3⟩:=bind_some h2
  cases h3
  obtain⟨v,rfl,r⟩:=rx.one
  obtain⟨a,ys,rfl,hq,rs⟩:=Gg S r h1
  obtain⟨u,rfl,r1⟩:=G5 rv
  cases r1
  obtain⟨its,ri,pl,hz⟩:=I.list hq
  have e:=Ly rs hbs ri
  subst e
  refine call_any_walk (wpAny_pyIter_list pl.isList ?_)
  have hne:a≠s.heap.objs.size:=Az1 (by obtain⟨o,n,e,_⟩:=pl;exact Azj e)
  refine⟨_,_,_,_,_,_,fun i=>bs.getD i false,rfl,Walks.list (A:=X.A.in1) (I.ok.hd hc) _ a hne (bs.map Value.bool).toArray,⟨⟨_,Azq _ rfl,rfl,rfl⟩,?_⟩,Oe,fun h' tk hk=>?_⟩
  ·exact pl.isList.at fun o e=>Aze _ e
  ·refine⟨.bl _,H,I.kept (h':=h') (t':=tk) fun b o e=>hk b o (fun z=>?_) (Aze _ e),?_,q _ H (Same.refl H) (.bl _)⟩
   ·have z':b=s.heap.objs.size:=by simpa using z
    exact absurd (Azj e) (by rw[z'];exact Az9 _)
   ·show Value.bool _=Value.bool _
    rw[<- Yg]
    simp
def inO (m:MH) (x y:D):Option Bool:=match y with
 |.str z=>(match x with
  |.str w=>some (!(Builtin.Str.occurrences z w 0 z.length 1).isEmpty)
  |_=>none)
 |y=>(B7 m x).bind fun x'=>(B7 m y).bind fun y'=>(sq [] y').bind fun ds=>if dep x'<=50 then some (ds.any fun d=>deq d x') else none
def oIn:D->D->MH->Option D:=fun x y m=>(inO m x y).bind fun b=>some (.bl b)
def Bz:D->D->MH->Option D:=fun x y m=>(inO m x y).bind fun b=>some (.bl (!b))
mutual
theorem L4 {pins:List (Addr×Obj)}{σ:St}{H:Hp}{s:Shared}{A:Around}{d d':D}{v v':V}{u u':Value}{μ:List Addr}{B:Addr->Prop} (I:Inv X pins σ H s) (r:Rep X.K H μ B d v) (r':Rep X.K H μ B d' v') (n:Bt d=true) (n':Bt d'=true) (ru:RelV v u) (ru':RelV v' u') (hu:A.units+dep d' < cLine) :
  SeqAt.EqAt A s u u' (deq d d'):=by
 obtain⟨as,ra⟩:=D4 I r n ru
 obtain⟨bs,rb⟩:=D4 I r' n' ru'
 refine SeqAt.eqAt_reads _ _ _ _ _ _ _ _ ra rb (Ga r) (Ga r') ?_
 rw[Jl,Jl]
 lia
end
theorem Bx:∀ {ds:List D}{d:D},A1 ds=true->d∈ds->Bt d=true
 |_::_,_,h,.head _=>(Bool.and_eq_true_iff.mp h).1
 |_::_,_,h,.tail _ q=>Bx (Bool.and_eq_true_iff.mp h).2 q
theorem Rep.tl {pins:List (Addr×Obj)}{σ:St}{H:Hp}{s:Shared}{a:Addr}{xs ys:List V} (I:Inv X pins σ H s) (h:SqT X.K H a xs) (h':SqL X.K H a ys):False:=by
 obtain⟨its,_,p,_⟩:=I.tuple h
 obtain⟨its',_,p',_⟩:=I.list h'
 exact SeqAt.ne_of_list_tuple p'.isList p rfl
mutual
theorem Tn {H:Hp}{s:Shared} (I:Inv X pins σ H s) {d d':D}{v:V} (r:Rep X.K H μ B d v) (q:Rep X.K H μ B d' v) (n:Bt d=true) (n':Bt d'=true):pyD d=pyD d':=by
 cases r with
 |non=>cases q;rfl
 |bl _=>cases q;rfl
 |int _=>cases q;rfl
 |str _ _=>cases q;rfl
 |ref _=>exact Cv n
 |dic _ _ _ _=>exact Cv n
 |dks _ _ _ _=>exact Cv n
 |fz _ _ _=>exact Cv n
 |fn _=>exact Cv n
 |tup h r =>
  cases q with
  |tup h' r' =>
   cases I.tuple_inj h h'
   exact Ba4 PyData.tuple (Et I r r' n n')
  |lst h' _ r'=>exact (Rep.tl I h (.inl h')).elim
  |kl h' r'=>exact (Rep.tl I h h'.sq).elim
  |_=>exact Cv n'
 |lst h _ r =>
  cases q with
  |tup h' r'=>exact (Rep.tl I h' (.inl h)).elim
  |lst h' _ r' =>
   cases I.list_inj (.inl h) (.inl h')
   exact Ba4 PyData.list (Et I r r' n n')
  |kl h' r' =>
   cases I.list_inj (.inl h) h'.sq
   exact Ba4 PyData.list (Et I r r' n n')
  |_=>exact Cv n'
 |kl h r =>
  cases q with
  |tup h' r'=>exact (Rep.tl I h' h.sq).elim
  |lst h' _ r' =>
   cases I.list_inj h.sq (.inl h')
   exact Ba4 PyData.list (Et I r r' n n')
  |kl h' r' =>
   cases I.list_inj h.sq h'.sq
   exact Ba4 PyData.list (Et I r r' n n')
  |_=>exact Cv n'
theorem Et {H:Hp}{s:Shared} (I:Inv X pins σ H s) {d d':List D}{v:List V} (r:Reps X.K H μ B d v) (q:Reps X.K H μ B d' v) (n:A1 d=true) (n':A1 d'=true):J6 d=J6 d':=by
 cases r with
 |nil=>cases q;rfl
 |cons h r =>
  cases q with
  |cons h' r' =>
  have e:=Bool.and_eq_true_iff.mp n
  have e':=Bool.and_eq_true_iff.mp n'
  rw[J6,J6,Tn I h h' e.1 e'.1,Et I r r' e.2 e'.2]
end
theorem Nj {pins:List (Addr×Obj)}{σ:St}{H:Hp}{s:Shared}{A:Around}{μ:List Addr}{B:Addr->Prop}{x:D}{vx:V}{ux:Value} (I:Inv X pins σ H s) (rx:Rep X.K H μ B x vx) (nx:Bt x=true) (rux:RelV vx ux) (hu:A.units+dep x < cLine)
  {ds:List D}{vs:List V}{us:List Value} (rs:Reps X.K H μ B ds vs) (ns:A1 ds=true) (rv:Vals vs us) :
  ∃ e:Value->Bool,(∀ y∈us,SeqAt.EqAt A s y ux (e y))/\us.any e=ds.any fun d=>deq d x:=by
 have key:∀ y,∃ b:Bool,∀ (i:Nat) (d:D),us[i]?=some y->ds[i]?=some d->b=deq d x:=fun y=>by
  by_cases h:∃ (i:Nat) (d:D),us[i]?=some y/\ds[i]?=some d
  ·obtain⟨i,d,h1,h2⟩:=h
   refine⟨deq d x,fun j d' h3 h4=>?_⟩
   obtain⟨v,e1,r1⟩:=rs.get h2
   obtain⟨v',e2,r2⟩:=rs.get h4
   obtain⟨u,e3,r3⟩:=rv.get e1
   obtain⟨u',e4,r4⟩:=rv.get e2
   rw[h1] at e3;cases e3
   rw[h3] at e4;cases e4
   cases r3.inj r4
   unfold deq
   rw[Tn I r1 r2 (Bx ns (Az8 h2)) (Bx ns (Az8 h4))]
  ·exact⟨false,fun i d h1 h2=>absurd ⟨i,d,h1,h2⟩ h⟩
 refine⟨fun y=>Classical.choose (key y),fun y hy=>?_,?_⟩
 ·obtain⟨i,hi⟩:=Bbp hy
  have hil:i < ds.length:=by
   have:=(List.getElem?_eq_some_iff.mp hi).1
   rw[rs.length,rv.length];exact this
  obtain⟨v,e1,r1⟩:=rs.get (i:=i) (d:=ds[i]) (by simp[hil])
  obtain⟨u,e3,r3⟩:=rv.get e1
  rw[hi] at e3;cases e3
  have ec:=Classical.choose_spec (key y) i ds[i] hi (by simp[hil])
  show SeqAt.EqAt A s y ux (Classical.choose (key y))
  rw[ec]
  exact L4 I r1 rx (Bx ns (Baq hil)) nx r3 rux hu
 ·have aux:∀ (f:Value->Bool) (ds:List D) (us:List Value),us.length=ds.length->(∀ (i:Nat) (y:Value) (d:D),us[i]?=some y->ds[i]?=some d->f y=deq d x)->us.any f=ds.any fun d=>deq d x:=fun f=>by
   intro ds
   induction ds with
   |nil=>intro us hl _;cases us with
    |nil=>rfl
    |cons _ _=>cases hl
   |cons d ds ih =>
    intro us hl h
    cases us with
    |nil=>cases hl
    |cons y us =>
     rw[Ba0,Ba0,h 0 y d rfl rfl,ih us (by simpa using hl) fun i y d h1 h2=>h (i+1) y d (by simpa using h1) (by simpa using h2)]
  exact aux _ ds us (by rw[rs.length,rv.length]) fun i y d h1 h2=>Classical.choose_spec (key y) i d h1 h2
theorem Zg {k:Nat} (hr:Room k X.A) {pins:List (Addr×Obj)}{s:Shared}{σ:St}{H:Hp}{μ:List Addr}{m:MH}{x y:D}{v u:V}{v' u':Value}{b:Bool}{R:Bool->Prop} (I:Inv X pins σ H s) (S:Sim X.K H μ m) (rx:Rep X.K H μ (·∈μ) x v) (ry:Rep X.K H μ (·∈μ) y u) (r1:RelV v v') (r2:RelV u u')
  (e:inO m x y=some b):(∃ z w t t',v'=.str w t/\u'=.str z t'/\b=!(Builtin.Str.occurrences z w 0 z.length 1).isEmpty) \/
   ∃ (p:Addr) (its:List Value) (e:Value->Bool),u'=.ref p/\(s.heap.IsList p its.toArray\/s.heap.IsTuple p its.toArray)/\(∀ y∈its,SeqAt.EqAt X.A.in1 s y v' (e y))/\its.any e=b:=by
 have seq:((B7 m x).bind fun x'=>(B7 m y).bind fun y'=>(sq [] y').bind fun ds=>if dep x'<=50 then some (ds.any fun d=>deq d x') else none)=some b ->
   ∃ (p:Addr) (its:List Value) (e:Value->Bool),u'=.ref p/\(s.heap.IsList p its.toArray\/s.heap.IsTuple p its.toArray)/\(∀ y∈its,SeqAt.EqAt X.A.in1 s y v' (e y))/\its.any e=b:=fun h=>by
  obtain⟨x',h1,h⟩:=bind_some h
  obtain⟨y',h2,h⟩:=bind_some h
  obtain⟨ds,h3,h⟩:=bind_some h
  split at h
  ·rename_i hd
   cases h
   obtain⟨a1,n1⟩:=Bd S rx h1
   obtain⟨a2,n2⟩:=Bd S ry h2
   have hu:=hr.units
   have hu':X.A.in1.units+dep x' < cLine:=by show X.A.units+1+dep x' < cLine;lia
   cases a2 with
   |@tup es a xs hq rs =>
    cases h3
    cases r2
    obtain⟨its,rv,p,_⟩:=I.tuple hq
    obtain⟨f,h4,h5⟩:=Nj I a1 n1 r1 hu' rs n2 rv
    exact⟨a,its,f,rfl,.inr p,h4,h5⟩
   |@lst es a xs hq _ rs =>
    cases h3
    cases r2
    obtain⟨its,rv,p,_⟩:=I.list (.inl hq)
    obtain⟨f,h4,h5⟩:=Nj I a1 n1 r1 hu' rs n2 rv
    exact⟨a,its,f,rfl,.inl p.isList,h4,h5⟩
   |@kl es a xs hq rs =>
    cases h3
    cases r2
    obtain⟨its,rv,p,_⟩:=I.list hq.sq
    obtain⟨f,h4,h5⟩:=Nj I a1 n1 r1 hu' rs n2 rv
    exact⟨a,its,f,rfl,.inl p.isList,h4,h5⟩
   |_=>cases h3
  ·cases h
 cases ry with
 |str z ok =>
  cases rx with
  |str w ok' =>
   cases e
   obtain⟨t,rfl⟩:=r1
   obtain⟨t',rfl⟩:=r2
   exact .inl ⟨z,w,t,t',rfl,rfl,rfl⟩
  |_=>cases e
 |non=>exact .inr (seq e)
 |bl _=>exact .inr (seq e)
 |int _=>exact .inr (seq e)
 |tup h1 h2=>exact .inr (seq e)
 |lst h1 h2 h3=>exact .inr (seq e)
 |kl h1 h2=>exact .inr (seq e)
 |dic _ _ _ _=>exact .inr (seq e)
 |dks _ _ _ _=>exact .inr (seq e)
 |fz _ _ _=>exact .inr (seq e)
 |fn _=>exact .inr (seq e)
 |ref h'=>exact .inr (seq e)
theorem Akw (hr:Room k X.A):OpM X (compareOp .In) oIn:=by
 intro pins s σ H μ m x y z v u v' u' Q I S rx ry r1 r2 e q
 obtain⟨b,h1,h2⟩:=bind_some e
 cases h2
 have fin:EP X pins σ Q (.bool b) s:=⟨.bl b,H,I,rfl,q _ H (Same.refl H) (.bl b)⟩
 rcases Zg (R:=fun _=>True) hr I S rx ry r1 r2 h1 with ⟨z,w,t,t',rfl,rfl,hb⟩|⟨p,its,f,rfl,hp,hf,hb⟩
 ·subst hb;exact in_str fin
 ·subst hb
  rcases hp with hp|hp
  ·exact SeqAt.in_listAt f hp (fun y hy=>hf y (by simpa using hy)) (by simpa using fin)
  ·exact SeqAt.in_tupleAt f hp (fun y hy=>hf y (by simpa using hy)) (by simpa using fin)
theorem C8 (hr:Room k X.A):OpM X (compareOp .NotIn) Bz:=by
 intro pins s σ H μ m x y z v u v' u' Q I S rx ry r1 r2 e q
 obtain⟨b,h1,h2⟩:=bind_some e
 cases h2
 have fin:EP X pins σ Q (.bool (!b)) s:=⟨.bl (!b),H,I,rfl,q _ H (Same.refl H) (.bl (!b))⟩
 rcases Zg (R:=fun _=>True) hr I S rx ry r1 r2 h1 with ⟨z,w,t,t',rfl,rfl,hb⟩|⟨p,its,f,rfl,hp,hf,hb⟩
 ·subst hb;exact notIn_str fin
 ·subst hb
  rcases hp with hp|hp
  ·exact SeqAt.notIn_listAt f hp (fun y hy=>hf y (by simpa using hy)) (by simpa using fin)
  ·exact SeqAt.notIn_tupleAt f hp (fun y hy=>hf y (by simpa using hy)) (by simpa using fin)
def MtD (X:Cx) (id:String) (o:D->List D->MH->Option D):Prop :=
 ∀ (pins:List (Addr×Obj)) (s:Shared) (σ:St) (H:Hp) (μ:List Addr) (m:MH) (x:D) (xs:List D) (z:D) (v:V) (vs:List V) (u:Value) (us:List Value) (Q:VK),Inv X pins σ H s->Sim X.K H μ m->Rep X.K H μ (·∈μ) x v->Reps X.K H μ (·∈μ) xs vs->RelV v u->Vals vs us->o x xs m=some z ->
  (∀ w H2,Same H H2->Rep X.K H2 μ (·∈μ) z w->Q w H2)->wpAny (model X.prog X.w) X.A (call (.builtin id) (u::us)) (EP X pins σ Q) X.xe s
noncomputable def Aty (T:String) (m:MH):D->Bool
 |.str _=>T == "str"
 |.lst _=>T == "list"
 |.kl _=>T == "list"
 |.ref n=>T == "list"&&(match m[n]? with|some (.lst _)=>true|_=>false)
 |_=>false
theorem Aml {K:W.Frag}{H:Hp}{μ:List Addr}{m:MH} (S:Sim K H μ m) {d:D}{v:V}{T:String} (r:Rep K H μ (·∈μ) d v) (h:Aty T m d=true):tyV K T v H:=by
 cases r with
 |str z ok=>exact beq_iff_eq.mp h
 |lst h1 h2 h3=>exact .inl ⟨beq_iff_eq.mp h,_,.inl h1⟩
 |kl h1 h2=>exact .inl ⟨beq_iff_eq.mp h,_,h1.sq⟩
 |@ref n a e =>
  obtain⟨h1,h2⟩:=Bool.and_eq_true_iff.mp h
  refine .inl ⟨beq_iff_eq.mp h1,?_⟩
  cases q:m[n]? with
  |none=>simp[q] at h2
  |some ob =>
   cases ob with
   |dcs _ _=>simp[q] at h2
   |dct _ _=>simp[q] at h2
   |lst ds =>
    obtain⟨xs,e1,e2⟩:=S.obj n a _ e q
    exact⟨xs,SqL.of e1⟩
 |_=>exact Cv h
def fMt (T:String) (o:D->List D->MH->Option D) (f:FE) (g:FL):FE:=fun env m=>(f env m).bind fun x=>if Aty T m x=true then (g env m).bind fun xs=>o x xs m else none
theorem Av2 (pa:PlainAttrs T) (slot:Slot T name id) (hty:typeOf (.builtin id)=pure (.type "method_descriptor")) (hm:MtD X id o) (ho:PD X o' f) (ha:PL X (e::es) g) (hbase:attributeBase o' name X.env (eval o' X.env)=eval o' X.env) (hfew:((backTo cpos (starEach (e::es) X.env)).all (fun x=>!x.1)&&(backToKw cpos (keywordEach [] X.env)).all (fun x=>x.1.isSome)
   &&decide ((e::es).length+([]:List Keyword).length+(if ([]:List Keyword).isEmpty then 0 else 1) < 30))=true) (hline:(apos.endLine == cpos.line)=true) (hs:starEach (e::es) X.env=(false,eval e X.env)::starEach es X.env) (hplain:(backTo cpos (starEach es X.env)).any (·.1)=false) :
  PD X (.Call (.Attribute o' name apos) (e::es) [] cpos) (fMt T o f g):=by
 intro pins s σ H Q I h
 obtain⟨env,μ,m,z,S,E,h,q⟩:=h
 obtain⟨d,h1,h⟩:=bind_some h
 split at h
 ·rename_i hrec
  obtain⟨xs,h2,h3⟩:=bind_some h
  refine wpAny_Call_method_late hbase hfew hline rfl (thn (ho pins s σ H (fun v H1=>Same H H1/\Rep X.K H1 μ (·∈μ) d v) I ⟨env,μ,m,d,S,E,h1,fun v H1 s1 r1=>⟨s1,r1⟩⟩) fun v s1 ⟨x,H1,I1,r1,s1',rx⟩=>?_)
  obtain⟨t1,t2⟩:=Ah7 I1 r1 (Aml (S.same s1') rx hrec)
  refine⟨T,id,pa,slot,hty,t1,t2,?_⟩
  have hA:=ha cpos pins s1 σ H1 (fun vs H2=>Same H1 H2/\Reps X.K H2 μ (·∈μ) xs vs) I1 ⟨env,μ,m,xs,S.same s1',E.same s1',h2,fun v H1 s1 r1=>⟨s1,r1⟩⟩
  rw[hs] at hA ⊢
  refine Calls.callWith_builtin (by show (false||(backTo cpos (starEach es X.env)).any (·.1))=false;rw[hplain]<;>rfl) (Calls.evalArgs_plain ?_)
  exact thn hA fun us s2 ⟨vs,H2,I2,r2,s2',rs⟩=>hm pins s2 σ H2 μ m d xs z x vs v us Q I2 (S.same (s1'.trans s2')) (rx.same s2') rs r1 r2 h3 fun w H3 s3 r3=>q w H3 ((s1'.trans s2').trans s3) r3
 ·exact Ad h
end
open Classical in
noncomputable section
inductive Out where
 |nx (env:Bc) (m:MH)|rt (d:D) (m:MH)|bk (env:Bc) (m:MH)|ct (env:Bc) (m:MH)
abbrev FS:=Bc->MH->Option Out
def FinS (K:W.Frag) (H:Hp) (μ:List Addr) (o:Out) (Dn:Ends):Prop:=match o with
 |.nx env' m'=>∀ σ' H' μ',Step H μ H' μ'->Sim K H' μ' m'->EnvRep K H' μ' σ' env'->Dn.nx σ' H'
 |.bk env' m'=>∀ σ' H' μ',Step H μ H' μ'->Sim K H' μ' m'->EnvRep K H' μ' σ' env'->Dn.bk σ' H'
 |.ct env' m'=>∀ σ' H' μ',Step H μ H' μ'->Sim K H' μ' m'->EnvRep K H' μ' σ' env'->Dn.ct σ' H'
 |.rt d m'=>∀ v H' μ',Step H μ H' μ'->Sim K H' μ' m'->Rep K H' μ' (·∈μ') d v->Dn.rt v H'
inductive tS (K:W.Frag) (g:FS) (Dn:Ends) (σ:St) (H:Hp):Prop
 |mk (env:Bc) (μ:List Addr) (m:MH) (o:Out) (S:Sim K H μ m) (E:EnvRep K H μ σ env) (h:g env m=some o) (q:FinS K H μ o Dn)
abbrev PSD (X:Cx) (st:Stmt) (g:FS):Prop:=PS X st (tS X.K g)
abbrev Ri (X:Cx) (st:List Stmt) (g:FS):Prop:=PSs X st (tS X.K g)
theorem PS.imp {t t':TS} (h:PS X e t) (i:∀ D σ H,t' D σ H->t D σ H):PS X e t':=fun pins s σ H D I q=>h pins s σ H D I (i D σ H q)
theorem PSs.imp {t t':TS} (h:PSs X e t) (i:∀ D σ H,t' D σ H->t D σ H):PSs X e t':=fun pins s σ H D I q=>h pins s σ H D I (i D σ H q)
theorem PG.imp {t t':TG} (h:PG X e t) (i:∀ v σ H Q,t' v σ H Q->t v σ H Q):PG X e t':=fun pins s σ H v u Q I r q=>h pins s σ H v u Q I r (i v σ H Q q)
theorem FinS.step {K:W.Frag}{H H1:Hp}{μ μ1:List Addr}{m m1:MH}{o:Out}{Dn:Ends} (S:Sim K H μ m) (S1:Sim K H1 μ1 m1) (s:Step H μ H1 μ1) (f:FinS K H μ o Dn):FinS K H1 μ1 o Dn:=by
 have hn:=s.none S S1
 cases o with
 |nx e m'=>exact fun σ' H' μ' s' S' E'=>f σ' H' μ' (s.trans s' hn) S' E'
 |bk e m'=>exact fun σ' H' μ' s' S' E'=>f σ' H' μ' (s.trans s' hn) S' E'
 |ct e m'=>exact fun σ' H' μ' s' S' E'=>f σ' H' μ' (s.trans s' hn) S' E'
 |rt e m'=>exact fun σ' H' μ' s' S' E'=>f σ' H' μ' (s.trans s' hn) S' E'
section
variable {X:Cx}{a b c e:Expr}{es:List Expr}{pos p p':Pos}{x:Str}{st:Stmt}{rest:List Stmt}
noncomputable def Eu:FS:=fun env m=>some (.nx env m)
noncomputable def Bh (f g:FS):FS:=fun env m=>(f env m).bind fun o=>match o with
 |.nx env' m'=>g env' m'
 |o=>some o
theorem Alz:Ri X [] Eu:=PSs.imp Al4 fun D σ H ⟨env,μ,m,o,S,E,h,f⟩=>by
 cases h
 exact f σ H μ Step.refl S E
theorem tS.seq {K:W.Frag}{f g:FS}{Dn:Ends}{σ:St}{H:Hp} (h:tS K (Bh f g) Dn σ H):Axg (tS K f) (tS K g) Dn σ H:=by
 obtain⟨env,μ,m,o,S,E,h,q⟩:=h
 obtain⟨o1,h1,h2⟩:=bind_some h
 refine⟨env,μ,m,o1,S,E,h1,?_⟩
 cases o1 with
 |nx env' m'=>exact fun σ' H' μ' s' S' E'=>⟨env',μ',m',o,S',E',h2,q.step S S' s'⟩
 |rt d m'=>cases h2;exact q
 |bk d m'=>cases h2;exact q
 |ct d m'=>cases h2;exact q
theorem Aep (h1:PSD X st f) (h2:Ri X rest g):Ri X (st::rest) (Bh f g):=PSs.imp (Aew h1 h2) fun _ _ _ h=>h.seq
theorem Al0 (h1:PSD X st f):Ri X [st] f:=Al5 h1
noncomputable def Dl (f:FE):FS:=fun env m=>(f env m).bind fun d=>some (.rt d m)
theorem Al1 (he:PD X e f):PSD X (.Return (some e) pos) (Dl f):=PS.imp (Aaz he) fun D σ H ⟨env,μ,m,o,S,E,h,q⟩=>by
 obtain⟨d,h1,h2⟩:=bind_some h
 cases h2
 exact⟨env,μ,m,d,S,E,h1,fun v H' s r=>q v H' μ (Step.of_same s) (S.same s) r⟩
theorem Sim.push {K:W.Frag}{H H':Hp}{μ:List Addr}{m:MH}{a:Addr}{ds:List D}{xs:List V} (S:Sim K H μ m) (s:Same H H') (hn:H a=none) (ha:H' a=some (.lst xs)) (r:Reps K H' μ (nw μ a) ds xs) :
  Step H μ H' (μ++[a])/\Sim K H' (μ++[a]) (m++[.lst ds]):=by
 have st:Step H μ H' (μ++[a]):=⟨⟨[a],rfl,fun b hb=>by rw[show b=a by simpa using hb];exact hn⟩,fun b o e _=>s b o e⟩
 have na:a∉μ:=S.nnone hn
 refine⟨st,?_,?_,fun n b o h1 h2=>?_⟩
 ·rw[List.nodup_append]
  exact⟨S.nd,by simp,fun b hb c hc z=>na (by rw[<- show c=a by simpa using hc,<- z];exact hb)⟩
 ·simp[S.len]
 ·by_cases hl:n < μ.length
  ·rw[Azz hl] at h1
   rw[Azz (by rw[<- S.len];exact hl)] at h2
   have q:=S.obj n b o h1 h2
   cases o with
   |lst es=>obtain⟨ys,q1,q2⟩:=q;exact⟨ys,s _ _ q1,q2.step S st⟩
   |dcs ks vs=>obtain⟨ys,q1,q2,q3⟩:=q;exact⟨ys,s _ _ q1,q2,q3.step S st⟩
   |dct ks vs=>obtain⟨ys,q1,q2,q3⟩:=q;exact⟨ys,s _ _ q1,q2,q3.step S st⟩
  ·have e:n=μ.length:=by
    have:=(List.getElem?_eq_some_iff.mp h1).1
    rw[Azx,Bcl] at this
    lia
   subst e
   rw[Baj (Azn _)] at h1
   rw[S.len,Baj (Azn _)] at h2
   simp at h1 h2
   subst h1
   subst h2
   refine⟨xs,ha,r.up (fun _ _ _ h=>h) (fun c u _ h b=>⟨h,fun z=>b ?_⟩) fun _ _ h=>st.ix h⟩
   rcases List.mem_append.mp z with z|z
   ·exact .inl z
   ·exact .inr (by simpa using z)
noncomputable def Lc (f:FL):FS:=fun env m=>(f env m).bind fun ds=>some (.rt (.ref m.length) (m++[.lst ds]))
theorem La {K:W.Frag}{H:Hp}{μ:List Addr}{B:Addr->Prop}{m:MH}{a:Addr} (hl:μ.length=m.length):Rep K H (μ++[a]) B (.ref m.length) (.ref a):=.ref (by rw[<- hl];simp)
theorem Aer {f:FL} (he:PF X e f):PSD X (.Return (some e) pos) (Lc f):=PS.imp (Aaz he) fun D σ H ⟨env,μ,m,o,S,E,h,q⟩=>by
 obtain⟨ds,h1,h2⟩:=bind_some h
 cases h2
 refine⟨env,μ,m,ds,S,E,h1,fun a xs H' s hn ha r=>?_⟩
 obtain⟨st,S'⟩:=S.push s hn ha r
 exact q _ H' _ st S' (La S.len)
noncomputable def sIf (t:FB) (f g:FS):FS:=fun env m=>(t env m).bind fun c=>if c=true then f env m else g env m
theorem Asc {t:FB} (hc:PB X c t) (ha:Ri X sa f) (hb:Ri X sb g):PSD X (.If c sa sb pos) (sIf t f g):=PS.imp (Asb hc ha hb) fun D σ H ⟨env,μ,m,o,S,E,h,q⟩=>by
 obtain⟨b,h1,h2⟩:=bind_some h
 refine⟨env,μ,m,b,S,E,h1,fun H1 s1=>?_⟩
 have st:=Step.of_same (μ:=μ) s1
 cases b with
 |true =>
  rw[Azp rfl] at h2
  exact Atq ⟨env,μ,m,o,S.same s1,E.same s1,h2,q.step S (S.same s1) st⟩
 |false =>
  rw[Azs Az7] at h2
  exact Atp ⟨env,μ,m,o,S.same s1,E.same s1,h2,q.step S (S.same s1) st⟩
abbrev FG:=D->Bc->Option Bc
inductive tG (K:W.Frag) (g:FG) (v:V) (σ:St) (H:Hp) (Q:St->Hp->Prop):Prop
 |mk (env:Bc) (μ:List Addr) (m:MH) (d:D) (env':Bc) (S:Sim K H μ m) (E:EnvRep K H μ σ env) (r:Rep K H μ (·∈μ) d v) (h:g d env=some env') (q:∀ σ',EnvRep K H μ σ' env'->Q σ' H)
inductive tGs (K:W.Frag) (g:List D->Bc->Option Bc) (vs:List V) (σ:St) (H:Hp) (Q:St->Hp->Prop):Prop
 |mk (env:Bc) (μ:List Addr) (m:MH) (ds:List D) (env':Bc) (S:Sim K H μ m) (E:EnvRep K H μ σ env) (r:Reps K H μ (·∈μ) ds vs) (h:g ds env=some env') (q:∀ σ',EnvRep K H μ σ' env'->Q σ' H)
abbrev PGD (X:Cx) (e:Expr) (g:FG):Prop:=PG X e (tG X.K g)
abbrev Anm (X:Cx) (es:List Expr) (g:List D->Bc->Option Bc):Prop:=PGs X es (tGs X.K g)
theorem PGs.imp {X:Cx}{e:List Expr}{t t':TGs} (h:PGs X e t) (i:∀ v σ H Q,t' v σ H Q->t v σ H Q):PGs X e t':=fun pins s σ H v u Q I r q=>h pins s σ H v u Q I r (i v σ H Q q)
noncomputable def Au (i:Nat):FG:=fun d env=>some (env.set i (some d))
theorem N3 (hN:X.N.Nodup) (hi:X.N[i]?=some x) (hx:Loc X.env.scope x) (hf:X.fn x=true\/X.env.scope.names.lookup x=some .local):PGD X (.Name x pos) (Au i):=PG.imp (Alm hN hi hx hf) fun v σ H Q ⟨env,μ,m,d,env',S,E,r,h,q⟩=>by
 cases h
 exact q _ (E.set i r)
noncomputable def Ng:List D->Bc->Option Bc:=fun ds env=>match ds with|[]=>some env|_=>none
noncomputable def B4 (g:FG) (h:List D->Bc->Option Bc):List D->Bc->Option Bc:=fun ds env=>match ds with
 |d::ds=>(g d env).bind fun env'=>h ds env'
 |[]=>none
theorem Aej:Anm X [] Ng:=PGs.imp Alo fun v σ H Q ⟨env,μ,m,ds,env',S,E,r,h,q⟩=>by
 cases r with
 |nil=>cases h;exact⟨rfl,q _ E⟩
 |cons _ _=>exact Ad h
theorem Aaw {g:FG}{h:List D->Bc->Option Bc} (h1:PGD X e g) (h2:Anm X es h) (hs:(assignEach (e::es) X.env).map (·.2)=assign e X.env::(assignEach es X.env).map (·.2)):Anm X (e::es) (B4 g h) :=
 PGs.imp (Aei h1 h2 hs) fun v σ H Q ⟨env,μ,m,ds,env',S,E,r,h,q⟩=>by
  cases r with
  |nil=>exact Ad h
  |cons r rs =>
   obtain⟨env1,h1,h2⟩:=bind_some h
   exact⟨_,_,rfl,env,μ,m,_,env1,S,E,r,h1,fun σ' E'=>⟨env1,μ,m,_,env',S,E',rs,h2,q⟩⟩
noncomputable def Hb (n:Nat) (g:List D->Bc->Option Bc):FG:=fun d env=>match d with
 |.tup ds=>if ds.length=n then g ds env else none
 |_=>none
theorem Aln (hc:X.calm=true) (h:Anm X es g) (hn:(assignEach es X.env).length=n) (hst:(assignEach es X.env).findIdx? (·.1)=none):PGD X (.Tuple es k pos) (Hb n g) :=
 PG.imp (Ar9 hc h hn hst) fun v σ H Q ⟨env,μ,m,d,env',S,E,r,h,q⟩=>by
  cases r with
  |@tup ds a xs hq rs =>
   unfold Hb at h
   simp only at h
   split at h
   ·rename_i hl
    exact⟨a,xs,rfl,hq,by rw[<- rs.length];exact hl,env,μ,m,ds,env',S,E,rs,h,q⟩
   ·exact Ad h
  |_=>exact Ad h
noncomputable def Da (i:Nat) (f:FE):FS:=fun env m=>(f env m).bind fun d=>some (.nx (env.set i (some d)) m)
theorem Aa2 (hN:X.N.Nodup) (hi:X.N[i]?=some x) (hx:Loc X.env.scope x) (he:PD X e f) (hs:swapsWith e (some (.Name x p')) pos.line X.env=pure false) (hf:X.fn x=true\/X.env.scope.names.lookup x=some .local) :
  PSD X (.Assign [.Name x p'] e pos) (Da i f):=PS.imp (Aa0 hN hi hx he hs hf) fun D σ H ⟨env,μ,m,o,S,E,h,q⟩=>by
 obtain⟨d,h1,h2⟩:=bind_some h
 cases h2
 exact⟨env,μ,m,d,S,E,h1,fun v H' s r=>q _ H' μ (Step.of_same s) (S.same s) ((E.same s).set i r)⟩
noncomputable def Gf (i:Nat) (f:FL):FS:=fun env m=>(f env m).bind fun ds=>some (.nx (env.set i (some (.ref m.length))) (m++[.lst ds]))
theorem Tf {i:Nat}{f:FL} (hN:X.N.Nodup) (hi:X.N[i]?=some x) (hx:Loc X.env.scope x) (he:PF X e f) (hs:swapsWith e (some (.Name x p')) pos.line X.env=pure false) (hf:X.fn x=true\/X.env.scope.names.lookup x=some .local) :
  PSD X (.Assign [.Name x p'] e pos) (Gf i f):=PS.imp (Aa0 hN hi hx he hs hf) fun D σ H ⟨env,μ,m,o,S,E,h,q⟩=>by
 obtain⟨ds,h1,h2⟩:=bind_some h
 cases h2
 refine⟨env,μ,m,ds,S,E,h1,fun a xs H' s hn ha r=>?_⟩
 obtain⟨st,S'⟩:=S.push s hn ha r
 exact q _ H' _ st S' ((E.step S st).set i (La S.len))
noncomputable def Asy (f:FE) (g:FG):FS:=fun env m=>(f env m).bind fun d=>(g d env).bind fun env'=>some (.nx env' m)
theorem Alx (he:PD X e f) (hg:PGD X tg g) (hs:swapsWithSole [tg] e pos.line X.env=pure false) (hw:swappedStores [tg] e X.env=pure none) (h1:(assignEach [tg] X.env).map (·.2)=[assign tg X.env]) :
  PSD X (.Assign [tg] e pos) (Asy f g):=PS.imp (U0 he hg hs hw h1) fun D σ H ⟨env,μ,m,o,S,E,h,q⟩=>by
 obtain⟨d,h1,h2⟩:=bind_some h
 obtain⟨env',hg',h3⟩:=bind_some h2
 cases h3
 exact⟨env,μ,m,d,S,E,h1,fun v H' s r=>⟨env,μ,m,d,env',S.same s,E.same s,r,hg',fun σ' E'=>q σ' H' μ (Step.of_same s) (S.same s) E'⟩⟩
end
end
open Classical
noncomputable section
section
variable {X:Cx}{a b c e:Expr}{es:List Expr}{pos p p':Pos}{x:Str}{st:Stmt}{rest:List Stmt}
noncomputable def Hu (chk:MH->Prop) (g:FG) (b:FS):List D->Bc->MH->Option Out
 |[],env,m=>if chk m then some (.nx env m) else none
 |d::ds,env,m=>if chk m then (g d env).bind fun env1=>(b env1 m).bind fun o=>match o with
   |.nx env2 m2=>Hu chk g b ds env2 m2
   |.ct env2 m2=>Hu chk g b ds env2 m2
   |.bk env2 m2=>some (.nx env2 m2)
   |.rt d m2=>some (.rt d m2)
  else none
structure Src (K:W.Frag) (J:It) (all:List D) (chk:MH->Prop) (src:Hp->List Addr->MH->Prop):Prop where
 go:∀ H μ m (i:Nat) d,Sim K H μ m->src H μ m->chk m->all[i]?=some d->J.go i H/\∀ x H',J.yld i H x H'->Same H H'/\Rep K H' μ (·∈μ) d x
 stop:∀ H μ m,Sim K H μ m->src H μ m->chk m->J.stop all.length H
 keep:∀ H μ m H' μ' m',src H μ m->Sim K H μ m->Step H μ H' μ'->Sim K H' μ' m'->src H' μ' m'
theorem Ui {K:W.Frag}{J:It}{all:List D}{chk:MH->Prop}{src:Hp->List Addr->MH->Prop} (hs:Src K J all chk src) {g:FG}{b:FS}{Dn:Ends}{σ:St}{H:Hp}{env:Bc}{μ:List Addr}{m:MH}{o:Out}
  (S:Sim K H μ m) (E:EnvRep K H μ σ env) (h0:src H μ m) (h:Hu chk g b all env m=some o) (f:FinS K H μ o Dn) :
  ∃ W:Nat->Nat->St->Hp->Prop,(∃ m,W 0 m σ H)/\∀ i m σ H,W i m σ H ->
   (J.stop i H/\Dn.nx σ H)\/(J.go i H/\∃ N:St->Hp->Prop,(∀ σ' H',N σ' H'->∃ m',m' < m/\W (i+1) m' σ' H')/\∀ x H',J.yld i H x H'->tG K g x σ H' fun σ2 H2=>tS K b { Dn with nx:=N,ct:=N,bk:=Dn.nx } σ2 H2):=by
 refine⟨fun i k σ H=>k=all.length - i/\i<=all.length/\∃ env μ m,Sim K H μ m/\EnvRep K H μ σ env/\src H μ m/\Hu chk g b (all.drop i) env m=some o/\FinS K H μ o Dn,⟨all.length,by simp,Az5 _,env,μ,m,S,E,h0,by simpa using h,f⟩,?_⟩
 rintro i k σ1 H1 ⟨rfl,hi,env1,μ1,m1,S1,E1,h1,e1,f1⟩
 by_cases hlt:i < all.length
 ·have hd:all.drop i=all[i]::all.drop (i+1):=Bau hlt
  rw[hd] at e1
  unfold Hu at e1
  split at e1
  ·rename_i hc
   obtain⟨env2,e2,e1⟩:=bind_some e1
   obtain⟨o2,e3,e4⟩:=bind_some e1
   obtain⟨go,yl⟩:=hs.go H1 μ1 m1 i all[i] S1 h1 hc (by simp[hlt])
   refine .inr ⟨go,fun σ' H'=>all.length - (i+1) < all.length - i/\i+1<=all.length/\∃ env μ m,Sim K H' μ m/\EnvRep K H' μ σ' env/\src H' μ m/\Hu chk g b (all.drop (i+1)) env m=some o/\FinS K H' μ o Dn,fun σ' H' ⟨l1,l2,q⟩=>⟨_,l1,rfl,l2,q⟩,fun x H2 y=>?_⟩
   obtain⟨s2,r2⟩:=yl x H2 y
   have S2:=S1.same s2
   refine⟨env1,μ1,m1,all[i],env2,S2,E1.same s2,r2,e2,fun σ' E'=>⟨env2,μ1,m1,o2,S2,E',e3,?_⟩⟩
   have f2:=f1.step S1 S2 (Step.of_same s2)
   have h2:=hs.keep H1 μ1 m1 H2 μ1 m1 h1 S1 (Step.of_same s2) S2
   cases o2 with
   |nx env3 m3=>exact fun σ3 H3 μ3 st3 S3 E3=>⟨by lia,hlt,env3,μ3,m3,S3,E3,hs.keep _ _ _ _ _ _ h2 S2 st3 S3,e4,f2.step S2 S3 st3⟩
   |ct env3 m3=>exact fun σ3 H3 μ3 st3 S3 E3=>⟨by lia,hlt,env3,μ3,m3,S3,E3,hs.keep _ _ _ _ _ _ h2 S2 st3 S3,e4,f2.step S2 S3 st3⟩
   |bk env3 m3=>cases e4;exact f2
   |rt d m3=>cases e4;exact f2
  ·cases e1
 ·have e:i=all.length:=by lia
  subst e
  rw[List.drop_length] at e1
  unfold Hu at e1
  split at e1
  ·rename_i hc
   cases e1
   exact .inl ⟨hs.stop H1 μ1 m1 S1 h1 hc,f1 σ1 H1 μ1 Step.refl S1 E1⟩
  ·exact Ad e1
structure Wk where
 all:List D
 chk:MH->Prop
abbrev FW:=Bc->MH->Option Wk
inductive tW (K:W.Frag) (f:FW) (σ:St) (H:Hp) (R:It->Hp->Prop):Prop
 |mk (env:Bc) (μ:List Addr) (m:MH) (w:Wk) (S:Sim K H μ m) (E:EnvRep K H μ σ env) (h:f env m=some w) (q:∀ H' J src,Same H H'->Src K J w.all w.chk src->src H' μ m->R J H')
abbrev PW' (X:Cx) (tg e:Expr) (f:FW):Prop:=PI X tg e (tW X.K f)
def Lo (f:FW) (g:FG) (b:FS):FS:=fun env m=>(f env m).bind fun w=>Hu w.chk g b w.all env m
theorem PI.imp {t t':TI} (h:PI X tg e t) (i:∀ σ H Q,t' σ H Q->t σ H Q):PI X tg e t':=fun pins s σ H Q I q=>h pins s σ H Q I (i σ H Q q)
theorem Aly {tg iter:Expr}{body:List Stmt}{f:FW}{g:FG}{b:FS} (hp:PassesOwn (model X.prog X.w) X.A X.env X.xe) (hc:X.calm=true) (hi:PW' X tg iter f) (hg:PGD X tg g) (hb:Ri X body b)
  (hs:∀ x,foldedSetIterable iter X.env x=pure x):PSD X (.For tg iter body [] pos) (Lo f g b):=PS.imp (Ag5 hp hc hi hg hb hs) fun D σ H ⟨env,μ,m,o,S,E,h,q⟩=>by
 obtain⟨w,h1,h2⟩:=bind_some h
 exact⟨env,μ,m,w,S,E,h1,fun H' J src s hsrc h0=>Ui hsrc (S.same s) (E.same s) h0 h2 (q.step S (S.same s) (Step.of_same s))⟩
def Bv:MH->Prop:=fun _=>True
theorem Am3 {K:W.Frag}{a:Addr}{ds:List D}:Src K (Itt K a) ds Bv (fun H μ m=>Rep K H μ (·∈μ) (.tup ds) (.ref a)) where
 go:=fun H μ m i d S h _ e=>by
  cases h with
  |tup hq rs =>
   obtain⟨v,e1,r⟩:=rs.get e
   exact⟨⟨_,v,hq,e1⟩,fun x H' ⟨h1,h2⟩=>by subst h1;rw[h2 _ hq] at e1;cases e1;exact⟨Same.refl _,r⟩⟩
 stop:=fun H μ m S h _=>by
  cases h with
  |tup hq rs=>exact⟨_,hq,by rw[rs.length];exact Azn _⟩
 keep:=fun H μ m H' μ' m' h S st S'=>h.step S st
theorem Am0 {K:W.Frag}{a:Addr}{ds:List D}:Src K (Itl K a) ds Bv (fun H μ m=>Rep K H μ (·∈μ) (.lst ds) (.ref a)) where
 go:=fun H μ m i d S h _ e=>by
  cases h with
  |lst hq _ rs =>
   obtain⟨v,e1,r⟩:=rs.get e
   exact⟨⟨_,v,.inl hq,e1⟩,fun x H' ⟨h1,h2⟩=>by subst h1;rw[h2 _ (.inl hq)] at e1;cases e1;exact⟨Same.refl _,r⟩⟩
 stop:=fun H μ m S h _=>by
  cases h with
  |lst hq _ rs=>exact⟨_,.inl hq,by rw[rs.length];exact Azn _⟩
 keep:=fun H μ m H' μ' m' h S st S'=>h.step S st
theorem As3 {K:W.Frag}{a:Addr}{ds:List D}:Src K (Itl K a) ds Bv (fun H μ m=>Rep K H μ (·∈μ) (.kl ds) (.ref a)) where
 go:=fun H μ m i d S h _ e=>by
  cases h with
  |kl hq rs =>
   obtain⟨v,e1,r⟩:=rs.get e
   exact⟨⟨_,v,hq.sq,e1⟩,fun x H' ⟨h1,h2⟩=>by subst h1;rw[h2 _ hq.sq] at e1;cases e1;exact⟨Same.refl _,r⟩⟩
 stop:=fun H μ m S h _=>by
  cases h with
  |kl hq rs=>exact⟨_,hq.sq,by rw[rs.length];exact Azn _⟩
 keep:=fun H μ m H' μ' m' h S st S'=>h.step S st
theorem Am1 {K:W.Frag}{a:Addr}{ds:List D}{n:Nat}:Src K (Itl K a) ds (fun m=>m[n]?=some (.lst ds)) (fun H μ m=>μ[n]?=some a) where
 go:=fun H μ m i d S h hc e=>by
  obtain⟨xs,e1,rs⟩:=S.obj n a _ h hc
  obtain⟨v,e2,r⟩:=rs.get e
  exact⟨⟨_,v,SqL.of e1,e2⟩,fun x H' ⟨h1,h2⟩=>by subst h1;rw[h2 _ (SqL.of e1)] at e2;cases e2;exact⟨Same.refl _,r⟩⟩
 stop:=fun H μ m S h hc=>by
  obtain⟨xs,e1,rs⟩:=S.obj n a _ h hc
  exact⟨_,SqL.of e1,by rw[rs.length];exact Azn _⟩
 keep:=fun H μ m H' μ' m' h S st S'=>st.ix h
noncomputable def C4 (lo:Int) (n:Nat):List D:=(List.range n).map fun (i:Nat)=>.int (lo+i)
theorem P9 {K:W.Frag}{lo:Int}{n:Nat}:Src K (Itr lo n) (C4 lo n) Bv (fun _ _ _=>True) where
 go:=fun H μ m i d S h _ e=>by
  unfold C4 at e
  rw[Az3] at e
  cases q:(List.range n)[i]? with
  |none=>rw[q] at e;cases e
  |some j =>
   rw[q] at e
   cases e
   have hi:=(List.getElem?_eq_some_iff.mp q).1
   rw[List.length_range] at hi
   rw[List.getElem?_range hi] at q
   cases q
   exact⟨hi,fun x H' ⟨h1,h2⟩=>by subst h1;subst h2;exact⟨Same.refl _,.int _⟩⟩
 stop:=fun H μ m S h _=>by show n<=(C4 lo n).length;unfold C4;simp
 keep:=fun H μ m H' μ' m' h S st S'=>trivial
def Lj (g:FL):FW:=fun env m=>(g env m).bind fun ds=>match ds with
 |[.int j]=>if -(2 ^ 62)<=j/\j < 2 ^ 62 then some ⟨C4 0 j.toNat,Bv⟩ else none
 |_=>none
theorem Aba (hg:Gl X "range") (hm:X.mg "range"=none) (ha:PL X [a] g) (hs:starEach [a] X.env=[(false,eval a X.env)]):PW' X tg (.Call (.Name "range" p) [a] [] pos) (Lj g):=PI.imp (Py hg hm ha hs) fun σ H R ⟨env,μ,m,w,S,E,h,q⟩=>by
 obtain⟨ds,h1,h2⟩:=bind_some h
 refine⟨env,μ,m,ds,S,E,h1,fun vs H' s rs=>?_⟩
 obtain⟨j,rfl⟩:∃ j,ds=[.int j]:=by
  cases ds with
  |nil=>cases h2
  |cons d ds =>
   cases ds with
   |cons _ _=>cases d<;>cases h2
   |nil =>
    cases d with
    |int j=>exact⟨j,rfl⟩
    |_=>cases h2
 simp only at h2
 split at h2
 ·rename_i hc
  cases h2
  obtain⟨v,rfl,r⟩:=rs.one
  cases r
  exact⟨j,rfl,hc.1,hc.2,q H' _ _ s P9 trivial⟩
 ·exact Ad h2
noncomputable def E8 (c:FB) (b:FS):Nat->Bc->MH->Option Out
 |0,_,_=>none
 |k+1,env,m=>(c env m).bind fun t=>if t=true then (b env m).bind fun o=>match o with
   |.nx env2 m2=>E8 c b k env2 m2
   |.ct env2 m2=>E8 c b k env2 m2
   |.bk env2 m2=>some (.nx env2 m2)
   |.rt d m2=>some (.rt d m2)
  else some (.nx env m)
theorem Aa4 {f:FB}{b:FS}{body:List Stmt} (k:Nat) (hp:PassesOwn (model X.prog X.w) X.A X.env X.xe) (hc:PB X c f) (hb:Ri X body b):PSD X (.While c body [] pos) (E8 f b k):=PS.imp (Aeo hp hc hb) fun D σ H ⟨env,μ,m,o,S,E,h,q⟩=>by
 refine⟨fun k σ H=>∃ env μ m,Sim X.K H μ m/\EnvRep X.K H μ σ env/\E8 f b k env m=some o/\FinS X.K H μ o D,⟨k,env,μ,m,S,E,h,q⟩,?_⟩
 rintro k σ1 H1 ⟨env1,μ1,m1,S1,E1,e1,f1⟩
 cases k with
 |zero=>cases e1
 |succ k =>
  unfold E8 at e1
  obtain⟨t,e2,e3⟩:=bind_some e1
  refine⟨env1,μ1,m1,t,S1,E1,e2,fun H2 s2=>?_⟩
  have S2:=S1.same s2
  have f2:=f1.step S1 S2 (Step.of_same s2)
  cases t with
  |true =>
   rw[Azp rfl] at e3
   obtain⟨o2,e3,e4⟩:=bind_some e3
   refine Atq ⟨fun σ' H'=>∃ env μ m,Sim X.K H' μ m/\EnvRep X.K H' μ σ' env/\E8 f b k env m=some o/\FinS X.K H' μ o D,fun σ' H' q=>⟨k,Bcg k,q⟩,env1,μ1,m1,o2,S2,E1.same s2,e3,?_⟩
   cases o2 with
   |nx env3 m3=>exact fun σ3 H3 μ3 st3 S3 E3=>⟨env3,μ3,m3,S3,E3,e4,f2.step S2 S3 st3⟩
   |ct env3 m3=>exact fun σ3 H3 μ3 st3 S3 E3=>⟨env3,μ3,m3,S3,E3,e4,f2.step S2 S3 st3⟩
   |bk env3 m3=>cases e4;exact f2
   |rt d m3=>cases e4;exact f2
  |false =>
   rw[Azs Az7] at e3
   cases e3
   exact Atp (f2 σ1 H2 μ1 Step.refl S2 (E1.same s2))
end
mutual
/-- without lists -/
def Bg:D->Bool
 |.lst _=>false
 |.kl _=>false
 |.ref _=>false
 |.dic _ _=>false
 |.dks _ _=>false
 |.fz _ _ _ _=>false
 |.fn _ _=>false
 |.tup ds=>Bf ds
 |_=>true
def Bf:List D->Bool
 |[]=>true
 |d::ds=>Bg d&&Bf ds
end
noncomputable def xp1 (m:MH):D->Option D
 |.ref n=>match m[n]? with
  |some (.lst ds)=>if Bf ds=true then some (.lst ds) else none
  |_=>none
 |_=>none
def xpL (m:MH):List D->Option (List D)
 |[]=>some []
 |d::ds=>(xp1 m d).bind fun e=>(xpL m ds).bind fun es=>some (e::es)
mutual
/-- what is handed back: the mirror's own lists,as they stand -/
def Cg (m:MH):D->Option D
 |.ref n=>match m[n]? with
  |some (.lst ds)=>if Bf ds=true then some (.lst ds) else (xpL m ds).bind fun es=>some (.lst es)
  |some (.dct ks vs)=>if Bf vs=true then some (.dic ks vs) else none
  |some (.dcs ks vs)=>if Bf vs=true then some (.dks ks vs) else none
  |_=>none
 |.lst _=>none
 |.kl _=>none
 |.dic _ _=>none
 |.dks _ _=>none
 |.fz _ _ _ _=>none
 |.fn _ _=>none
 |.tup ds=>(Dx m ds).bind fun es=>some (.tup es)
 |.non=>some .non
 |.bl b=>some (.bl b)
 |.int i=>some (.int i)
 |.str x=>some (.str x)
def Dx (m:MH):List D->Option (List D)
 |[]=>some []
 |d::ds=>(Cg m d).bind fun e=>(Dx m ds).bind fun es=>some (e::es)
end
section
variable {K:W.Frag}{H H':Hp}{μ μ':List Addr}{B B':Addr->Prop}{m:MH}
mutual
theorem Rep.nolst {d:D}{v:V} (r:Rep K H μ B d v) (e:Bg d=true):Rep K H μ' B' d v:=by
 cases r with
 |non=>exact .non
 |bl b=>exact .bl b
 |int b=>exact .int b
 |str b h=>exact .str b h
 |tup h r=>exact .tup h (Reps.nolst r e)
 |_=>exact Cv e
theorem Reps.nolst {ds:List D}{vs:List V} (r:Reps K H μ B ds vs) (e:Bf ds=true):Reps K H μ' B' ds vs:=by
 cases r with
 |nil=>exact .nil
 |cons h r =>
  have e':=(Bool.and_eq_true_iff.mp e)
  exact .cons (Rep.nolst h e'.1) (Reps.nolst r e'.2)
end
theorem Ana (S:Sim K H μ m) (hn:∀ a∈μ,B a->False) {d d':D}{v:V} (r:Rep K H μ (·∈μ) d v) (h:xp1 m d=some d'):Rep K H [] B d' v:=by
 cases r with
 |@ref n a e =>
  unfold xp1 at h
  cases q:m[n]? with
  |none=>simp[q] at h
  |some o =>
   simp only[q] at h
   cases o with
   |dcs _ _=>exact Ad h
   |dct _ _=>exact Ad h
   |lst ds =>
    simp only at h
    split at h
    ·rename_i hl
     cases h
     obtain⟨xs,e1,e2⟩:=S.obj n a _ e q
     exact .lst (.inl e1) (hn a (Az8 e)) (e2.nolst hl)
    ·exact Ad h
 |_=>exact Ad h
theorem Anb (S:Sim K H μ m) (hn:∀ a∈μ,B a->False) {ds ds':List D}{vs:List V} (r:Reps K H μ (·∈μ) ds vs) (h:xpL m ds=some ds'):Reps K H [] B ds' vs:=by
 induction ds generalizing ds' vs with
 |nil=>cases r;cases h;exact .nil
 |cons d ds ih =>
  cases r with
  |cons r rs =>
  obtain⟨e,h1,h⟩:=bind_some h
  obtain⟨es,h2,h⟩:=bind_some h
  cases h
  exact .cons (Ana S hn r h1) (ih rs h2)
mutual
theorem Ll (S:Sim K H μ m) (hn:∀ a∈μ,B a->False):∀ {d d':D}{v:V},Rep K H μ (·∈μ) d v->Cg m d=some d'->Rep K H [] B d' v
 |_,_,_,.non,h=>by cases h;exact .non
 |_,_,_,.bl b,h=>by cases h;exact .bl b
 |_,_,_,.int b,h=>by cases h;exact .int b
 |_,_,_,.str b ok,h=>by cases h;exact .str b ok
 |_,_,_,.tup hq r,h=>by
  rw[Cg] at h
  obtain⟨es,h1,h2⟩:=bind_some h
  cases h2
  exact .tup hq (M4 S hn r h1)
 |_,_,_,.lst _ _ _,h=>nomatch h
 |_,_,_,.kl _ _,h=>Ad h
 |_,_,_,.dic _ _ _ _,h=>Ad h
 |_,_,_,.fn _,h=>nomatch h
 |_,_,_,.dks _ _ _ _,h=>nomatch h
 |_,_,_,.fz _ _ _,h=>nomatch h
 |.ref n,_,_,.ref (a:=a) e,h=>by
  rw[Cg] at h
  cases q:m[n]? with
  |none=>simp[q] at h
  |some o =>
   simp only[q] at h
   cases o with
   |dct ks vs =>
    simp only at h
    split at h
    ·rename_i hl
     cases h
     obtain⟨xs,e1,e2,e3⟩:=S.obj n a _ e q
     exact .dic (.inl e1) (hn a (Az8 e)) e2 (e3.nolst hl)
    ·cases h
   |dcs ks vs =>
    simp only at h
    split at h
    ·rename_i hl
     cases h
     obtain⟨xs,e1,e2,e3⟩:=S.obj n a _ e q
     exact .dks (.inl e1) (hn a (Az8 e)) e2 (e3.nolst hl)
    ·cases h
   |lst ds =>
    simp only at h
    split at h
    ·rename_i hl
     cases h
     obtain⟨xs,e1,e2⟩:=S.obj n a _ e q
     exact .lst (.inl e1) (hn a (Az8 e)) (e2.nolst hl)
    ·obtain⟨es,h1,h⟩:=bind_some h
     cases h
     obtain⟨xs,e1,e2⟩:=S.obj n a _ e q
     exact .lst (.inl e1) (hn a (Az8 e)) (Anb S hn e2 h1)
theorem M4 (S:Sim K H μ m) (hn:∀ a∈μ,B a->False):∀ {ds ds':List D}{vs:List V},Reps K H μ (·∈μ) ds vs->Dx m ds=some ds'->Reps K H [] B ds' vs
 |_,_,_,.nil,h=>by cases h;exact .nil
 |_,_,_,.cons r rs,h=>by
  rw[Dx] at h
  obtain⟨d',h1,h⟩:=bind_some h
  obtain⟨ds',h2,h⟩:=bind_some h
  cases h
  exact .cons (Ll S hn r h1) (M4 S hn rs h2)
end
end
def old (H H':Hp):Addr->Prop:=fun a=>H a≠none\/∃ o u,H' a=some (.frz o u)
inductive spP (K:W.Frag) (n:Nat) (fn:List D->Option D) (vs:List V) (H:Hp) (Q:VK) (E:XK):Prop
 |mk (ds:List D) (d:D) (r:Reps K H [] (fun _=>False) ds vs) (l:ds.length=n) (h:fn ds=some d) (q:∀ v H',Same H H'->Rep K H' [] (old H H') d v->Q v H')
noncomputable def Gj (n:Nat) (g:FS):List D->Option D:=fun ds=>(g (ds.map some++List.replicate (n - ds.length) none) []).bind fun o=>match o with
 |.rt d m=>Cg m d
 |.nx _ _=>some .non
 |_=>none
theorem Ek {K:W.Frag}{H:Hp}{N:List Str}{ds:List D}{vs:List V} (r:Reps K H [] (fun _=>False) ds vs):EnvRep K H [] (Eo N vs) (ds.map some++List.replicate (N.length - ds.length) none):=by
 refine⟨by unfold Eo;simp[r.length],fun i d e=>?_⟩
 by_cases hi:i < ds.length
 ·rw[Azz (by simpa using hi),Az3] at e
  cases q:ds[i]? with
  |none=>rw[q] at e;cases e
  |some d' =>
   rw[q] at e
   cases e
   obtain⟨v,h1,h2⟩:=r.get q
   refine⟨v,?_,h2.up (fun _ _ _ h=>h) (fun _ _ _ h _=>⟨h,by simp⟩) fun _ _ h=>h⟩
   unfold Eo
   rw[Azz (by simpa [r.length] using hi),Az3,h1]
   rfl
 ·rw[Baj (by simpa using hi),Bbj] at e
  split at e<;>cases e
theorem Ajm {P:Program}{w:World}{K:W.Frag}{mg:Str->Option Value}{base:Heap}{x qual:Str}{st:Stmt}{f:Addr}{fd:FuncData}{N ps:List Str}{k:Nat}{g:FS} (F:Fun K x qual st f fd) (S:FnScope N ps (Aq st))
  (hbody:∀ (cdv:Value) (A:Around) (outer:List Env) (s:Shared) (H:Hp) (E:XK),Room k (A.deeper (envOfC qual (Aq st) s.heap.objs.size f cdv)) ->
   Ri (Nf CX0 P w K mg base N qual (Aq st) f cdv A outer s H E).nox (Bw st) g):FnOk P w K mg base CX0 (k+1) f fd ps (spP K ps.length (Gj N.length g)):=by
 refine F.ok S (fun vs H Q E h=>?_) (fun cdv A outer s H vs Q E hr h=>?_)
 ·obtain⟨ds,d,r,hl,_⟩:=h
  rw[<- r.length];exact hl
 ·obtain⟨ds,d,r,hl,h,q⟩:=h
  refine⟨_,hbody cdv A outer s H E hr,?_⟩
  obtain⟨o,h1,h2⟩:=bind_some h
  have S0:Sim K H [] []:=⟨Bbe,rfl,fun n a o h=>by simp at h⟩
  refine⟨_,[],[],o,S0,Ek r,h1,?_⟩
  have fin:∀ {H':Hp}{μ':List Addr}{m':MH},Step H [] H' μ'->Sim K H' μ' m'->Same H H'/\∀ a∈μ',old H H' a->False:=fun {H' μ' m'} st S'=>by
   obtain⟨l,e,hl⟩:=st.pre
   refine⟨fun b o e=>st.keep b o e (by simp),fun a ha z=>?_⟩
   rcases z with hne|⟨o,u,z⟩
   ·rw[e] at ha
    exact hne (hl a (by simpa using ha))
   ·obtain⟨xs,e',l⟩:=S'.trk ha
    rw[e'] at z
    cases z
    exact l
  cases o with
  |rt d' m'=>exact fun v H' μ' st S' r'=>q v H' (fin st S').1 (Ll S' (fin st S').2 r' h2)
  |nx env m'=>cases h2;exact fun σ' H' μ' st S' E'=>q _ H' (fin st S').1 .non
  |bk _ _=>exact Ad h2
  |ct _ _=>exact Ad h2
section
variable {X:Cx}{a b c e:Expr}{es:List Expr}{pos p p':Pos}{x:Str}
def Ci (n:Nat) (fn:List D->Option D):List D->MH->Option D:=fun ds m=>(Cw m ds).bind fun ds'=>if ds'.length=n then fn ds' else none
theorem Rep.ofCall {K:W.Frag}{H H':Hp}{μ:List Addr}{m:MH}{d:D}{v:V} (S:Sim K H μ m) (r:Rep K H' [] (old H H') d v):Rep K H' μ (·∈μ) d v :=
 r.up (fun _ _ _ h=>h) (fun a u _ h b=>⟨h,fun z=>b (.inl (by obtain⟨xs,e,_⟩:=S.trk z;rw[e];simp))⟩) fun n a h=>by simp at h
theorem Ak8 {fd:FuncData}{E:XK} (F:FnOk X.prog X.w X.K X.mg X.base CX k f fd ps (spP X.K n fn)) (hr:Room k X.A) (hg:Gl X x) (hm:X.mg x=some (.ref f)) (hk:W.keepIn X.K (.ref f)=true) (hb:Binds X.K fd ps []) (hx:Oh CX X E) (ha:PL X (e::es) g) (hdb:(x == ("__debug__":Str))=false) (he:starEach (e::es) X.env=(false,eval e X.env)::starEach es X.env) (hpl:(backTo pos (starEach es X.env)).any (·.1)=false) :
  PD X (.Call (.Name x p) (e::es) [] pos) (A7 (Ci n fn) g):=PE.imp (N2 F hr hg hm hk hb .nil hx ha hdb he hpl) fun σ H Q ⟨env,μ,m,d,S,E,h,q⟩=>by
 obtain⟨ds,h1,h⟩:=bind_some h
 obtain⟨ds',h2,h⟩:=bind_some h
 split at h
 ·rename_i hl
  refine⟨env,μ,m,ds,S,E,h1,fun vs H1 s1 rs=>⟨ds',d,by rw[Az2];exact Di (S.same s1) rs h2,hl,h,fun v H' s' r=>q v H' (s1.trans s') (Rep.ofCall (S.same s1) r)⟩⟩
 ·exact Ad h
def Gp (n:Nat) (fn:List D->Option D):List D->MH->Option (List D):=fun ds m=>(Ci n fn ds m).bind fun d=>match d with|.lst es=>if Bf es=true then some es else none|_=>none
theorem Ali {fd:FuncData}{E:XK} (F:FnOk X.prog X.w X.K X.mg X.base CX k f fd ps (spP X.K n fn)) (hr:Room k X.A) (hg:Gl X x) (hm:X.mg x=some (.ref f)) (hk:W.keepIn X.K (.ref f)=true) (hb:Binds X.K fd ps []) (hx:Oh CX X E) (ha:PL X (e::es) g) (hdb:(x == ("__debug__":Str))=false) (he:starEach (e::es) X.env=(false,eval e X.env)::starEach es X.env) (hpl:(backTo pos (starEach es X.env)).any (·.1)=false) :
  PF X (.Call (.Name x p) (e::es) [] pos) (Bi (Gp n fn) g):=PE.imp (N2 F hr hg hm hk hb .nil hx ha hdb he hpl) fun σ H Q ⟨env,μ,m,d,S,E,h,q⟩=>by
 obtain⟨ds,h1,h⟩:=bind_some h
 obtain⟨z,h2,h⟩:=bind_some h
 obtain⟨ds',h2,h3⟩:=bind_some h2
 split at h3
 ·rename_i hl
  refine⟨env,μ,m,ds,S,E,h1,fun vs H1 s1 rs=>⟨ds',z,by rw[Az2];exact Di (S.same s1) rs h2,hl,h3,fun v H' s' r=>?_⟩⟩
  cases r with
  |@lst es a xs hq hb rs' =>
   simp only at h
   split at h
   ·rename_i hl'
    cases h
    have hn:H1 a=none:=Bcb fun z=>hb (.inl z)
    rcases hq with hq|⟨o,hq⟩
    ·exact q a xs H' (s1.trans s') (s1.free hn) hq (rs'.nolst hl')
    ·exact absurd (.inr ⟨o,_,hq⟩) hb
   ·cases h
  |_=>exact Ad h
 ·exact Ad h3
end
end
end ML
end L2
end S_ML1
section S_ML6
namespace L2
namespace ML
open PySem PySem.Spec PyProof.Rows
open Classical
noncomputable section
theorem G9 {scope:Scope}{env:Env}:∀ (names:List (Str×NameKind)) (cs:List (Str×Addr)),(∀ y∈names,y.2=.free->∃ c,env.cells.lookup y.1=some c)->∃ cl:List (Str×Addr),
  (forIn names cs fun (y:Str×NameKind) cs=>if (y.2 == .free)=true then (do let c <- cellOf env y.1;pure (ForInStep.yield ((y.1,c)::cs))) else (pure (ForInStep.yield cs):Sem _))=pure cl /\
   (∀ x c,cl.lookup x=some c->cs.lookup x=some c\/env.cells.lookup x=some c)/\(∀ x,((x,NameKind.free)∈names\/∃ c,cs.lookup x=some c)->∃ c,cl.lookup x=some c)
 |[],cs,_=>⟨cs,rfl,fun x c h=>.inl h,fun x h=>by
   rcases h with h|h
   ·exact absurd h (by simp)
   ·exact h⟩
 |(n,k)::names,cs,h=>by
  have h':∀ y∈names,y.2=.free->∃ c,env.cells.lookup y.1=some c:=fun y hy=>h y (Azf _ hy)
  rw[List.forIn_cons]
  by_cases hk:k=.free
  ·subst hk
   obtain⟨c,hc⟩:=h (n,.free) Azg rfl
   obtain⟨cl,e1,e2,e3⟩:=G9 (scope:=scope) (env:=env) names ((n,c)::cs) h'
   refine⟨cl,?_,fun x c' hx=>?_,fun x hx=>?_⟩
   ·have ec:cellOf env n=pure c:=by unfold cellOf;rw[hc]
    simp only[beq_self_eq_true,Bbc,ec]
    exact e1
   ·rcases e2 x c' hx with q|q
    ·rw[Ba6] at q
     by_cases hxn:(x == n)=true
     ·simp only[hxn] at q
      cases q
      rw[eq_of_beq hxn]
      exact .inr hc
     ·simp only[Bool.not_eq_true] at hxn
      simp only[hxn] at q
      exact .inl q
    ·exact .inr q
   ·refine e3 x ?_
    by_cases hxn:(x == n)=true
    ·exact .inr ⟨c,by rw[Ba6];simp only[hxn]⟩
    ·simp only[Bool.not_eq_true] at hxn
     rcases hx with hx|⟨c',hx⟩
     ·rcases List.mem_cons.mp hx with z|z
      ·have:x=n:=by injection z
       rw[this,beq_self_eq_true] at hxn
       cases hxn
      ·exact .inl z
     ·exact .inr ⟨c',by rw[Ba6];simp only[hxn];exact hx⟩
  ·obtain⟨cl,e1,e2,e3⟩:=G9 (scope:=scope) (env:=env) names cs h'
   refine⟨cl,?_,e2,fun x hx=>e3 x ?_⟩
   ·have ek:(k == NameKind.free)=false:=by simpa using hk
    simp only[ek,Baf,Bbn]
    exact e1
   ·rcases hx with hx|hx
    ·rcases List.mem_cons.mp hx with z|z
     ·injection z with z1 z2
      exact absurd z2.symm hk
     ·exact .inl z
    ·exact .inr hx
theorem Gq (h:∀ y∈scope.names,y.2=.free->∃ c,env.cells.lookup y.1=some c):∃ cl:List (Str×Addr),closureFor scope env=pure cl /\
  (∀ x c,cl.lookup x=some c->env.cells.lookup x=some c)/\∀ x,(x,NameKind.free)∈scope.names->∃ c,cl.lookup x=some c:=by
 obtain⟨cl,e1,e2,e3⟩:=G9 (scope:=scope) (env:=env) scope.names [] h
 refine⟨cl,?_,fun x c hx=>(e2 x c hx).elim (fun z=>by exact Ad z) id,fun x hx=>e3 x (.inl hx)⟩
 have e:closureFor scope env=((forIn scope.names [] fun (y:Str×NameKind) cs=>if (y.2 == .free)=true then (do let c <- cellOf env y.1;pure (ForInStep.yield ((y.1,c)::cs))) else (pure (ForInStep.yield cs):Sem _)) >>= fun cs=>pure cs):=rfl
 rw[e,e1]
 rfl
theorem T8:∀ (names:List (Str×NameKind)) (h:Heap) (acc:List (Str×Addr)),(∀ x c,acc.lookup x=some c->c < h.objs.size)->(∀ x y c,acc.lookup x=some c->acc.lookup y=some c->x=y) ->
  (∀ x c,(cellsFrom h.objs.size names acc).lookup x=some c->(acc.lookup x=some c/\(x,NameKind.cell)∉names)\/((x,NameKind.cell)∈names/\h.objs.size<=c/\(pushCells h names).IsCell c none)\/(acc.lookup x=some c/\h.IsCell c none/\False)) /\
  (∀ x y c,(cellsFrom h.objs.size names acc).lookup x=some c->(cellsFrom h.objs.size names acc).lookup y=some c->x=y)/\(∀ x,((x,NameKind.cell)∈names\/∃ c,acc.lookup x=some c)->∃ c,(cellsFrom h.objs.size names acc).lookup x=some c)
 |[],h,acc,h1,h2=>⟨fun x c e=>.inl ⟨e,by simp⟩,h2,fun x e=>e.elim (fun z=>absurd z (by simp)) id⟩
 |(n,k)::r,h,acc,h1,h2=>by
  by_cases hk:k=.cell
  ·subst hk
   have hs:(h.push { cls:=.type "cell",data:=.cell none }).objs.size=h.objs.size+1:=Bbv ..
   have lk:∀ x c,((n,h.objs.size)::acc).lookup x=some c->(x=n/\c=h.objs.size)\/(x≠n/\acc.lookup x=some c):=fun x c e=>by
    rw[Ba6] at e
    by_cases hx:(x == n)=true
    ·simp only[hx] at e
     cases e
     exact .inl ⟨eq_of_beq hx,rfl⟩
    ·have hx':(x == n)=false:=by simpa using hx
     simp only[hx'] at e
     exact .inr ⟨fun z=>hx (by rw[z];exact beq_self_eq_true _),e⟩
   obtain⟨i1,i2,i3⟩:=T8 r (h.push { cls:=.type "cell",data:=.cell none }) ((n,h.objs.size)::acc) (fun x c e=>by
    rw[hs]
    rcases lk x c e with ⟨_,z⟩|⟨_,z⟩
    ·rw[z];exact Bcg _
    ·exact Bbf (h1 x c z)) (fun x y c e1 e2=>by
    rcases lk x c e1 with ⟨z1,w1⟩|⟨_,z1⟩<;>rcases lk y c e2 with ⟨z2,w2⟩|⟨_,z2⟩
    ·rw[z1,z2]
    ·exact absurd (h1 y c z2) (by rw[w1];exact Az9 _)
    ·exact absurd (h1 x c z1) (by rw[w2];exact Az9 _)
    ·exact h2 x y c z1 z2)
   have ec:cellsFrom h.objs.size ((n,NameKind.cell)::r) acc=cellsFrom (h.push { cls:=.type "cell",data:=.cell none }).objs.size r ((n,h.objs.size)::acc):=by rw[hs];rfl
   have ep:pushCells h ((n,NameKind.cell)::r)=pushCells (h.push { cls:=.type "cell",data:=.cell none }) r:=rfl
   rw[ec,ep]
   refine⟨fun x c e=>?_,i2,fun x e=>i3 x ?_⟩
   ·rcases i1 x c e with ⟨z,w⟩|⟨z1,z2,z3⟩|⟨_,_,z⟩
    ·rcases lk x c z with ⟨rfl,rfl⟩|⟨hne,z⟩
     ·exact .inr (.inl ⟨Azg,Azn _,⟨_,pushCells_keeps _ _ _ _ (Azq _ rfl),rfl⟩⟩)
     ·exact .inl ⟨z,fun y=>by
       rcases List.mem_cons.mp y with y|y
       ·exact hne (Prod.mk.inj y).1
       ·exact w y⟩
    ·exact .inr (.inl ⟨Azf _ z1,Nat.le_of_succ_le (by rw[hs] at z2;exact z2),z3⟩)
    ·exact z.elim
   ·by_cases hx:x=n
    ·exact .inr ⟨_,by rw[Ba6,hx,beq_self_eq_true]⟩
    ·have hx':(x == n)=false:=by simpa using hx
     rcases e with e|⟨c,e⟩
     ·rcases List.mem_cons.mp e with e|e
      ·exact absurd (Prod.mk.inj e).1 hx
      ·exact .inl e
     ·exact .inr ⟨c,by rw[Ba6,hx'];exact e⟩
  ·obtain⟨i1,i2,i3⟩:=T8 r h acc h1 h2
   have hk':(k == NameKind.cell)=false:=by simpa using hk
   have ec:cellsFrom h.objs.size ((n,k)::r) acc=cellsFrom h.objs.size r acc:=by rw[cellsFrom,hk'];rfl
   have ep:pushCells h ((n,k)::r)=pushCells h r:=by rw[pushCells,hk'];rfl
   have em:∀ x,(x,NameKind.cell)∈(n,k)::r ↔ (x,NameKind.cell)∈r:=fun x=>⟨fun z=>by
    rcases List.mem_cons.mp z with z|z
    ·exact absurd (Prod.mk.inj z).2.symm hk
    ·exact z,Azf _⟩
   rw[ec,ep]
   refine⟨fun x c e=>?_,i2,fun x e=>i3 x ?_⟩
   ·rcases i1 x c e with ⟨z,w⟩|⟨z1,z2,z3⟩|⟨_,_,z⟩
    ·exact .inl ⟨z,fun y=>w ((em x).mp y)⟩
    ·exact .inr (.inl ⟨(em x).mpr z1,z2,z3⟩)
    ·exact z.elim
   ·exact e.imp (em x).mp id
theorem Jz {E:Value->Shared->Prop}{s:Shared} (hQ:∀ h',h'.Ns s.heap.objs.size (fun _=>none)->(∀ b o,s.heap.get? b=some o->h'.get? b=some o)->h'=pushCells (s.heap.push { cls:=.type "dict",data:=.dict #[] }) scope.names ->
   Q { scope,locals:=s.heap.objs.size,globals,cells:=cellsFrom (s.heap.objs.size+1) scope.names cl,qual,func:=none,code:=env.code,frame:=env.frame,builtins:=env.builtins } { s with heap:=h' }) :
  wpAny M A (newFunctionEnv scope globals cl [] qual none .none (some env)) Q E s:=by
 simp only[newFunctionEnv,Bca,Bbc]
 refine Azc (wpAny_alloc ?_)
 refine Azc (wpAny_layCells _ (fun name kind cells=>by cases hkc:kind == NameKind.cell<;>simp[hkc]) _ _ _ _ ?_)
 rw[show ({ s with heap:=s.heap.push { cls:=.type "dict",data:=.dict #[] } }:Shared).heap.objs.size=s.heap.objs.size+1 from Bbv ..]
 rw[List.forIn_nil]
 refine Azc (Azi (Azi ?_))
 exact hQ _ ((Heap.Ns.new s.heap (.type "dict")).keeps (pushCells_keeps _ _)) (fun b o e=>pushCells_keeps _ _ b o (Aze _ e)) rfl
noncomputable def Ax (X:Cx) (N':List Str) (scope:Scope) (cl:List (Str×Addr)) (C:Addr) (s₀:Shared) (H₀:Hp) (ex:List Addr) (pn:List (Addr×Obj)):Cx where
 prog:=X.prog
 w:=X.w
 K:=X.K
 mg:=X.mg
 base:=X.base
 A:=X.A
 N:=N'
 s₀:=s₀
 H₀:=H₀
 env:=compEnvC scope cl C X.env
 outer:=X.stack
 stack:=X.stack
 ex:=ex
 fn:=fun x=>match scope.names.lookup x with
  |some .cell=>true
  |_=>false
 calm:=X.calm
 pn:=pn
 xe:=fun _ _=>False
noncomputable def capσ (cap:List Nat) (k:Nat) (σ:St):St:=cap.map (fun i=>(σ[i]?).bind id)++List.replicate k none
def Og (cap:List Nat) (k:Nat) (env:Bc):Bc:=cap.map (fun i=>(env[i]?).bind id)++List.replicate k none
structure CompOk (X:Cx) (scope:Scope) (cap:List Nat) (N':List Str):Prop where
 kind:scope.kind=.function
 cell:∀ y∈scope.names,y.2=.cell->scope.names.lookup y.1=some .cell
 names:∀ y∈scope.names,y.2=.local->scope.names.lookup y.1=some .local
 free:∀ y∈scope.names,y.2=.free->X.env.scope.names.lookup y.1=some .cell\/X.env.scope.names.lookup y.1=some .free
 nd:N'.Nodup
 le:cap.length<=N'.length
 cap:∀ (j i:Nat) (x:Str),cap[j]?=some i->N'[j]?=some x->X.N[i]?=some x/\scope.names.lookup x=some .free
theorem Do {env:Env}:∀ {names:List (Str×NameKind)}{x:Str}{k:NameKind},(names.map fun (n,k)=>if (k == NameKind.free&&env.scope.kind == .function&&env.kindOf n == some .cell) then (n,NameKind.cell) else (n,k)).lookup x=some k ->
  (names.lookup x=some k/\(k=.free->env.kindOf x≠some .cell\/env.scope.kind≠.function))\/(names.lookup x=some .free/\k=.cell)
 |[],_,_,h=>by simp at h
 |(n,k)::r,x,k',h=>by
  have ih:=@Do env r x k'
  rw[Azm] at h
  by_cases hc:(k == NameKind.free&&env.scope.kind == .function&&env.kindOf n == some .cell)=true
  ·simp only[hc,Bbc] at h
   rw[Ba6] at h ⊢
   cases hx:x == n with
   |true =>
    simp only[hx] at h ⊢
    cases h
    have:k=.free:=by simp at hc;exact hc.1.1
    exact .inr ⟨by rw[this],rfl⟩
   |false =>
    simp only[hx] at h ⊢
    exact ih h
  ·simp only[Azs hc] at h
   rw[Ba6] at h ⊢
   cases hx:x == n with
   |true =>
    simp only[hx] at h ⊢
    cases h
    refine .inl ⟨rfl,fun z=>?_⟩
    subst z
    have e:=eq_of_beq hx
    subst e
    simp at hc
    by_cases q:env.scope.kind=.function
    ·exact .inl fun z=>hc q z
    ·exact .inr q
   |false =>
    simp only[hx] at h ⊢
    exact ih h
section
variable {X:Cx}{elt tg iter:Expr}{ifs:List Expr}{scope:Scope}{pos:Pos}{cap:List Nat}{N':List Str}
theorem Ua {pins:List (Addr×Obj)}{σ:St}{H2 H3:Hp}{s2:Shared}{h₁:Heap}{tk:Nat}{fp:List Addr}{cl:List (Str×Addr)}{C:Addr}{ys:List V} (ok:CompOk X scope cap N') (I2:Inv X pins σ H2 s2) (f2:∀ b∈fp,Ack X pins H2 b) (fo:∀ b∈fp,∃ o,s2.heap.get? b=some o)
  (hcl:∀ x c,cl.lookup x=some c->(X.env.cells.lookup x=some c/\scope.names.lookup x≠some .cell)\/(scope.names.lookup x=some .cell/\C < c/\h₁.IsCell c none/\H3 c=none)) (hinj:∀ x y c,cl.lookup x=some c->cl.lookup y=some c->x=y)
  (hcl2:∀ x,((x,NameKind.free)∈scope.names\/(x,NameKind.cell)∈scope.names)->∃ c,cl.lookup x=some c)
  (hC:s2.heap.objs.size<=C) (hns:∃ m,h₁.Ns C m) (hk:∀ b o,s2.heap.get? b=some o->h₁.get? b=some o) (hH:∀ b o,s2.heap.get? b=some o->H2 b=none->H3 b=none) (hS:Same H2 H3) (hC3:H3 C=none) (hok:HOk X.prog X.w X.K H3 h₁) :
  Inv (Ax X N' scope cl C s2 H2 fp (X.pn++pins)) [] (capσ cap (N'.length - cap.length) σ) H3 { s2 with heap:=h₁,toks:=tk }:=by
 have lt:∀ b o,s2.heap.get? b=some o->b≠C:=fun b o e=>Az1 (Azt (Azj e) hC)
 have kin:∀ x,(Ax X N' scope cl C s2 H2 fp (X.pn++pins)).env.kindOf x=some .cell\/(Ax X N' scope cl C s2 H2 fp (X.pn++pins)).env.kindOf x=some .free->(x,NameKind.free)∈scope.names\/(x,NameKind.cell)∈scope.names:=fun x h=>by
  have key:∀ k,(relabel scope X.env).names.lookup x=some k->k=.cell\/k=.free->(x,NameKind.free)∈scope.names\/(x,NameKind.cell)∈scope.names:=fun k hk hkk=>by
   rcases Do hk with ⟨q,_⟩|⟨q,_⟩
   ·rcases hkk with rfl|rfl
    ·exact .inr (Bac q)
    ·exact .inl (Bac q)
   ·exact .inl (Bac q)
  rcases h with h|h
  ·exact key _ h (.inl rfl)
  ·exact key _ h (.inr rfl)
 have fpx:∀ b∈fp,∀ o,X.base.get? b=some o->False:=fun b hb o e=>by
  obtain⟨_,_,_,q,_,_⟩:=f2 b hb
  rcases q with q|q
  ·exact I2.ok.noex b o e q
  ·exact absurd (Azt (Azj e) (Azy I2.ok.bsz q)) (Az9 _)
 refine⟨⟨I2.ok.mod,ok.kind,I2.ok.glob,I2.ok.blt,hC,?_,?_,?_,I2.ok.hd,I2.ok.frames,.inl rfl,?_,I2.bs,Azy I2.ok.bsz I2.sz,?_,?_,I2.stack,I2.stkFree⟩,rfl,I2.bare,⟨?_,?_,?_,?_,?_,?_,?_⟩,?_,?_,hC3,?_,?_,hok,?_⟩
 ·exact hinj
 ·exact fun x h=>hcl2 x (kin x h)
 ·intro x c h e
  have h:(match scope.names.lookup x with|some .cell=>true|_=>false)=true:=h
  rcases hcl x c e with ⟨_,z⟩|⟨_,z,_⟩
  ·split at h
   ·rename_i q;exact absurd q z
   ·exact Cv h
  ·exact Ba9 (Nat.lt_of_le_of_lt hC z)
 ·intro b hb
  obtain⟨o,e⟩:=fo b hb
  refine⟨lt b o e,fun x c h=>?_⟩
  rcases hcl x c h with ⟨z,_⟩|⟨_,z,_⟩
  ·exact (f2 b hb).2.2.2.2.1 x c z
  ·exact Bao (Nat.lt_trans (Azt (Azj e) hC) z)
 ·exact fun b o e hb=>fpx b hb o e
 ·intro b hb hfs
  have z:b∈X.env.locals::X.fs:=I2.stkSub b hfs
  rcases List.mem_cons.mp z with z|z
  ·exact (f2 b hb).2.1 z
  ·exact (f2 b hb).2.2.1 z
 ·exact fun b o e n _ _=>hk b o e
 ·exact fun b o e n _ _=>⟨o.slots,hk b o e⟩
 ·exact fun b o e n _=>hH b o e n
 ·exact fun b o e _=>⟨o,hk b o e⟩
 ·exact fun b xs e=>hS b _ e
 ·exact fun b o u e=>hS b _ e
 ·exact fun b ps e=>⟨#[],by rw[hS b _ e];simp⟩
 ·obtain⟨m,hm⟩:=hns
  refine⟨m,hm,fun j x v e1 e2 e3=>?_⟩
  have hj:j < cap.length:=by
   apply Bcb
   intro hj
   unfold capσ at e2
   rw[Baj (by simpa using hj),Bbj] at e2
   split at e2<;>cases e2
  obtain⟨i,hi⟩:∃ i,cap[j]?=some i:=⟨cap[j],by simp[hj]⟩
  obtain⟨q1,q2⟩:=ok.cap j i x hi e1
  have e4:σ[i]?=some (some v):=by
   unfold capσ at e2
   rw[Azz (by simpa using hj),Az3,hi] at e2
   simp only[Option.map_some,Option.some.injEq] at e2
   obtain⟨o,h1,h2⟩:=bind_some e2
   have h2:o=some v:=h2
   rw[h1,h2]
  have hfr:=ok.free (x,.free) (Bac q2) rfl
  have vis:Vis X.env.scope x:=.inr hfr
  obtain⟨m0,hn0,hl⟩:=I2.loc
  obtain⟨u,r,l⟩:=hl i x v q1 e4 vis
  refine⟨u,r,.inr ?_⟩
  rcases l with ⟨l1,_⟩|⟨l1,c,l2,l3⟩
  ·have l1:X.env.scope.names.lookup x=some .local:=l1
   rcases hfr with z|z<;>rw[l1] at z<;>cases z
  ·obtain⟨c',hc'⟩:=hcl2 x (.inl (Bac q2))
   have:c'=c:=by
    rcases hcl x c' hc' with ⟨z,_⟩|⟨z,_⟩
    ·rw[l2] at z;exact (Bag z).symm
    ·rw[q2] at z;cases z
   subst this
   refine⟨?_,c',hc',?_⟩
   ·rcases e3 with z|z|z
    ·have z':(relabel scope X.env).names.lookup x=some .local:=z
     rcases Do z' with ⟨q,_⟩|⟨q,w⟩
     ·rw[q2] at q;cases q
     ·cases w
    ·exact .inl z
    ·exact .inr z
   ·obtain⟨oc,ho,hd⟩:=l3
    exact⟨oc,hk _ _ ho,hd⟩
 ·intro x c h
  rcases hcl x c h with ⟨z,_⟩|⟨_,_,z,_⟩
  ·obtain⟨v,oc,ho,hd⟩:=I2.cell x c z
   exact⟨v,oc,hk _ _ ho,hd⟩
  ·exact⟨none,z⟩
 ·intro x c h
  rcases hcl x c h with ⟨z,_⟩|⟨_,_,_,z⟩
  ·obtain⟨v,oc,ho,hd⟩:=I2.cell x c z
   exact hH c oc ho (I2.freeC x c z)
  ·exact z
 ·intro p hp
  have hp':p∈X.pn++pins:=by
   have:p∈(X.pn++pins)++[]:=hp
   simpa using this
  obtain⟨e,n,ne,nf,d⟩:=I2.pin p hp'
  refine⟨hk _ _ e,hH _ _ e n,lt _ _ e,?_,d⟩
  intro z
  have z:p.1∈X.env.locals::X.fs:=I2.stkSub p.1 z
  rcases List.mem_cons.mp z with z|z
  ·exact ne z
  ·exact nf z
 ·unfold capσ
  show _=N'.length
  rw[Azx,Azr,List.length_replicate]
  have:=ok.le
  lia
end
end
end ML
end L2
end S_ML6
section S_ML7
namespace L2
namespace ML
open PySem PySem.Spec PyProof.Rows
open Classical
noncomputable section
noncomputable def Gr (g:FG) (t:FB) (fe:FE) (m:MH) (env:Bc):List D->Option (List D)
 |[]=>some []
 |d::ds=>(g d env).bind fun env1=>(t env1 m).bind fun ok=>if ok=true then (fe env1 m).bind fun y=>(Gr g t fe m env ds).bind fun ys=>some (y::ys) else Gr g t fe m env ds
noncomputable def Lq:FB:=fun _ _=>some true
def PTs (X:Cx) (ifs:List Expr) (f:FB):Prop:=∀ (pins:List (Addr×Obj)) (s:Shared) (σ:St) (H:Hp) (Q:Bool->Hp->Prop),Inv X pins σ H s->tB' X.K f σ H Q ->
 wpAny (model X.prog X.w) X.A (forIn ifs true fun c r=>if r=true then do let ok <- isTrue c X.env (eval c X.env);pure (ForInStep.yield ok) else pure (ForInStep.yield r)) (TP X pins σ Q) X.xe s
theorem Al7:PTs X [] Lq:=fun pins s σ H Q I ⟨env,μ,m,b,S,E,h,q⟩=>by
 cases h
 exact wpAny_tests_nil ⟨H,I,q H (Same.refl H)⟩
theorem Al8 (h:PB X c f):PTs X [c] f:=fun pins s σ H Q I q=>wpAny_tests_one (h pins s σ H Q I q)
theorem Ho {s:Shared}{pos:Pos} (I:Nat->Shared->Prop) (turn:∀ n s,I n s->wpAny (model prog w) A (pyNext it) (fun r s₁=>match r with
   |none=>R (.ok .next) s₁
   |some v=>wpAny (model prog w) A (letOwnedTupleGo target it v) (fun _ s₁'=>wpAny (model prog w) A (assign target env v) (fun _ s₂ =>
     wpAny (model prog w) A (forIn ifs true fun c r=>if r=true then do let ok <- isTrue c env (eval c env);pure (ForInStep.yield ok) else pure (ForInStep.yield r)) (fun ok s₃ =>
      if ok=true then wpAny (model prog w) A (eval elt env) (fun x s₄ =>
       wpAny (model prog w) A (call (.builtin "list.append") [acc,x]) (fun _ s₅=>∃ m,m < n/\I m s₅) (fun _ _=>False) s₄) (fun _ _=>False) s₃
      else ∃ m,m < n/\I m s₃) (fun _ _=>False) s₂) (fun _ _=>False) s₁') (fun _ _=>False) s₁) (fun _ _=>False) s) (n:Nat) (h:I n s):codeAny (model prog w) A (.compLoop (.ListComp elt [⟨target,iter,ifs,0⟩] scope pos) 0 it acc env) R s:=by
 have no:∀ {E:Value->Shared->Prop} (e:Value) (s:Shared),False->E e s:=fun _ _ h=>h.elim
 refine codeAny_loop rfl I (fun n s hI=>?_) n h
 show wpAny _ A ((compTurn (.ListComp elt [⟨target,iter,ifs,0⟩] scope pos) 0 it acc env).onRaise (fun x=>do noteFrame x env;theTreesLotGoes x)) _ _ s
 refine wpAny_noted ?_
 rw[compTurn_list]
 refine Azc (wpAny_standAt (Azc (Bal (turn n s hI) (fun r s₁ h₁=>?_) no)))
 cases r with
 |none=>exact Azi h₁
 |some v =>
  refine Azc (Bal h₁ (fun _ s₁' h₁'=>?_) no)
  refine Azc (Bal h₁' (fun _ s₂ h₂=>Azc (Bal h₂ (fun ok s₃ h₃=>?_) no)) no)
  cases ok with
  |false=>exact Azi ⟨rfl,h₃⟩
  |true =>
   exact Azc (Azc (Bal h₃ (fun x s₄ h₄=>Azc (Bal h₄ (fun _ s₅ h₅=>Azi (Azi ⟨rfl,h₅⟩)) no)) no))
theorem T6 {K:W.Frag}{H:Hp}{μ:List Addr}{σ:St}{env:Bc} (h:EnvRep K H μ σ env) (cap:List Nat) (k:Nat):EnvRep K H μ (capσ cap k σ) (Og cap k env):=by
 refine⟨by unfold capσ Og;simp,fun j d e=>?_⟩
 have hj:j < cap.length:=by
  apply Bcb
  intro hj
  unfold Og at e
  rw[Baj (by simpa using hj),Bbj] at e
  split at e<;>cases e
 unfold Og at e
 rw[Azz (by simpa using hj),Az3] at e
 have hi:cap[j]?=some cap[j]:=by simp[hj]
 rw[hi] at e
 simp only[Option.map_some,Option.some.injEq] at e
 obtain⟨o,h1,h2⟩:=bind_some e
 have h2:o=some d:=h2
 subst h2
 obtain⟨v,q1,q2⟩:=h.get _ _ h1
 refine⟨v,?_,q2⟩
 unfold capσ
 rw[Azz (by simpa using hj),Az3,hi]
 simp[q1]
section
variable {X:Cx}{elt tg iter:Expr}{ifs:List Expr}{scope:Scope}{pos:Pos}{cap:List Nat}{N':List Str}{fw:FW}{g:FG}{t:FB}{fe:FE}
def B6 (cap:List Nat) (k:Nat) (fw:FW) (g:FG) (t:FB) (fe:FE):FL:=fun env m=>(fw env m).bind fun w=>if w.chk m/\w.all.length<=1000000 then Gr g t fe m (Og cap k env) w.all else none
structure CompEnd (X:Cx) (pins:List (Addr×Obj)) (σ:St) (H:Hp) (μ:List Addr) (zs:List D) (D C:Addr) (s':Shared):Prop where
 out:∃ H' ys,Same H H'/\H D=none/\H' D=some (.lst ys)/\Reps X.K H' μ (nw μ D) zs ys/\Inv X pins σ H' s'/\H' C=none/\∀ σ' s'' h',Inv X pins σ' H' s''->Heap.SameBut C s''.heap h'->Inv X pins σ' H' { s'' with heap:=h' }
 ns:∃ m,s'.heap.Ns C m
 lc:C≠X.env.locals
 cc:∀ x c,X.env.cells.lookup x=some c->c≠C
inductive CI (Y:Cx) (μ:List Addr) (fp:List Addr) (tn:Nat->Heap->Prop) (Dd:Addr) (H2:Hp) (g:FG) (e0:Bc) (cd:Nat->Option (List D)) (n:Nat) (zs:List D) (s:Shared):Nat->Prop where
 |mk {i:Nat}{H3:Hp}{σ3:St}{env3:Bc}{ys:List V}{its:List Value}{na:Nat}{dn rs:List D}:i<=n->Inv Y [] σ3 H3 s->tn i s.heap->(∀ b∈fp,H3 b=none)->Same H2 H3->H3 Dd=none->EnvRep Y.K H3 μ σ3 env3->(∀ d,g d env3=g d e0) ->
  s.heap.get? Dd=some { cls:=.type "list",data:=.seq its.toArray na }->Vals ys its->Reps Y.K H3 μ (·∈μ) dn ys->cd i=some rs->dn++rs=zs->dn.length<=i->CI Y μ fp tn Dd H2 g e0 cd n zs s (n - i)
theorem L0 (ok:CompOk X scope cap N') (hc:X.calm=true) (hi:PW' X tg iter fw) (hg2:∀ d d' env e1,g d env=some e1->g d' e1=g d' env)
  {Φ:Hp->Prop} (hΦ:∀ {pins:List (Addr×Obj)}{σ:St}{H:Hp}{s:Shared},Inv X pins σ H s->Φ H) (hg:∀ cl C s₀ H₀ ex pn,Φ H₀->PGD (Ax X N' scope cl C s₀ H₀ ex pn) tg g) (ht:∀ cl C s₀ H₀ ex pn,Φ H₀->PTs (Ax X N' scope cl C s₀ H₀ ex pn) ifs t) (he:∀ cl C s₀ H₀ ex pn,Φ H₀->PD (Ax X N' scope cl C s₀ H₀ ex pn) elt fe)
  (hs:∀ x,foldedSetIterable iter X.env x=pure x) {use:Option (Value->Sem Unit)}{ipos:Pos}{pins:List (Addr×Obj)}{s:Shared}{σ:St}{H:Hp}{Q:Value->Shared->Prop} (I:Inv X pins σ H s) {env:Bc}{μ:List Addr}{m:MH}{zs:List D}
  (S:Sim X.K H μ m) (E:EnvRep X.K H μ σ env) (h:B6 cap (N'.length - cap.length) fw g t fe env m=some zs)
  (hQ:∀ D C s',CompEnd X pins σ H μ zs D C s'->compPost (model X.prog X.w) X.A X.xe use Q (.ref D) C (.ok .next) s') :
  wpAny (model X.prog X.w) X.A (comprehension (.ListComp elt [⟨tg,iter,ifs,0⟩] scope pos) scope X.env ipos (newList []) false (eval iter X.env) use) Q X.xe s:=by
 obtain⟨w,h1,h⟩:=bind_some h
 split at h
 rotate_left
 ·cases h
 rename_i hck
 obtain⟨hck,hsz⟩:=hck
 have hfr:∀ y∈scope.names,y.2=.free->∃ c,X.env.cells.lookup y.1=some c:=fun y hy hf=>I.ok.has y.1 (ok.free y hy hf)
 obtain⟨cl0,hclos,hcl0,hcl20⟩:=Gq hfr
 refine wpAny_comprehension_free (g:=⟨tg,iter,ifs,0⟩) (gs:=[]) rfl hs hclos ok.kind ok.names (thn (hi pins s σ H (fun J H2=>∃ src,Same H H2/\Src X.K J w.all w.chk src/\src H2 μ m) I ⟨env,μ,m,w,S,E,h1,fun H' J src s1 hsrc h0=>⟨src,s1,hsrc,h0⟩⟩) fun v s1 h2=>thn h2 fun itv s2 h3=>?_)
 obtain⟨it,fp,tn,J,H2,e,I2,T,st2,f2,src,hS2,hsrc,h0⟩:=h3
 subst e
 refine Baw (Jz fun h₁ hns₁ hsb₁ heq₁=>?_)
 dsimp only at hns₁ hsb₁ heq₁ ⊢
 generalize hHp:s2.heap.push { cls:=.type "list",dict:=none,data:=.seq ([]:List Value).toArray }=HP at hns₁ hsb₁ heq₁ ⊢
 have hCs:HP.objs.size=s2.heap.objs.size+1:=by rw[<- hHp,Bbv]
 have hDC:s2.heap.objs.size≠HP.objs.size:=by rw[hCs];exact Az1 (Bcg _)
 have hCle:s2.heap.objs.size<=HP.objs.size:=by rw[hCs];exact Bbu _
 have below:∀ b,b < s2.heap.objs.size->b≠HP.objs.size/\b≠s2.heap.objs.size:=fun b hb=>⟨by rw[hCs];exact Az1 (Bbf hb),Az1 hb⟩
 have hkp:∀ b o,s2.heap.get? b=some o->h₁.get? b=some o:=fun b o e=>hsb₁ b o (hHp ▸ Aze _ e)
 have hacc:h₁.get? s2.heap.objs.size=some { cls:=.type "list",data:=.seq ([]:List Value).toArray 0 }:=hsb₁ _ _ (hHp ▸ Azq _ rfl)
 have hDn:H2 s2.heap.objs.size=none:=I2.hok.fresh (Azn _)
 have hCn:H2 HP.objs.size=none:=I2.hok.fresh hCle
 have fo:∀ b∈fp,∃ o,s2.heap.get? b=some o:=fun b hb=>let ⟨o,e,_⟩:=T.obj _ _ st2 b hb;⟨o,e⟩
 have fdc:∀ b∈fp,b≠HP.objs.size/\b≠s2.heap.objs.size:=fun b hb=>let ⟨o,e⟩:=fo b hb;below b (Azj e)
 have hsz1:(HP.push { cls:=.type "dict",data:=.dict #[] }).objs.size=HP.objs.size+1:=Bbv ..
 obtain⟨c1,c2,c3⟩:=T8 scope.names (HP.push { cls:=.type "dict",data:=.dict #[] }) cl0 (fun x c e=>by
  obtain⟨v,oc,ho,_⟩:=I2.cell x c (hcl0 x c e)
  rw[hsz1,hCs]
  exact Bbf (Bbf (Azj ho))) (fun x y c e1 e2=>I2.ok.inj x y c (hcl0 x c e1) (hcl0 y c e2))
 rw[hsz1,<- heq₁] at c1
 rw[hsz1] at c2 c3
 generalize hcle:cellsFrom (HP.objs.size+1) scope.names cl0=cl at *
 have hcl:∀ x c,cl.lookup x=some c->(X.env.cells.lookup x=some c/\scope.names.lookup x≠some .cell)\/(scope.names.lookup x=some .cell/\HP.objs.size < c/\h₁.IsCell c none/\H2 c=none):=fun x c e=>by
  rcases c1 x c e with ⟨z,w⟩|⟨z1,z2,z3⟩|⟨_,_,z⟩
  ·exact .inl ⟨hcl0 x c z,fun q=>w (Bac q)⟩
  ·exact .inr ⟨ok.cell _ z1 rfl,z2,z3,I2.hok.fresh (Azy hCle (Ba9 z2))⟩
  ·exact z.elim
 have hcl2:∀ x,((x,NameKind.free)∈scope.names\/(x,NameKind.cell)∈scope.names)->∃ c,cl.lookup x=some c:=fun x e=>c3 x (e.elim (fun z=>.inr (hcl20 x z)) .inl)
 generalize hDd:s2.heap.objs.size=Dd at *
 generalize hCc:HP.objs.size=C at *
 have Y0:Inv (Ax X N' scope cl C s2 H2 fp (X.pn++pins)) [] (capσ cap (N'.length - cap.length) σ) H2 { s2 with heap:=h₁,toks:=s2.toks } :=
  Ua (ys:=[]) ok I2 f2 fo hcl c2 hcl2 (by rw[hDd];exact hCle) ⟨_,hns₁⟩ hkp (fun _ _ _ n=>n) (Same.refl _) hCn (I2.hok.kept hkp)
 -- what stays true of the iterator's objects in the block
 have fpY:∀ {H':Hp}{ps:List (Addr×Obj)},(∀ b∈fp,H' b=none)->(∀ p∈ps,p.1∉fp)->∀ b∈fp,Ack (Ax X N' scope cl C s2 H2 fp (X.pn++pins)) ps H' b:=fun {H' ps} hn hps b hb=>by
  obtain⟨q0,q1,q2,q3,q4,q5⟩:=f2 b hb
  refine⟨hn b hb,(fdc b hb).1,fun z=>?_,.inl hb,fun x c e=>?_,fun p hp z=>?_⟩
  rotate_left
  ·rcases hcl x c e with ⟨z,_⟩|⟨_,z,_⟩
   ·exact q4 x c z
   ·obtain⟨o,e'⟩:=fo b hb
    exact Bao (Azt (by have:=Azj e';rw[hDd] at this;exact this) (Azy hCle (Ba9 z)))
  rotate_left
  ·have z:b∈X.env.locals::X.fs:=I2.stkSub b z
   rcases List.mem_cons.mp z with z|z
   ·exact q1 z
   ·exact q2 z
  ·rcases List.mem_append.mp hp with hp|hp
   ·exact q5 p hp z
   ·exact hps p hp (by rw[z];exact hb)
 have key:∀ s₃:Shared,s₃={ s2 with heap:=h₁,toks:=s2.toks } ->
   codeAny (model X.prog X.w) X.A (.compLoop (.ListComp elt [⟨tg,iter,ifs,0⟩] scope pos) 0 (.ref it) (.ref Dd) (compEnvC scope cl C X.env)) (compPost (model X.prog X.w) X.A X.xe use Q (.ref Dd) C) s₃:=by
  rintro s₃ rfl
  refine Ho (fun k s=>CI (Ax X N' scope cl C s2 H2 fp (X.pn++pins)) μ fp tn Dd H2 g (Og cap (N'.length - cap.length) env) (fun i=>Gr g t fe m (Og cap (N'.length - cap.length) env) (w.all.drop i)) w.all.length zs s k) ?_ w.all.length
   (.mk (ys:=[]) (dn:=[]) (Az5 _) Y0 (T.keep _ _ _ st2 fun b hb o e=>hkp b o e) (fun b hb=>(f2 b hb).1) (Same.refl _) hDn (T6 (E.same hS2) cap _) (fun _=>rfl) hacc .nil .nil (by simpa using h) rfl (Az5 _))
  intro k s3 ci
  cases ci with
  |@mk i H3 σ3 env3 ys its na dn rs hi' I3 st3 fr3 s3' hD3 E3 hg3 ha3 rv3 rr3 hc3 hz3 hl3 =>
  have S3:Sim X.K H3 μ m:=S.same (hS2.trans s3')
  have src3:src H3 μ m:=hsrc.keep _ _ _ _ _ _ h0 (S.same hS2) (Step.of_same s3') S3
  have hDfp:Dd∉fp:=fun z=>(fdc Dd z).2 rfl
  have hDne:Dd≠(Ax X N' scope cl C s2 H2 fp (X.pn++pins)).env.locals:=hDC
  have hDcell:∀ x c,(Ax X N' scope cl C s2 H2 fp (X.pn++pins)).env.cells.lookup x=some c->c≠Dd:=fun x c e z=>by
   rcases hcl x c e with ⟨w,_⟩|⟨_,w,_⟩
   ·obtain⟨v,oc,ho,_⟩:=I2.cell x c w
    exact absurd (Azj ho) (by rw[z,hDd];exact Az9 _)
   ·exact absurd w (by rw[z];exact Nat.not_lt.mpr hCle)
  have hDpn:∀ p∈X.pn++pins,p.1≠Dd:=fun p hp z=>absurd (Azj (I2.pin p hp).1) (by rw[z,hDd];exact Az9 _)
  have hDs:s2.heap.objs.size<=Dd:=Nat.le_of_eq hDd
  have hDfs:Dd∉(Ax X N' scope cl C s2 H2 fp (X.pn++pins)).fs:=fun z=>by
   have z:Dd∈X.env.locals::X.fs:=I2.stkSub Dd z
   rcases List.mem_cons.mp z with z|z
   ·exact absurd I2.lt (by rw[<- z,hDd];exact Az9 _)
   ·exact I2.nofs hDs z
  have I3p:Inv (Ax X N' scope cl C s2 H2 fp (X.pn++pins)) [(Dd,{ cls:=.type "list",data:=.seq its.toArray na })] σ3 H3 s3:=I3.pins_of fun p hp=>by
   have e:p=(Dd,{ cls:=.type "list",data:=.seq its.toArray na }):=by simpa using hp
   subst e
   exact⟨ha3,hD3,hDne,hDfs,fun v z=>by cases z⟩
  have pfp:∀ p∈[(Dd,({ cls:=.type "list",data:=.seq its.toArray na }:Obj))],p.1∉fp:=fun p hp=>by
   have e:p=(Dd,{ cls:=.type "list",data:=.seq its.toArray na }):=by simpa using hp
   subst e
   exact hDfp
  by_cases hlt:i < w.all.length
  ·have hd:w.all.drop i=w.all[i]::w.all.drop (i+1):=Bau hlt
   rw[hd] at hc3
   unfold Gr at hc3
   obtain⟨env4,e4,hc3⟩:=bind_some hc3
   obtain⟨tb,e5,hc3⟩:=bind_some hc3
   obtain⟨go,yl⟩:=hsrc.go H3 μ m i w.all[i] S3 src3 hck (by simp[hlt])
   refine thn (T.item (Ax X N' scope cl C s2 H2 fp (X.pn++pins)) rfl rfl rfl hc i _ s3 σ3 H3 _ I3p (fpY fr3 pfp) st3 go) fun r s4 ⟨u,hr,h4⟩=>?_
   subst hr
   refine thn h4 fun _ s5 ⟨x,H5,I5,r5,y5,st5,fr5⟩=>?_
   obtain⟨s5',rx5⟩:=yl x H5 y5
   have S5:=S3.same s5'
   have E5:=E3.same s5'
   have I5':=I5.pinned (fpY fr5 pfp) (T.obj _ _ st5)
   generalize hps:[(Dd,({ cls:=.type "list",data:=.seq its.toArray na }:Obj))]++Mo fp s5.heap=ps at I5'
   have pacc:(Dd,({ cls:=.type "list",data:=.seq its.toArray na }:Obj))∈ps:=by rw[<- hps];exact Azw _ (by simp)
   have pits:∀ b o,b∈fp->s5.heap.get? b=some o->(b,o)∈ps:=fun b o hb e=>by rw[<- hps];exact Azd _ (Er hb e)
   refine thn (hg cl C s2 H2 fp (X.pn++pins) (hΦ I2) ps s5 σ3 H5 x u (fun σ' H'=>H'=H5/\EnvRep X.K H5 μ σ' env4) I5' r5 ⟨env3,μ,m,_,env4,S5,E5,rx5,by rw[hg3];exact e4,fun σ' E'=>⟨rfl,E'⟩⟩) fun _ s6 ⟨σ6,H6,I6,eH6,E6⟩=>?_
   subst eH6
   refine thn (ht cl C s2 H2 fp (X.pn++pins) (hΦ I2) ps s6 σ6 H6 (fun b H'=>b=tb/\Same H6 H') I6 ⟨env4,μ,m,tb,S5,E6,e5,fun H' s=>⟨rfl,s⟩⟩) fun ok s7 ⟨H7,I7,eb,s7'⟩=>?_
   subst eb
   have S7:=S5.same s7'
   have E7:=E6.same s7'
   have hg4:∀ d,g d env4=g d (Og cap (N'.length - cap.length) env):=fun d=>by rw[hg2 _ d _ _ e4]
   cases ok with
   |false =>
    rw[Azs Az7] at hc3
    have pin7:=fun p hp=>I7.pin p (Azd _ hp)
    refine Atp ⟨w.all.length - (i+1),by lia,.mk hlt (I7.pins_of (fun p hp=>by simp at hp)) (T.keep _ _ _ st5 fun b hb o e=>(pin7 (b,o) (pits b o hb e)).1) (fun b hb=>?_) ((s3'.trans s5').trans s7') (pin7 _ pacc).2.1 E7 hg4 (pin7 _ pacc).1 rv3 (rr3.same (s5'.trans s7')) hc3 hz3 (Nat.le_succ_of_le hl3)⟩
    obtain⟨o,e,_⟩:=T.obj _ _ st5 b hb
    exact (pin7 (b,o) (pits b o hb e)).2.1
   |true =>
    rw[Azp rfl] at hc3
    obtain⟨y,e6,hc3⟩:=bind_some hc3
    obtain⟨rs',e7,hc3⟩:=bind_some hc3
    cases hc3
    refine Atq (thn (he cl C s2 H2 fp (X.pn++pins) (hΦ I2) ps s7 σ6 H7 (fun v H'=>Same H7 H'/\Rep X.K H' μ (·∈μ) y v) I7 ⟨env4,μ,m,y,S7,E7,e6,fun v H' s r=>⟨s,r⟩⟩) fun u8 s8 ⟨x8,H8,I8,r8,s8',rx8⟩=>?_)
    have pin8:=fun p hp=>I8.pin p (Azd _ hp)
    have e8:=(pin8 _ pacc).1
    have hil:its.length<=i:=by rw[<- rv3.length,<- rr3.length];exact hl3
    have hsl:sizeLine=16777216:=Bas
    refine call_meets F.slot_list_append ⟨_,e8,rfl⟩ F.entry_list_append (F.args_list_append_2 _ _) (PySem.list_append Dd its.toArray na u8 (by rw[Azh];lia)) ⟨e8,?_⟩
    obtain⟨na',q9⟩:∃ na',(s8.heap.update Dd (Obj.mapSeq fun a=>a.push u8)).get? Dd=some { cls:=.type "list",data:=.seq (its++[u8]).toArray na' }:=by
     have q9:=PySem.IsL.update e8 (fun a=>a.push u8)
     have ea:(its.toArray.push u8)=(its++[u8]).toArray:=by simp
     rw[ea] at q9
     exact⟨_,q9⟩
    have I8':Inv (Ax X N' scope cl C s2 H2 fp (X.pn++pins)) [] σ6 H8 s8:=I8.pins_of (fun p hp=>by simp at hp)
    have I9:=I8'.turned (it:=Dd) (t':=s8.toks) (h':=s8.heap.update Dd (Obj.mapSeq fun a=>a.push u8)) (fun b o hb e=>(Azu s8.heap _ (Bak hb)).trans e) (pin8 _ pacc).2.1 hDne (.inr hDs) hDcell (fun p hp=>hDpn p (by
     have hp:p∈(X.pn++pins)++[]:=hp
     simpa using hp))
    refine⟨w.all.length - (i+1),by lia,.mk (na:=na') hlt I9 (T.keep _ _ _ st5 fun b hb o e=>?_) (fun b hb=>?_) (((s3'.trans s5').trans s7').trans s8') (pin8 _ pacc).2.1 (E7.same s8') hg4 ?_ (rv3.append (.cons r8 .nil)) ((rr3.same ((s5'.trans s7').trans s8')).append (.cons rx8 .nil)) e7 (by rw[<- hz3];simp) (by rw[Azx];simp;lia)⟩
    ·exact (Azu s8.heap _ (Bak (fdc b hb).2)).trans (pin8 (b,o) (pits b o hb e)).1
    ·obtain⟨o,e,_⟩:=T.obj _ _ st5 b hb
     exact (pin8 (b,o) (pits b o hb e)).2.1
    ·exact q9
  ·have e:i=w.all.length:=by lia
   subst e
   rw[List.drop_length] at hc3
   cases hc3
   rw[Az2] at hz3
   subst hz3
   refine thn (T.done (Ax X N' scope cl C s2 H2 fp (X.pn++pins)) rfl rfl rfl hc _ _ s3 σ3 H3 _ I3p (fpY fr3 pfp) st3 (hsrc.stop H3 μ m S3 src3 hck)) fun r s4 ⟨hr,I4⟩=>?_
   subst hr
   have e4:=(I4.pin (Dd,_) (Azd _ (List.mem_singleton.mpr rfl))).1
   have hyl:ys.length<=sizeLine:=by rw[<- rr3.length];exact big (Azy hl3 hsz)
   have inv:∀ h',(∀ b o,b≠C->s4.heap.get? b=some o->h'.get? b=some o)->Inv X pins σ (upd H3 Dd (.lst ys)) { s4 with heap:=h' }:=fun h' hk=>by
    have nC:∀ b o,s2.heap.get? b=some o->b≠C/\b≠Dd:=fun b o e=>below b (by rw[<- hDd];exact Azj e)
    have un:Un (frs X.stack) fp H2 H3 s2.heap s4.heap:=I4.base
    refine I2.call' (s':={ s4 with heap:=h' }) (ch:=fp) I4.os ⟨fun b o e n hb hx=>hk b o (nC b o e).1 (un.keep b o e n hb hx),fun b o e n hb hx=>?_,fun b o e n hx=>?_,fun b o e hx=>?_,fun b xs e=>?_,fun b o v e=>?_,fun b ps e=>?_⟩ (fun b v e=>?_) I4.bare fun b hb=>?_
    ·obtain⟨sl,q⟩:=un.slot b o e n hb hx
     exact⟨sl,hk b _ (nC b o e).1 q⟩
    ·rw[A0 (nC b o e).2];exact un.free b o e n hx
    ·obtain⟨o',q⟩:=un.there b o e hx
     exact⟨o',hk b _ (nC b o e).1 q⟩
    ·rw[A0 (As e hDn)];exact un.tups b xs e
    ·rw[A0 (As e hDn)];exact un.frzs b o v e
    ·obtain⟨more,q⟩:=un.tbls b ps e
     exact⟨more,by rw[A0 (As e hDn)];exact q⟩
    ·have hCfree:H3 C=none:=I4.free
     by_cases hbD:b=Dd
     ·subst hbD
      rw[A3] at e
      cases e
      exact⟨hyl,its,na,rv3,hk _ _ hDC e4⟩
     ·rw[A0 hbD] at e
      refine (I4.hok b v e).stay (fun c o hc q=>hk c o ?_ q) (fun c q=>by rw[A0 (As q hD3)];exact q) (fun c xs q=>Rd.upd_none hD3 q) fun c x u q=>by rw[A0 (As q hD3)];exact q
      rcases hc with rfl|hc
      ·exact As e hCfree
      ·exact As hc hCfree
    ·obtain⟨q0,q1,q2,q3,q4,q5⟩:=f2 b hb
     exact⟨q3,q1,q4,q5⟩
   have hCl:C≠X.env.locals:=fun z=>absurd I2.lt (by rw[<- z,hDd];exact Nat.not_lt.mpr hCle)
   have hCc':∀ x c,X.env.cells.lookup x=some c->c≠C:=fun x c e z=>by
    obtain⟨v,oc,ho,_⟩:=I2.cell x c e
    exact absurd (Azj ho) (by rw[z,hDd];exact Nat.not_lt.mpr hCle)
   refine hQ Dd C s4 ⟨⟨upd H3 Dd (.lst ys),ys,(hS2.trans s3').trans (A6 hD3),hS2.free hDn,A3,rr3.fresh hD3,inv s4.heap fun _ _ _ e=>e,by rw[A0 hDC.symm];exact I4.free,fun σ' s'' h' J sb=>?_⟩,?_,hCl,hCc'⟩
   ·exact J.turned (it:=C) (t':=s''.toks) (fun b o hb e=>(sb.2 b hb).trans e) (by rw[A0 hDC.symm];exact I4.free) hCl (.inr (Azy I2.sz (by rw[hDd];exact hCle))) hCc' fun p hp z=>absurd (Azj (I2.pin p hp).1) (by rw[z,hDd];exact Nat.not_lt.mpr hCle)
   obtain⟨m',hm,_⟩:=I4.loc
   exact⟨m',hm⟩
 exact codeAny_compStart_list (key _ rfl) (T.self _ 0 _ _ _ (T.keep _ _ _ st2 fun b hb o e=>hkp b o e) (key _ rfl))
theorem Aeg (ok:CompOk X scope cap N') (hc:X.calm=true) (hi:PW' X tg iter fw) (hg2:∀ d d' env e1,g d env=some e1->g d' e1=g d' env)
  {Φ:Hp->Prop} (hΦ:∀ {pins:List (Addr×Obj)}{σ:St}{H:Hp}{s:Shared},Inv X pins σ H s->Φ H) (hg:∀ cl C s₀ H₀ ex pn,Φ H₀->PGD (Ax X N' scope cl C s₀ H₀ ex pn) tg g) (ht:∀ cl C s₀ H₀ ex pn,Φ H₀->PTs (Ax X N' scope cl C s₀ H₀ ex pn) ifs t) (he:∀ cl C s₀ H₀ ex pn,Φ H₀->PD (Ax X N' scope cl C s₀ H₀ ex pn) elt fe)
  (hs:∀ x,foldedSetIterable iter X.env x=pure x):PF X (.ListComp elt [⟨tg,iter,ifs,0⟩] scope pos) (B6 cap (N'.length - cap.length) fw g t fe):=by
 intro pins s σ H Q I ⟨env,μ,m,zs,S,E,h,q⟩
 rw[eval_ListComp]
 refine L0 ok hc hi hg2 hΦ hg ht he hs I S E h fun D C s' ⟨⟨H',ys,h1,h2,h3,h4,h5,h6,h7⟩,⟨mm,hm⟩,_,_⟩=>?_
 exact⟨mm,hm,fun h' sb=>⟨.ref D,H',h7 σ s' h' h5 sb,rfl,q D ys H' h1 h2 h3 h4⟩⟩
variable {x:Str}{p' spos:Pos}{i:Nat}
theorem Yo (ok:CompOk X scope cap N') (hc:X.calm=true) (hi:PW' X tg iter fw) (hg2:∀ d d' env e1,g d env=some e1->g d' e1=g d' env)
  {Φ:Hp->Prop} (hΦ:∀ {pins:List (Addr×Obj)}{σ:St}{H:Hp}{s:Shared},Inv X pins σ H s->Φ H) (hg:∀ cl C s₀ H₀ ex pn,Φ H₀->PGD (Ax X N' scope cl C s₀ H₀ ex pn) tg g) (ht:∀ cl C s₀ H₀ ex pn,Φ H₀->PTs (Ax X N' scope cl C s₀ H₀ ex pn) ifs t) (he:∀ cl C s₀ H₀ ex pn,Φ H₀->PD (Ax X N' scope cl C s₀ H₀ ex pn) elt fe)
  (hs:∀ x,foldedSetIterable iter X.env x=pure x) (hsw:swapsWith (.ListComp elt [⟨tg,iter,ifs,0⟩] scope pos) (some (.Name x p')) spos.line X.env=pure true) (hN:X.N.Nodup) (hn:X.N[i]?=some x) (hx:Loc X.env.scope x) (hf:X.fn x=true\/X.env.scope.names.lookup x=some .local) :
  PS X (.Assign [.Name x p'] (.ListComp elt [⟨tg,iter,ifs,0⟩] scope pos) spos) (Anj (tF X.K (B6 cap (N'.length - cap.length) fw g t fe)) (V3 i)):=by
 intro pins s σ H Dn I ⟨env,μ,m,zs,S,E,h,q⟩
 rw[exec_Assign_Name_used _ _ _ _ hsw]
 refine Azc (wpAny_standAt (Azc ?_))
 show wpAny _ X.A (do let _ <- comprehension (.ListComp elt [⟨tg,iter,ifs,0⟩] scope pos) scope X.env _ (newList []) false (eval iter X.env) (some (assign (.Name x p') X.env))) _ _ s
 refine Azc (Bal (L0 ok hc hi hg2 hΦ hg ht he hs (use:=some (assign (.Name x p') X.env)) (Q:=fun _ s'=>SP X pins Dn .next s') I S E h fun D C s' ⟨⟨H',ys,h1,h2,h3,h4,h5,h6,h7⟩,⟨mm,hm⟩,lc,cc⟩=>?_) (fun _ s' hq=>Azi (Azi hq)) fun _ _ e=>e)
 show wpAny _ X.A (assign (.Name x p') X.env (.ref D)) _ _ _
 refine wpAny_assign_Name (Lg (v:=.ref D) h5 hN hn hx rfl (fun s'' I'' ⟨a,sb,ha⟩=>?_) hf)
 refine⟨mm,hm.sameBut sb ?_,fun h' sb'=>⟨_,H',h7 _ s'' h' I'' sb',q D ys H' h1 h2 h3 h4⟩⟩
 rcases ha with ha|ha
 ·rw[ha];exact lc
 ·exact (cc x a ha).symm
theorem Alj (ok:CompOk X scope cap N') (hc:X.calm=true) (hi:PW' X tg iter fw) (hg2:∀ d d' env e1,g d env=some e1->g d' e1=g d' env)
  (hg:∀ cl C s₀ H₀ ex pn,PGD (Ax X N' scope cl C s₀ H₀ ex pn) tg g) (ht:∀ cl C s₀ H₀ ex pn,PTs (Ax X N' scope cl C s₀ H₀ ex pn) ifs t) (he:∀ cl C s₀ H₀ ex pn,PD (Ax X N' scope cl C s₀ H₀ ex pn) elt fe)
  (hs:∀ x,foldedSetIterable iter X.env x=pure x):PF X (.ListComp elt [⟨tg,iter,ifs,0⟩] scope pos) (B6 cap (N'.length - cap.length) fw g t fe) :=
 Aeg (Φ:=fun _=>True) ok hc hi hg2 (fun _=>trivial) (fun a b c d e f _=>hg a b c d e f) (fun a b c d e f _=>ht a b c d e f) (fun a b c d e f _=>he a b c d e f) hs
theorem T9 (ok:CompOk X scope cap N') (hc:X.calm=true) (hi:PW' X tg iter fw) (hg2:∀ d d' env e1,g d env=some e1->g d' e1=g d' env)
  (hg:∀ cl C s₀ H₀ ex pn,PGD (Ax X N' scope cl C s₀ H₀ ex pn) tg g) (ht:∀ cl C s₀ H₀ ex pn,PTs (Ax X N' scope cl C s₀ H₀ ex pn) ifs t) (he:∀ cl C s₀ H₀ ex pn,PD (Ax X N' scope cl C s₀ H₀ ex pn) elt fe)
  (hs:∀ x,foldedSetIterable iter X.env x=pure x) (hsw:swapsWith (.ListComp elt [⟨tg,iter,ifs,0⟩] scope pos) (some (.Name x p')) spos.line X.env=pure true) (hN:X.N.Nodup) (hn:X.N[i]?=some x) (hx:Loc X.env.scope x) (hf:X.fn x=true\/X.env.scope.names.lookup x=some .local) :
  PS X (.Assign [.Name x p'] (.ListComp elt [⟨tg,iter,ifs,0⟩] scope pos) spos) (Anj (tF X.K (B6 cap (N'.length - cap.length) fw g t fe)) (V3 i)) :=
 Yo (Φ:=fun _=>True) ok hc hi hg2 (fun _=>trivial) (fun a b c d e f _=>hg a b c d e f) (fun a b c d e f _=>ht a b c d e f) (fun a b c d e f _=>he a b c d e f) hs hsw hN hn hx hf
theorem Aes (h:PS X (.Assign [.Name x p'] (.ListComp elt [⟨tg,iter,ifs,0⟩] scope pos) spos) (Anj (tF X.K (B6 cap (N'.length - cap.length) fw g t fe)) (V3 i))) :
  PSD X (.Assign [.Name x p'] (.ListComp elt [⟨tg,iter,ifs,0⟩] scope pos) spos) (Da i (C0 (B6 cap (N'.length - cap.length) fw g t fe))):=PS.imp h fun D σ H ⟨env,μ,m,o,S,E,h,q⟩=>by
 obtain⟨d,h1,h2⟩:=bind_some h
 obtain⟨ds,h0,h1⟩:=bind_some h1
 cases h1
 cases h2
 exact⟨env,μ,m,ds,S,E,h0,fun a xs H' s hn ha r=>q _ H' μ (Step.of_same s) (S.same s) ((E.same s).set i (.lst (.inl ha) (S.nnone hn) r.unw))⟩
theorem Aeq (h:PS X (.Assign [.Name x p'] (.ListComp elt [⟨tg,iter,ifs,0⟩] scope pos) spos) (Anj (tF X.K (B6 cap (N'.length - cap.length) fw g t fe)) (V3 i))) :
  PSD X (.Assign [.Name x p'] (.ListComp elt [⟨tg,iter,ifs,0⟩] scope pos) spos) (Gf i (B6 cap (N'.length - cap.length) fw g t fe)):=PS.imp h fun D σ H ⟨env,μ,m,o,S,E,h,q⟩=>by
 obtain⟨ds,h1,h2⟩:=bind_some h
 cases h2
 refine⟨env,μ,m,ds,S,E,h1,fun a xs H' s hn ha r=>?_⟩
 obtain⟨st,S'⟩:=S.push s hn ha r
 exact q _ H' _ st S' ((E.step S st).set i (La S.len))
end
end
end ML
end L2
end S_ML7
section S_ML8
namespace L2
namespace ML
open PySem PySem.Spec PyProof.Rows
open Classical
noncomputable section
noncomputable def Its (x:Str):It:=⟨fun i _=>i < x.cps.size,fun i H v H'=>H'=H/\∃ c,x.cps[i]?=some c/\v=.str ⟨#[c]⟩,fun i _=>x.cps.size<=i⟩
theorem Afq {P:Program}{w:World}{K:W.Frag}{tg:Expr} (it:Addr) (ty:String) (x:Str) (t:Tok) (hty:ty="str_ascii_iterator"\/ty="str_iterator"):Turn P w K tg (Its x) [it] it (fun i h=>h.IsStrIter it ty x t i) where
 mem:=by simp
 obj:=fun i h st b hb=>by
  have e:b=it:=by simpa using hb
  subst e
  obtain⟨o,e,c,d⟩:=st
  exact⟨o,e,fun v z=>by rw[d] at z;cases z⟩
 keep:=fun i h h' st k=>by
  obtain⟨o,e,c,d⟩:=st
  exact⟨o,k it (by simp) o e,c,d⟩
 item:=by
  intro X hP hw hK hc i pins s σ H E I hf st hg
  subst hP hw hK
  obtain⟨f0,f1,f2,f3,f4,f5⟩:=hf it (by simp)
  have hi:i < x.cps.size:=hg
  have hx:x.cps[i]?=some x.cps[i]:=by simp[hi]
  have fin:∀ h',h'.IsStrIter it ty x t (i+1)->Heap.SameBut it s.heap h'->∃ u,some (Value.str ⟨#[x.cps[i]]⟩ s.toks)=some u /\
    wpAny (model X.prog X.w) X.A (letOwnedTupleGo tg (.ref it) u) (fun _ s2=>∃ y H',Inv X pins σ H' s2/\RelV y u/\(Its x).yld i H y H'/\s2.heap.IsStrIter it ty x t (i+1)/\∀ b∈[it],H' b=none) E { s with heap:=h',toks:=s.toks+1 }:=fun h' st' sb=>by
   have I1:Inv X pins σ H { s with heap:=h',toks:=s.toks+1 }:=I.turned (fun b o hb e=>(sb.2 b hb).trans e) f0 f1 f3 f4 f5
   obtain⟨o,e,c,d⟩:=id st'
   refine⟨_,rfl,Zd (s:={ s with heap:=h',toks:=s.toks+1 }) e c d (by rcases hty with rfl|rfl<;>decide) ⟨.str ⟨#[x.cps[i]]⟩,H,I1,⟨_,rfl⟩,⟨rfl,_,hx,rfl⟩,st',fun b hb=>(hf b hb).1⟩⟩
  rcases hty with rfl|rfl
  ·exact wpAny_pyNext_ascii_item st hx fun h' st' sb=>fin h' st' sb
  ·exact wpAny_pyNext_wide_item st hx fun h' st' sb=>fin h' st' sb
 done:=by
  intro X hP hw hK hc i pins s σ H E I hf st hg
  subst hP hw hK
  obtain⟨f0,f1,f2,f3,f4,f5⟩:=hf it (by simp)
  have hi:x.cps.size<=i:=hg
  rcases hty with rfl|rfl
  ·exact wpAny_pyNext_ascii_end (I.ok.hd hc) st (by simp[hi]) fun h' eb=>⟨rfl,I.turned (t':=s.toks) (fun b o hb e=>eb b o hb e) f0 f1 f3 f4 f5⟩
  ·exact wpAny_pyNext_wide_end (I.ok.hd hc) st (by simp[hi]) fun h' eb=>⟨rfl,I.turned (t':=s.toks) (fun b o hb e=>eb b o hb e) f0 f1 f3 f4 f5⟩
 self:=fun _ _ _ _ _ st h=>by
  rcases hty with rfl|rfl
  ·exact wpAny_pyIter_striter_ascii st h
  ·exact wpAny_pyIter_striter_wide st h
noncomputable def Mt (z:Str):List D:=z.cps.toList.map fun c=>.str ⟨#[c]⟩
theorem Am2 {K:W.Frag}{z:Str} (ok:PyData.strOk z=true):Src K (Its z) (Mt z) Bv (fun _ _ _=>True) where
 go:=fun H μ m i d S h _ e=>by
  unfold Mt at e
  rw[Az3] at e
  cases q:z.cps.toList[i]? with
  |none=>rw[q] at e;cases e
  |some c =>
   rw[q] at e
   cases e
   have hi:i < z.cps.size:=by simpa using (List.getElem?_eq_some_iff.mp q).1
   have q':z.cps[i]?=some c:=by simpa using q
   refine⟨hi,fun x H' ⟨h1,c',h2,h3⟩=>?_⟩
   subst h1
   subst h3
   rw[q'] at h2
   cases h2
   exact⟨Same.refl _,.str _ (Li ok fun c' hc=>by rw[show c'=c by simpa using hc];exact Az8 q)⟩
 stop:=fun H μ m S h _=>by show z.cps.size<=(Mt z).length;unfold Mt;simp
 keep:=fun H μ m H' μ' m' h S st S'=>trivial
section
variable {X:Cx}{a b c e o':Expr}{es:List Expr}{pos p p' apos cpos spos:Pos}{x:Str}{tg:Expr}{id:String}
def Eg (f:FE):FW:=fun env m=>(f env m).bind fun d=>match d with
 |.str z=>some ⟨Mt z,Bv⟩
 |.tup ds=>some ⟨ds,Bv⟩
 |.lst ds=>some ⟨ds,Bv⟩
 |.kl ds=>some ⟨ds,Bv⟩
 |.ref n=>(match m[n]? with
  |some (.lst ds)=>some ⟨ds,fun m'=>m'[n]?=some (.lst ds)⟩
  |_=>none)
 |_=>none
theorem Asf {f:FE} (h:PD X e f):PW' X tg e (Eg f):=by
 intro pins s σ H R I hw
 obtain⟨env,μ,m,w,S,E,hw,q⟩:=hw
 obtain⟨d,h1,h2⟩:=bind_some hw
 refine thn (h pins s σ H (fun v H1=>Same H H1/\Rep X.K H1 μ (·∈μ) d v) I ⟨env,μ,m,d,S,E,h1,fun v H1 s1 r1=>⟨s1,r1⟩⟩) fun u s1 ⟨v,H1,I1,r1,s1',rx⟩=>?_
 have lst:∀ {a:Addr}{xs:List V},u=.ref a->SqL X.K H1 a xs->R (Itl X.K a) H1->wpAny (model X.prog X.w) X.A (pyIter u) (PIE X pins σ tg R) X.xe s1:=fun {a xs} e hq hR=>by
  subst e
  obtain⟨its,rv,p,hz⟩:=I1.list hq
  refine wpAny_pyIter_list p.isList ?_
  refine⟨s1.heap.objs.size,[s1.heap.objs.size],_,_,H1,rfl,I1.kept (t':=s1.toks) fun b o e=>Aze _ e,Acb a _,⟨_,Azq _ rfl,rfl,rfl⟩,fun b hb=>?_,hR⟩
  have e:b=s1.heap.objs.size:=by simpa using hb
  subst e
  exact I1.fpOk (Azn _) (I1.hok.fresh (Azn _))
 have rx0:=rx
 cases rx with
 |str z ok =>
  cases h2
  obtain⟨t,rfl⟩:=r1
  have fin:∀ ty,(ty="str_ascii_iterator"\/ty="str_iterator")->PIE X pins σ tg R (.ref s1.heap.objs.size) { s1 with heap:=s1.heap.push { cls:=.type ty,data:=.fields #[.str z t,.int 0 0] } }:=fun ty hty=>by
   refine⟨s1.heap.objs.size,[s1.heap.objs.size],_,_,H1,rfl,I1.kept (t':=s1.toks) fun b o e=>Aze _ e,Afq _ ty z t hty,⟨_,Azq _ rfl,rfl,rfl⟩,fun b hb=>?_,q H1 _ _ s1' (Am2 ok) trivial⟩
   have e:b=s1.heap.objs.size:=by simpa using hb
   subst e
   exact I1.fpOk (Azn _) (I1.hok.fresh (Azn _))
  cases ha:z.cps.all (· < 128)
  ·exact wpAny_pyIter_wide ha (fin _ (.inr rfl))
  ·exact wpAny_pyIter_ascii ha (fin _ (.inl rfl))
 |@tup ds a xs hq rs =>
  cases h2
  cases r1
  obtain⟨its,rv,p,hz⟩:=I1.tuple hq
  refine wpAny_pyIter_tuple (show s1.heap.IsTuple a its.toArray from p) ?_
  refine⟨s1.heap.objs.size,[s1.heap.objs.size],_,_,H1,rfl,I1.kept (t':=s1.toks) fun b o e=>Aze _ e,X4 a _,⟨_,Azq _ rfl,rfl,rfl⟩,fun b hb=>?_,q H1 _ _ s1' Am3 rx0⟩
  have e:b=s1.heap.objs.size:=by simpa using hb
  subst e
  exact I1.fpOk (Azn _) (I1.hok.fresh (Azn _))
 |@lst ds a xs hq _ rs=>cases h2;exact lst r1 (.inl hq) (q H1 _ _ s1' Am0 rx0)
 |@kl ds a xs hq rs=>cases h2;exact lst r1 hq.sq (q H1 _ _ s1' As3 rx0)
 |dic _ _ _ _=>cases h2
 |dks _ _ _ _=>exact Ad h2
 |fz _ _ _=>exact Ad h2
 |fn _=>exact Ad h2
 |@ref n a e =>
  simp only at h2
  cases q':m[n]? with
  |none=>simp[q'] at h2
  |some ob =>
   simp only[q'] at h2
   cases ob with
   |dcs _ _=>cases h2
   |dct _ _=>cases h2
   |lst ds =>
    cases h2
    obtain⟨xs,e1,rs⟩:=(S.same s1').obj n a _ e q'
    exact lst r1 (SqL.of e1) (q H1 _ _ s1' Am1 e)
 |non=>exact Ad h2
 |bl _=>exact Ad h2
 |int _=>exact Ad h2
theorem Sim.write {K:W.Frag}{H:Hp}{μ:List Addr}{m:MH}{n:Nat}{a:Addr}{ds es:List D}{ys:List V} (S:Sim K H μ m) (h1:μ[n]?=some a) (h2:m[n]?=some (.lst ds)) (r:Reps K H μ (·∈μ) es ys) :
  Step H μ (upd H a (.lst ys)) μ/\Sim K (upd H a (.lst ys)) μ (m.set n (.lst es))/\∀ {d:D}{v:V},Rep K H μ (·∈μ) d v->Rep K (upd H a (.lst ys)) μ (·∈μ) d v:=by
 have ha:a∈μ:=Az8 h1
 have st:Step H μ (upd H a (.lst ys)) μ:=⟨⟨[],by simp,by simp⟩,fun b o e hb=>by rw[A0 fun z=>hb (by rw[z];exact ha)];exact e⟩
 have nl:n < m.length:=(List.getElem?_eq_some_iff.mp h2).1
 refine⟨st,⟨S.nd,by simp[S.len],fun j b o h3 h4=>?_⟩,fun r=>r.step S st⟩
 by_cases hj:j=n
 ·subst hj
  rw[h1] at h3
  cases h3
  rw[Bbm nl] at h4
  cases h4
  exact⟨ys,A3,r.step S st⟩
 ·rw[Bb2 (Bak hj)] at h4
  have q:=S.obj j b o h3 h4
  have hb:b≠a:=fun z=>hj (by
   subst z
   exact (List.getElem_inj S.nd).mp ((List.getElem?_eq_some_iff.mp h3).2.trans (List.getElem?_eq_some_iff.mp h1).2.symm))
  cases o with
  |lst fs=>obtain⟨zs,q1,q2⟩:=q;exact⟨zs,by rw[A0 hb];exact q1,q2.step S st⟩
  |dcs ks vs=>obtain⟨zs,q1,q2,q3⟩:=q;exact⟨zs,by rw[A0 hb];exact q1,q2,q3.step S st⟩
  |dct ks vs=>obtain⟨zs,q1,q2,q3⟩:=q;exact⟨zs,by rw[A0 hb];exact q1,q2,q3.step S st⟩
def Anl (X:Cx) (r:V->List V->Hp->VK->Prop) (o:List D->List D->Option (List D)):Prop :=
 ∀ (μ:List Addr) (H:Hp) (a:Addr) (xs vs:List V) (ds es fs:List D) (Q:VK),H a=some (.lst xs)->a∈μ->Reps X.K H μ (·∈μ) ds xs->Reps X.K H μ (·∈μ) es vs->o ds es=some fs->(∀ ys,Reps X.K H μ (·∈μ) fs ys->Q .non (upd H a (.lst ys)))->r (.ref a) vs H Q
noncomputable def Xs (o:List D->List D->Option (List D)) (f:FE) (g:FL):FS:=fun env m=>(f env m).bind fun d=>match d with
 |.ref n=>(g env m).bind fun es=>(match m[n]? with
  |some (.lst ds)=>(o ds es).bind fun fs=>some (.nx env (m.set n (.lst fs)))
  |_=>none)
 |_=>none
theorem Aa1 {r:V->List V->Hp->VK->Prop}{o:List D->List D->Option (List D)}{f:FE}{g:FL}{name:Str} (pa:PlainAttrs "list") (slot:Slot "list" name id) (hty:typeOf (.builtin id)=pure (.type "method_descriptor")) (hm:MtR X id r) (ho:Anl X r o) (hf:PD X o' f) (ha:PL X (e::es) g)
  (hbase:attributeBase o' name X.env (eval o' X.env)=eval o' X.env)
  (hfew:((backTo cpos (starEach (e::es) X.env)).all (fun x=>!x.1)&&(backToKw cpos (keywordEach [] X.env)).all (fun x=>x.1.isSome)
   &&decide ((e::es).length+([]:List Keyword).length+(if ([]:List Keyword).isEmpty then 0 else 1) < 30))=true)
  (hline:(apos.endLine == cpos.line)=true) (hs:starEach (e::es) X.env=(false,eval e X.env)::starEach es X.env) (hplain:(backTo cpos (starEach es X.env)).any (·.1)=false) :
  PSD X (.Expr (.Call (.Attribute o' name apos) (e::es) [] cpos) spos) (Xs o f g):=PS.imp (Te (Ar0 pa slot hty hm hf ha hbase hfew hline hs hplain)) fun D σ H ⟨env,μ,m,ob,S,E,h,q⟩=>by
 obtain⟨d,h1,h⟩:=bind_some h
 refine⟨env,μ,m,d,S,E,h1,fun v H1 s1 r1=>?_⟩
 cases r1 with
 |@ref n a e =>
  simp only at h
  obtain⟨es,h2,h⟩:=bind_some h
  cases q':m[n]? with
  |none=>simp[q'] at h
  |some mo =>
   simp only[q'] at h
   cases mo with
   |dcs _ _=>cases h
   |dct _ _=>cases h
   |lst ds =>
    simp only at h
    obtain⟨fs,h3,h⟩:=bind_some h
    cases h
    obtain⟨xs,e1,rs⟩:=(S.same s1).obj n a _ e q'
    refine⟨.inl ⟨rfl,xs,SqL.of e1⟩,env,μ,m,es,S.same s1,E.same s1,h2,fun vs H2 s2 r2=>?_⟩
    have S2:=S.same (s1.trans s2)
    refine ho μ H2 a xs vs ds es fs _ (s2 _ _ e1) (Az8 e) (rs.same s2) r2 h3 fun ys ry=>?_
    obtain⟨st,S3,up⟩:=S2.write e q' ry
    exact q σ _ μ ((Step.of_same (s1.trans s2)).trans st fun c hc=>(s1.trans s2).free hc) S3 ((E.same (s1.trans s2)).step S2 st)
 |_=>exact Ad h
noncomputable def Xg:List D->List D->Option (List D):=fun ds es=>match es with
 |[d]=>if ds.length < 1000000 then some (ds++[d]) else none
 |_=>none
theorem Agn:Anl X Abm Xg:=fun μ H a xs vs ds es fs Q h1 ha rs re h q=>by
 match es,h with
 |[d],h =>
  unfold Xg at h
  simp only at h
  split at h
  ·rename_i hl
   cases h
   obtain⟨v,rfl,r⟩:=re.one
   exact⟨a,xs,v,rfl,rfl,h1,by rw[<- rs.length];have:sizeLine=16777216:=Bas;lia,q _ (rs.append (.cons r .nil))⟩
  ·cases h
def G3 (f fo fi:FE):FS:=fun env m=>(f env m).bind fun d=>(fo env m).bind fun o=>(fi env m).bind fun i=>match o,i with
 |.ref n,.int k=>(match m[n]? with
  |some (.lst ds)=>(ixN ds.length k).bind fun j=>some (.nx env (m.set n (.lst (ds.set j d))))
  |_=>none)
 |_,_=>none
theorem Aa3 {f fo fi:FE} (he:PD X e f) (ho:PD X a fo) (hi:PD X b fi)
  (ha:∀ v,assign (.Subscript a b p) X.env v=(do
   let ov <- holding [v] (eval a X.env)
   let iv <- holding [v,ov] (eval b X.env)
   standAt p
   holding [v,ov,iv] (setItem ov iv v)
   release [v,ov,iv] [])) (hs:swapsWithSole [.Subscript a b p] e pos.line X.env=pure false) (hw:swappedStores [.Subscript a b p] e X.env=pure none) (h1:(assignEach [.Subscript a b p] X.env).map (·.2)=[assign (.Subscript a b p) X.env]) :
  PSD X (.Assign [.Subscript a b p] e pos) (G3 f fo fi):=PS.imp (U0 he (Ag4 ho hi U7 ha) hs hw h1) fun D σ H ⟨env,μ,m,ob,S,E,h,q⟩=>by
 obtain⟨d,h1,h⟩:=bind_some h
 obtain⟨o,h2,h⟩:=bind_some h
 obtain⟨i,h3,h⟩:=bind_some h
 refine⟨env,μ,m,d,S,E,h1,fun v H1 s1 r1=>⟨env,μ,m,o,S.same s1,E.same s1,h2,fun u H2 s2 r2=>⟨env,μ,m,i,S.same (s1.trans s2),E.same (s1.trans s2),h3,fun w H3 s3 r3=>?_⟩⟩⟩
 have s':=(s1.trans s2).trans s3
 have r2':=r2.same s3
 obtain⟨n,rfl⟩:∃ n,o=.ref n:=by
  cases o with
  |ref n=>exact⟨n,rfl⟩
  |_=>cases h
 obtain⟨k,rfl⟩:∃ k,i=.int k:=by
  cases i with
  |int k=>exact⟨k,rfl⟩
  |_=>cases h
 cases r3
 cases r2' with
 |@ref _ a e =>
  simp only at h
  cases q':m[n]? with
  |none=>simp[q'] at h
  |some mo =>
   simp only[q'] at h
   cases mo with
   |dcs _ _=>cases h
   |dct _ _=>cases h
   |lst ds =>
    simp only at h
    obtain⟨j,h4,h⟩:=bind_some h
    cases h
    obtain⟨xs,e1,rs⟩:=(S.same s').obj n a _ e q'
    refine⟨a,xs,k,j,rfl,rfl,e1,by rw[<- rs.length];exact h4,?_⟩
    obtain⟨st,S3,up⟩:=(S.same s').write e q' (rs.set ((r1.same s2).same s3) j)
    exact q σ _ μ ((Step.of_same s').trans st fun c hc=>s'.free hc) S3 ((E.same s').step (S.same s') st)
end
end
end ML
end L2
end S_ML8
section S_ML8a
namespace L2
namespace ML
open PySem PySem.Spec PyProof.Rows
noncomputable def Bp:Expr->Bool
 |.Starred ..=>false
 |_=>true
noncomputable def Ij:Expr->Bool
 |.ListComp ..=>false|.SetComp ..=>false|.DictComp ..=>false
 |_=>true
noncomputable def Agr:Expr->Bool
 |.UnaryOp ..=>false|.BoolOp ..=>false|.IfExp ..=>false|.Compare ..=>false
 |_=>true
noncomputable def Atw:Expr->Bool
 |.Slice ..=>false
 |_=>true
noncomputable def Eb:Expr->Bool
 |.Set ..=>false
 |_=>true
noncomputable def Mj:Expr->Bool
 |.Call ..=>false
 |_=>true
theorem Ar (h:Bp e=true):starEach (e::es) env=(false,eval e env)::starEach es env:=by
 cases e<;>first|rfl|cases h
theorem Dm {pos:Pos}{env:Env}:∀ {es:List Expr},es.all Bp=true->(backTo pos (starEach es env)).any (·.1)=false
 |[],_=>rfl
 |e::es,h=>by
  rw[Ban,Az0] at h
  rw[Ar h.1]
  have ih:=Dm (pos:=pos) (env:=env) h.2
  unfold backTo at ih ⊢
  rw[Azm,Ba0,ih]
  rfl
theorem Vd {pos:Pos}{env:Env}:∀ {es:List Expr},es.all Bp=true->(backTo pos (starEach es env)).all (fun x=>!x.1)=true
 |[],_=>rfl
 |e::es,h=>by
  rw[Ban,Az0] at h
  rw[Ar h.1]
  have ih:=Vd (pos:=pos) (env:=env) h.2
  unfold backTo at ih ⊢
  rw[Azm,Ban,ih]
  rfl
theorem G4 {pos:Pos} (h:es.all Bp=true) (hl:decide (es.length < 30)=true):((backTo pos (starEach es env)).all (fun x=>!x.1)&&(backToKw pos (keywordEach [] env)).all (fun x=>x.1.isSome)
   &&decide (es.length+([]:List Keyword).length+(if ([]:List Keyword).isEmpty then 0 else 1) < 30))=true:=by
 rw[Vd h]
 have hl:=Baa hl
 have e:es.length+([]:List Keyword).length+(if ([]:List Keyword).isEmpty then 0 else 1)=es.length:=rfl
 rw[e,Bbd hl]
 rfl
theorem Gh {t:Option Expr}{l:Nat} (h:Ij e=true):swapsWith e t l env=pure false:=by
 cases e<;>first|rfl|cases h
theorem Jb {e t:Expr}{l:Nat} (h:Ij e=true):swapsWithSole [t] e l env=pure false:=Gh h
theorem Xy (h:Agr e=true):∀ whole,isTrue e env whole=(do let v <- whole;standAt e.pos;holding [v] (truthy v)):=by
 intro whole
 cases e<;>first|rfl|cases h
theorem Nk (h:Atw e=true):Jc e:=by
 intro o i
 cases e<;>first|rfl|cases h
theorem De (h:Eb e=true):∀ x,foldedSetIterable e env x=pure x:=by
 intro x
 cases e<;>first|rfl|cases h
theorem Ds (h:Mj e=true):attributeBase e n env (eval e env)=eval e env:=by
 cases e<;>first|rfl|cases h
theorem Ep (h:Eb e=true):behindInMarks op e=false:=by
 cases e<;>first|rfl|cases h
open Classical
noncomputable section
def Ha (scope outer:Scope) (N N':List Str) (cap:List Nat):Bool :=
 scope.kind == .function&&scope.names.all (fun y=>y.2 != .cell||scope.names.lookup y.1 == some .cell)&&scope.names.all (fun y=>y.2 != .local||scope.names.lookup y.1 == some .local)
 &&scope.names.all (fun y=>y.2 != .free||(outer.names.lookup y.1 == some .cell||outer.names.lookup y.1 == some .free))&&decide N'.Nodup&&decide (cap.length<=N'.length)
 &&(List.range cap.length).all fun j=>match cap[j]?,N'[j]? with
  |some i,some x=>N[i]? == some x&&scope.names.lookup x == some .free
  |_,_=>false
theorem CompOk.of {cap:List Nat} (h:Ha scope X.env.scope X.N N' cap=true):CompOk X scope cap N':=by
 unfold Ha at h
 simp only[Az0] at h
 obtain⟨⟨⟨⟨⟨⟨h1,h2⟩,h3⟩,h4⟩,h5⟩,h6⟩,h7⟩:=h
 refine⟨by simpa using h1,fun y hy e=>?_,fun y hy e=>?_,fun y hy e=>?_,Baa h5,Baa h6,fun j i x e1 e2=>?_⟩
 ·have:=List.all_eq_true.mp h2 y hy
  rw[e] at this
  simpa using this
 ·have:=List.all_eq_true.mp h3 y hy
  rw[e] at this
  simpa using this
 ·have:=List.all_eq_true.mp h4 y hy
  rw[e] at this
  simpa using this
 ·have hj:j < cap.length:=(List.getElem?_eq_some_iff.mp e1).1
  have:=List.all_eq_true.mp h7 j (List.mem_range.mpr hj)
  rw[e1,e2] at this
  simpa using this
theorem Ck (i:Nat):∀ d d' env e1,Au i d env=some e1->Au i d' e1=Au i d' env:=fun d d' env e1 h=>by
 cases h
 unfold Au
 rw[List.set_set]
structure QD (X:Cx) (e:Expr) (f:FE):Prop where out:PD X e f
structure QF (X:Cx) (e:Expr) (f:FL):Prop where out:PF X e f
structure QB (X:Cx) (e:Expr) (f:FB):Prop where out:PB X e f
structure QWB (X:Cx) (e:Expr) (f:FB):Prop where out:PWB X e f
structure QL (X:Cx) (e:List Expr) (f:FL):Prop where out:PL X e f
structure QO (X:Cx) (e:Option Expr) (f:FO):Prop where out:PO' X e f
structure QS (X:Cx) (e:Stmt) (f:FS):Prop where out:PSD X e f
structure QSs (X:Cx) (e:List Stmt) (f:FS):Prop where out:Ri X e f
structure QG (X:Cx) (e:Expr) (f:FG):Prop where out:PGD X e f
structure QGs (X:Cx) (e:List Expr) (f:List D->Bc->Option Bc):Prop where out:Anm X e f
structure QW (X:Cx) (tg e:Expr) (f:FW):Prop where out:PW' X tg e f
structure QTs (X:Cx) (e:List Expr) (f:FB):Prop where out:PTs X e f
theorem Ayx {P:Program}{w:World}{K:W.Frag}{mg:Str->Option Value}{base:Heap}{x qual:Str}{st:Stmt}{f:Addr}{fd:FuncData}{N ps:List Str}{k n:Nat} (F:Fun K x qual st f fd) (S:FnScope N ps (Aq st)) (g:FS) (fn:List D->Option D) (hfn:fn=Gj N.length g) (hn:ps.length=n)
  (hbody:∀ (cdv:Value) (A:Around) (outer:List Env) (s:Shared) (H:Hp) (E:XK),Room k (A.deeper (envOfC qual (Aq st) s.heap.objs.size f cdv)) ->
   QSs (Nf CX0 P w K mg base N qual (Aq st) f cdv A outer s H E).nox (Bw st) g):FnOk P w K mg base CX0 (k+1) f fd ps (spP K n fn):=by
 subst hfn hn
 exact Ajm F S fun cdv A outer s H E hr=>(hbody cdv A outer s H E hr).out
theorem C7:QTs X [] Lq:=⟨Al7⟩
theorem H4 (h:QB X c f):QTs X [c] f:=⟨Al8 h.out⟩
section
variable {X:Cx}{a b c e:Expr}{es:List Expr}{pos p p' apos cpos spos:Pos}{x:Str}{tg:Expr}{id:String}
theorem Ah {i j}:QD X (.Constant (.int i) j pos) (fC (.int i)):=⟨Arn⟩
theorem Abc {i j}:QD X (.Constant (.bool i) j pos) (fC (.bl i)):=⟨Avz⟩
theorem Ast {j}:QD X (.Constant .none j pos) (fC .non):=⟨Arq⟩
theorem Bq (ho:OpM X (binaryOp op) o) (ha:QD X a f) (hb:QD X b g):QD X (.BinOp a op b pos) (f2 o f g):=⟨Arl ho ha.out hb.out⟩
theorem Awe (ha:QD X a f):QD X (.UnaryOp .Not a pos) (Y3 f):=⟨Ars ha.out⟩
theorem Ae6 {op} (h:QD X a f):QD X (.BoolOp op [a] pos) f:=⟨Art h.out⟩
theorem Asi (ha:QD X a f) (hb:QD X (.BoolOp .And (b::es) pos) g):QD X (.BoolOp .And (a::b::es) pos) (Vz f g):=⟨Ark ha.out hb.out⟩
theorem Aw5 (ha:QD X a f) (hb:QD X (.BoolOp .Or (b::es) pos) g):QD X (.BoolOp .Or (a::b::es) pos) (Anf f g):=⟨Av3 ha.out hb.out⟩
theorem Aw4 {t:FB} (hc:QB X c t) (ha:QD X a f) (hb:QD X b g):QD X (.IfExp c a b pos) (fIf t f g):=⟨Av0 hc.out ha.out hb.out⟩
theorem Bo {x1} (h:QL X es g):QD X (.Tuple es x1 pos) (C1 g):=⟨Arv h.out⟩
theorem Dp (h:QL X es g):QF X (.List es pos) (B2 g):=⟨Ar8 h.out⟩
theorem Dq (h:QF X e g):QD X e (C0 g):=⟨Aee h.out⟩
theorem Al:QL X [] Aj:=⟨Asa⟩
theorem J8:QO X none fNo:=⟨Aem⟩
theorem D2 (h:QD X e f):QO X (some e) (Hc f):=⟨Aen h.out⟩
theorem Atx {f:FE}{l h:FO}{lo hi:Option Expr} (ha:QD X a f) (hl:QO X lo l) (hh:QO X hi h):QD X (.Subscript a (.Slice lo hi none p) pos) (fSl f l h):=⟨Av4 ha.out hl.out hh.out⟩
theorem Amj {f:FE}{l h:FO}{lo hi:Option Expr} (ha:QD X a f) (hl:QO X lo l) (hh:QO X hi h):QF X (.Subscript a (.Slice lo hi none p) pos) (Aje f l h):=⟨Av8 ha.out hl.out hh.out⟩
theorem Xo (ha:QD X a f) (hb:QD X b g):QF X (.BinOp a .Add b pos) (Acg f g):=⟨Ar7 ha.out hb.out⟩
theorem Awc {j} (ha:QD X a f):QD X (.Compare a [.Is] [.Constant .none j p] pos) (f1 Agq f):=⟨Aro ha.out⟩
theorem Asj {j} (ha:QD X a f):QB X (.Compare a [.Is] [.Constant .none j p] pos) (Bm (f1 Agq f)):=⟨Arc ha.out⟩
theorem J9 (ha:QB X a f):QWB X (.BoolOp .And [a] pos) f:=⟨Aey ha.out⟩
theorem U3 (ha:QB X a f):QWB X (.BoolOp .Or [a] pos) f:=⟨Amb ha.out⟩
theorem P0 (ha:QB X a f) (hb:QWB X (.BoolOp .And (b::es) pos) g):QWB X (.BoolOp .And (a::b::es) pos) (Acf f g):=⟨Ama ha.out hb.out⟩
theorem Abk (ha:QB X a f) (hb:QWB X (.BoolOp .Or (b::es) pos) g):QWB X (.BoolOp .Or (a::b::es) pos) (fOr f g):=⟨Ash ha.out hb.out⟩
theorem D1 (h:QWB X (.BoolOp op es pos) f):QB X (.BoolOp op es pos) f:=⟨Ak6 h.out⟩
theorem Mp (ha:QB X a f):QB X (.UnaryOp .Not a pos) (Ach f):=⟨Ard ha.out⟩
theorem Ce (h:QD X e f):QW X tg e (Eg f):=⟨Asf h.out⟩
theorem Dv:QGs X [] Ng:=⟨Aej⟩
variable {st:Stmt}{rest sa sb:List Stmt}
theorem Br:QSs X [] Eu:=⟨Alz⟩
theorem Ae (h1:QS X st f) (h2:QSs X rest g):QSs X (st::rest) (Bh f g):=⟨Aep h1.out h2.out⟩
theorem Am (h1:QS X st f):QSs X [st] f:=⟨Al0 h1.out⟩
theorem A9 (he:QD X e f):QS X (.Return (some e) pos) (Dl f):=⟨Al1 he.out⟩
theorem Ge (he:QF X e f):QS X (.Return (some e) pos) (Lc f):=⟨Aer he.out⟩
theorem Cs {t:FB} (hc:QB X c t) (ha:QSs X sa f) (hb:QSs X sb g):QS X (.If c sa sb pos) (sIf t f g):=⟨Asc hc.out ha.out hb.out⟩
theorem Ae8 (k:Nat) (hp:PassesOwn (model X.prog X.w) X.A X.env X.xe) (hc:QB X c f) (hb:QSs X body g):QS X (.While c body [] pos) (E8 f g k):=⟨Aa4 k hp hc.out hb.out⟩
theorem Ai (i:Nat) (hN:X.N[i]?=some x:=by kernel_rfl) (hv:Vis X.env.scope x:=by exact Bbt (by kernel_rfl)) (hd:(x == ("__debug__":Str))=false:=by decide) (hcd:(x == ("__classdict__":Str))=false:=by decide):QD X (.Name x pos) (Ac i):=⟨Ag1 i hN hv hd hcd⟩
theorem A5 (i:Nat) (hN:X.N[i]?=some x:=by kernel_rfl) (hv:Vis X.env.scope x:=by exact Or.inr (Bbt (by kernel_rfl))) (hd:(x == ("__debug__":Str))=false:=by decide) (hcd:(x == ("__classdict__":Str))=false:=by decide):QD X (.Name x pos) (Ac i):=⟨Ag1 i hN hv hd hcd⟩
theorem Hj {j} (ok:PyData.strOk z=true:=by exact E2 _):QD X (.Constant (.str z) j pos) (fC (.str z)):=⟨Aru ok⟩
theorem Ao (ha:QD X e f) (hr:QL X es g) (hs':Bp e=true:=by rfl):QL X (e::es) (Aa f g):=⟨Alq ha.out hr.out (Ar hs')⟩
theorem Hy (ho:OpM X (compareOp op) o) (ha:QD X a f) (hb:QD X b g) (hm':Eb b=true:=by rfl):QD X (.Compare a [op] [b] pos) (f2 o f g):=⟨Arm ho ha.out hb.out (Ep hm')⟩
theorem Ba (ho:OpM X (compareOp op) o) (ha:QD X a f) (hb:QD X b g) (hm':Eb b=true:=by rfl):QB X (.Compare a [op] [b] pos) (Bm (f2 o f g)):=⟨Arb ho ha.out hb.out (Ep hm')⟩
theorem Ec (ha:QD X a f) (he':Agr a=true:=by rfl):QB X a (Rl f):=⟨Are ha.out (Xy he')⟩
theorem Av (ha:QD X a f) (hb:QD X b g) (hs':Atw b=true:=by rfl):QD X (.Subscript a b pos) (f2 oIx f g):=⟨Av1 ha.out hb.out (Nk hs')⟩
theorem Ed (hm:X.mg "len"=none) (ha:QL X [e] g) (hg:Gl X "len":=by unfold Gl;kernel_rfl) (he':Bp e=true:=by rfl):QD X (.Call (.Name "len" p) [e] [] pos) (A7 J0 g):=⟨Ux Apa hg hm boot_len ha.out (by decide) (by decide) (Ar he') rfl⟩
theorem Asm (hc:X.calm=true) (hm:X.mg "any"=none) (ha:QL X [e] g) (hg:Gl X "any":=by unfold Gl;kernel_rfl) (he':Bp e=true:=by rfl):QD X (.Call (.Name "any" p) [e] [] pos) (A7 Aqh g):=⟨Ux (Ao9 hc) hg hm (by decide +kernel) ha.out (by decide) (by decide) (Ar he') rfl⟩
theorem Asn (hm:X.mg "int"=none) (ha:QL X [e] g) (hg:Gl X "int":=by unfold Gl;kernel_rfl) (he':Bp e=true:=by rfl):QD X (.Call (.Name "int" p) [e] [] pos) (A7 Agp g):=⟨J4 Af9 hg hm (by decide +kernel) ha.out (by decide) (by decide) (Ar he') rfl⟩
theorem C9 (hm:X.mg "tuple"=none) (ha:QL X [e] g) (hg:Gl X "tuple":=by unfold Gl;kernel_rfl) (he':Bp e=true:=by rfl):QD X (.Call (.Name "tuple" p) [e] [] pos) (A7 Ea g):=⟨J4 Adb hg hm (by decide +kernel) ha.out (by decide) (by decide) (Ar he') rfl⟩
theorem Abf (hm:X.mg "list"=none) (ha:QL X [e] g) (hg:Gl X "list":=by unfold Gl;kernel_rfl) (he':Bp e=true:=by rfl):QF X (.Call (.Name "list" p) [e] [] pos) (Bi Aag g):=⟨Aau Ai8 hg hm (by decide +kernel) ha.out (by decide) (by decide) (Ar he') rfl⟩
theorem Ag7 (ha:QD X e f) (hm:X.mg "isinstance"=none) (hm':X.mg y=none) (hv':bootBuiltins y=some (.type U)) (hn:y≠"__name__":=by decide) (hdb:(y == ("__debug__":Str))=false:=by decide) (hg:Gl X "isinstance":=by unfold Gl;kernel_rfl) (hg':Gl X y:=by unfold Gl;kernel_rfl) (he':Bp e=true:=by rfl):QD X (.Call (.Name "isinstance" p) [e,.Name y p'] [] pos) (Ane U f):=⟨Arp ha.out hg hm hg' hm' hv' hn hdb (by decide +kernel) (Ar he') (Ar rfl) (Dm rfl)⟩
theorem Ame {fd:FuncData} (F:FnOk X.prog X.w X.K X.mg X.base CX0 k f fd ps (spP X.K n fn)) (hr:Room k X.A) (hm:X.mg x=some (.ref f)) (hk:W.keepIn X.K (.ref f)=true) (hb:Binds X.K fd ps []) (ha:QL X (e::es) g) (hg:Gl X x:=by unfold Gl;kernel_rfl) (hdb:(x == ("__debug__":Str))=false:=by decide) (he':Bp e=true:=by rfl) (hpl':es.all Bp=true:=by rfl) :
  QD X (.Call (.Name x p) (e::es) [] pos) (A7 (Ci n fn) g):=⟨Ak8 F hr hg hm hk hb (Aar (X:=X)) ha.out hdb (Ar he') (Dm hpl')⟩
theorem Amf {fd:FuncData} (F:FnOk X.prog X.w X.K X.mg X.base CX0 k f fd ps (spP X.K n fn)) (hr:Room k X.A) (hm:X.mg x=some (.ref f)) (hk:W.keepIn X.K (.ref f)=true) (hb:Binds X.K fd ps []) (ha:QL X (e::es) g) (hg:Gl X x:=by unfold Gl;kernel_rfl) (hdb:(x == ("__debug__":Str))=false:=by decide) (he':Bp e=true:=by rfl) (hpl':es.all Bp=true:=by rfl) :
  QF X (.Call (.Name x p) (e::es) [] pos) (Bi (Gp n fn) g):=⟨Ali F hr hg hm hk hb (Aar (X:=X)) ha.out hdb (Ar he') (Dm hpl')⟩
theorem Mq (hf:QD X a f) (ha:QL X [e] g) (hbase':Mj a=true:=by rfl) (hline:(apos.endLine == cpos.line)=true:=by kernel_rfl) (hs':Bp e=true:=by rfl) :
  QS X (.Expr (.Call (.Attribute a "append" apos) [e] [] cpos) spos) (Xs Xg f g):=⟨Aa1 PySem.F.plainAttrs_list PySem.F.slot_list_append PySem.F.type_list_append Po Agn hf.out ha.out (Ds hbase') (G4 (by rw[Ban,hs'];rfl) rfl) hline (Ar hs') rfl⟩
theorem Cf (hN:X.N.Nodup) (he:QD X e f) (hi:X.N[i]?=some x:=by kernel_rfl) (hx:Loc X.env.scope x:=by exact Bbt (by kernel_rfl)) (hs':Ij e=true:=by rfl) (hf:X.fn x=true\/X.env.scope.names.lookup x=some .local:=by exact Bbt (by kernel_rfl)) :
  QS X (.Assign [.Name x p'] e pos) (Da i f):=⟨Aa2 hN hi hx he.out (Gh hs') hf⟩
theorem Oa (hN:X.N.Nodup) (he:QD X e f) (hi:X.N[i]?=some x:=by kernel_rfl) (hx:Loc X.env.scope x:=by exact Or.inr (by kernel_rfl)) (hs':Ij e=true:=by rfl) (hf:X.fn x=true\/X.env.scope.names.lookup x=some .local:=by exact Bbt (by kernel_rfl)) :
  QS X (.Assign [.Name x p'] e pos) (Da i f):=⟨Aa2 hN hi hx he.out (Gh hs') hf⟩
theorem Hz (hN:X.N.Nodup) (he:QF X e f) (hi:X.N[i]?=some x:=by kernel_rfl) (hx:Loc X.env.scope x:=by exact Bbt (by kernel_rfl)) (hs':Ij e=true:=by rfl) (hf:X.fn x=true\/X.env.scope.names.lookup x=some .local:=by exact Bbt (by kernel_rfl)) :
  QS X (.Assign [.Name x p'] e pos) (Gf i f):=⟨Tf hN hi hx he.out (Gh hs') hf⟩
theorem N9 (hN:X.N.Nodup) (he:QF X e f) (hi:X.N[i]?=some x:=by kernel_rfl) (hx:Loc X.env.scope x:=by exact Or.inr (by kernel_rfl)) (hs':Ij e=true:=by rfl) (hf:X.fn x=true\/X.env.scope.names.lookup x=some .local:=by exact Bbt (by kernel_rfl)) :
  QS X (.Assign [.Name x p'] e pos) (Gf i f):=⟨Tf hN hi hx he.out (Gh hs') hf⟩
theorem G6 (hN:X.N.Nodup) (hi:X.N[i]?=some x:=by kernel_rfl) (hx:Loc X.env.scope x:=by exact Bbt (by kernel_rfl)) (hf:X.fn x=true\/X.env.scope.names.lookup x=some .local:=by exact Bbt (by kernel_rfl)):QG X (.Name x pos) (Au i):=⟨N3 hN hi hx hf⟩
theorem Tg (hN:X.N.Nodup) (hi:X.N[i]?=some x:=by kernel_rfl) (hx:Loc X.env.scope x:=by exact Or.inr (by kernel_rfl)) (hf:X.fn x=true\/X.env.scope.names.lookup x=some .local:=by exact Bbt (by kernel_rfl)):QG X (.Name x pos) (Au i):=⟨N3 hN hi hx hf⟩
theorem Cq (hN:X.N.Nodup) (hi:X.N[i]?=some x:=by kernel_rfl) (hx:Loc X.env.scope x:=by exact Bbt (by kernel_rfl)) (hf:X.fn x=true\/X.env.scope.names.lookup x=some .local:=by exact Or.inr (by kernel_rfl)):QG X (.Name x pos) (Au i):=⟨N3 hN hi hx hf⟩
theorem Bb (h1:QG X e g) (h2:QGs X es h) (hs:(assignEach (e::es) X.env).map (·.2)=assign e X.env::(assignEach es X.env).map (·.2):=by kernel_rfl):QGs X (e::es) (B4 g h):=⟨Aaw h1.out h2.out hs⟩
theorem Dw (hc:X.calm=true) (h:QGs X es g) (hn:(assignEach es X.env).length=n:=by kernel_rfl) (hst:(assignEach es X.env).findIdx? (·.1)=none:=by kernel_rfl):QG X (.Tuple es k pos) (Hb n g):=⟨Aln hc h.out hn hst⟩
theorem Asu (he:QD X e f) (hg:QG X tg g) (hs':Ij e=true:=by rfl) (hw:swappedStores [tg] e X.env=pure none:=by kernel_rfl) (h1:(assignEach [tg] X.env).map (·.2)=[assign tg X.env]:=by kernel_rfl):QS X (.Assign [tg] e pos) (Asy f g):=⟨Alx he.out hg.out (Jb hs') hw h1⟩
theorem G2 (he:QD X e f) (ho:QD X a fo) (hi:QD X b fi) (ha:∀ v,assign (.Subscript a b p) X.env v=(do
   let ov <- holding [v] (eval a X.env)
   let iv <- holding [v,ov] (eval b X.env)
   standAt p
   holding [v,ov,iv] (setItem ov iv v)
   release [v,ov,iv] []):=by intro _;rfl) (hs':Ij e=true:=by rfl) (hw:swappedStores [.Subscript a b p] e X.env=pure none:=by kernel_rfl) (h1:(assignEach [.Subscript a b p] X.env).map (·.2)=[assign (.Subscript a b p) X.env]:=by kernel_rfl) :
  QS X (.Assign [.Subscript a b p] e pos) (G3 f fo fi):=⟨Aa3 he.out ho.out hi.out ha (Jb hs') hw h1⟩
theorem Cr {iter:Expr}{body:List Stmt}{f:FW}{g:FG}{b:FS} (hp:PassesOwn (model X.prog X.w) X.A X.env X.xe) (hc:X.calm=true) (hi:QW X tg iter f) (hg:QG X tg g) (hb:QSs X body b)
  (hs':Eb iter=true:=by rfl):QS X (.For tg iter body [] pos) (Lo f g b):=⟨Aly hp hc hi.out hg.out hb.out (De hs')⟩
theorem P1 (hm:X.mg "range"=none) (ha:QL X [a] g) (hg:Gl X "range":=by unfold Gl;kernel_rfl) (hs':Bp a=true:=by rfl):QW X tg (.Call (.Name "range" p) [a] [] pos) (Lj g):=⟨Aba hg hm ha.out (Ar hs')⟩
variable {elt iter:Expr}{ifs:List Expr}{scope:Scope}{fw:FW}{g:FG}{t:FB}{fe:FE}
theorem Cd (cap:List Nat) (N':List Str) (hc:X.calm=true) (hi:QW X tg iter fw) (hg2:∀ d d' env e1,g d env=some e1->g d' e1=g d' env)
  (hg:∀ cl C s₀ H₀ ex pn,QG (Ax X N' scope cl C s₀ H₀ ex pn) tg g) (ht:∀ cl C s₀ H₀ ex pn,QTs (Ax X N' scope cl C s₀ H₀ ex pn) ifs t) (he:∀ cl C s₀ H₀ ex pn,QD (Ax X N' scope cl C s₀ H₀ ex pn) elt fe)
  (ok:Ha scope X.env.scope X.N N' cap=true:=by kernel_rfl) (hs':Eb iter=true:=by rfl):QF X (.ListComp elt [⟨tg,iter,ifs,0⟩] scope pos) (B6 cap (N'.length - cap.length) fw g t fe):=⟨Alj (CompOk.of ok) hc hi.out hg2 (fun cl C s H ex pn=>(hg cl C s H ex pn).out) (fun cl C s H ex pn=>(ht cl C s H ex pn).out) (fun cl C s H ex pn=>(he cl C s H ex pn).out) (De hs')⟩
theorem Iz (cap:List Nat) (N':List Str) (hN:X.N.Nodup) (hc:X.calm=true) (hi:QW X tg iter fw) (hg2:∀ d d' env e1,g d env=some e1->g d' e1=g d' env) (hg:∀ cl C s₀ H₀ ex pn,QG (Ax X N' scope cl C s₀ H₀ ex pn) tg g) (ht:∀ cl C s₀ H₀ ex pn,QTs (Ax X N' scope cl C s₀ H₀ ex pn) ifs t) (he:∀ cl C s₀ H₀ ex pn,QD (Ax X N' scope cl C s₀ H₀ ex pn) elt fe) (ok:Ha scope X.env.scope X.N N' cap=true:=by kernel_rfl) (hs':Eb iter=true:=by rfl) (hn:X.N[i]?=some x:=by kernel_rfl) (hx:Loc X.env.scope x:=by exact Bbt (by kernel_rfl)) (hf:X.fn x=true\/X.env.scope.names.lookup x=some .local:=by exact Bbt (by kernel_rfl)) (hsw:swapsWith (.ListComp elt [⟨tg,iter,ifs,0⟩] scope pos) (some (.Name x p')) spos.line X.env=pure true:=by kernel_rfl):QS X (.Assign [.Name x p'] (.ListComp elt [⟨tg,iter,ifs,0⟩] scope pos) spos) (Da i (C0 (B6 cap (N'.length - cap.length) fw g t fe))):=⟨Aes (T9 (CompOk.of ok) hc hi.out hg2 (fun cl C s H ex pn=>(hg cl C s H ex pn).out) (fun cl C s H ex pn=>(ht cl C s H ex pn).out) (fun cl C s H ex pn=>(he cl C s H ex pn).out) (De hs') hsw hN hn hx hf)⟩
theorem U1 (cap:List Nat) (N':List Str) (hN:X.N.Nodup) (hc:X.calm=true) (hi:QW X tg iter fw) (hg2:∀ d d' env e1,g d env=some e1->g d' e1=g d' env) (hg:∀ cl C s₀ H₀ ex pn,QG (Ax X N' scope cl C s₀ H₀ ex pn) tg g) (ht:∀ cl C s₀ H₀ ex pn,QTs (Ax X N' scope cl C s₀ H₀ ex pn) ifs t) (he:∀ cl C s₀ H₀ ex pn,QD (Ax X N' scope cl C s₀ H₀ ex pn) elt fe) (ok:Ha scope X.env.scope X.N N' cap=true:=by kernel_rfl) (hs':Eb iter=true:=by rfl) (hn:X.N[i]?=some x:=by kernel_rfl) (hx:Loc X.env.scope x:=by exact Bbt (by kernel_rfl)) (hf:X.fn x=true\/X.env.scope.names.lookup x=some .local:=by exact Bbt (by kernel_rfl)) (hsw:swapsWith (.ListComp elt [⟨tg,iter,ifs,0⟩] scope pos) (some (.Name x p')) spos.line X.env=pure true:=by kernel_rfl):QS X (.Assign [.Name x p'] (.ListComp elt [⟨tg,iter,ifs,0⟩] scope pos) spos) (Gf i (B6 cap (N'.length - cap.length) fw g t fe)):=⟨Aeq (T9 (CompOk.of ok) hc hi.out hg2 (fun cl C s H ex pn=>(hg cl C s H ex pn).out) (fun cl C s H ex pn=>(ht cl C s H ex pn).out) (fun cl C s H ex pn=>(he cl C s H ex pn).out) (De hs') hsw hN hn hx hf)⟩
end
end
end ML
end L2
end S_ML8a
section S_ML10
namespace L2
namespace ML
open PySem PySem.Spec PyProof.Rows
section
variable {X:Cx}{a b c e e' o':Expr}{es:List Expr}{pos p p' apos cpos spos:Pos}{x:Str}
noncomputable def insD {α:Type} (xs:List α) (i:Nat) (y:α):List α:=xs.take i++y::xs.drop i
theorem Adk (h0:0<=i):((xs.toArray.extract 0 (if i < 0 then (i+((xs.toArray.size:Nat):Int)).toNat else min i.toNat xs.toArray.size)).push y++xs.toArray.extract (if i < 0 then (i+((xs.toArray.size:Nat):Int)).toNat else min i.toNat xs.toArray.size))=(insD xs i.toNat y).toArray:=by
 rw[Azs (by lia)]
 unfold insD
 by_cases h:i.toNat<=xs.length
 ·rw[Azh,Nat.min_eq_left h]
  apply Array.ext'
  simp
  exact Bbx (by simp)
 ·rw[Azh,Nat.min_eq_right (by lia)]
  apply Array.ext'
  simp
  rw[Bbx (by lia),Bby (by lia)]
theorem Vals.insD (r:Vals xs us) (rv:RelV v u) (i:Nat):Vals (ML.insD xs i v) (ML.insD us i u):=by
 unfold ML.insD
 exact Vals.append (r.take i) (.cons rv (r.drop i))
theorem Ry:(insD xs i y).length=xs.length+1:=by
 unfold insD
 simp
 lia
def Abn:V->List V->Hp->VK->Prop:=fun x vs H Q=>∃ l xs i y,x=.ref l/\vs=[.int i,y]/\H l=some (.lst xs)/\xs.length < sizeLine/\0<=i/\i < 2 ^ 62/\Q .non (upd H l (.lst (insD xs i.toNat y)))
theorem Z6:MtM X "list.insert" Abn:=by
 intro pins s σ H x vs v us Q I rx rv h
 obtain⟨l,xs,i,y,rfl,rfl,hH,hz,h0,h1,q⟩:=h
 cases rx
 obtain⟨u,w,rfl,ru,rw'⟩:=Ati rv
 obtain⟨t,rfl⟩:=ru
 obtain⟨z,its,n,r,hl,e⟩:=I.lstM hH
 refine call_meets F.slot_list_insert ⟨_,e,rfl⟩ F.entry_list_insert (F.args_list_insert_3 _ _ _) (AutoListH.list_insert_list_int_val_1 l its.toArray n i t w (by simp[Builtin.List.listFitsIndex];lia) (by rw[Azh];lia)) ⟨e,?_⟩
 refine⟨.non,_,I.lset (its':=insD its i.toNat w) hH e (Adk h0) (Vals.insD r rw' _) ?_,rfl,q⟩
 rw[Ry]
 lia
def Hg:List D->List D->Option (List D):=fun ds es=>match es with
 |[.int i,d]=>if ds.length < 1000000/\0<=i/\i < 2 ^ 62 then some (insD ds i.toNat d) else none
 |_=>none
theorem Z7:Anl X Abn Hg:=fun μ H a xs vs ds es fs Q h1 ha rs re h q=>by
 obtain⟨i,d,rfl⟩:∃ i d,es=[.int i,d]:=by
  cases es with
  |nil=>exact Ad h
  |cons e es =>
   cases e with
   |int i =>
    cases es with
    |nil=>exact Ad h
    |cons d es =>
     cases es with
     |nil=>exact⟨i,d,rfl⟩
     |cons _ _=>cases h
   |_=>cases h
 unfold Hg at h
 simp only at h
 split at h
 ·rename_i hl
  cases h
  obtain⟨v,w,rfl,r1,r2⟩:=re.two
  cases r1
  exact⟨a,xs,i,w,rfl,rfl,h1,by rw[<- rs.length];have:sizeLine=16777216:=Bas;lia,hl.2.1,hl.2.2,q _ ((rs.take _).append (.cons r2 (rs.drop _)))⟩
 ·exact Ad h
end
end ML
end L2
end S_ML10
section S_ML11
namespace L2
namespace ML
open PySem PySem.Spec PyProof.Rows PySem.SeqAt
def LtAt (A:Around) (s:Shared) (x y:Value) (k:Bool):Prop :=
 ∀ (prog:Program) (w:World) (E:Value->Shared->Prop) (Q:Value->Shared->Prop),Q (.bool k) s->wpAny (model prog w) A (richCompare .Lt x y) Q E s
inductive LexAt (A:Around) (s:Shared):List Value->List Value->Bool->Prop where
 |nil:LexAt A s [] [] false
 |short {y ys}:LexAt A s [] (y::ys) true
 |long {x xs}:LexAt A s (x::xs) [] false
 |same {x y xs ys k}:EqAt A s x y true->LexAt A s xs ys k->LexAt A s (x::xs) (y::ys) k
 |diff {x y xs ys k}:EqAt A s x y false->LtAt A s x y k->LexAt A s (x::xs) (y::ys) k
theorem LexAt.end1 {s:Shared} (h:LexAt A s xs ys k) (e:xs.zip ys=[]):k=decide (xs.length < ys.length):=by
 cases h with
 |nil=>rfl
 |short=>simp
 |long=>simp
 |same _ _=>simp at e
 |diff _ _=>simp at e
theorem X2 (l b:Addr) (xs ys:Array Value) (n n2:Nat) (dd dd2:Option Addr) (sl sl2:Array (Option Value)) (k:Bool) :
  Meets (Builtin.«tuple.__lt__» ⟨[.ref l,.ref b],[]⟩)
   (fun A R s=>(s.heap.get? l=some { cls:=.type "tuple",dict:=dd,data:=.seq xs n,slots:=sl }/\s.heap.get? b=some { cls:=.type "tuple",dict:=dd2,data:=.seq ys n2,slots:=sl2 }) /\
    LexAt A.in1 s xs.toList ys.toList k/\R (.ok (.ret (.bool k))) s) :=
 .of_wp fun prog w A R s h=>by
  obtain⟨hp,g,d,tk,os⟩:=s
  obtain⟨⟨hl,hb⟩,hx,hR⟩:=h
  have f2:=AutoSeq1.sub_tuple_tuple
  wp_walk using wpAny_loadPart' hl,wpAny_loadPart' hb,wpAny_forIn_list _ (fun rest b s'=>b.1=none/\s'=⟨hp,g,d,tk,os⟩/\∃ us ws,rest=us.zip ws/\us.length+ys.size=ws.length+xs.size/\LexAt A.in1 ⟨hp,g,d,tk,os⟩ us ws k) _
  case turn =>
   rintro ⟨y,x⟩ rest b s' ⟨hb1,rfl,us,ws,hz,hn,hx⟩
   cases hx with
   |nil=>cases hz
   |short=>cases hz
   |long=>cases hz
   |@same u v us ws _ he hx =>
    cases hz
    refine Azc (he prog w _ _ ?_)
    wp_walk
    exact⟨rfl,rfl,us,ws,rfl,by simp only[Azo] at hn;lia,hx⟩
   |@diff u v us ws _ he hk =>
    cases hz
    refine Azc (he prog w _ _ ?_)
    have hk2:∀ {E:Value->Shared->Prop}{Q:Value->Shared->Prop},Q (.bool k) ⟨hp,g,d,tk,os⟩->wpAny (model prog w) A.in1 (richCompare .Lt y x) Q E ⟨hp,g,d,tk,os⟩:=fun q=>hk prog w _ _ q
    wp_walk using hk2
    exact⟨_,rfl,hR⟩
  case fin =>
   rintro ⟨b1,b2⟩ s' ⟨hb1,rfl,us,ws,hz,hn,hx⟩
   simp only at hb1
   subst hb1
   have e:=hx.end1 hz.symm
   subst e
   wp_walk
   refine⟨_,rfl,?_⟩
   have e2:decide (us.length < ws.length)=decide (xs.size < ys.size):=by rw[Bce];lia
   rw[e2] at hR
   simpa [Builtin.Tuple.tupleCompareSizes] using hR
  case h =>
   exact⟨rfl,rfl,xs.toList,ys.toList,rfl,by simp[Nat.add_comm],hx⟩
theorem LtAt.tuples {s:Shared}{l b:Addr} (hl:s.heap.IsTuple l xs) (hb:s.heap.IsTuple b ys) (hu:A.units < cLine) (hx:LexAt A.in1 s xs.toList ys.toList k):LtAt A s (.ref l) (.ref b) k:=fun prog w E Q h=>by
 obtain⟨⟨cls,dd,data,sl⟩,ho,hc,n,hd⟩:=id hl
 obtain⟨⟨cls2,dd2,data2,sl2⟩,ho2,hc2,n2,hd2⟩:=id hb
 simp only at hc hd hc2 hd2
 subst hc hd hc2 hd2
 refine richCompare_meets_room (op:=.Lt) ⟨_,ho,rfl⟩ ⟨_,ho2,rfl⟩ F.slot_tuple_lt F.entry_tuple_lt (F.args_tuple_lt_2 _ _) (X2 l b xs ys n n2 dd dd2 sl sl2 k) ⟨⟨ho,ho2⟩,hx,?_⟩ hu
 exact⟨(fun x=>nomatch x),h⟩
theorem Z0 (l b:Addr) (xs ys:Array Value) (n n2:Nat) (dd dd2:Option Addr) (sl sl2:Array (Option Value)) (k:Bool):∀ (us ws:List Value) (i:Nat),xs.toList.drop i=us->ys.toList.drop i=ws->i<=xs.size->i<=ys.size ->
  Meets (Builtin.«list.__eq__.loop» ⟨[.ref l,.ref b,rawInt i,rawInt 0],[]⟩)
   (fun A R s=>(s.heap.get? l=some { cls:=.type "list",dict:=dd,data:=.seq xs n,slots:=sl }/\s.heap.get? b=some { cls:=.type "list",dict:=dd2,data:=.seq ys n2,slots:=sl2 })/\LexAt A.in1 s us ws k/\R (.ok (.ret (.bool k))) s):=by
 have none_at:∀ {zs:Array Value}{i:Nat},zs.toList.drop i=[]->zs[((i:Nat):Int).toNat]?=none:=fun {zs i} h=>by
  have:=List.drop_eq_nil_iff.mp h
  simp at this ⊢
  exact this
 have some_at:∀ {zs:Array Value}{i:Nat}{z:Value}{r:List Value},zs.toList.drop i=z::r->zs[((i:Nat):Int).toNat]?=some z/\zs.toList.drop (i+1)=r/\i+1<=zs.size:=fun {zs i z r} h=>by
  have hl:i < zs.toList.length:=by
   rcases Nat.lt_or_ge i zs.toList.length with q|q
   ·exact q
   ·rw[Bby q] at h;cases h
  have e:=Bau hl
  rw[h] at e
  obtain⟨e1,e2⟩:=List.cons.inj e
  have hl':i < zs.size:=by simpa using hl
  refine⟨?_,e2.symm,hl'⟩
  rw[e1]
  simp[hl']
 intro us
 induction us with
 |nil =>
  intro ws i hx hy hi1 hi2 prog w A R s h
  obtain⟨hp,g,d,tk,os⟩:=s
  obtain⟨⟨hl,hb⟩,hL,hR⟩:=h
  have e1:=none_at hx
  have z1:xs.size=i:=by have:=List.drop_eq_nil_iff.mp hx;simp at this;lia
  have hk:k=decide (xs.size < ys.size):=by
   cases hL with
   |nil =>
    have:ys.size=i:=by have:=List.drop_eq_nil_iff.mp hy;simp at this;lia
    rw[z1,this];simp
   |short =>
    have:=(some_at hy).2.2
    rw[Bbd (by lia)]
  subst hk
  wp_walk using wpAny_loadPart' hl,wpAny_loadPart' hb
  rw[e1]
  wp_walk using wpAny_loadPart' hl,wpAny_loadPart' hb
  exact hR
 |cons u us ih =>
  intro ws i hx hy hi1 hi2 prog w A R s h
  obtain⟨hp,g,d,tk,os⟩:=s
  obtain⟨⟨hl,hb⟩,hL,hR⟩:=h
  obtain⟨e1,x2,x3⟩:=some_at hx
  cases hL with
  |long =>
   have e2:=none_at hy
   have hk:decide (xs.size < ys.size)=false:=by
    have:ys.size=i:=by have:=List.drop_eq_nil_iff.mp hy;simp at this;lia
    rw[Az6 (by lia)]
   rw[<- hk] at hR
   wp_walk using wpAny_loadPart' hl,wpAny_loadPart' hb
   rw[e1,e2]
   wp_walk using wpAny_loadPart' hl,wpAny_loadPart' hb
   exact hR
  |@same _ y _ ws _ he hx' =>
   obtain⟨e2,y2,y3⟩:=some_at hy
   have hc:((i:Int)+1)=((i+1:Nat):Int):=by push_cast;rfl
   wp_walk using wpAny_loadPart' hl,wpAny_loadPart' hb
   rw[e1,e2]
   refine Azc (he prog w _ _ ?_)
   wp_walk
   rw[hc]
   exact⟨plainId_quiet Bam _,codeAny_builtin MeetsSeq3.entry_eq_loop (by
    rw[Around.under_plainId Bam _]
    exact ih ws (i+1) x2 y2 x3 y3 prog w A R _ ⟨⟨hl,hb⟩,hx',hR⟩)⟩
  |@diff _ y _ ws _ he hk =>
   obtain⟨e2,y2,y3⟩:=some_at hy
   wp_walk using wpAny_loadPart' hl,wpAny_loadPart' hb
   rw[e1,e2]
   refine Azc (he prog w _ _ ?_)
   have hk2:∀ {E:Value->Shared->Prop}{Q:Value->Shared->Prop},Q (.bool k) ⟨hp,g,d,tk,os⟩->wpAny (model prog w) A.in1 (richCompare .Lt u y) Q E ⟨hp,g,d,tk,os⟩:=fun q=>hk prog w _ _ q
   wp_walk using wpAny_loadPart' hl,wpAny_loadPart' hb
   rw[e1,e2]
   wp_walk using hk2
   exact hR
theorem Zt (l b:Addr) (xs ys:Array Value) (n n2:Nat) (dd dd2:Option Addr) (sl sl2:Array (Option Value)) (k:Bool) :
  Meets (Builtin.«list.__lt__» ⟨[.ref l,.ref b],[]⟩)
   (fun A R s=>(s.heap.get? l=some { cls:=.type "list",dict:=dd,data:=.seq xs n,slots:=sl }/\s.heap.get? b=some { cls:=.type "list",dict:=dd2,data:=.seq ys n2,slots:=sl2 })/\LexAt A.in1 s xs.toList ys.toList k/\R (.ok (.ret (.bool k))) s):=by
 intro prog w A R s h
 obtain⟨hp,g,d,tk,os⟩:=s
 obtain⟨⟨hl,hb⟩,hL,hR⟩:=h
 have f3:=AutoSeq1.sub_list_list
 wp_walk using wpAny_loadPart' hl,wpAny_loadPart' hb
 exact⟨plainId_quiet Bam _,codeAny_builtin MeetsSeq3.entry_eq_loop (by
  rw[Around.under_plainId Bam _]
  exact Z0 l b xs ys n n2 dd dd2 sl sl2 k _ _ 0 rfl rfl (Az5 _) (Az5 _) prog w A R _ ⟨⟨hl,hb⟩,by simpa using hL,hR⟩)⟩
theorem LtAt.lists {s:Shared}{l b:Addr} (hl:s.heap.IsList l xs) (hb:s.heap.IsList b ys) (hu:A.units < cLine) (hx:LexAt A.in1 s xs.toList ys.toList k):LtAt A s (.ref l) (.ref b) k:=fun prog w E Q h=>by
 obtain⟨⟨cls,dd,data,sl⟩,ho,hc,n,hd⟩:=id hl
 obtain⟨⟨cls2,dd2,data2,sl2⟩,ho2,hc2,n2,hd2⟩:=id hb
 simp only at hc hd hc2 hd2
 subst hc hd hc2 hd2
 refine richCompare_meets_room (op:=.Lt) ⟨_,ho,rfl⟩ ⟨_,ho2,rfl⟩ F.slot_list_lt F.entry_list_lt (F.args_list_lt_2 _ _) (Zt l b xs ys n n2 dd dd2 sl sl2 k) ⟨⟨ho,ho2⟩,hx,?_⟩ hu
 exact⟨(fun x=>nomatch x),h⟩
mutual
def ltD:D->D->Option Bool
 |.int i,.int j=>some (decide (i < j))
 |.str i,.str j=>some (decide (i.cps.toList < j.cps.toList))
 |.tup xs,.tup ys=>Dr xs ys
 |.lst xs,.lst ys=>Dr xs ys
 |_,_=>none
def Dr:List D->List D->Option Bool
 |[],[]=>some false
 |[],_::_=>some true
 |_::_,[]=>some false
 |x::xs,y::ys=>if deq x y=true then Dr xs ys else ltD x y
end
section
variable {X:Cx}{pins:List (Addr×Obj)}{σ:St}{H:Hp}{s:Shared}{μ:List Addr}{B:Addr->Prop}
set_option tactic.hygienic true in
mutual
theorem Agl (I:Inv X pins σ H s):∀ (d d':D) {A:Around}{v v':V}{u u':Value}{k:Bool},Rep X.K H μ B d v->Rep X.K H μ B d' v'->Bt d=true->Bt d'=true->RelV v u->RelV v' u'->A.units+dep d+dep d' < cLine->ltD d d'=some k->LtAt A s u u' k
 |.int i,d',A,v,v',u,u',k,r,r',n,n',q,q',hu,h=>by
  cases d'<;>first|(simp[ltD] at h;done)|skip
  cases r;cases r'
  obtain⟨t,rfl⟩:=q
  obtain⟨t2,rfl⟩:=q'
  rw[ltD] at h
  cases h
  intro prog w E Q q
  exact lt_int q
 |.str i,d',A,v,v',u,u',k,r,r',n,n',q,q',hu,h=>by
  cases d'<;>first|(simp[ltD] at h;done)|skip
  cases r;cases r'
  obtain⟨t,rfl⟩:=q
  obtain⟨t2,rfl⟩:=q'
  rw[ltD] at h
  cases h
  intro prog w E Q q
  exact lt_str q
 |.tup ds,d',A,v,v',u,u',k,r,r',n,n',q,q',hu,h=>by
  cases d'<;>first|(simp[ltD] at h;done)|skip
  rename_i es
  cases r with
  |tup h1 r1 =>
  cases r' with
  |tup h2 r2 =>
  cases q
  cases q'
  obtain⟨its,rv,p,hz⟩:=I.tuple h1
  obtain⟨its',rv',p',hz'⟩:=I.tuple h2
  rw[ltD] at h
  rw[dep,dep] at hu
  refine LtAt.tuples p p' (by lia) ?_
  rw[Bt] at n n'
  exact Gw I ds es r1 r2 n n' rv rv' (by show A.units+1+_+_ < _;lia) h
 |.non,d',A,v,v',u,u',k,r,r',n,n',q,q',hu,h=>by simp[ltD] at h
 |.bl _,d',A,v,v',u,u',k,r,r',n,n',q,q',hu,h=>by simp[ltD] at h
 |.lst ds,d',A,v,v',u,u',k,r,r',n,n',q,q',hu,h=>by
  cases d'<;>first|(simp[ltD] at h;done)|skip
  rename_i es
  cases r with
  |lst h1 _ r1 =>
  cases r' with
  |lst h2 _ r2 =>
  cases q
  cases q'
  obtain⟨its,rv,p,hz⟩:=I.list (.inl h1)
  obtain⟨its',rv',p',hz'⟩:=I.list (.inl h2)
  rw[ltD] at h
  rw[dep,dep] at hu
  refine LtAt.lists p.isList p'.isList (by lia) ?_
  rw[Bt] at n n'
  exact Gw I ds es r1 r2 n n' rv rv' (by show A.units+1+_+_ < _;lia) h
 |.kl _,d',A,v,v',u,u',k,r,r',n,n',q,q',hu,h=>by simp[ltD] at h
 |.ref _,d',A,v,v',u,u',k,r,r',n,n',q,q',hu,h=>by simp[ltD] at h
 |.dic _ _,d',A,v,v',u,u',k,r,r',n,n',q,q',hu,h=>by simp[ltD] at h
 |.dks _ _,d',A,v,v',u,u',k,r,r',n,n',q,q',hu,h=>by simp[ltD] at h
 |.fz _ _ _ _,d',A,v,v',u,u',k,r,r',n,n',q,q',hu,h=>by simp[ltD] at h
 |.fn _ _,d',A,v,v',u,u',k,r,r',n,n',q,q',hu,h=>by simp[ltD] at h
theorem Gw (I:Inv X pins σ H s):∀ (ds es:List D) {A:Around}{vs vs':List V}{us us':List Value}{k:Bool},Reps X.K H μ B ds vs->Reps X.K H μ B es vs'->A1 ds=true->A1 es=true->Vals vs us->Vals vs' us'->A.units+Cz ds+Cz es < cLine->Dr ds es=some k->LexAt A s us us' k
 |[],es,A,vs,vs',us,us',k,r,r',n,n',q,q',hu,h=>by
  cases r
  cases q
  cases es with
  |nil=>cases r';cases q';rw[Dr] at h;cases h;exact .nil
  |cons e es =>
   cases r' with
   |cons r1 r2=>cases q' with
    |cons q1 q2=>rw[Dr] at h;cases h;exact .short
 |d::ds,es,A,vs,vs',us,us',k,r,r',n,n',q,q',hu,h=>by
  cases r with
  |cons r1 rs =>
  cases q with
  |cons q1 qs =>
  cases es with
  |nil=>cases r';cases q';rw[Dr] at h;cases h;exact .long
  |cons e es =>
   cases r' with
   |cons r2 rs2=>cases q' with
    |cons q2 qs2 =>
     rw[Dr] at h
     rw[A1,Az0] at n n'
     rw[Cz,Cz] at hu
     have he:=L4 (A:=A) I r1 r2 n.1 n'.1 q1 q2 (by lia)
     by_cases hd:deq d e=true
     ·rw[Azp hd] at h
      rw[hd] at he
      exact .same he (Gw I ds es rs rs2 n.2 n'.2 qs qs2 (by lia) h)
     ·rw[Azs hd] at h
      rw[Bool.eq_false_iff.mpr hd] at he
      exact .diff he (Agl I d e r1 r2 n.1 n'.1 q1 q2 (by lia) h)
end
end
section
variable {X:Cx}
def Aql:D->D->MH->Option D:=fun x y m=>(B7 m x).bind fun x'=>(B7 m y).bind fun y'=>if dep x'<=30/\dep y'<=30 then (ltD x' y').bind fun k=>some (.bl k) else none
theorem Agx (hr:Room k X.A):OpM X (compareOp .Lt) Aql:=by
 intro pins s σ H μ m x y z v u v' u' Q I S rx ry r1 r2 e q
 obtain⟨x',e1,h1⟩:=bind_some e
 obtain⟨y',e2,h1⟩:=bind_some h1
 split at h1
 ·rename_i hd
  obtain⟨b,h2,h3⟩:=bind_some h1
  cases h3
  obtain⟨a1,n1⟩:=Bd S rx e1
  obtain⟨a2,n2⟩:=Bd S ry e2
  have hu:=hr.units
  exact Agl I _ _ a1 a2 n1 n2 r1 r2 (by lia) h2 _ _ _ _ ⟨.bl b,H,I,rfl,q _ H (Same.refl H) (.bl _)⟩
 ·cases h1
end
end ML
end L2
end S_ML11
section S_ML12
namespace L2
namespace ML
open PySem PySem.Spec PyProof.Rows
section
variable {X:Cx}{a b c e e' o':Expr}{es:List Expr}{pos p p' apos cpos spos:Pos}{x:Str}
end
noncomputable def At4 (lo st:Int) (n:Nat):It:=⟨fun i _=>i < n,fun i H x H'=>H'=H/\x=.int (lo+i * st),fun i _=>n<=i⟩
theorem T1 {P:Program}{w:World}{K:W.Frag}{tg:Expr} (it:Addr) (lo st:Int) (n:Nat):Turn P w K tg (At4 lo st n) [it] it (fun i h=>IsRangeIter h it (lo+(i:Nat) * st) ((n:Int) - (i:Nat)) st) where
 mem:=by simp
 obj:=fun i h st b hb=>by
  have e:b=it:=by simpa using hb
  subst e
  exact⟨_,st,fun v z=>by
   have z':Data.fields _=Data.cell v:=z
   cases z'⟩
 keep:=fun i h h' st k=>k it (by simp) _ st
 item:=by
  intro X hP hw hK hc i pins s σ H E I hf hst hg
  subst hP hw hK
  obtain⟨f0,f1,f2,f3,f4,f5⟩:=hf it (by simp)
  have W:=Walks.range (prog:=X.prog) (w:=X.w) (I.ok.hd hc) it lo st n
  refine W.item i s _ _ hg hst fun v h' tk hv st' kk=>?_
  obtain⟨t,rfl⟩:=hv
  have I1:Inv X pins σ H { s with heap:=h',toks:=tk }:=I.turned (fun b o hb e=>kk b o (by simpa using hb) e) f0 f1 f3 f4 f5
  exact⟨_,rfl,Zd (s:={ s with heap:=h',toks:=tk }) (n:="range_iterator") st' rfl rfl (by decide) ⟨.int (lo+i * st),H,I1,⟨t,rfl⟩,⟨rfl,rfl⟩,st',fun b hb=>(hf b hb).1⟩⟩
 done:=by
  intro X hP hw hK hc i pins s σ H E I hf st hg
  subst hP hw hK
  obtain⟨f0,f1,f2,f3,f4,f5⟩:=hf it (by simp)
  exact wpAny_pyNext_range_end (I.ok.hd hc) st (by have:n<=i:=hg;lia) fun h' eb=>⟨rfl,I.turned (t':=s.toks) (fun b o hb e=>eb b o hb e) f0 f1 f3 f4 f5⟩
 self:=fun _ _ _ _ _ st h=>wpAny_pyIter_rangeiter st h
noncomputable def Tp (lo hi st:Int):Nat:=if lo < hi then ((hi - lo - 1) / st+1).toNat else 0
theorem P5 {lo hi st:Int} (h:0 < st):((Tp lo hi st:Nat):Int)=Builtin.Range.rangeSize lo hi st:=by
 unfold Builtin.Range.rangeSize Tp
 simp only[show st > 0 from h,Bbc]
 by_cases hl:lo < hi
 ·have h1:0<=(hi - lo - 1) / st:=Int.ediv_nonneg (by lia) (by lia)
  simp only[hl,Bbc]
  first|lia|(rw[Azp hl];lia)|(rw[Azs (by lia)];lia)
 ·simp only[hl,Bbn]
  first|rfl|lia|(rw[Azs hl];rfl)|(rw[Azp (by lia)];rfl)
theorem Amn {lo hi st:Int} (h:0 < st):((Tp lo hi st:Nat):Int)<=max 0 (hi - lo):=by
 unfold Tp
 by_cases hl:lo < hi
 ·rw[Azp hl]
  have h1:0<=(hi - lo - 1) / st:=Int.ediv_nonneg (by lia) (by lia)
  have h2:(hi - lo - 1) / st<=hi - lo - 1:=Int.ediv_le_self _ (by lia)
  lia
 ·rw[Azs hl];lia
theorem Afb (ha:-(2 ^ 61)<=a) (ha':a < 2 ^ 61) (hb:-(2 ^ 61)<=b) (hb':b < 2 ^ 61) (hc:0 < c) (hc':c < 2 ^ 61):Builtin.Range.small a b c=true:=by
 have h1:=Amn (lo:=a) (hi:=b) hc
 have h2:=P5 (lo:=a) (hi:=b) hc
 unfold Builtin.Range.small
 rw[<- h2]
 simp only[Builtin.Range.rangeFitsLong,Az0,Bool.or_eq_true,Bat,beq_iff_eq,show c > 0 from hc,Bbc]
 lia
theorem Reps.three {K:W.Frag}{H:Hp}{μ:List Addr}{B:Addr->Prop}{x y z:D}{vs:List V} (r:Reps K H μ B [x,y,z] vs):∃ v1 v2 v3,vs=[v1,v2,v3]/\Rep K H μ B x v1/\Rep K H μ B y v2/\Rep K H μ B z v3:=by
 cases r with
 |cons a r=>cases r with
  |cons b r=>cases r with
   |cons c r=>cases r;exact⟨_,_,_,rfl,a,b,c⟩
theorem Aws (r:Vals [v1,v2,v3] us):∃ u1 u2 u3,us=[u1,u2,u3]/\RelV v1 u1/\RelV v2 u2/\RelV v3 u3:=by
 cases r with
 |cons a r=>cases r with
  |cons b r=>cases r with
   |cons c r=>cases r;exact⟨_,_,_,rfl,a,b,c⟩
section
variable {X:Cx}{a b c e:Expr}{tg:Expr}{p pos:Pos}
def Afs (g:FL):FW:=fun env m=>(g env m).bind fun ds=>match ds with
 |[.int i,.int j,.int k]=>if 0<=i/\i < 1000000000/\0<=j/\j < 1000000000/\0 < k/\k < 1000000 then some ⟨(List.range (Tp i j k)).map fun (q:Nat)=>.int (i+q * k),Bv⟩ else none
 |_=>none
theorem Xu {K:W.Frag}{lo st:Int}{n:Nat}:Src K (At4 lo st n) ((List.range n).map fun (q:Nat)=>.int (lo+q * st)) Bv (fun _ _ _=>True) where
 go:=fun H μ m i d S h _ e=>by
  rw[Az3] at e
  cases q:(List.range n)[i]? with
  |none=>rw[q] at e;cases e
  |some j =>
   rw[q] at e
   cases e
   have hi:=(List.getElem?_eq_some_iff.mp q).1
   rw[List.length_range] at hi
   rw[List.getElem?_range hi] at q
   cases q
   exact⟨hi,fun x H' ⟨h1,h2⟩=>by subst h1;subst h2;exact⟨Same.refl _,.int _⟩⟩
 stop:=fun H μ m S h _=>by show n<=_;simp
 keep:=fun H μ m H' μ' m' h S st S'=>trivial
theorem Abo {pins:List (Addr×Obj)}{σ:St}{H:Hp}{s:Shared}{R:It->Hp->Prop}{E:Value->Shared->Prop}{lo hi st:Int}{t u v:Tok}{tk:Nat} (I:Inv X pins σ H s) (h:0<=lo/\lo < 1000000000/\0<=hi/\hi < 1000000000/\0 < st/\st < 1000000)
  (q:R (At4 lo st (Tp lo hi st)) H):wpAny (model X.prog X.w) X.A (pyIter (.ref s.heap.objs.size)) (PIE X pins σ tg R) E { s with heap:=s.heap.push { cls:=.type "range",data:=.fields #[.int lo t,.int hi u,.int st v] },toks:=tk }:=by
 obtain⟨h1,h2,h3,h4,h5,h6⟩:=h
 refine wpAny_pyIter_range (IsRange.new ..) (Afb (by lia) (by lia) (by lia) (by lia) (by lia) (by lia)) ?_
 have I1:Inv X pins σ H { s with heap:=s.heap.push { cls:=.type "range",data:=.fields #[.int lo t,.int hi u,.int st v] },toks:=tk }:=I.kept fun b o e=>Aze _ e
 refine⟨(s.heap.push { cls:=.type "range",data:=.fields #[.int lo t,.int hi u,.int st v] }).objs.size,[(s.heap.push { cls:=.type "range",data:=.fields #[.int lo t,.int hi u,.int st v] }).objs.size],_,_,H,rfl,
  I1.kept (t':=tk) fun b o e=>Aze _ e,T1 _ lo st (Tp lo hi st),?_,fun b hb=>?_,q⟩
 ·have e1:lo+((0:Nat):Int) * st=lo:=by simp
  have e2:((Tp lo hi st:Nat):Int) - ((0:Nat):Int)=Builtin.Range.rangeSize lo hi st:=by rw[<- P5 h5];simp
  show IsRangeIter _ _ (lo+((0:Nat):Int) * st) (((Tp lo hi st:Nat):Int) - ((0:Nat):Int)) st
  rw[e1,e2]
  exact Azq _ rfl
 ·have e:b=(s.heap.push { cls:=.type "range",data:=.fields #[.int lo t,.int hi u,.int st v] }).objs.size:=by simpa using hb
  subst e
  exact I1.fpOk (Azn _) (I1.hok.fresh (Azn _))
theorem Abb {g:FL} (hg:Gl X "range") (hm:X.mg "range"=none) (ha:PL X [a,b,c] g) (hs:starEach [a,b,c] X.env=(false,eval a X.env)::starEach [b,c] X.env) (hs2:(backTo pos (starEach [b,c] X.env)).any (·.1)=false):PW' X tg (.Call (.Name "range" p) [a,b,c] [] pos) (Afs g):=by
 intro pins s σ H R I h
 obtain⟨env,μ,m,w,S,E,h,q⟩:=h
 obtain⟨ds,h1,h2⟩:=bind_some h
 refine Call_ (Dk I hg hm boot_range (PyProof.Rows.callWith_type1 (thn (ha pos pins s σ H (fun vs H1=>Same H H1/\Reps X.K H1 μ (·∈μ) ds vs) I ⟨env,μ,m,ds,S,E,h1,fun vs H' s rs=>⟨s,rs⟩⟩) fun us s1 ⟨vs,H1,I1,r1,sm,rs⟩=>?_) hs hs2))
 obtain⟨i,j,k,rfl⟩:∃ i j k,ds=[.int i,.int j,.int k]:=by
  cases ds with
  |nil=>exact Ad h2
  |cons d ds =>
   cases d with
   |int i =>
    cases ds with
    |nil=>exact Ad h2
    |cons d ds =>
     cases d with
     |int j =>
      cases ds with
      |nil=>exact Ad h2
      |cons d ds =>
       cases d with
       |int k =>
        cases ds with
        |nil=>exact⟨i,j,k,rfl⟩
        |cons _ _=>exact Ad h2
       |_=>exact Ad h2
     |_=>cases h2
   |_=>cases h2
 simp only at h2
 split at h2
 ·rename_i hc
  cases h2
  obtain⟨v1,v2,v3,rfl,x1,x2,x3⟩:=rs.three
  cases x1
  cases x2
  cases x3
  obtain⟨u1,u2,u3,rfl,⟨t1,rfl⟩,⟨t2,rfl⟩,⟨t3,rfl⟩⟩:=Aws r1
  exact call_range_3 (by lia) (Abo I1 hc (q H1 _ _ sm Xu trivial)) (Bbt (PyProof.noPylong_small (by lia)))
 ·exact Ad h2
theorem Awf (hm:X.mg "range"=none) (ha:QL X [a,b,c] g) (hg:Gl X "range":=by unfold Gl;kernel_rfl) (hs':Bp a=true:=by rfl) (hs2':[b,c].all Bp=true:=by rfl):QW X tg (.Call (.Name "range" p) [a,b,c] [] pos) (Afs g):=⟨Abb hg hm ha.out (Ar hs') (Dm hs2')⟩
end
open Classical
noncomputable section
theorem Abq (r:Ano o u):o.isSome=u.isSome:=by
 cases o<;>cases u<;>first|rfl|exact (show False from r).elim
section
variable {X:Cx}{pins:List (Addr×Obj)}{σ:St}{H:Hp}{s:Shared}{a:Addr}
theorem Ake (I:Inv X pins σ H s):sysModules < s.heap.objs.size:=by
 have h:mainGlobals < s.heap.objs.size:=(I.mod.glob.keeps I.bk).lt
 exact Nat.lt_trans (by decide) h
end
section
variable {K:W.Frag}{H:Hp}{μ:List Addr}{B:Addr->Prop}
end
section
variable {X:Cx}{a b c e:Expr}{es:List Expr}{pos p p':Pos}{x:Str}
end
section
variable {X:Cx}{a b c e:Expr}{es:List Expr}{pos p p':Pos}{x:Str}
end
end
end ML
end L2
end S_ML12
section S_ML15
namespace L2
namespace ML
open PySem PySem.Spec PyProof.Rows
namespace RV
theorem Ny:Manifest.owners.lookup (String.ofList ['d','e','s','r','e','v','e','r'].reverse)=some Manifest.sig_reversed:=by kernel_rfl
theorem slot_next:Slot "reversed" "__next__" "reversed.__next__" :=
 .of (owner:="reversed") (n:="__next__") (by rw[Ba8,Bai];kernel_rfl) (by decide +kernel) (by decide +kernel) (by decide +kernel)
  (by first|exact .inl (by decide +kernel)|exact .inr (by decide +kernel)) (by rw[Bb3];kernel_rfl)
theorem L3:entryFor table "reversed.__next__"=some Builtin.«reversed.__next__»:=entryFor_of_tree (by kernel_rfl)
theorem Ol (a:Value):argsOk "reversed.__next__" ⟨[a],[]⟩:=by
 unfold argsOk;rw[signature?_of (id:="reversed.__next__") (n:=['_','_','t','x','e','n','_','_']) (o:=['d','e','s','r','e','v','e','r']) (by kernel_rfl) Ny];kernel_rfl
theorem slot_hint:Slot "reversed" "__length_hint__" "reversed.__length_hint__" :=
 .of (owner:="reversed") (n:="__length_hint__") (by rw[Ba8,Bai];kernel_rfl) (by decide +kernel) (by decide +kernel) (by decide +kernel)
  (by first|exact .inl (by decide +kernel)|exact .inr (by decide +kernel)) (by rw[Bb3];kernel_rfl)
theorem Vx:entryFor table "reversed.__length_hint__"=some Builtin.«reversed.__length_hint__»:=entryFor_of_tree (by kernel_rfl)
theorem Yh (a:Value):argsOk "reversed.__length_hint__" ⟨[a],[]⟩:=by
 unfold argsOk;rw[signature?_of (id:="reversed.__length_hint__") (n:=['_','_','t','n','i','h','_','h','t','g','n','e','l','_','_']) (o:=['d','e','s','r','e','v','e','r']) (by kernel_rfl) Ny];kernel_rfl
theorem P8:Slot "reversed" "__iter__" "reversed.__iter__" :=
 .of (owner:="reversed") (n:="__iter__") (by rw[Ba8,Bai];kernel_rfl) (by decide +kernel) (by decide +kernel) (by decide +kernel)
  (by first|exact .inl (by decide +kernel)|exact .inr (by decide +kernel)) (by rw[Bb3];kernel_rfl)
theorem Yi (a:Value):argsOk "reversed.__iter__" ⟨[a],[]⟩:=by
 unfold argsOk;rw[signature?_of (id:="reversed.__iter__") (n:=['_','_','r','e','t','i','_','_']) (o:=['d','e','s','r','e','v','e','r']) (by kernel_rfl) Ny];kernel_rfl
theorem Vy:entryFor table "reversed.__iter__"=some Builtin.«dict_keyiterator.__iter__» :=
 entryFor_alias (id':="dict_keyiterator.__iter__") (by kernel_rfl) (by first|rfl|decide +kernel|(unfold String.splitOn;simp +decide [String.splitOnAux])) (by decide +kernel) (by kernel_rfl)
theorem Aac:typeLookup (.type "reversed") "__len__"=pure none:=by rw[Ba8,Bai];kernel_rfl
theorem X0:typeLookup (.type "tuple") "__reversed__"=pure none:=by rw[Ba8,Bai];kernel_rfl
theorem Lv:isSubtype (.type "tuple") (.type "dict")=pure false:=by rw[Bb3];kernel_rfl
noncomputable def obj (t:Addr) (i:Int):Obj:={ cls:=.type "reversed",data:=.fields #[.ref t,rawInt i] }
def Is (h:Heap) (a t:Addr) (i:Int):Prop:=∃ o,h.get? a=some o/\o.cls=.type "reversed"/\o.data=.fields #[.ref t,rawInt i]
theorem Is.at {a t:Addr} (x:Is h a t i) (e:∀ o,h.get? a=some o->h'.get? a=some o):Is h' a t i:=let ⟨o,ho,r⟩:=x;⟨o,e _ ho,r⟩
section
variable {prog:Program}{w:World}{A:Around}{E:Value->Shared->Prop}{s:Shared}
theorem Is.typeIs {a t:Addr} (x:Is s.heap a t i):s.TypeIs (.ref a) "reversed":=let ⟨o,ho,hc,_⟩:=x;⟨o,ho,hc⟩
theorem Ao8:TypeCalled "reversed" "reversed.__new__" "object.__init__" :=
 ⟨by decide +kernel,F.create_reversed,⟨_,_,F.mro_reversed⟩,F.made_reversed,by decide +kernel,F.sub_reversed_self,
  .of (owner:="object") (n:="__init__") (by rw[Ba8,Bai];kernel_rfl) (by decide +kernel) (by decide +kernel) (by decide +kernel)
   (by first|exact .inl (by decide +kernel)|exact .inr (by decide +kernel)) (by rw[Bb3];kernel_rfl)⟩
theorem Z2 (t:Addr) (items:Array Value) (hfit:(items.size:Int) < 2 ^ 63) :
  Meets (Builtin.«reversed.__new__» ⟨[.type "reversed",.ref t],[]⟩) (fun _ R s=>IsTup s.heap t items/\R (.ok (.ret (.ref s.heap.objs.size))) { s with heap:=s.heap.push (obj t ((items.size:Int) - 1)),toks:=s.toks+1+1 }) :=
 .of_wp fun prog w A R s h=>by
 obtain⟨ht,h⟩:=h
 unfold Builtin.«reversed.__new__»
 refine Azc (Bbr (newClass_reversed _) ?_)
 try dsimp only
 refine Azc (Bbr (a:=()) (by first|rfl|kernel_rfl) ?_)
 refine Azc (Bbr (a:=()) (by first|rfl|kernel_rfl) ?_)
 try dsimp only
 refine Azc (Bax ht.typeIs X0 ?_)
 try dsimp only
 refine Azc (Azc (Bb9 (T:="tuple") (b:=false) ht.typeIs Lv ?_))
 refine Bad (fun hab=>absurd hab (by decide)) (fun _=>?_)
 refine Azc (Bax ht.typeIs slot_tuple_getitem.lookup ?_)
 show wpAny _ _ (if _ then _ else _) _ _ s
 refine Bad (fun _=>?_) (fun hab=>absurd (by decide +kernel) hab)
 refine Azi ?_
 refine Bad (fun hab=>absurd hab (by decide)) (fun _=>?_)
 refine Azc (len_tuple ht hfit ?_)
 refine Azc (m:=asInt? _) (Azi ?_)
 refine Azc (m:=newObj (.type "reversed") (.fields #[.ref t,rawInt ((items.size:Int) - 1)])) (Baw ?_)
 first|exact Azi ⟨_,rfl,h⟩|exact Azi h
theorem call_new {t:Addr} (ht:IsTup s.heap t items) (hfit:(items.size:Int) < 2 ^ 63) (h:Q (.ref s.heap.objs.size) { s with heap:=s.heap.push (obj t ((items.size:Int) - 1)),toks:=s.toks+1+1 }):wpAny (model prog w) A (call (.type "reversed") [.ref t]) Q E s :=
 callType_new Ao8 (by decide) (F.typeCall_reversed_1 _) (F.newCall_reversed_1 _) (fun obj=>F.args_object_init_2 obj _) F.entry_reversed_new
  (Z2 t items hfit) ⟨ht,⟨_,Azq _ rfl,rfl⟩,h⟩
theorem Z9 {it t:Addr}{i:Nat}{items:Array Value}{x:Value}{Q:Option Value->Shared->Prop} (hit:Is s.heap it t (i:Int)) (ht:IsTup s.heap t items) (hfit:(items.size:Int) < 2 ^ 63) (hx:items[i]?=some x)
  (hQ:∀ h',Is h' it t ((i:Int) - 1)->Heap.SameBut it s.heap h'->Q (some x) { s with heap:=h',toks:=s.toks+1 }):wpAny (model prog w) A (pyNext (.ref it)) Q E s:=by
 obtain⟨o,ho,hc,hd⟩:=id hit
 unfold pyNext
 refine Azc (wpAny_attempt (Bb1 (name:=Str.ofString "__next__") hit.typeIs slot_next
  (Ba1 slot_next hit.typeIs L3 ?_ (Ol _))))
 unfold Builtin.«reversed.__next__»
 refine Azc (Bbr (a:=(Value.ref it,[])) rfl ?_)
 try dsimp only
 refine Azc (Bbs ho hd (x:=.ref t) rfl ?_)
 refine Azc (Bbs ho hd (x:=rawInt (i:Int)) rfl ?_)
 show wpAny _ _ (if (i:Int) < 0 then _ else _) _ _ s
 rw[Azs (by lia)]
 refine Azc (Bax ht.typeIs slot_tuple_getitem.lookup ?_)
 refine Bad (fun hab=>absurd hab (by decide)) (fun _=>?_)
 refine Azc (wpAny_mkInt ?_)
 have hlt:i < items.size:=by
  have:=Array.getElem?_eq_some_iff.mp hx
  exact this.1
 refine Azc (wpAny_attempt (getItem_tuple (j:=i) ht (by lia) (by lia) (by unfold seqIndex?;simp<;>lia) hx ?_))
 refine Azc (Bbs ho hd (x:=rawInt (i:Int)) rfl ?_)
 show wpAny _ _ (setField (.ref it) 1 (rawInt ((i:Int) - 1)) >>= _) _ _ _
 refine Azc (wpAny_setField ho hd (by simp) ?_)
 refine Azi ⟨x,rfl,Azi (hQ _ ?_ (Heap.SameBut.update ..))⟩
 exact⟨_,Bay _ ho (Obj.isFreed_of_fields (Bcf hd _)),(Obj.cls_mapFields ..).trans hc,by
  rw[Bcf hd];simp⟩
theorem Ad6 {it t:Addr} (hh:A.handled=none) (hit:Is s.heap it t (-1)) (hQ:∀ h',Heap.ExtBut it s.heap h'->Q none { s with heap:=h' }):wpAny (model prog w) A (pyNext (.ref it)) Q E s:=by
 obtain⟨o,ho,hc,hd⟩:=id hit
 unfold pyNext
 refine Azc (wpAny_attempt (Bb1 (name:=Str.ofString "__next__") hit.typeIs slot_next
  (Ba1 slot_next hit.typeIs L3 ?_ (Ol _))))
 unfold Builtin.«reversed.__next__»
 refine Azc (Bbr (a:=(Value.ref it,[])) rfl ?_)
 try dsimp only
 refine Azc (Bbs ho hd (x:=.ref t) rfl ?_)
 refine Azc (Bbs ho hd (x:=rawInt (-1)) rfl ?_)
 show wpAny _ _ (if (-1:Int) < 0 then _ else _) _ _ s
 rw[Azp (by decide)]
 refine Azc (wpAny_rule ?_)
 refine Azc ?_
 refine Azc (wpAny_setField ho hd (by simp) ?_)
 have ho1:=Bay (Obj.mapFields (·.setIfInBounds 1 (rawInt (-1)))) ho (Obj.isFreed_of_fields (Bcf hd _))
 have hd1:=Bcf hd (·.setIfInBounds 1 (rawInt (-1)))
 refine wpAny_setField ho1 hd1 (by simp) ?_
 first
 |show wpAny _ _ (newExc (.type "StopIteration") [] >>= _) _ _ _
 |(refine Azc ?_;show wpAny _ _ (newExc (.type "StopIteration") [] >>= _) _ _ _)
 refine Azc ?_
 simp only[newExc,newTuple]
 refine Azc (Baw ?_ (by size_fits))
 refine Azc (m:=firstArgMember _ _) (Bbr (a:=Value.none) (by first|rfl|(simp only[firstArgMember];rfl)) ?_)
 refine Baw ?_ (by size_fits)
 simp only[raiseNew]
 refine Azc (wpAny_handled ?_)
 first|rw[show A.in1.handled=none from hh]|rw[hh]
 refine Azc (Azi (wpAny_throw ?_))
 refine Azc (Bb9 (T:="StopIteration") (b:=true) ⟨_,Azq _ rfl,rfl⟩ isSubtype_stop ?_)
 refine Azi (hQ _ (Heap.ExtBut.push (Heap.ExtBut.push ?_ _) _))
 intro b ob hb e
 exact (Azu _ _ (Bak hb)).trans ((Azu _ _ (Bak hb)).trans e)
theorem Amd {it t:Addr} (hit:Is s.heap it t i) (h:Q (.ref it) s):wpAny (model prog w) A (pyIter (.ref it)) Q E s:=by
 refine wpAny_pyIter_slot hit.typeIs P8 (Ba1 P8 hit.typeIs Vy ?_ (Yi _))
 show wpAny _ _ (ret (.ref it)) _ _ s
 exact Azi ⟨_,rfl,"reversed",_,hit.typeIs,slot_next.lookup,h⟩
theorem hint {it t:Addr} (hit:Is s.heap it t ((items.size:Int) - 1)) (ht:IsTup s.heap t items) (hz:items.size<=sizeLine) (hQ:∀ tk,s.toks<=tk->Q ((items.size:Int) != 0) { s with toks:=tk }):wpAny (model prog w) A (Builtin.List.listLengthHint (.ref it)) Q E s:=by
 have hz':items.size<=2 ^ 24:=hz
 obtain⟨o,ho,hc,hd⟩:=id hit
 unfold Builtin.List.listLengthHint
 refine Azc (Bax hit.typeIs Aac ?_)
 refine Bad (fun hab=>absurd hab (by decide)) (fun _=>?_)
 refine Bad (fun hab=>absurd hab (by decide)) (fun _=>?_)
 refine Azc (Bax hit.typeIs slot_hint.lookup ?_)
 generalize hid:("reversed.__length_hint__":String)=id0
 wp_delta
 rw[show splitId id0=some ("reversed","__length_hint__") from by subst hid;decide +kernel]
 subst hid
 refine Azc (Bb9 (b:=true) hit.typeIs F.sub_reversed_self ?_)
 refine Bad (fun hab=>absurd hab (by decide)) (fun _=>?_)
 refine Bad (fun hab=>absurd hab (by decide +kernel)) (fun _=>?_)
 refine Azc (wpAny_rule ?_)
 refine Azc (Bbr (slot_hint.bind _) ?_)
 try dsimp only
 refine Azc (wpAny_attempt (Ba1 slot_hint hit.typeIs Vx ?_ (Yh _)))
 unfold Builtin.«reversed.__length_hint__»
 refine Azc (Bbr (a:=Value.ref it) rfl ?_)
 refine Azc (Bbs ho hd (x:=.ref t) rfl ?_)
 refine Bad (fun hab=>absurd (show false=true from hab) Az7) (fun _=>?_)
 refine Azc (len_tuple ht (by lia) ?_)
 refine Azc (m:=asInt? _) (Azi ?_)
 refine Azc (Bbs ho hd (x:=rawInt ((items.size:Int) - 1)) rfl ?_)
 show wpAny _ _ (if (items.size:Int) < (items.size:Int) - 1+1 then _ else _) _ _ _
 rw[Azs (by lia)]
 refine Azc (wpAny_mkInt (Azi ⟨_,rfl,?_⟩))
 refine Azc (m:=asInt? _) (Azi ?_)
 have e1:(items.size:Int) - 1+1=(items.size:Int):=by lia
 have e2:(items.size:Int) - 1 - ((0:Nat):Int)=(items.size:Int) - 1:=by lia
 rw[e1]
 have hfi:Builtin.List.listFitsIndex (items.size:Int)=true:=by simp[Builtin.List.listFitsIndex];lia
 have htl:Builtin.List.listTooLong ((items.size:Int).toNat)=false:=by simp[Builtin.List.listTooLong,sizeLine];lia
 have hneg:¬ ((items.size:Int) < 0):=by lia
 simp only[hfi,htl,hneg,Bool.not_true,Baf,Bbn]
 exact Azi (hQ _ (by show s.toks<=_;lia))
theorem Atj (hh:A.handled=none) (I t:Addr) (hne:t≠I) (items:Array Value) (hfit:(items.size:Int) < 2 ^ 63) :
  Walks prog w A I [I,t] [I] items.size (fun i v=>items[items.size - 1 - i]?=some v) (fun i h=>i<=items.size/\Is h I t ((items.size:Int) - 1 - (i:Int))/\IsTup h t items) where
 sub:=fun b hb=>by simp at hb;simp[hb]
 frame:=fun _ _ _ x hk=>⟨x.1,x.2.1.at fun o e=>hk I (by simp) o e,let ⟨o,ho,r⟩:=x.2.2;⟨o,hk t (by simp) o ho,r⟩⟩
 item:=fun i s Q E hi x hQ=>by
  have e:(items.size:Int) - 1 - (i:Int)=((items.size - 1 - i:Nat):Int):=by lia
  have hit:=x.2.1
  rw[e] at hit
  have hx:items[items.size - 1 - i]?=some (items[items.size - 1 - i]'(by lia)):=Bcc (by lia)
  refine Z9 hit x.2.2 hfit hx fun h' hit' hs'=>?_
  have e2:((items.size - 1 - i:Nat):Int) - 1=(items.size:Int) - 1 - ((i+1:Nat):Int):=by lia
  rw[e2] at hit'
  exact hQ _ h' (s.toks+1) hx ⟨hi,hit',let ⟨o,ho,r⟩:=x.2.2;⟨o,(hs'.2 t hne).trans ho,r⟩⟩ fun b o hb eo=>hs'.extBut b o (fun h=>hb (by simp[h])) eo
 done:=fun s Q E x hQ=>by
  have e:(items.size:Int) - 1 - (items.size:Int)=-1:=by lia
  have hit:=x.2.1
  rw[e] at hit
  exact Ad6 hh hit fun h' he'=>hQ h' s.toks fun b o hb eo=>he' b o (fun h=>hb (by simp[h])) eo
 self:=fun _ _ _ _ x hQ=>Amd x.2.1 hQ
end
section
variable {prog:Program}{w:World}{A:Around}{s:Shared}{R:Result->Shared->Prop}
theorem Moved.tk {s s':Shared}{tk:Nat} (h:s.toks<=tk) (m:Moved wr G { s with toks:=tk } s'):Moved wr G s s':=⟨m.heap,m.gens,m.drawn,m.os,Azy h m.toks⟩
theorem Yy {I t:Addr} (hh:A.handled=none) (hne:t≠I) (hz:items.size<=sizeLine) (S:Addr) (res:Value) (c₀:Nat) (hit:Is s.heap I t ((items.size:Int) - 1)) (ht:IsTup s.heap t items) (hSI:S≠I) (hSt:S≠t) (hS:s.heap.get? S=some { cls:=.type "list",data:=.seq #[] c₀ }) (hR:∀ s' acc' c',Moved [S,I] (fun a b=>b=a) s s'->s'.heap.get? S=some { cls:=.type "list",dict:=none,data:=.seq acc' c',slots:=#[] }->ItemsOf (fun i v=>items[items.size - 1 - i]?=some v) acc' items.size->R (.ok (.ret res)) s') :
  wpAny (model prog w) A.in1 (Builtin.List.listExtendWith (.ref S) (.ref I) res)
   (fun fin s'=>match fin with|.done f=>R (.ok f) s'|.again c'=>c'.quiet=true/\codeAny (model prog w) A c' R s') (fun e s'=>R (.error e) s') s:=by
 have hz':items.size<=2 ^ 24:=hz
 have W:=(Atj (prog:=prog) (w:=w) (A:=A.in1) hh I t hne items (by lia)).toS
 have hSf:S∉[I,t]:=by simp[hSI,hSt]
 have e2:(items.size:Int) - 1 - ((0:Nat):Int)=(items.size:Int) - 1:=by lia
 have hst:(0<=items.size/\Is s.heap I t ((items.size:Int) - 1 - ((0:Nat):Int))/\IsTup s.heap t items):=⟨Az5 _,by rw[e2];exact hit,ht⟩
 unfold Builtin.List.listExtendWith
 refine Azc (Bbw hit.typeIs ?_)
 have h1:Builtin.List.listSameRef (.ref S) (.ref I)=false:=by simp[Builtin.List.listSameRef,hSI]
 have h2:(Value.type "reversed" == Value.type "list")=false:=by decide
 have h3:(Value.type "reversed" == Value.type "tuple")=false:=by decide
 simp only[h1,h2,h3,Bool.or_false,Baf,Bbn]
 refine Azc (W.self 0 _ _ _ hst ?_)
 refine Azc (Bah (hint hit ht hz fun tk htk=>?_))
 cases hb:((items.size:Int) != 0)
 ·refine Bad (fun hab=>absurd hab (by decide +kernel)) (fun _=>?_)
  refine Azi ⟨plainId_quiet F.plain_extend_loop _,codeAny_extend_loopS W hz _ hSf _ items.size 0 _ _ _ rfl (Az5 _) hst hS (ItemsOf.nil _) fun s' acc' c' hm hS' hacc=>?_⟩
  exact hR s' acc' c' (Moved.tk htk hm) hS' hacc
 show wpAny _ A.in1 (rule "list.extend.makes-room" >>= fun _=>Builtin.List.listTouch (.ref S) >>= fun _ =>
  again (.builtin "list.extend.loop" ⟨[.ref S,.ref I,res],[]⟩)) _ _ _
 refine Azc (wpAny_rule ?_)
 refine Azc ?_
 show wpAny _ A.in1 (updateSeq S (·.push .none) >>= fun _=>updateSeq S (·.pop)) _ _ _
 refine Azc (Bbl hS rfl ?_)
 have hS₂:=Bay (Obj.mapSeq (·.push Value.none)) hS rfl
 refine Bbl (hz:=by seq_fits) hS₂ rfl ?_
 have hS₃:=Bay (Obj.mapSeq (·.pop)) hS₂ rfl
 have oth:∀ b o,b≠S->s.heap.get? b=some o->((s.heap.update S (Obj.mapSeq (·.push Value.none))).update S (Obj.mapSeq (·.pop))).get? b=some o :=
  fun b o hb e=>(Azu _ _ (Bak hb)).trans ((Azu _ _ (Bak hb)).trans e)
 refine Azi ⟨plainId_quiet F.plain_extend_loop _,codeAny_extend_loopS W hz _ hSf _ items.size 0 _ _ _ rfl (Az5 _)
  (W.frame 0 s _ tk hst htk fun b hb o e=>oth b o (fun h=>hSf (h ▸ hb)) e) hS₃ (ItemsOf.nil _) fun s' acc' c' hm hS' hacc=>?_⟩
 exact hR s' acc' c' ⟨fun b o hb e=>hm.heap b o hb (oth b o (fun h=>hb (by rw[h];exact Azg)) e),hm.gens,hm.drawn,hm.os,Azy htk hm.toks⟩ hS' hacc
theorem Avn {I t:Addr} (hh:A.handled=none) (hne:t≠I) (hz:items.size<=sizeLine) (S:Addr) (hit:Is s.heap I t ((items.size:Int) - 1)) (ht:IsTup s.heap t items) (hSI:S≠I) (hSt:S≠t) (hS:s.heap.get? S=some { cls:=.type "list",data:=.seq #[] }) (hR:∀ s' acc' c',Moved [S,I] (fun a b=>b=a) s s'->s'.heap.get? S=some { cls:=.type "list",dict:=none,data:=.seq acc' c',slots:=#[] }->ItemsOf (fun i v=>items[items.size - 1 - i]?=some v) acc' items.size->R (.ok (.ret .none)) s') :
  wpAny (model prog w) A.in1 (Builtin.«list.__init__» ⟨[.ref S,.ref I],[]⟩)
   (fun fin s'=>match fin with|.done f=>R (.ok f) s'|.again c'=>c'.quiet=true/\codeAny (model prog w) A c' R s') (fun e s'=>R (.error e) s') s:=by
 show wpAny _ A.in1 (do let old <- Builtin.List.listItems (.ref S);Builtin.List.listUpdate (.ref S) (fun _=>#[]);letGo old.toList.reverse;Builtin.List.listExtendWith (.ref S) (.ref I) .none) _ _ s
 refine Azc ?_
 unfold Builtin.List.listItems
 refine Azc (Bbg hS rfl (Azi ?_))
 show wpAny _ A.in1 (updateSeq S (fun _=>#[]) >>= fun _=>letGo (#[]:Array Value).toList.reverse >>= fun _=>Builtin.List.listExtendWith (.ref S) (.ref I) .none) _ _ s
 refine Azc (Bbl hS rfl ?_)
 have hS₂:=Bay (Obj.mapSeq (fun _=>(#[]:Array Value))) hS rfl
 have oth:∀ b o,b≠S->s.heap.get? b=some o->(s.heap.update S (Obj.mapSeq (fun _=>(#[]:Array Value)))).get? b=some o :=
  fun b o hb e=>(Azu _ _ (Bak hb)).trans e
 refine Azc (wpAny_letGo ?_)
 refine Yy hh hne hz S .none _ (hit.at fun o e=>oth I o (Bak hSI) e) (let ⟨o,ho,r⟩:=ht;⟨o,oth t o (Bak hSt) ho,r⟩) hSI hSt hS₂ fun s' acc' c' hm hS' hacc=>?_
 exact hR s' acc' c' ⟨fun b o hb e=>hm.heap b o hb (oth b o (fun h=>hb (by rw[h];exact Azg)) e),hm.gens,hm.drawn,hm.os,hm.toks⟩ hS' hacc
end
section
variable {prog:Program}{w:World}{A:Around}{E:Value->Shared->Prop}{s:Shared}
theorem call_list {I t:Addr} (hh:A.handled=none) (hne:t≠I) (hz:items.size<=sizeLine) (hit:Is s.heap I t ((items.size:Int) - 1)) (ht:IsTup s.heap t items) (hQ:∀ s' acc' c',Moved [s.heap.objs.size,I] (fun a b=>b=a) { s with heap:=s.heap.push { cls:=.type "list",data:=.seq #[] } } s' ->
   s'.heap.get? s.heap.objs.size=some { cls:=.type "list",dict:=none,data:=.seq acc' c',slots:=#[] }->ItemsOf (fun i v=>items[items.size - 1 - i]?=some v) acc' items.size->Q (.ref s.heap.objs.size) s') :
  wpAny (model prog w) A (call (.type "list") [.ref I]) Q E s:=by
 have hIlt:I < s.heap.objs.size:=let ⟨o,ho,_⟩:=hit;Azj ho
 have htlt:t < s.heap.objs.size:=let ⟨o,ho,_⟩:=ht;Azj ho
 refine callType_codes (Q₁:=fun obj s₁=>obj=.ref s.heap.objs.size/\s₁={ s with heap:=s.heap.push { cls:=.type "list",data:=.seq #[] } }) F.called_list (F.typeCall_list_1 _) F.entry_list_init
  (code_list_new _ ⟨rfl,rfl⟩) fun obj s₁ h₁=>?_
 obtain⟨rfl,rfl⟩:=h₁
 have hS:(s.heap.push { cls:=.type "list",data:=.seq #[] }).get? s.heap.objs.size=some { cls:=.type "list",data:=.seq #[] }:=Azq _ rfl
 refine⟨⟨_,hS,rfl⟩,F.args_list_init_2 _ _,Avn (A:=A.in1) hh hne hz _ (hit.at fun o e=>Aze _ e) (let ⟨o,ho,r⟩:=ht;⟨o,Aze _ ho,r⟩) (Bao hIlt) (Bao htlt) hS fun s' acc' c' hm hS' hacc=>?_⟩
 exact⟨rfl,hQ s' acc' c' hm hS' hacc⟩
end
end RV
section
variable {X:Cx}{e:Expr}{pos pos' p p':Pos}
end
namespace RL
theorem Aac:typeLookup (.type "list_reverseiterator") "__len__"=pure none:=by rw[Ba8,Bai];kernel_rfl
theorem Apq:typeLookup (.type "list_reverseiterator") "__length_hint__"=pure (some (.builtin "list_reverseiterator.__length_hint__")):=by rw[Ba8,Bai];kernel_rfl
section
variable {prog:Program}{w:World}{A:Around}{E:Value->Shared->Prop}{s:Shared}
theorem hint {it t:Addr} (hit:s.heap.IsRevIter it t i) (hQ:Q false s):wpAny (model prog w) A (Builtin.List.listLengthHint (.ref it)) Q E s:=by
 unfold Builtin.List.listLengthHint
 refine Azc (Bax hit.typeIs Aac ?_)
 refine Bad (fun hab=>absurd hab (by decide)) (fun _=>?_)
 refine Bad (fun hab=>absurd hab (by decide)) (fun _=>?_)
 refine Azc (Bax hit.typeIs Apq ?_)
 generalize hid:("list_reverseiterator.__length_hint__":String)=id0
 wp_delta
 rw[show splitId id0=some ("list_reverseiterator","__length_hint__") from by subst hid;decide +kernel]
 subst hid
 refine Azc (Bb9 (b:=true) hit.typeIs (by rw[Bb3];kernel_rfl) ?_)
 refine Bad (fun hab=>absurd hab (by decide)) (fun _=>?_)
 refine Bad (fun _=>?_) (fun hab=>absurd (by decide +kernel) hab)
 refine Bad (fun hab=>absurd hab (by decide +kernel)) (fun _=>Azi hQ)
end
section
variable {prog:Program}{w:World}{A:Around}{s:Shared}{R:Result->Shared->Prop}
theorem Yy {I t:Addr} (hh:A.handled=none) (hne:t≠I) (hz:items.size<=sizeLine) (S:Addr) (res:Value) (c₀:Nat) (hit:s.heap.IsRevIter I t ((items.size:Int) - 1)) (ht:s.heap.IsList t items) (hSI:S≠I) (hSt:S≠t) (hS:s.heap.get? S=some { cls:=.type "list",data:=.seq #[] c₀ }) (hR:∀ s' acc' c',Moved [S,I] (fun a b=>b=a) s s'->s'.heap.get? S=some { cls:=.type "list",dict:=none,data:=.seq acc' c',slots:=#[] }->ItemsOf (fun i v=>items[items.size - 1 - i]?=some v) acc' items.size->R (.ok (.ret res)) s') :
  wpAny (model prog w) A.in1 (Builtin.List.listExtendWith (.ref S) (.ref I) res)
   (fun fin s'=>match fin with|.done f=>R (.ok f) s'|.again c'=>c'.quiet=true/\codeAny (model prog w) A c' R s') (fun e s'=>R (.error e) s') s:=by
 have hz':items.size<=2 ^ 24:=hz
 have W:=(Walks.listRev (prog:=prog) (w:=w) (A:=A.in1) hh I t hne items).toS
 have hSf:S∉[I,t]:=by simp[hSI,hSt]
 have e2:(items.size:Int) - 1 - ((0:Nat):Int)=(items.size:Int) - 1:=by lia
 have hst:(0<=items.size/\s.heap.IsRevIter I t ((items.size:Int) - 1 - ((0:Nat):Int))/\s.heap.IsList t items):=⟨Az5 _,by rw[e2];exact hit,ht⟩
 unfold Builtin.List.listExtendWith
 refine Azc (Bbw hit.typeIs ?_)
 have h1:Builtin.List.listSameRef (.ref S) (.ref I)=false:=by simp[Builtin.List.listSameRef,hSI]
 have h2:(Value.type "list_reverseiterator" == Value.type "list")=false:=by decide
 have h3:(Value.type "list_reverseiterator" == Value.type "tuple")=false:=by decide
 simp only[h1,h2,h3,Bool.or_false,Baf,Bbn]
 refine Azc (W.self 0 _ _ _ hst ?_)
 refine Azc (Bah (hint hit ?_))
 refine Bad (fun hab=>absurd hab (by decide +kernel)) (fun _=>?_)
 refine Azi ⟨plainId_quiet F.plain_extend_loop _,codeAny_extend_loopS W hz _ hSf _ items.size 0 _ _ _ rfl (Az5 _) hst hS (ItemsOf.nil _) fun s' acc' c' hm hS' hacc=>?_⟩
 exact hR s' acc' c' hm hS' hacc
theorem Avn {I t:Addr} (hh:A.handled=none) (hne:t≠I) (hz:items.size<=sizeLine) (S:Addr) (hit:s.heap.IsRevIter I t ((items.size:Int) - 1)) (ht:s.heap.IsList t items) (hSI:S≠I) (hSt:S≠t) (hS:s.heap.get? S=some { cls:=.type "list",data:=.seq #[] }) (hR:∀ s' acc' c',Moved [S,I] (fun a b=>b=a) s s'->s'.heap.get? S=some { cls:=.type "list",dict:=none,data:=.seq acc' c',slots:=#[] }->ItemsOf (fun i v=>items[items.size - 1 - i]?=some v) acc' items.size->R (.ok (.ret .none)) s') :
  wpAny (model prog w) A.in1 (Builtin.«list.__init__» ⟨[.ref S,.ref I],[]⟩)
   (fun fin s'=>match fin with|.done f=>R (.ok f) s'|.again c'=>c'.quiet=true/\codeAny (model prog w) A c' R s') (fun e s'=>R (.error e) s') s:=by
 show wpAny _ A.in1 (do let old <- Builtin.List.listItems (.ref S);Builtin.List.listUpdate (.ref S) (fun _=>#[]);letGo old.toList.reverse;Builtin.List.listExtendWith (.ref S) (.ref I) .none) _ _ s
 refine Azc ?_
 unfold Builtin.List.listItems
 refine Azc (Bbg hS rfl (Azi ?_))
 show wpAny _ A.in1 (updateSeq S (fun _=>#[]) >>= fun _=>letGo (#[]:Array Value).toList.reverse >>= fun _=>Builtin.List.listExtendWith (.ref S) (.ref I) .none) _ _ s
 refine Azc (Bbl hS rfl ?_)
 have hS₂:=Bay (Obj.mapSeq (fun _=>(#[]:Array Value))) hS rfl
 have oth:∀ b o,b≠S->s.heap.get? b=some o->(s.heap.update S (Obj.mapSeq (fun _=>(#[]:Array Value)))).get? b=some o :=
  fun b o hb e=>(Azu _ _ (Bak hb)).trans e
 refine Azc (wpAny_letGo ?_)
 refine Yy hh hne hz S .none _ (hit.at fun o e=>oth I o (Bak hSI) e) (ht.at fun o e=>oth t o (Bak hSt) e) hSI hSt hS₂ fun s' acc' c' hm hS' hacc=>?_
 exact hR s' acc' c' ⟨fun b o hb e=>hm.heap b o hb (oth b o (fun h=>hb (by rw[h];exact Azg)) e),hm.gens,hm.drawn,hm.os,hm.toks⟩ hS' hacc
end
section
variable {prog:Program}{w:World}{A:Around}{E:Value->Shared->Prop}{s:Shared}
theorem call_list {I t:Addr} (hh:A.handled=none) (hne:t≠I) (hz:items.size<=sizeLine) (hit:s.heap.IsRevIter I t ((items.size:Int) - 1)) (ht:s.heap.IsList t items) (hQ:∀ s' acc' c',Moved [s.heap.objs.size,I] (fun a b=>b=a) { s with heap:=s.heap.push { cls:=.type "list",data:=.seq #[] } } s' ->
   s'.heap.get? s.heap.objs.size=some { cls:=.type "list",dict:=none,data:=.seq acc' c',slots:=#[] }->ItemsOf (fun i v=>items[items.size - 1 - i]?=some v) acc' items.size->Q (.ref s.heap.objs.size) s') :
  wpAny (model prog w) A (call (.type "list") [.ref I]) Q E s:=by
 have hIlt:I < s.heap.objs.size:=let ⟨o,ho,_⟩:=hit;Azj ho
 have htlt:t < s.heap.objs.size:=let ⟨o,ho,_⟩:=ht;Azj ho
 refine callType_codes (Q₁:=fun obj s₁=>obj=.ref s.heap.objs.size/\s₁={ s with heap:=s.heap.push { cls:=.type "list",data:=.seq #[] } }) F.called_list (F.typeCall_list_1 _) F.entry_list_init
  (code_list_new _ ⟨rfl,rfl⟩) fun obj s₁ h₁=>?_
 obtain⟨rfl,rfl⟩:=h₁
 have hS:(s.heap.push { cls:=.type "list",data:=.seq #[] }).get? s.heap.objs.size=some { cls:=.type "list",data:=.seq #[] }:=Azq _ rfl
 refine⟨⟨_,hS,rfl⟩,F.args_list_init_2 _ _,Avn (A:=A.in1) hh hne hz _ (hit.at fun o e=>Aze _ e) (ht.at fun o e=>Aze _ e) (Bao hIlt) (Bao htlt) hS fun s' acc' c' hm hS' hacc=>?_⟩
 exact⟨rfl,hQ s' acc' c' hm hS' hacc⟩
end
end RL
section
variable {X:Cx}{e:Expr}{pos pos' p p':Pos}
def Ad9:List D->MH->Option (List D):=fun xs m=>match xs with
 |[d]=>(sq m d).bind fun ds=>some ds.reverse
 |_=>none
theorem Zk {its:List Value}{acc':Array Value} (hacc:ItemsOf (fun i v=>its.toArray[its.toArray.size - 1 - i]?=some v) acc' its.toArray.size):acc'=its.reverse.toArray:=by
 refine Array.ext' ?_
 refine List.ext_getElem? fun j=>?_
 have hs:acc'.toList.length=its.length:=by have:=hacc.1;simpa using this
 by_cases hj:j < its.length
 ·have hj2:acc'.size=its.length:=by simpa using hs
  have hj':j < acc'.size:=by lia
  have h3:=hacc.2 j acc'[j] (Bcc hj')
  rw[Array.getElem?_toList,Bcc hj']
  rw[show its.reverse.toArray.toList=its.reverse from rfl,List.getElem?_reverse hj]
  simpa using h3.symm
 ·rw[Bab (by lia),Bab (by simp;lia)]
theorem Abr {pins:List (Addr×Obj)}{s1 s':Shared}{σ:St}{H1:Hp}{μ:List Addr}{ds:List D}{ys:List V}{its:List Value}{Q:VK}{o:Obj}{tk c':Nat}{acc':Array Value} (I1:Inv X pins σ H1 s1) (rs:Reps X.K H1 μ (·∈μ) ds ys) (ri:Vals ys its) (hz:ys.length<=sizeLine)
  (q:∀ a xs H',Same H1 H'->H1 a=none->H' a=some (.lst xs)->Reps X.K H' μ (nw μ a) ds.reverse xs->Q (.ref a) H')
  (hmv:Moved [(s1.heap.push o).objs.size,s1.heap.objs.size] (fun a b=>b=a) { s1 with heap:=(s1.heap.push o).push { cls:=.type "list",data:=.seq #[] },toks:=tk } s')
  (hS:s'.heap.get? (s1.heap.push o).objs.size=some { cls:=.type "list",dict:=none,data:=.seq acc' c',slots:=#[] })
  (hacc:ItemsOf (fun i v=>its.toArray[its.toArray.size - 1 - i]?=some v) acc' its.toArray.size):EP X pins σ Q (.ref (s1.heap.push o).objs.size) s':=by
 obtain⟨hp',g',d',tk',os'⟩:=s'
 have e1:g'=s1.gens:=hmv.gens
 have e2:d'=s1.drawn:=hmv.drawn
 have e3:os'=s1.os:=hmv.os
 subst e1 e2 e3
 have hacc':=Zk hacc
 subst hacc'
 have hSz:(s1.heap.push o).objs.size=s1.heap.objs.size+1:=Bbv ..
 have hl:H1 (s1.heap.objs.size+1)=none:=I1.hok.fresh (Bbu _)
 have kp:∀ b o,s1.heap.get? b=some o->hp'.get? b=some o:=fun b o e=>by
  have hb:=Azj e
  refine hmv.heap b o (fun z=>?_) (Aze _ (Aze _ e))
  rcases List.mem_cons.mp z with z|z
  ·have z':b=s1.heap.objs.size+1:=z.trans hSz
   rw[z'] at hb
   exact absurd hb (Nat.not_lt.mpr (Bbu _))
  ·have z':b=s1.heap.objs.size:=List.mem_singleton.mp z
   rw[z'] at hb
   exact Az9 _ hb
 rw[hSz] at hS ⊢
 exact⟨.ref (s1.heap.objs.size+1),upd H1 (s1.heap.objs.size+1) (.lst ys.reverse),I1.laid (t':=tk') kp (Bbu _) (show ObjOk X.prog X.w X.K _ hp' _ (.lst ys.reverse) from ⟨by simpa using hz,its.reverse,c',ri.reverse,hS⟩),rfl,
  q _ ys.reverse _ (A6 hl) hl A3 (rs.reverse.fresh hl)⟩
theorem Alk (hc:X.calm=true) (hg:Gl X "list") (hm:X.mg "list"=none) (hg':Gl X "reversed") (hm':X.mg "reversed"=none) (ha:PL X [e] g) (he:starEach [e] X.env=(false,eval e X.env)::starEach [] X.env) :
  PF X (.Call (.Name "list" p) [.Call (.Name "reversed" p') [e] [] pos'] [] pos) (Bi Ad9 g):=by
 intro pins s σ H Q I h
 obtain⟨env,μ,m,d,S,E,h,q⟩:=h
 obtain⟨xs,h1,h2⟩:=bind_some h
 refine Bae (Dk I hg hm boot_list ?_ (by decide) (by decide))
 refine PyProof.Rows.callWith_type1 ?_ rfl rfl
 show wpAny _ _ (spliced ((false,eval (.Call (.Name "reversed" p') [e] [] pos') X.env)::backTo pos (starEach [] X.env))) _ _ s
 refine Calls.spliced_cons ?_
 refine Bae (Dk I hg' hm' boot_reversed ?_ (by decide) (by decide))
 refine PyProof.Rows.callWith_type1 (thn (ha pos' pins s σ H (fun vs H1=>Same H H1/\Reps X.K H1 μ (·∈μ) xs vs) I ⟨env,μ,m,xs,S,E,h1,fun v H1 s1 r1=>⟨s1,r1⟩⟩) fun us s1 ⟨vs,H1,I1,r1,s1',rx⟩=>?_) he rfl
 match xs,h2 with
 |[d],h2 =>
  obtain⟨ds,h3,h4⟩:=bind_some h2
  cases h4
  obtain⟨v,rfl,r⟩:=rx.one
  obtain⟨a,ys,rfl,hq,rs⟩:=Mv (S.same s1') r h3
  obtain⟨u,rfl,r2⟩:=G5 r1
  cases r2
  have q':∀ a xs H',Same H1 H'->H1 a=none->H' a=some (.lst xs)->Reps X.K H' μ (nw μ a) ds.reverse xs->Q (.ref a) H':=fun a xs H' s2 hn hx rr=>q a xs H' (s1'.trans s2) (s1'.free hn) hx rr
  rcases hq with hq|hq
  ·obtain⟨its,ri,pl,hz⟩:=I1.list hq
   have hlen:=ri.length
   have hsz:its.toArray.size<=sizeLine:=by simp only[Azh];lia
   have hil:=pl.isList
   have hne:a≠s1.heap.objs.size:=Az1 (by obtain⟨o,e,_⟩:=hil;exact Azj e)
   refine call_reversed_list hil ?_
   refine Calls.spliced_nil ?_
   exact RL.call_list (I.ok.hd hc) hne hsz ⟨_,Azq _ rfl,rfl,rfl⟩ (hil.at fun o e=>Aze _ e) fun s' acc' c' hmv hS hacc=>Abr I1 rs ri hz q' hmv hS hacc
  ·obtain⟨its,ri,pl,hz⟩:=I1.tuple hq
   have hlen:=ri.length
   have hz':ys.length<=2 ^ 24:=hz
   have hsz:its.toArray.size<=sizeLine:=by simp only[Azh];lia
   have hne:a≠s1.heap.objs.size:=Az1 (by obtain⟨o,e,_⟩:=pl;exact Azj e)
   refine RV.call_new pl (by simp only[Azh];lia) ?_
   refine Calls.spliced_nil ?_
   exact RV.call_list (I.ok.hd hc) hne hsz ⟨_,Azq _ rfl,rfl,rfl⟩ (let ⟨o,ho,r⟩:=pl;⟨o,Aze _ ho,r⟩) fun s' acc' c' hmv hS hacc=>Abr I1 rs ri hz q' hmv hS hacc
theorem Avc (hc:X.calm=true) (hm:X.mg "list"=none) (hm':X.mg "reversed"=none) (ha:QL X [e] g) (hg:Gl X "list":=by unfold Gl;kernel_rfl) (hg':Gl X "reversed":=by unfold Gl;kernel_rfl) (he':Bp e=true:=by rfl) :
  QF X (.Call (.Name "list" p) [.Call (.Name "reversed" p') [e] [] pos'] [] pos) (Bi Ad9 g):=⟨Alk hc hg hm hg' hm' ha.out (Ar he')⟩
end
section
variable {X:Cx}{a e:Expr}{apos cpos:Pos}
end
section
variable {X:Cx}{a e:Expr}{apos cpos spos:Pos}
noncomputable def Akt:List D->List D->Option (List D):=fun ds es=>match es with
 |[.lst zs]=>if ds.length+zs.length<=1000000 then some (ds++zs) else none
 |_=>none
def Asv (K:W.Frag):V->List V->Hp->VK->Prop:=fun x vs H Q=>∃ l b xs zs,x=.ref l/\vs=[.ref b]/\H l=some (.lst xs)/\SqL K H b zs/\xs.length+zs.length<=sizeLine/\Q .non (upd H l (.lst (xs++zs)))
theorem Akq:MtM X "list.extend" (Asv X.K):=by
 intro pins s σ H x vs v us Q I rx rv h
 obtain⟨l,b,xs,zs,rfl,rfl,hH,hB,hz,q⟩:=h
 cases rx
 obtain⟨u,rfl,ru⟩:=rv.one
 cases ru
 obtain⟨z,its,n,r,hl,e⟩:=I.lstM hH
 obtain⟨its2,r2,⟨o2,n2,e2,hc2⟩,z2⟩:=I.list hB
 have hl2:=r2.length
 have hsz:its.toArray.size+its2.toArray.size<=sizeLine:=by rw[Azh,Azh];lia
 have hlong:¬ (!its.toArray.isEmpty&&Builtin.List.listTooLong (its.toArray.size+its2.toArray.size))=true:=by
  rw[Ad7 hsz,Bool.and_false]
  exact Az7
 obtain⟨hc2,hd2,hs2⟩:=hc2
 refine Ba1 F.slot_list_extend ⟨_,e,rfl⟩ F.entry_list_extend ?_ (F.args_list_extend_2 _ _)
 show wpAny _ _ (Builtin.List.listExtendWith (.ref l) (.ref b) .none) _ _ s
 unfold Builtin.List.listExtendWith
 refine Azc (Bbw ⟨o2,e2,hc2⟩ ?_)
 rw[Azp (by simp)]
 unfold Builtin.List.listItems
 refine Azc (Azc (Bbg e2 hs2 (Azi ?_)))
 refine Azc (Azc (Bbg e rfl (Azi ?_)))
 rw[Azs hlong]
 refine Azc (Bbl (hz:=by simp only[Azh,Array.size_append];lia) e rfl ?_)
 refine Azi ⟨_,rfl,?_⟩
 refine⟨.non,_,I.lset (its':=its++its2) hH e (by simp) (r.append r2) ?_,rfl,q⟩
 rw[Azx]
 lia
theorem Aqa:Anl X (Asv X.K) Akt:=fun μ H a xs vs ds es fs Q h1 ha rs re h q=>by
 obtain⟨d,rfl⟩:=Agy (o:=fun es=>Akt ds es) rfl (fun a _ _=>by cases a<;>rfl) h
 obtain⟨v,rfl,r⟩:=re.one
 cases r with
 |@lst zs b zs' hb hn rz =>
  unfold Akt at h
  simp only at h
  split at h
  ·rename_i hl
   cases h
   exact⟨a,b,xs,zs',rfl,rfl,h1,.inl hb,by rw[<- rs.length,<- rz.length];have:sizeLine=16777216:=Bas;lia,q _ (rs.append rz)⟩
  ·cases h
 |_=>exact Ad h
theorem Ahb (hf:QD X a f) (ha:QL X [e] g) (hbase':Mj a=true:=by rfl) (hline:(apos.endLine == cpos.line)=true:=by kernel_rfl) (hs':Bp e=true:=by rfl) :
  QS X (.Expr (.Call (.Attribute a "extend" apos) [e] [] cpos) spos) (Xs Akt f g):=⟨Aa1 PySem.F.plainAttrs_list PySem.F.slot_list_extend PySem.F.type_list_extend Akq Aqa hf.out ha.out (Ds hbase') (G4 (by rw[Ban,hs'];rfl) rfl) hline (Ar hs') rfl⟩
end
end ML
end L2
end S_ML15
section S_ML19
namespace L2
namespace ML
open PySem PySem.Spec PyProof.Rows PySem.SeqAt
open PySem.W (KasT kas_sort katRev KatLex)
noncomputable def evO {α:Type} (c:Nat->Nat->Option Bool):KasT α->Option α
 |.ret a=>some a
 |.ask i j k=>(c i j).bind fun b=>evO c (k b)
theorem Yx {s:Shared} (hc:∀ i j b C,c i j=some b->C b s->cmp i j C s) :
  ∀ (t:KasT α) {a:α},evO c t=some a->Q a s->t.kasWp cmp Q s
 |.ret _,_,h,q=>by cases h;exact q
 |.ask i j k,a,h,q=>by
  obtain⟨b,h1,h2⟩:=bind_some h
  exact hc i j b _ h1 (Yx hc (k b) h2 q)
theorem Zq {prog:Program}{w:World}{A:Around}{s:Shared}{fl fin:Bool}{Q:Bool->Shared->Prop}{n1 n2:Nat} (hf:fin=decide (n1 < n2)) {us ws:List Value}{k:Bool} (h:LexAt A s us ws k) :
  ∀ i:Nat,0 < i->us.length+n2=ws.length+n1->Q k s->KatLex prog w A fl fin Q (us.zip ws) i s:=by
 induction h with
 |nil =>
  intro i hi hn q
  show Q fin s
  rw[hf,Az6 (by simp at hn;lia)];exact q
 |short =>
  intro i hi hn q
  show Q fin s
  rw[hf,Bbd (by simp at hn;lia)];exact q
 |long =>
  intro i hi hn q
  show Q fin s
  rw[hf,Az6 (by simp at hn;lia)];exact q
 |same he _ ih =>
  intro i hi hn q
  exact W.kat_cons (he prog w _ _ (W.kat_yes (ih (i+1) (Nat.succ_pos _) (by simp at hn;lia) q)))
 |diff he hk =>
  intro i hi hn q
  refine W.kat_cons (he prog w _ _ (W.kat_no ?_))
  rw[show (fl&&i == 0)=false by cases fl<;>simp;lia]
  exact W.kat_one _ _ (hk prog w _ _ q)
noncomputable def Agj:D->Bool
 |.tup (.int _::_)=>true
 |_=>false
theorem R0 {d:D} (h:Agj d=true):∃ i ds,d=.tup (.int i::ds):=by
 cases d with
 |tup es =>
  cases es with
  |nil=>exact Cv h
  |cons e ds =>
   cases e with
   |int i=>exact⟨i,ds,rfl⟩
   |_=>exact Cv h
 |_=>exact Cv h
section
variable {X:Cx}{pins:List (Addr×Obj)}{σ:St}{H:Hp}{s:Shared}{μ:List Addr}{B:Addr->Prop}
theorem Akh (I:Inv X pins σ H s) {E:Value->Shared->Prop} (r:Rep X.K H μ B (.tup (.int i::ds)) v) (r':Rep X.K H μ B (.tup (.int j::es)) v') (n:A1 ds=true) (n':A1 es=true) (ru:RelV v u) (ru':RelV v' u') (hu:A.units+Cz ds+Cz es+1 < cLine) (h:Dr (.int i::ds) (.int j::es)=some b) (q:Q b s):wpAny (model X.prog X.w) A (keyLt' (tuples' true) u u') Q E s:=by
 cases r with
 |tup h1 r1 =>
 cases r' with
 |tup h2 r2 =>
 cases ru
 cases ru'
 obtain⟨its,rv,⟨o,ho,hc,nn,hd⟩,hz⟩:=I.tuple h1
 obtain⟨its',rv',⟨o',ho',hc',nn',hd'⟩,hz'⟩:=I.tuple h2
 cases r1 with
 |cons x1 xs1 =>
 cases r2 with
 |cons x2 xs2 =>
 cases rv with
 |cons q1 qs1 =>
 cases rv' with
 |cons q2 qs2 =>
 have he:=L4 (A:=A) I x1 x2 rfl rfl q1 q2 (by rw[show dep (D.int j)=0 by simp[dep]];lia)
 cases x1
 cases x2
 obtain⟨t,rfl⟩:=q1
 obtain⟨t',rfl⟩:=q2
 refine W.kat_lt ho hd ho' hd' (W.kat_cons (he X.prog X.w _ _ ?_))
 rw[Dr] at h
 by_cases hdq:deq (.int i) (.int j)=true
 ·rw[Azp hdq] at h
  rw[hdq]
  exact W.kat_yes (Zq rfl (Gw (A:=A) I ds es xs1 xs2 n n' qs1 qs2 (by lia) h) 1 (by decide) (by simp;lia) q)
 ·rw[Azs hdq,ltD] at h
  cases h
  rw[Bool.eq_false_iff.mpr hdq]
  exact W.kat_no (oneLt_int q)
theorem Pk (I:Inv X pins σ H s):∀ {ks:List D}{vs:List V}{us:List Value},Reps X.K H μ B ks vs->Vals vs us->ks.all Agj=true->∃ fs,W.KatTups s.heap us fs/\fs.length=us.length/\∀ f∈fs,∃ i t,f=Value.int i t
 |_,_,_,.nil,.nil,_=>⟨[],.nil,rfl,fun _ h=>nomatch h⟩
 |_,_,_,.cons r rs,.cons q qs,h=>by
  rw[Ban,Az0] at h
  obtain⟨i,ds,rfl⟩:=R0 h.1
  obtain⟨fs,h1,h2,h3⟩:=Pk I rs qs h.2
  cases r with
  |tup e1 r1 =>
  cases q
  obtain⟨its,rv,⟨o,ho,hc,nn,hd⟩,hz⟩:=I.tuple e1
  cases r1 with
  |cons x1 _ =>
  cases rv with
  |cons q1 _ =>
  cases x1
  obtain⟨t,rfl⟩:=q1
  refine⟨.int i t::fs,W.KatTups.cons ho hc hd (by simp) h1,by simp[h2],fun f hf=>?_⟩
  rcases List.mem_cons.mp hf with rfl|hf
  ·exact⟨i,t,rfl⟩
  ·exact h3 f hf
theorem Inv.setPin {pre post:List (Addr×Obj)}{a:Addr}{o o':Obj}{h':Heap} (I:Inv X (pre++(a,o)::post) σ H s) (ha:X.s₀.heap.objs.size<=a) (hx:∀ p∈X.pn++(pre++post),p.1≠a)
  (k:∀ b u,b≠a->s.heap.get? b=some u->h'.get? b=some u) (ho:h'.get? a=some o') (hc:∀ v,o'.data≠.cell v):Inv X (pre++(a,o')::post) σ H { s with heap:=h' }:=by
 obtain⟨e,n,ne,nf,d⟩:=I.pin (a,o) (Azd _ (Azd _ (Azg ..)))
 have sub:∀ p∈pre++post,p∈pre++(a,o)::post:=fun p hp=>(List.mem_append.mp hp).elim (fun z=>Azw _ z) fun z=>Azd _ (Azf _ z)
 have I0:Inv X (pre++post) σ H s:=I.pins_of fun p hp=>I.pin p (Azd _ (sub p hp))
 have I1:=I0.turned (t':=s.toks) k n ne (.inr ha) (fun x c hl z=>by
  obtain⟨v,o2,e2,d2⟩:=I.cell x c hl
  rw[z] at e2
  rw[show s.heap.get? a=some o from e] at e2
  cases e2
  exact d v d2) hx
 refine I1.pins_of fun p hp=>?_
 rcases List.mem_append.mp hp with z|z
 ·exact I1.pin p (Azd _ (Azw _ z))
 ·rcases List.mem_cons.mp z with rfl|z
  ·exact⟨ho,n,ne,nf,hc⟩
  ·exact I1.pin p (Azd _ (Azd _ z))
theorem Inv.adopt (I:Inv X ((a,seqObj "list" its.toArray n)::pins) σ H s) (ha:X.s₀.heap.objs.size<=a) (hx:∀ p∈X.pn++pins,p.1≠a) (rv:Vals ys its) (hz:ys.length<=sizeLine) :
  Inv X pins σ (upd H a (.lst ys)) s:=by
 obtain⟨e,hn,ne,nf,d⟩:=I.pin (a,seqObj "list" its.toArray n) (Azd _ (Azg ..))
 have I0:Inv X pins σ H s:=I.pins_of fun p hp=>I.pin p (Azd _ (Azf _ hp))
 have up:∀ b u,H b=some u->upd H a (.lst ys) b=some u:=fun b u q=>by rw[A0 (As q hn)];exact q
 refine I0.step (g':=s.gens) (t':=s.toks) (d':=s.drawn) (h':=s.heap) (ch:=[a]) (fun b hb=>?_) (fun b o _ _ _ q _=>q) (fun b o _ _ _ q _=>⟨o.slots,q⟩) (fun b o hc q z=>?_) (fun b o _ q=>⟨o,q⟩) (fun b xs q=>up _ _ q) (fun b o u q=>up _ _ q) (fun b ps q=>⟨#[],by rw[up _ _ q];simp⟩) (fun m q=>q) (fun b u q=>?_) I0.bare
 ·have e':b=a:=by simpa using hb
  subst e'
  refine⟨.inr ha,ne,fun x c hl z=>?_,hx⟩
  obtain⟨v,o2,e2,d2⟩:=I.cell x c hl
  rw[z] at e2
  have e3:s.heap.get? b=some (seqObj "list" its.toArray n):=e
  rw[e3] at e2
  cases e2
  exact d v d2
 ·rw[A0 (fun z=>hc (by simp[z]))];exact z
 ·by_cases hb:b=a
  ·subst hb
   rw[A3] at q
   cases q
   exact⟨hz,its,n,rv,e⟩
  ·rw[A0 hb] at q
   exact (I0.hok b u q).stay (fun c v _ z=>z) (fun c z=>up _ _ z) (fun c xs z=>by
    rcases z with z|⟨o,z⟩
    ·exact .inl (up _ _ z)
    ·exact .inr ⟨o,up _ _ z⟩) fun c x w z=>up _ _ z
end
def Ef (fn:List D->Option D) (m:MH):List D->Option (List D)
 |[]=>some []
 |d::ds=>(Ci 1 fn [d] m).bind fun k=>(Ef fn m ds).bind fun ks=>some (k::ks)
theorem Pj:∀ {ds ks:List D},Ef fn m ds=some ks->ks.length=ds.length
 |[],_,h=>by cases h;rfl
 |d::ds,_,h=>by
  obtain⟨k,h1,h⟩:=bind_some h
  obtain⟨ks,h2,h⟩:=bind_some h
  cases h
  rw[Azo,Azo,Pj h2]
section
variable {X:Cx}{pins:List (Addr×Obj)}{σ:St}{H:Hp}{s:Shared}{μ:List Addr}{m:MH}{k:Nat}{f:Addr}{fd:FuncData}{ps:List Str}{fn:List D->Option D}{A':Around}
theorem Amo {us:List Value}{vs:List V}{Q:VK} (F:FnOk X.prog X.w X.K X.mg X.base CX0 k f fd ps (spP X.K 1 fn)) (hr:Room k A') (he:Env0 X.prog X.w X.K X.mg X.base A' X.stack s H) (hb:Binds X.K fd ps []) (I:Inv X pins σ H s) (r:Vals vs us) (h:spP X.K 1 fn vs H Q E0) :
  wpAny (model X.prog X.w) A' (call (.ref f) us) (EP X pins σ Q) (fun _ _=>False) s:=by
 have hl:us.length=ps.length:=by rw[<- r.length];exact F.len _ _ _ _ h
 have hb':=hb s us I.kIn (by simpa using hl)
 rw[Az2] at hb'
 refine wpAny_call (codeAny_mono (F.run A' X.stack s H ⟨us,[]⟩ us vs Q E0 hr he hb' r h) fun r s' hq=>?_)
 cases r with
 |error e=>exact hq.elim
 |ok fl =>
  cases fl with
  |ret u=>exact I.after hq
  |next=>exact False.elim hq
  |brk=>exact False.elim hq
  |cont=>exact False.elim hq
def SK (X:Cx) (pins:List (Addr×Obj)) (σ:St) (H:Hp) (μ:List Addr) (kS D0:Addr) (e1:Nat) (keys:List D) (s':Shared):Prop :=
 ∃ H1 e kvs us,Same H H1/\Inv X ((kS,seqObj "list" (List.toArray us) e)::(D0,seqObj "list" #[] e1)::pins) σ H1 s'/\Vals kvs us/\Reps X.K H1 μ (·∈μ) keys kvs
theorem Uq {E:Value->Shared->Prop} (F:FnOk X.prog X.w X.K X.mg X.base CX0 k f fd ps (spP X.K 1 fn)) (hr:Room k A') (hA:∀ s H,Env0 X.prog X.w X.K X.mg X.base X.A X.stack s H->Env0 X.prog X.w X.K X.mg X.base A' X.stack s H) (hb:Binds X.K fd ps []) (S:Sim X.K H μ m) (hk:X.s₀.heap.objs.size<=kS) (hx:∀ p∈X.pn++pins,p.1≠kS) (hne:D0≠kS) (hbd:∀ x (s:Shared) (R:ForInStep PUnit->Shared->Prop),wpAny (model X.prog X.w) A' (call (.ref f) [x]) (fun k s1=>∃ us e,s1.heap.get? kS=some (seqObj "list" (List.toArray us) e)/\us.length < 128/\R (.yield ⟨⟩) { s1 with heap:=s1.heap.update kS (Obj.mapSeq (·.push k)) }) (fun _ _=>False) s->wpAny (model X.prog X.w) A' (body x ⟨⟩) R E s) :
  ∀ (ds:List D) {xs:List V}{us:List Value}{ks dn:List D}{s:Shared},Reps X.K H μ (·∈μ) ds xs->Vals xs us->Ef fn m ds=some ks->dn.length+ds.length < 128->SK X pins σ H μ kS D0 e1 dn s ->
   wpAny (model X.prog X.w) A' (forIn us PUnit.unit body) (fun _ s'=>SK X pins σ H μ kS D0 e1 (dn++ks) s') E s
 |[],xs,us,ks,dn,s,rs,rv,hK,hl,st=>by
  cases rs
  cases rv
  cases hK
  rw[List.forIn_nil,Az2]
  exact Azi st
 |d::ds,xs,us,ks,dn,s,rs,rv,hK,hl,st=>by
  cases rs with
  |@cons _ v _ vs r rs =>
  cases rv with
  |@cons _ u _ us ru rus =>
  obtain⟨key,h1,h⟩:=bind_some hK
  obtain⟨ks',h2,h⟩:=bind_some h
  cases h
  obtain⟨H1,e,kvs,ws,s1,I,rk,rks⟩:=st
  have S1:=S.same s1
  obtain⟨ds',h3,h4⟩:=bind_some h1
  split at h4
  ·rename_i hl1
   rw[List.forIn_cons]
   refine Azc (hbd u s _ (Bal (Amo (us:=[u]) (vs:=[v]) (Q:=fun v' H'=>Same H1 H'/\Rep X.K H' μ (·∈μ) key v') F hr (hA _ _ I.env0) hb I (.cons ru .nil) ⟨ds',key,Di S1 (.cons (r.same s1) .nil) h3,hl1,h4,fun v' H' s' r'=>⟨s',Rep.ofCall S1 r'⟩⟩) (fun kv s2 hq=>?_) fun _ _ z=>z))
   obtain⟨v',H2,I2,rv2,s2',r2⟩:=hq
   have pk:=I2.pin (kS,_) (Azd _ (Azg ..))
   have hln:=rks.length
   have hln2:=rk.length
   refine⟨ws,e,pk.1,by rw[Azo] at hl;lia,?_⟩
   show wpAny (model X.prog X.w) A' (forIn us PUnit.unit body) _ E _
   rw[show dn++key::ks'=(dn++[key])++ks' by simp]
   refine Uq F hr hA hb S hk hx hne hbd ds rs rus h2 (by rw[Azx,Bcl];rw[Azo] at hl;lia) ?_
   have ea:(List.toArray ws).push kv=List.toArray (ws++[kv]):=by simp
   obtain⟨c2,hc2⟩:∃ c2,(s2.heap.update kS (Obj.mapSeq (·.push kv))).get? kS=some (seqObj "list" (List.toArray (ws++[kv])) c2):=⟨_,by rw[<- ea];exact get?_update_seq pk.1 (·.push kv)⟩
   refine⟨H2,c2,kvs++[v'],ws++[kv],s1.trans s2',?_,Vals.append rk (.cons rv2 .nil),Reps.append (rks.same s2') (.cons r2 .nil)⟩
   refine Inv.setPin (pre:=[]) I2 hk (fun p hp=>?_) (fun b o hb q=>(Azu _ _ (Bak hb)).trans q) hc2 (fun v z=>by cases z)
   rcases List.mem_append.mp hp with z|z
   ·exact hx p (Azw _ z)
   ·rcases List.mem_cons.mp z with rfl|z
    ·exact hne
    ·exact hx p (Azd _ z)
  ·exact Ad h4
end
def Ex (b:Bool) (ds ks:List D):Option (List D):=if ds.length < 2 then some ds else
 (evO (fun i j=>ltD ((katRev b ks).getD i .non) ((katRev b ks).getD j .non)) (kas_sort ds.length)).bind fun p=>some (katRev b (p.toList.map fun i=>(katRev b ds).getD i .non))
theorem Vals.getN (r:Vals xs us) (i:Nat):RelV (xs.getD i .non) (us.getD i Value.none):=by
 have hl:=r.length
 by_cases h:i < xs.length
 ·obtain⟨u,h1,h2⟩:=r.get (i:=i) (x:=xs[i]) (by simp[h])
  rw[Azk,Azk,h1,Azl h];exact h2
 ·rw[Azk,Azk,Bab (by lia),Bab (by lia)];rfl
theorem Reps.getN {K:W.Frag}{H:Hp}{μ:List Addr}{B:Addr->Prop}{ds:List D}{xs:List V} (r:Reps K H μ B ds xs) (i:Nat):Rep K H μ B (ds.getD i .non) (xs.getD i .non):=by
 have hl:=r.length
 by_cases h:i < ds.length
 ·obtain⟨v,h1,h2⟩:=r.get (i:=i) (d:=ds[i]) (by simp[h])
  rw[Azk,Azk,h1,Azl h];exact h2
 ·rw[Azk,Azk,Bab (by lia),Bab (by lia)];exact .non
theorem Vals.mapN (r:Vals xs us):∀ l:List Nat,Vals (l.map fun i=>xs.getD i .non) (l.map fun i=>us.getD i Value.none)
 |[]=>.nil
 |i::l=>.cons (Vals.getN r i) (Vals.mapN r l)
theorem Reps.mapN {K:W.Frag}{H:Hp}{μ:List Addr}{B:Addr->Prop}{ds:List D}{xs:List V} (r:Reps K H μ B ds xs):∀ l:List Nat,Reps K H μ B (l.map fun i=>ds.getD i .non) (l.map fun i=>xs.getD i .non)
 |[]=>.nil
 |i::l=>.cons (Reps.getN r i) (Reps.mapN r l)
theorem Vals.turn (r:Vals xs us) (b:Bool):Vals (katRev b xs) (katRev b us):=by
 cases b with
 |false=>exact r
 |true=>exact r.reverse
theorem Reps.turn {K:W.Frag}{H:Hp}{μ:List Addr}{B:Addr->Prop}{ds:List D}{xs:List V} (r:Reps K H μ B ds xs) (b:Bool):Reps K H μ B (katRev b ds) (katRev b xs):=by
 cases b with
 |false=>exact r
 |true=>exact r.reverse
theorem Afp {l:List α} (h:x∈katRev b l):x∈l:=by
 cases b with
 |false=>exact h
 |true=>exact List.mem_reverse.mp h
theorem Jk:∀ {ds:List D}{d:D},d∈ds->dep d<=Cz ds
 |_::_,_,.head _=>by rw[Cz];lia
 |_::_,_,.tail _ h=>by have:=Jk h;rw[Cz];lia
section
variable {X:Cx}{pins:List (Addr×Obj)}{σ:St}{H:Hp}{s:Shared}{μ:List Addr}{m:MH}{k:Nat}{f:Addr}{fd:FuncData}{ps:List Str}{fn:List D->Option D}{A':Around}
theorem Ac3 (I:Inv X pins σ H s) {ks:List D}{kvs:List V}{us:List Value} (rk:Vals kvs us) (rks:Reps X.K H μ (·∈μ) ks kvs) (hI:ks.all Agj=true) (hn:A1 ks=true) (hd:Cz ks<=20) (hu:A'.units+50 < cLine) (b:Bool) (i j:Nat) (c:Bool) (C:Bool->Shared->Prop)
  (h:ltD ((katRev b ks).getD i .non) ((katRev b ks).getD j .non)=some c) (q:C c s):W.kas_ask X.prog X.w A' (tuples' true) (katRev b us) i j C s:=by
 have key:∀ i,(katRev b ks).getD i .non=.non\/(katRev b ks).getD i .non∈ks:=fun i=>by
  by_cases h:i < (katRev b ks).length
  ·right
   rw[Azk,Azl h]
   exact Afp (Baq h)
  ·left
   rw[Azk,Bab (by lia)];rfl
 have r1:=Reps.getN (Reps.turn rks b) i
 have r2:=Reps.getN (Reps.turn rks b) j
 have v1:=Vals.getN (Vals.turn rk b) i
 have v2:=Vals.getN (Vals.turn rk b) j
 have k1:=key i
 have k2:=key j
 generalize (katRev b ks).getD i .non=x at h r1 k1
 generalize (katRev b ks).getD j .non=y at h r2 k2
 rcases k1 with rfl|k1
 ·simp[ltD] at h
 ·obtain⟨i1,ds,rfl⟩:=R0 (List.all_eq_true.mp hI _ k1)
  rcases k2 with rfl|k2
  ·simp[ltD] at h
  ·obtain⟨i2,es,rfl⟩:=R0 (List.all_eq_true.mp hI _ k2)
   have d1:=Jk k1
   have d2:=Jk k2
   have n1:=Bx hn k1
   have n2:=Bx hn k2
   rw[dep,Cz] at d1 d2
   rw[Bt,A1,Az0] at n1 n2
   rw[ltD] at h
   exact Akh I r1 r2 n1.2 n2.2 v1 v2 (by lia) h q
end
end ML
end L2
end S_ML19
section S_ML20
namespace L2
namespace ML
open PySem PySem.Spec PyProof.Rows PySem.SeqAt
open PySem.W (KasT kas_sort katRev KatLex)
section
variable {X:Cx}{pins:List (Addr×Obj)}{σ:St}{H H1:Hp}{s:Shared}{μ:List Addr}{m:MH}{k:Nat}{f:Addr}{fd:FuncData}{ps:List Str}{fn:List D->Option D}{A':Around}{kS D0:Addr}{b:Bool}{e e1:Nat}{P:PySem.Fin->Shared->Prop}{E:Value->Shared->Prop}
theorem Alp (h:∀ p∈X.pn++pl,p.1≠a) (hc:c≠a):∀ p∈X.pn++((c,o)::pl),p.1≠a:=fun p hp=>by
 rcases List.mem_append.mp hp with z|z
 ·exact h p (Azw _ z)
 ·rcases List.mem_cons.mp z with rfl|z
  ·exact hc
  ·exact h p (Azd _ z)
theorem Mw {st:SortSt}{us outv:List Value} (hout:(arrOf st).map (·.2)=List.toArray outv) (hz:outv.length < 128) (hkz:us.length < 128) (hf:failedOf st=none) (I:Inv X ((kS,seqObj "list" (List.toArray us) e)::(D0,seqObj "list" #[] e1)::pins) σ H1 s)
  (hk:X.s₀.heap.objs.size<=kS) (hD:X.s₀.heap.objs.size<=D0) (hx:∀ p∈X.pn++pins,p.1≠kS) (hy:∀ p∈X.pn++pins,p.1≠D0) (hne:D0≠kS)
  (fin:∀ s' c,Inv X ((D0,seqObj "list" (List.toArray (katRev b outv)) c)::pins) σ H1 s'->P (.done (.ret .none)) s'):wpAny (model X.prog X.w) A' (ksk_tail D0 b e1 (.ref kS) st) P E s:=by
 have pk:=I.pin (kS,seqObj "list" (List.toArray us) e) (Azd _ (Azg ..))
 obtain⟨ck,hck⟩:∃ ck,(s.heap.update kS (Obj.mapSeq fun _=>(#[]:Array Value))).get? kS=some (seqObj "list" #[] ck):=⟨_,get?_update_seq pk.1 fun _=>#[]⟩
 have Ia:=Inv.setPin (pre:=[]) I hk (Alp hx hne) (fun c o hc q=>(Azu _ _ (Bak hc)).trans q) hck (fun v z=>by cases z)
 have Ib:Inv X ((D0,seqObj "list" #[] e1)::pins) σ H1 { s with heap:=s.heap.update kS (Obj.mapSeq fun _=>(#[]:Array Value)) }:=Ia.pins_of fun p hp=>Ia.pin p (Azd _ (Azf _ hp))
 have pd:=Ib.pin (D0,seqObj "list" #[] e1) (Azd _ (Azg ..))
 obtain⟨c2,hc2⟩:∃ c2,((s.heap.update kS (Obj.mapSeq fun _=>(#[]:Array Value))).update D0 (Obj.mapSeq fun _=>List.toArray (katRev b outv))).get? D0=some (seqObj "list" (List.toArray (katRev b outv)) c2):=⟨_,get?_update_seq pd.1 fun _=>List.toArray (katRev b outv)⟩
 have Ic:=Inv.setPin (pre:=[]) Ib hD hy (fun c o hc q=>(Azu _ _ (Bak hc)).trans q) hc2 (fun v z=>by cases z)
 have hsz:(List.toArray (katRev b outv)).size=outv.length:=by rw[Azh,W.kat_len]
 have hline:sizeLine=16777216:=Bas
 unfold ksk_tail
 try dsimp only
 rw[hout,W.kat_outs]
 refine Azc (listUpdate_at pk.1 rfl (Azc (wpAny_letGo (Azc (seqEpoch_at pd.1 rfl (Azc (listUpdate_at pd.1 rfl ?_ (Az5 _) (by rw[hsz];lia))))))) (by rw[Azh];lia) (Az5 _))
 rw[hf]
 simp only[bne_self_eq_false,Baf,Bbn]
 exact Azi (fin _ c2 Ic)
theorem Zv (i:Int) (t:Tok):W.Looks M h (typeOf (.int i t)) (.type "int"):=W.Looks.of_pure rfl
def Ank (X:Cx) (pins:List (Addr×Obj)) (σ:St) (μ:List Addr) (b:Bool) (ds ks out:List D) (A':Around):Prop :=
 ∀ ⦃kS D0:Addr⦄ ⦃e e1:Nat⦄ ⦃us its:List Value⦄ ⦃xs kvs:List V⦄ ⦃H1:Hp⦄ ⦃s:Shared⦄ ⦃P:PySem.Fin->Shared->Prop⦄ ⦃E:Value->Shared->Prop⦄,Inv X ((kS,seqObj "list" (List.toArray us) e)::(D0,seqObj "list" #[] e1)::pins) σ H1 s->X.s₀.heap.objs.size<=kS->X.s₀.heap.objs.size<=D0->(∀ p∈X.pn++pins,p.1≠kS)->(∀ p∈X.pn++pins,p.1≠D0)->D0≠kS->Vals xs its->Reps X.K H1 μ (·∈μ) ds xs->Vals kvs us->Reps X.K H1 μ (·∈μ) ks kvs ->
  (∀ s' c ys ws,Inv X ((D0,seqObj "list" (List.toArray ws) c)::pins) σ H1 s'->Vals ys ws->Reps X.K H1 μ (·∈μ) out ys->P (.done (.ret .none)) s')->wpAny (model X.prog X.w) A' (ksk_end D0 b its.toArray e1 (.ref kS) (List.toArray us)) P E s
theorem Yw {ds ks out:List D} (hl:ks.length=ds.length) (h64:ds.length < 64) (hI:ks.all Agj=true) (hn:A1 ks=true) (hd:Cz ks<=20) (hu:A'.units+50 < cLine) (ho:Ex b ds ks=some out):Ank X pins σ μ b ds ks out A':=by
 intro kS D0 e e1 us its xs kvs H1 s P E I hk hD hx hy hne ri rs rk rks fin
 have l1:=ri.length
 have l2:=rs.length
 have l3:=rk.length
 have l4:=rks.length
 have lu:us.length=its.length:=by lia
 have told:∀ t:Sem PySem.Fin,wpAny (model X.prog X.w) A' t P E s->wpAny (model X.prog X.w) A' (if b=true then (do let _ <- rule "list.sort.reverse";t) else t) P E s:=fun t ht=>by
  split
  ·exact Azc (wpAny_rule ht)
  ·exact ht
 unfold ksk_end
 try dsimp only
 refine told _ ?_
 unfold Ex at ho
 by_cases h2:its.toArray.size < 2
 ·rw[Azp h2,Azp h2]
  rw[Azh] at h2
  rw[Azp (by lia)] at ho
  cases ho
  refine Azc (Azi ?_)
  rw[StateT.run_pure]
  refine Azc (Azi ?_)
  try dsimp only
  rw[W.kat_pairs b lu]
  refine Mw (outv:=katRev b its) (b:=b) ?_ (by rw[W.kat_len];lia) (by lia) rfl I hk hD hx hy hne fun s' c I'=>fin s' c xs its ?_ ri rs
  ·show (((List.toArray (katRev b us)).zip (List.toArray (katRev b its))).map (·.2))=_
   apply Array.toList_inj.mp
   rw[Array.toList_map,ksk_zip]
   exact List.map_snd_zip (by rw[W.kat_len,W.kat_len];lia)
  ·have e2:katRev b (katRev b its)=its:=by cases b<;>simp[katRev]
   rw[e2] at I'
   exact I'
 ·rw[Azs h2,Azs h2]
  rw[Azh] at h2
  rw[Azs (by lia)] at ho
  obtain⟨p,hp,ho⟩:=bind_some ho
  cases ho
  obtain⟨fs,ht,hfl,hfi⟩:=Pk I rks rk hI
  refine Azc (W.kat_kind (T:=.type "int") ht (by lia) (fun v hv=>?_) (by decide) ?_)
  ·obtain⟨i,t,rfl⟩:=hfi v hv
   exact Zv i t
  rw[W.kat_pairs b lu]
  have lr:(katRev b us).length=(katRev b its).length:=by rw[W.kat_len,W.kat_len,lu]
  have hw:(kas_sort (katRev b its).length).kasWp (W.kas_ask X.prog X.w A' (tuples' true) (katRev b us)) (fun p' s'=>p'=p/\s'=s) s:=by
   rw[W.kat_len,show its.length=ds.length by lia]
   exact Yx (fun i j c C h q=>Ac3 I rk rks hI hn hd hu b i j c C h q) _ hp ⟨rfl,rfl⟩
  refine Azc (Bal (W.kat_run (Q:=fun st' s'=>s'=s/\p.size=(katRev b its).length/\arrOf st'=p.map (W.kas_item ((List.toArray (katRev b us)).zip (List.toArray (katRev b its))))/\failedOf st'=none) lr (by rw[W.kat_len];lia) (by rw[W.kat_len];lia)
   (fun p' st' s' a1 a2 a3 ⟨a4,a5⟩=>by subst a4;exact⟨a5,a1,a2,a3⟩) hw) ?_ fun _ _ z=>z)
  rintro ⟨⟨⟩,st'⟩ s' ⟨hs,hpz,har,hf⟩
  replace hs:s'=s:=hs
  subst hs
  try dsimp only
  refine Mw (b:=b) (W.kat_snds lr har) (by rw[Azr,Bbk,hpz,W.kat_len];lia) (by lia) hf I hk hD hx hy hne fun s' c I'=>fin s' c (katRev b (p.toList.map fun i=>(katRev b xs).getD i .non)) _ I' ?_ ?_
  ·exact Vals.turn (Vals.mapN (Vals.turn ri b) _) b
  ·exact Reps.turn (Reps.mapN (Reps.turn rs b) _) b
theorem Xz {ds ks out:List D} (F:FnOk X.prog X.w X.K X.mg X.base CX0 k f fd ps (spP X.K 1 fn)) (hr:Room k A') (hA:∀ s H,Env0 X.prog X.w X.K X.mg X.base X.A X.stack s H->Env0 X.prog X.w X.K X.mg X.base A' X.stack s H) (hb:Binds X.K fd ps []) (I:Inv X ((D0,seqObj "list" its.toArray n)::pins) σ H s) (S:Sim X.K H μ m) (hD:X.s₀.heap.objs.size<=D0) (hy:∀ p∈X.pn++pins,p.1≠D0) (ri:Vals xs its) (rs:Reps X.K H μ (·∈μ) ds xs) (hK:Ef fn m ds=some ks) (h64:ds.length < 128) (hE:Ank X pins σ μ b ds ks out A') (fin:∀ s' H1 c ys ws,Same H H1->Inv X ((D0,seqObj "list" (List.toArray ws) c)::pins) σ H1 s'->Vals ys ws->Reps X.K H1 μ (·∈μ) out ys->P (.done (.ret .none)) s'):wpAny (model X.prog X.w) A' (ksk_tree D0 (.ref f) b) P E s:=by
 have l1:=ri.length
 have l2:=rs.length
 have hline:sizeLine=16777216:=Bas
 have pd:=I.pin (D0,seqObj "list" its.toArray n) (Azd _ (Azg ..))
 have hd0:s.heap.get? D0=some (seqObj "list" its.toArray n):=pd.1
 have hdl:D0 < s.heap.objs.size:=Azj hd0
 obtain⟨e1,ho1⟩:∃ e1,(s.heap.update D0 (Obj.mapSeq fun _=>(#[]:Array Value))).get? D0=some (seqObj "list" #[] e1):=⟨_,get?_update_seq hd0 fun _=>#[]⟩
 have Ia:=Inv.setPin (pre:=[]) I hD hy (fun c o hc q=>(Azu _ _ (Bak hc)).trans q) ho1 (fun v z=>by cases z)
 have hs2:s.heap.objs.size<=((s.heap.update D0 (Obj.mapSeq fun _=>(#[]:Array Value))).push (seqObj "tuple" its.toArray 0)).objs.size:=by rw[size_push',Heap.size_update];exact Bbu _
 generalize hkS:((s.heap.update D0 (Obj.mapSeq fun _=>(#[]:Array Value))).push (seqObj "tuple" its.toArray 0)).objs.size=kS at hs2
 have Ib:=Ia.kept (t':=s.toks) (h':=((s.heap.update D0 (Obj.mapSeq fun _=>(#[]:Array Value))).push (seqObj "tuple" its.toArray 0)).push (seqObj "list" #[] 0)) fun c o q=>Aze _ (Aze _ q)
 have hx:∀ p∈X.pn++pins,p.1≠kS:=fun p hp=>Az1 (Azt (Azj (I.pin p ((List.mem_append.mp hp).elim (fun z=>Azw _ z) fun z=>Azd _ (Azf _ z))).1) hs2)
 have hne:D0≠kS:=Az1 (Azt hdl hs2)
 have hk:X.s₀.heap.objs.size<=kS:=Azy I.sz hs2
 have hgk:(((s.heap.update D0 (Obj.mapSeq fun _=>(#[]:Array Value))).push (seqObj "tuple" its.toArray 0)).push (seqObj "list" #[] 0)).get? kS=some (seqObj "list" #[] 0):=by rw[<- hkS];exact Azq _ rfl
 have Ic:Inv X ((kS,seqObj "list" (List.toArray []) 0)::(D0,seqObj "list" #[] e1)::pins) σ H { s with heap:=((s.heap.update D0 (Obj.mapSeq fun _=>(#[]:Array Value))).push (seqObj "tuple" its.toArray 0)).push (seqObj "list" #[] 0) }:=Ib.pins_of fun p hp=>by
  rcases List.mem_cons.mp hp with rfl|hp
  ·exact⟨hgk,I.hok.fresh hs2,Bao (Azt I.lt hs2),I.nofs hs2,fun v z=>by cases z⟩
  ·exact Ib.pin p (Azd _ hp)
 unfold ksk_tree
 refine Azc (listItems_at hd0 rfl (Azc (listUpdate_at hd0 rfl (Azc (seqEpoch_at ho1 rfl (Azc (wpAny_newTuple (Azc (wpAny_newList (Bah ?_) (Az5 _))) (by show its.length<=_;lia))))) (by rw[Azh];lia) (Az5 _))))
 show wpAny (model X.prog X.w) A' (ksk_rest D0 (.ref f) b its.toArray e1 (.ref ((s.heap.update D0 (Obj.mapSeq fun _=>(#[]:Array Value))).push (seqObj "tuple" its.toArray 0)).objs.size)) P E { s with heap:=((s.heap.update D0 (Obj.mapSeq fun _=>(#[]:Array Value))).push (seqObj "tuple" its.toArray 0)).push (seqObj "list" #[] 0) }
 rw[hkS]
 unfold ksk_rest
 refine Azc (wpAny_rule ?_)
 first
  |rw[List.forIn_toArray]
  |rw[<- Array.forIn_toList]
 refine Azc (Bal (Uq (dn:=[]) F hr hA hb S hk hx hne (fun x s R hq=>?_) ds rs ri hK (by simpa using h64) ⟨H,0,[],[],Same.refl H,Ic,.nil,.nil⟩) (fun _ s' hq=>?_) fun _ _ z=>z)
 ·refine Azc (wpAny_attempt (Bal hq (fun kv s1 hkv=>?_) fun _ _ hF=>hF.elim))
  obtain⟨us,e,hu,hl,hR⟩:=hkv
  try dsimp only
  exact Azc (listUpdate_at hu rfl (Azi hR) (by rw[Azh];lia) (by rw[Array.size_push,Azh];lia))
 ·obtain⟨H1,e,kvs,us,s1,I3,rk,rks⟩:=hq
  rw[Bb6] at rks
  have pk:=I3.pin (kS,seqObj "list" (List.toArray us) e) (Azd _ (Azg ..))
  try dsimp only
  refine Azc (listItems_at pk.1 rfl ?_)
  exact hE I3 hk hD hx hy hne ri (rs.same s1) rk rks fun s' c ys ws I' r1 r2=>fin s' H1 c ys ws s1 I' r1 r2
theorem Lz {l:Addr}{ds ks out:List D} (F:FnOk X.prog X.w X.K X.mg X.base CX0 k f fd ps (spP X.K 1 fn)) (hr:Room (k+2) X.A) (hb:Binds X.K fd ps []) (I:Inv X pins σ H s) (S:Sim X.K H μ m) (hL:s.heap.IsList l its.toArray) (ri:Vals xs its) (rs:Reps X.K H μ (·∈μ) ds xs) (ha1:argsOk "sorted" ⟨[.ref l],kw⟩) (ha2:∀ x,argsOk "list.sort" ⟨[.ref x],kw⟩) (ht:∀ x,Builtin.«list.sort» ⟨[.ref x],kw⟩=ksk_tree x (.ref f) b) (hK:Ef fn m ds=some ks) (h64:ds.length < 64) (hI:ks.all Agj=true) (hn:A1 ks=true) (hd:Cz ks<=20) (ho:Ex b ds ks=some out) (hz0:out.length < 64) (q:∀ a ys H',Same H H'->H a=none->H' a=some (.lst ys)->Reps X.K H' μ (nw μ a) out ys->Q (.ref a) H'):wpAny (model X.prog X.w) X.A (call (.builtin "sorted") [.ref l] kw) (EP X pins σ Q) X.xe s:=by
 have l1:=ri.length
 have l2:=rs.length
 have hline:sizeLine=16777216:=Bas
 refine call_function_entry_kw kind_sorted plain_sorted entry_sorted ha1 ?_
 unfold Builtin.«sorted»
 refine Azc (m:=checkCount "sorted" 1 1 _) (Azi (Azc (collect_list hL (Azc (wpAny_newList ?_ (by lia))) (by lia))))
 have hz:s.heap.objs.size<=((s.heap.push (seqObj "list" #[] 0)).update s.heap.objs.size (Obj.mapSeq (·++its.toArray))).objs.size:=by rw[Heap.size_update,size_push'];exact Bbu _
 have kp:∀ c o,s.heap.get? c=some o->(((s.heap.push (seqObj "list" #[] 0)).update s.heap.objs.size (Obj.mapSeq (·++its.toArray))).push (seqObj "list" its.toArray 0)).get? c=some o:=fun c o h =>
  Aze _ ((Azu _ _ (Bao (Azj h))).trans (Aze _ h))
 generalize hD0:((s.heap.push (seqObj "list" #[] 0)).update s.heap.objs.size (Obj.mapSeq (·++its.toArray))).objs.size=D0 at hz
 have hg:(((s.heap.push (seqObj "list" #[] 0)).update s.heap.objs.size (Obj.mapSeq (·++its.toArray))).push (seqObj "list" its.toArray 0)).get? D0=some (seqObj "list" its.toArray 0):=by rw[<- hD0];exact Azq _ rfl
 have I1:=I.kept (t':=s.toks) kp
 have hfree:H D0=none:=I.hok.fresh hz
 have hy:∀ p∈X.pn++pins,p.1≠D0:=fun p hp=>Az1 (Azt (Azj (I.pin p hp).1) hz)
 have hD:X.s₀.heap.objs.size<=D0:=Azy I.sz hz
 have I2:Inv X ((D0,seqObj "list" its.toArray 0)::pins) σ H { s with heap:=((s.heap.push (seqObj "list" #[] 0)).update s.heap.objs.size (Obj.mapSeq (·++its.toArray))).push (seqObj "list" its.toArray 0) }:=I1.pins_of fun p hp=>by
  rcases List.mem_cons.mp hp with rfl|hp
  ·exact⟨hg,hfree,Bao (Azt I.lt hz),I.nofs hz,fun v z=>by cases z⟩
  ·exact I1.pin p (Azd _ hp)
 show wpAny (model X.prog X.w) X.A.in1 _ _ _ { s with heap:=((s.heap.push (seqObj "list" #[] 0)).update s.heap.objs.size (Obj.mapSeq (·++its.toArray))).push (seqObj "list" its.toArray 0) }
 refine Azc (Bah (wpAny_call_entry_kw slot_list_sort ⟨_,hg,rfl⟩ entry_list_sort ?_ (ha2 _)))
 have ht':=ht D0
 show wpAny (model X.prog X.w) X.A.in1.in1 (Builtin.«list.sort» ⟨[.ref D0],kw⟩) _ _ _
 rw[ht']
 refine Xz (s:={ s with heap:=((s.heap.push (seqObj "list" #[] 0)).update s.heap.objs.size (Obj.mapSeq (·++its.toArray))).push (seqObj "list" its.toArray 0) }) F hr.in1.in1 (fun s H e=>e.in1.in1) hb I2 S hD hy ri rs hK (by lia) (Yw (Pj hK) h64 hI hn hd (by have:=hr.in1.in1.units;lia) ho) fun s' H1 c ys ws s1 I' r1 r2=>?_
 have hf1:H1 D0=none:=(I'.pin (D0,seqObj "list" (List.toArray ws) c) (Azd _ (Azg ..))).2.1
 have lo:ys.length<=sizeLine:=by have:=r2.length;lia
 exact⟨_,rfl,Azi ⟨_,rfl,.ref D0,upd H1 D0 (.lst ys),Inv.adopt I' hD hy r1 lo,rfl,q D0 ys _ (s1.trans (A6 hf1)) hfree A3 (r2.fresh hf1)⟩⟩
end
section
variable {X:Cx}{e:Expr}{pos p p' kp kp' cp:Pos}{x:Str}{k:Nat}{f:Addr}{fd:FuncData}{ps:List Str}{fn:List D->Option D}{b:Bool}
def Cp (fn:List D->Option D) (b:Bool):List D->MH->Option (List D):=fun xs m=>match xs with
 |[d]=>(sqL m d).bind fun ds=>(Ef fn m ds).bind fun ks=>(Ex b ds ks).bind fun out=>if ds.length < 64/\ks.all Agj=true/\A1 ks=true/\Cz ks<=20/\out.length < 64 then some out else none
 |_=>none
theorem Aeh {j} (F:FnOk X.prog X.w X.K X.mg X.base CX0 k f fd ps (spP X.K 1 fn)) (hr:Room (k+2) X.A) (hgf:Gl X x) (hmf:X.mg x=some (.ref f)) (hb:Binds X.K fd ps []) (hdb:(x == ("__debug__":Str))=false) (hg:Gl X "sorted") (hm:X.mg "sorted"=none) (ha:PL X [e] g) (he:starEach [e] X.env=(false,eval e X.env)::starEach [] X.env) :
  PF X (.Call (.Name "sorted" p) [e] [⟨some "key",.Name x p',kp⟩,⟨some "reverse",.Constant (.bool b) j cp,kp'⟩] pos) (Bi (Cp fn b) g):=by
 intro pins s σ H Q I h
 obtain⟨env,μ,m,d,S,E,h,q⟩:=h
 obtain⟨xs,h1,h2⟩:=bind_some h
 refine Bae (Dk I hg hm boot_sorted ?_ (by decide) (by decide))
 refine PyProof.Rows.callWith_kw (thn (ha pos pins s σ H (fun vs H1=>Same H H1/\Reps X.K H1 μ (·∈μ) xs vs) I ⟨env,μ,m,xs,S,E,h1,fun v H1 s1 r1=>⟨s1,r1⟩⟩) fun us s1 ⟨vs,H1,I1,r1,s1',rx⟩=>?_) (by rw[he];rfl) (by rw[he];rfl) rfl rfl
 refine kws_cons (Np I1 hgf hmf (kws_cons (wpAny_Constant_bool (kws_nil ?_))) hdb)
 match xs,h2 with
 |[d'],h2 =>
  obtain⟨ds,h3,h2⟩:=bind_some h2
  obtain⟨ks,h4,h2⟩:=bind_some h2
  obtain⟨out,h5,h2⟩:=bind_some h2
  split at h2
  ·rename_i hc
   cases h2
   obtain⟨v,rfl,r⟩:=rx.one
   obtain⟨a,ys,rfl,hq,rs⟩:=Gg (S.same s1') r h3
   obtain⟨u,rfl,r2⟩:=G5 r1
   cases r2
   obtain⟨its,ri,pl,hz⟩:=I1.list hq
   exact Lz F hr hb I1 (S.same s1') pl.isList ri rs (ksk_s2 _ _ _) (fun y=>ksk_l2 _ _ _) (fun y=>ksk_t2 _ _ _) h4 hc.1 hc.2.1 hc.2.2.1 hc.2.2.2.1 h5 hc.2.2.2.2 fun a ys H' s2 hn hx rr=>q a ys H' (s1'.trans s2) (s1'.free hn) hx rr
  ·exact Ad h2
theorem Apo {j} (F:FnOk X.prog X.w X.K X.mg X.base CX0 k f fd ps (spP X.K 1 fn)) (hr:Room (k+2) X.A) (hmf:X.mg x=some (.ref f)) (hb:Binds X.K fd ps []) (hm:X.mg "sorted"=none) (ha:QL X [e] g) (hg:Gl X "sorted":=by unfold Gl;kernel_rfl) (hgf:Gl X x:=by unfold Gl;kernel_rfl) (hdb:(x == ("__debug__":Str))=false:=by decide) (he':Bp e=true:=by rfl) :
  QF X (.Call (.Name "sorted" p) [e] [⟨some "key",.Name x p',kp⟩,⟨some "reverse",.Constant (.bool b) j cp,kp'⟩] pos) (Bi (Cp fn b) g):=⟨Aeh F hr hgf hmf hb hdb hg hm ha.out (Ar he')⟩
end
end ML
end L2
end S_ML20
section S_ML21
namespace L2
namespace ML
open PySem PySem.Spec PyProof.Rows
open PySem.Builtin PySem.Builtin.Str
section
variable {X:Cx}{a e:Expr}{apos cpos:Pos}
end
end ML
end L2
end S_ML21
section S_ML22
namespace L2
namespace ML
open PySem PySem.Spec PyProof.Rows
section
variable {X:Cx}{a e:Expr}{apos cpos:Pos}
end
section
variable {X:Cx}{e:Expr}{pos p p' kp p2 p3 p4:Pos}{x:Str}{k:Nat}{f:Addr}{fd:FuncData}{ps:List Str}{fn:List D->Option D}
theorem Aav (F:FnOk X.prog X.w X.K X.mg X.base CX0 k f fd ps (spP X.K 1 fn)) (hr:Room (k+2) X.A) (hgf:Gl X x) (hmf:X.mg x=some (.ref f)) (hb:Binds X.K fd ps []) (hdb:(x == ("__debug__":Str))=false) (hg:Gl X "sorted") (hm:X.mg "sorted"=none) (ha:PL X [e] g) (he:starEach [e] X.env=(false,eval e X.env)::starEach [] X.env) :
  PF X (.Call (.Name "sorted" p) [e] [⟨some "key",.Name x p',kp⟩] pos) (Bi (Cp fn false) g):=by
 intro pins s σ H Q I h
 obtain⟨env,μ,m,d,S,E,h,q⟩:=h
 obtain⟨xs,h1,h2⟩:=bind_some h
 refine Bae (Dk I hg hm boot_sorted ?_ (by decide) (by decide))
 refine PyProof.Rows.callWith_kw (thn (ha pos pins s σ H (fun vs H1=>Same H H1/\Reps X.K H1 μ (·∈μ) xs vs) I ⟨env,μ,m,xs,S,E,h1,fun v H1 s1 r1=>⟨s1,r1⟩⟩) fun us s1 ⟨vs,H1,I1,r1,s1',rx⟩=>?_) (by rw[he];rfl) (by rw[he];rfl) rfl rfl
 refine kws_cons (Np I1 hgf hmf (kws_nil ?_) hdb)
 match xs,h2 with
 |[d'],h2 =>
  obtain⟨ds,h3,h2⟩:=bind_some h2
  obtain⟨ks,h4,h2⟩:=bind_some h2
  obtain⟨out,h5,h2⟩:=bind_some h2
  split at h2
  ·rename_i hc
   cases h2
   obtain⟨v,rfl,r⟩:=rx.one
   obtain⟨a,ys,rfl,hq,rs⟩:=Gg (S.same s1') r h3
   obtain⟨u,rfl,r2⟩:=G5 r1
   cases r2
   obtain⟨its,ri,pl,hz⟩:=I1.list hq
   exact Lz F hr hb I1 (S.same s1') pl.isList ri rs (ksk_s1 _ _) (fun y=>ksk_l1 _ _) (fun y=>ksk_t1 _ _) h4 hc.1 hc.2.1 hc.2.2.1 hc.2.2.2.1 h5 hc.2.2.2.2 fun a ys H' s2 hn hx rr=>q a ys H' (s1'.trans s2) (s1'.free hn) hx rr
  ·exact Ad h2
theorem Ajp (F:FnOk X.prog X.w X.K X.mg X.base CX0 k f fd ps (spP X.K 1 fn)) (hr:Room (k+2) X.A) (hmf:X.mg x=some (.ref f)) (hb:Binds X.K fd ps []) (hm:X.mg "sorted"=none) (ha:QL X [e] g) (hg:Gl X "sorted":=by unfold Gl;kernel_rfl) (hgf:Gl X x:=by unfold Gl;kernel_rfl) (hdb:(x == ("__debug__":Str))=false:=by decide) (he':Bp e=true:=by rfl) :
  QF X (.Call (.Name "sorted" p) [e] [⟨some "key",.Name x p',kp⟩] pos) (Bi (Cp fn false) g):=⟨Aav F hr hgf hmf hb hdb hg hm ha.out (Ar he')⟩
end
def M5 (mg:Str->Option Value) (h:Heap):Prop:=∃ bm ob,mg "__builtins__"=some (.ref bm)/\bm≠builtinsNs/\h.get? bm=some ob/\ob.cls=.type "module"/\ob.dict=some builtinsNs/\ob.data=.plain
def TabQ (H:Hp) (P:Addr) (q:Str):Prop:=∃ more:Array Value,H P=some (.tbl (#[Value.str q 0]++more))
theorem TabQ.on {H:Hp}{s:Shared} (I:Inv X pins σ H s) (h:TabQ X.H₀ P q):TabQ H P q:=by
 obtain⟨more,e⟩:=h
 obtain⟨m2,e2⟩:=I.base.tbls P _ e
 exact⟨more++m2,by rw[e2,Array.append_assoc]⟩
theorem TabQ.tag:(#[Value.str q 0]++more)[0]?=some (Value.str q 0):=by rw[Array.getElem?_append_left (by simp)];rfl
abbrev Ab9:HO:=.ext fun _ _=>True
theorem Vr {p pos:Pos} (l:List Value) (h:TriplesOk l) (e:codeAmong p (l++[rawInt pos.line,rawInt pos.col,c])=some cv):codeAmong p l=some cv\/cv=c:=by
 fun_induction TriplesOk l with
 |case1 =>
  simp only[Bb6,codeAmong,rawInt] at e
  split at e
  ·cases e;exact .inr rfl
  ·exact Ad e
 |case2 a t b u x rest ih =>
  simp only[Bar,codeAmong] at e ⊢
  split at e
  ·rename_i hc;rw[Azp hc];exact .inl e
  ·rename_i hc;rw[Azs hc];exact ih h e
 |case3 l h1 h2=>exact h.elim
section
variable {X:Cx}{pins:List (Addr×Obj)}{σ:St}{H:Hp}{s:Shared}{pos:Pos}
theorem Ta {P:Program}{w:World}{K:W.Frag}{H:Hp}{h:Heap}{a:Addr}{o:Obj} (e:h.get? a=some o):ObjOk P w K H h a (.frz o Ab9):=⟨e,trivial,⟨o,e⟩,fun _ _ _ _=>trivial⟩
noncomputable def Axe (l:Lam):TE:=fun _ H Q=>∀ a H',Same H H'->FnAt H' a l->Q (.ref a) H'
theorem Ar3 {args:Arguments}{body:Expr}{scope:Scope}{c P:Addr}{l:Lam} (hB:M5 X.mg X.base) (hT:TabQ X.H₀ P l.qual) (hcode:X.env.code=.ref c) (hC:W.codeHdIn X.K c P=true)
  (hcl:closureFor scope X.env=pure []) (hdef:defaultsOf args X.env=([],[])) (hl:l=⟨X.env.qual++"<lambda>",args,body,scope⟩):PE X (.Lambda args body scope pos) (Axe l):=by
 intro pins s σ H Q I h
 obtain⟨more,eP⟩:=TabQ.on I hT
 obtain⟨ps,hP,ht,hc⟩:=I.hok P _ eP
 have C:W.CodeHd s.heap c P:=(W.codeHd_of_K I.ok.mod.kin hC).keeps I.bk
 have hg:s.heap.Ns mainGlobals X.mg:=I.mod.glob.keeps I.bk
 obtain⟨bm,ob,b1,b2,b3,b4,b5,b6⟩:=hB
 have hgP:mainGlobals≠P:=fun q=>by
  obtain⟨o,es,ep,e,hd,_⟩:=hg
  rw[q,hP] at e;cases e;cases hd
 have hbP:bm≠P:=fun q=>by
  have e:=I.bk _ _ b3
  rw[q,hP] at e;cases e;cases b4
 have hbG:bm≠mainGlobals:=fun q=>by
  obtain⟨o,es,ep,e,hd,_⟩:=I.mod.glob
  rw[q,e] at b3;cases b3;rw[hd] at b6;cases b6
 have hbA:s.heap.BuiltinsAt X.mg P:=⟨bm,ob,b1,b2,hbG,hbP,I.bk _ _ b3,b4,b5,b6⟩
 have hnP:∀ b,H b=none->b≠P:=fun b n z=>by rw[z,eP] at n;cases n
 refine W.kla_eval hdef ?_
 cases q:codeAmong pos ps.toList with
 |some cv =>
  obtain⟨c0,oc,u,q0,t0,h1,rfl,h3,h4⟩:=hc pos cv q
  rw[TabQ.tag] at h1
  cases h1
  refine W.kla_makeFunctionHit hcl I.ok.glob hg hcode C hP ht q hbA fun ctv h' tk hk hsz=>?_
  have hf:H h'.objs.size=none:=I.hok.fresh hsz
  refine⟨.ref h'.objs.size,upd H h'.objs.size (.frz (W.kla_obj "<lambda>" (X.env.qual++"<lambda>") args body scope [] ((X.mg "__name__").getD .none) c0 ctv) Ab9),I.laid (fun b u e=>Aze _ (hk b u e)) hsz (Ta (Azq _ rfl)),rfl,h _ _ (A6 hf) ?_⟩
  refine⟨_,_,c0,oc,u,A3,⟨.none,(X.mg "__name__").getD .none,ctv,by rw[hl]⟩,by rw[A0 (As h3 hf)];exact h3,h4⟩
 |none =>
  refine W.kla_makeFunction hcl I.ok.glob hg hcode C hP ht q hgP hbA fun c' ctv h' tk hx hge hlt hrec htb=>?_
  obtain⟨c2,oc,vs,t,e2,hoc,hd,hv⟩:=hrec
  cases e2
  have hfc:H c'=none:=I.hok.fresh hge
  have hff:H h'.objs.size=none:=I.hok.fresh (Azy hge (Ba9 hlt))
  have hne:c'≠h'.objs.size:=Az1 hlt
  have hPc:P≠c':=fun z=>by rw[<- z,eP] at hfc;cases hfc
  have hPf:P≠h'.objs.size:=fun z=>by rw[<- z,eP] at hff;cases hff
  have same:∀ b o,H b=some o->upd (upd H c' (.frz oc Ab9)) h'.objs.size (.frz (W.kla_obj "<lambda>" (X.env.qual++"<lambda>") args body scope [] ((X.mg "__name__").getD .none) c' ctv) Ab9) b=some o:=fun b o e=>by
   rw[A0 (As e hff),A0 (As e hfc)];exact e
  have hnm:X7 oc l.qual:=⟨vs,t,hd,by rw[hl];exact hv⟩
  have hcc:upd (upd H c' (.frz oc Ab9)) h'.objs.size (.frz (W.kla_obj "<lambda>" (X.env.qual++"<lambda>") args body scope [] ((X.mg "__name__").getD .none) c' ctv) Ab9) c'=some (.frz oc Ab9):=by rw[A0 hne,A3]
  refine⟨.ref h'.objs.size,upd (upd H c' (.frz oc Ab9)) h'.objs.size (.frz (W.kla_obj "<lambda>" (X.env.qual++"<lambda>") args body scope [] ((X.mg "__name__").getD .none) c' ctv) Ab9),I.un ⟨?_,?_,?_,?_,?_,?_,?_⟩ ?_,rfl,h _ _ same ?_⟩
  ·exact fun b o e n _ _=>Aze _ (hx b o (hnP b n) e)
  ·exact fun b o e n _ _=>⟨o.slots,Aze _ (hx b o (hnP b n) e)⟩
  ·intro b o e n _
   have hb:=Azj e
   rw[A0 (Az1 (Azt hb (Azy hge (Ba9 hlt)))),A0 (Az1 (Azt hb hge))]
   exact n
  ·intro b o e _
   by_cases z:b=P
   ·subst z;exact⟨_,Aze _ htb⟩
   ·exact⟨o,Aze _ (hx b o z e)⟩
  ·exact fun b xs e=>same b _ e
  ·exact fun b o u e=>same b _ e
  ·exact fun b qs e=>⟨#[],by rw[same b _ e];simp⟩
  ·intro b u e
   by_cases z1:b=h'.objs.size
   ·subst z1
    rw[A3] at e
    cases e
    exact Ta (Azq _ rfl)
   ·rw[A0 z1] at e
    by_cases z2:b=c'
    ·subst z2
     rw[A3] at e
     cases e
     exact Ta (Aze _ hoc)
    ·rw[A0 z2] at e
     by_cases z3:b=P
     ·subst z3
      rw[eP] at e
      cases e
      refine⟨_,Aze _ htb,by rw[Array.toList_append];exact TriplesOk_snoc _ _ _ _ ht,fun pos' cv z=>?_⟩
      rw[Array.toList_append] at z
      rcases Vr _ ht z with z|rfl
      ·obtain⟨c0,oc0,u0,q0,t0,h1,h2,h3,h4⟩:=hc pos' cv z
       exact⟨c0,oc0,u0,q0,t0,h1,h2,same _ _ h3,h4⟩
      ·exact⟨c',oc,Ab9,l.qual,0,TabQ.tag,rfl,hcc,hnm⟩
     ·refine (I.hok b u e).stay (fun d v hd q=>?_) (fun d q=>same _ _ q) (fun d xs q=>?_) fun d x w q=>same _ _ q
      ·refine Aze _ (hx d v (fun w=>?_) q)
       rcases hd with hd|hd
       ·exact z3 (hd.symm.trans w)
       ·rw[w,eP] at hd;cases hd
      ·rcases q with q|⟨o,q⟩
       ·exact .inl (same _ _ q)
       ·exact .inr ⟨o,same _ _ q⟩
  ·exact⟨_,_,c',oc,Ab9,A3,⟨.none,(X.mg "__name__").getD .none,ctv,by rw[hl]⟩,hcc,hnm⟩
end
noncomputable def fnE (f:FE):List D->Option D:=fun ds=>(f (ds.map some) []).bind fun d=>if Bg d=true then some d else none
def M7 (P:Program) (w:World) (K:W.Frag) (mg:Str->Option Value) (base:Heap) (k n:Nat) (l:Lam) (fn:List D->Option D):Prop :=
 ∀ (a:Addr) (A:Around) (outer:List Env) (s:Shared) (H:Hp) (us:List Value) (vs:List V) (Q:VK),Room k A->Env0 P w K mg base A outer s H->FnAt H a l->Vals vs us->spP K n fn vs H Q E0 ->
  codeAny (model P w) A (.call (.ref a) ⟨us,[]⟩) (CR CX0 outer P w K H s Q E0) s
theorem Aki {P:Program}{w:World}{K:W.Frag}{mg:Str->Option Value}{base:Heap}{l:Lam}{N:List Str}{k n:Nat}{f:FE} (S:FnScope N N l.scope) (hn:N.length=n)
  (hb:∀ (doc pm ctv:Value) (c:Addr) (us:List Value),us.length=N.length->bindArgs (W.kdv_fn "<lambda>" l.qual l.args (.expr l.body) l.scope [] .none doc pm (.ref c) ctv) ⟨us,[]⟩=pure (N.zip us))
  (hbody:∀ (c a:Addr) (A:Around) (outer:List Env) (s:Shared) (H:Hp),Room k (A.deeper (envOfC l.qual l.scope s.heap.objs.size a (.ref c)))->PD (Nf CX0 P w K mg base N l.qual l.scope a (.ref c) A outer s H E0).nox l.body f) :
  M7 P w K mg base (k+1) n l (fnE f):=by
 intro a A outer s H us vs Q hr e0 hf r h
 obtain⟨o,u,c,oc,u',h1,⟨doc,pm,ctv,rfl⟩,h3,⟨vs',t,hd,hv⟩⟩:=hf
 obtain⟨ho,_⟩:=e0.hok a _ h1
 obtain⟨hoc,_⟩:=e0.hok c _ h3
 obtain⟨ds,d,rs,hl,hfn,q⟩:=h
 have hlv:vs.length=N.length:=by rw[<- rs.length,hl,hn]
 have lim:s.heap.NoLimit:=e0.mod.nolimit.keeps fun b o e=>(e0.bs b o e).1
 have hkind:∀ y∈N.zip us,l.scope.names.lookup y.1=some .local\/(l.scope.names.lookup y.1=some .cell/\((cellsFrom (s.heap.objs.size+1) l.scope.names []).lookup y.1).isSome=true):=fun⟨n,v⟩ hy=>by
  rcases S.par n (Bcj hy).1 with q|q
  ·exact .inl q
  ·exact .inr ⟨q,W.cellsFrom_some _ _ _ (.inl q)⟩
 refine W.kla_callFunE hr.depth ho rfl S.co S.gen rfl ⟨c,oc,vs',t,rfl,hoc,hd,hv⟩ ?_
 refine Bbr (hb doc pm ctv c us (by rw[<- r.length];exact hlv)) ?_
 refine wpAny_newFunctionEnv_cells S.kind hkind fun env he s1 x=>?_
 subst he
 refine⟨lim.keeps x.toInCall.keep,W.kla_codeExpr ?_⟩
 have I:Inv (Nf CX0 P w K mg base N l.qual l.scope a (.ref c) A outer s H E0) [] (Eo N vs) H s1:=Ph S hr.hd e0 hlv r x
 obtain⟨d',hd',hfn⟩:=bind_some hfn
 split at hfn
 ·rename_i hno
  cases hfn
  have S0:Sim K H [] []:=⟨Bbe,rfl,fun n a o h=>by simp at h⟩
  have hE:EnvRep K H [] (Eo N vs) (ds.map some):=by
   have:=Ek (N:=N) rs
   rw[show N.length - ds.length=0 by rw[hl,hn];lia,List.replicate_zero,Az2] at this
   exact this
  refine Bal (PE.nox (hbody c a A outer s H (hr.deeper _)) [] s1 (Eo N vs) H Q I ⟨ds.map some,[],[],d,S0,hE,hd',fun v H' s' r=>q v H' s' (r.nolst hno)⟩) (fun u s' hs=>?_) fun e s' hs=>hs
  obtain⟨v,H',J,rv,q⟩:=hs
  exact⟨v,H',J.os,J.bare,J.base,J.hok,rv,q⟩
 ·cases hfn
section
variable {X:Cx}{e:Expr}{es:List Expr}{pos p:Pos}{x:Str}
open Classical in
end
def TabsH (tabs:List (Addr×Str)) (H:Hp):Prop:=∀ q∈tabs,TabQ H q.1 q.2
theorem TabsH.on {H:Hp}{s:Shared} (I:Inv X pins σ H s) {tabs:List (Addr×Str)} (h:TabsH tabs X.H₀):TabsH tabs H:=fun q hq=>TabQ.on I (h q hq)
noncomputable def spT (tabs:List (Addr×Str)) (K:W.Frag) (n:Nat) (fn:List D->Option D):Sp:=fun vs H Q E=>TabsH tabs H/\spP K n fn vs H Q E
theorem Adg {P:Program}{w:World}{K:W.Frag}{mg:Str->Option Value}{base:Heap}{x qual:Str}{st:Stmt}{f:Addr}{fd:FuncData}{N ps:List Str}{k:Nat}{tabs:List (Addr×Str)}{g:FS} (F:Fun K x qual st f fd) (S:FnScope N ps (Aq st))
  (hbody:∀ (A:Around) (outer:List Env) (s:Shared) (H:Hp) (E:XK),TabsH tabs H->Room k (A.deeper (envOfC qual (Aq st) s.heap.objs.size f fd.code)) ->
   Ri (Nf CX0 P w K mg base N qual (Aq st) f fd.code A outer s H E).nox (Bw st) g):FnOk P w K mg base CX0 (k+1) f fd ps (spT tabs K ps.length (Gj N.length g)):=by
 obtain⟨oc,od,kV,doc,pm,an,cdv,ct,osl,rfl,lk,hcd⟩:=F.ex
 refine Ajl lk hcd S (fun vs H Q E h=>?_) fun A outer s H vs Q E hr h=>?_
 ·obtain⟨_,ds,d,r,hl,_⟩:=h
  rw[<- r.length];exact hl
 ·obtain⟨hT,ds,d,r,hl,h,q⟩:=h
  refine⟨_,(hbody A outer s H E hT hr).nox,?_⟩
  obtain⟨o,h1,h2⟩:=bind_some h
  have S0:Sim K H [] []:=⟨Bbe,rfl,fun n a o h=>by simp at h⟩
  refine⟨_,[],[],o,S0,Ek r,h1,?_⟩
  have fin:∀ {H':Hp}{μ':List Addr}{m':MH},Step H [] H' μ'->Sim K H' μ' m'->Same H H'/\∀ a∈μ',old H H' a->False:=fun {H' μ' m'} st S'=>by
   obtain⟨l,e,hl⟩:=st.pre
   refine⟨fun b o e=>st.keep b o e (by simp),fun a ha z=>?_⟩
   rcases z with hne|⟨o,u,z⟩
   ·rw[e] at ha
    exact hne (hl a (by simpa using ha))
   ·obtain⟨xs,e',l⟩:=S'.trk ha
    rw[e'] at z
    cases z
    exact l
  cases o with
  |rt d' m'=>exact fun v H' μ' st S' r'=>q v H' (fin st S').1 (Ll S' (fin st S').2 r' h2)
  |nx env m'=>cases h2;exact fun σ' H' μ' st S' E'=>q _ H' (fin st S').1 .non
  |bk _ _=>exact Ad h2
  |ct _ _=>exact Ad h2
section
variable {X:Cx}{e:Expr}{es:List Expr}{pos p:Pos}{x:Str}
def Of (m:MH):D->Option D
 |.fn i l=>some (.fn i l)
 |.dks ks vs=>if A1 vs=true then some (.dks ks vs) else none
 |.fz φ ss ps is=>some (.fz φ ss ps is)
 |d=>B7 m d
def Dc (m:MH):List D->Option (List D)
 |[]=>some []
 |d::ds=>(Of m d).bind fun d'=>(Dc m ds).bind fun ds'=>some (d'::ds')
theorem Acd {K:W.Frag}{H:Hp}{μ:List Addr}{m:MH} (S:Sim K H μ m) {d d':D}{v:V} (r:Rep K H μ (·∈μ) d v) (h:Of m d=some d'):Rep K H [] (fun _=>False) d' v:=by
 cases r with
 |fn hf=>cases h;exact .fn hf
 |fz h1 h2 h3=>cases h;exact .fz h1 h2 h3
 |dks h1 h2 h3 h4 =>
  unfold Of at h
  simp only at h
  split at h
  ·rename_i hn
   cases h
   exact .dks h1 (fun z=>z) h3 (h4.noref (fun _ _ _ _ z=>z) hn)
  ·exact Ad h
 |non=>exact (Bd S .non h).1
 |bl b=>exact (Bd S (.bl b) h).1
 |int b=>exact (Bd S (.int b) h).1
 |str b ok=>exact (Bd S (.str b ok) h).1
 |tup h1 h2=>exact (Bd S (.tup h1 h2) h).1
 |lst h1 h2 h3=>exact (Bd S (.lst h1 h2 h3) h).1
 |kl h1 h2=>exact (Bd S (.kl h1 h2) h).1
 |dic h1 h2 h3 h4=>exact (Bd S (.dic h1 h2 h3 h4) h).1
 |ref h1=>exact (Bd S (.ref h1) h).1
theorem Ih {K:W.Frag}{H:Hp}{μ:List Addr}{m:MH} (S:Sim K H μ m):∀ {ds ds':List D}{vs:List V},Reps K H μ (·∈μ) ds vs->Dc m ds=some ds'->Reps K H [] (fun _=>False) ds' vs
 |_,_,_,.nil,h=>by cases h;exact .nil
 |_,_,_,.cons r rs,h=>by
  unfold Dc at h
  obtain⟨d',h1,h⟩:=bind_some h
  obtain⟨ds',h2,h⟩:=bind_some h
  cases h
  exact .cons (Acd S r h1) (Ih S rs h2)
def Ji (n:Nat) (fn:List D->Option D):List D->MH->Option D:=fun ds m=>(Dc m ds).bind fun ds'=>if ds'.length=n then fn ds' else none
variable {ex:Expr}{n:Nat}{fn:List D->Option D}{g:FL}{E:XK}
theorem Tb (hp:PE X ex (Am6 (spP X.K n fn) [] E (tL X.K g))):PD X ex (A7 (Ji n fn) g):=PE.imp hp fun σ H Q ⟨env,μ,m,d,S,E,h,q⟩=>by
 obtain⟨ds,h1,h⟩:=bind_some h
 obtain⟨ds',h2,h⟩:=bind_some h
 split at h
 ·rename_i hl
  exact⟨env,μ,m,ds,S,E,h1,fun vs H1 s1 rs=>⟨ds',d,by rw[Az2];exact Ih (S.same s1) rs h2,hl,h,fun v H' s' r=>q v H' (s1.trans s') (Rep.ofCall (S.same s1) r)⟩⟩
 ·exact Ad h
end
noncomputable def Rm (tabs:List (Addr×Str)) (H:Hp):Hp:=fun b=>match tabs.find? fun q=>q.1 == b with
 |some q=>some (.tbl #[Value.str q.2 0])
 |none=>H b
theorem Gu {tabs:List (Addr×Str)}{H:Hp} (h:b∉tabs.map (·.1)):Rm tabs H b=H b:=by
 unfold Rm
 have:(tabs.find? fun q=>q.1 == b)=none:=List.find?_eq_none.mpr fun q hq z=>h (by rw[<- beq_iff_eq.mp z];exact Bb7 hq)
 rw[this]
theorem Rx {tabs:List (Addr×Str)}{H:Hp} (h:b∈tabs.map (·.1)):∃ q∈tabs,q.1=b/\Rm tabs H b=some (.tbl #[Value.str q.2 0]):=by
 unfold Rm
 cases e:tabs.find? fun q=>q.1 == b with
 |none =>
  obtain⟨q,hq,z⟩:=List.mem_map.mp h
  exact absurd (beq_iff_eq.mpr z) (List.find?_eq_none.mp e q hq)
 |some q=>exact⟨q,List.mem_of_find?_eq_some e,beq_iff_eq.mp (List.find?_some (p:=fun q:Addr×Str=>q.1 == b) e),rfl⟩
theorem Aad {tabs:List (Addr×Str)} (hnd:(tabs.map (·.1)).Nodup) (hq:q∈tabs) (hr:r∈tabs) (e:q.1=r.1):q=r:=by
 induction tabs with
 |nil=>cases hq
 |cons t ts ih =>
  rw[Azm,Bck] at hnd
  rcases List.mem_cons.mp hq with h1|h1<;>rcases List.mem_cons.mp hr with h2|h2
  ·rw[h1,h2]
  ·exact absurd (by rw[<- h1,e];exact Bb7 h2) hnd.1
  ·exact absurd (by rw[<- h2,<- e];exact Bb7 h1) hnd.1
  ·exact ih hnd.2 h1 h2
theorem Aqg {K:W.Frag}{h:Heap} (KX:K.In h) (hK:W.noTabs K=true) {P:Addr} (hP:h.get? P=some (W.tabObj #[])):K.lookup P=none:=by
 cases e:K.lookup P with
 |none=>rfl
 |some o =>
  have e1:=KX P o e
  rw[hP] at e1
  cases e1
  have h2:=List.all_eq_true.mp hK (P,_) (W.mem_of_lookupK e)
  exact absurd (show false=true from h2) Az7
theorem Zo {P:Program}{w:World}{K:W.Frag}{mg mb:Str->Option Value}{k:Nat}{fa a:Addr}{fd:FuncData}{x:Str}{fn:List D->Option D}{s₁:Shared}{vs:List Value}{ns:List Int}{tabs:List (Addr×Str)}
  (KX:K.In s₁.heap) (hns:s₁.heap.Ns mainGlobals mg) (hb:s₁.heap.Ns builtinsNs mb) (hbb:∀ x:Str,x≠"__name__"->mb x=bootBuiltins x) (hlim:s₁.heap.NoLimit) (hbm:M5 mg s₁.heap) (hg:s₁.gens=#[])
  (hT:∀ q∈tabs,s₁.heap.get? q.1=some (W.tabObj #[])/\isCodeTable s₁.heap q.1) (hnd:(tabs.map (·.1)).Nodup) (hNT:W.noTabs K=true)
  (ha:s₁.heap.get? a=some { cls:=.type "list",data:=.seq vs.toArray }) (hi:IntsAre vs ns) (hl:ns.length<=sizeLine) (hr:Room k callerA)
  (F:∀ base:Heap,K.In base->base.Ns mainGlobals mg->M5 mg base->FnOk P w K mg base CX0 k fa fd [x] (spT tabs K 1 fn)) (hbind:∀ (s:Shared) (u:Value),BindsTo s fd ⟨[u],[]⟩ [(x,u)])
  (hfn:fn [.kl (ns.map D.int)]=some (.bl true)) (hrep:∀ H:Hp,Reps K H [] (fun _=>False) (ns.map D.int) (ns.map V.int)) :
  codeAny (model P w) callerA (.call (.ref fa) ⟨[.ref a],[]⟩) (fun r s'=>r=.ok (.ret (.bool true))/\OldK s₁.heap s'.heap/\s'.os=s₁.os/\AllBare s'.gens) s₁:=by
 have rv:=Rh hi
 have lenV:=hi.length
 have tabN:∀ {b:Addr}{o:Obj},s₁.heap.get? b=some o->o.cls≠.none->b∉tabs.map (·.1):=fun {b o} e hc z=>by
  obtain⟨q,hq,rfl⟩:=List.mem_map.mp z
  rw[(hT q hq).1] at e
  cases e
  exact hc rfl
 have tabD:∀ {b:Addr}{o:Obj}{es:Array DictEntry}{ep:Nat},s₁.heap.get? b=some o->o.data=.dict es ep->b∉tabs.map (·.1):=fun {b o es ep} e hd z=>by
  obtain⟨q,hq,rfl⟩:=List.mem_map.mp z
  rw[(hT q hq).1] at e
  cases e
  cases hd
 have aT:a∉tabs.map (·.1):=tabN ha (by simp)
 have core:∀ H:Hp,Axi H->KL K H a (ns.map V.int)->HOk P w K H s₁.heap->(∀ b,H b≠none->b=a)->(H a≠none->K.lookup a=none) ->
   codeAny (model P w) callerA (.call (.ref fa) ⟨[.ref a],[]⟩) (fun r s'=>r=.ok (.ret (.bool true))/\OldK s₁.heap s'.heap/\s'.os=s₁.os/\AllBare s'.gens) s₁:=by
  intro H hO hS hok hA hK
  have free:∀ {b:Addr},b∉tabs.map (·.1)->b≠a->Rm tabs H b=none:=fun {b} h1 h2=>by
   rw[Gu h1]
   cases q:H b with
   |none=>rfl
   |some u=>exact absurd (hA b (by rw[q];simp)) h2
  have noA:∀ {b:Addr}{o:Obj}{es:Array DictEntry}{ep:Nat},s₁.heap.get? b=some o->o.data=.dict es ep->b≠a:=fun {b o es ep} e d z=>by
   rw[z,ha] at e
   cases e
   cases d
  have nsK:∀ {b:Addr}{m:Str->Option Value},s₁.heap.Ns b m->(Adi s₁.heap (Rm tabs H)).Ns b m:=fun {b m} ⟨o,es,ep,e,d,r⟩=>⟨o,es,ep,Ni e (free (tabD e d) (noA e d)),d,r⟩
  have hKb:K.In (Adi s₁.heap (Rm tabs H)):=fun b o e=>by
   have h1:b∉tabs.map (·.1):=fun z=>by
    obtain⟨q,hq,rfl⟩:=List.mem_map.mp z
    rw[Aqg KX hNT (hT q hq).1] at e
    cases e
   refine Ni (KX b o e) ?_
   rw[Gu h1]
   cases q:H b with
   |none=>rfl
   |some u =>
    have e':b=a:=hA b (by rw[q];simp)
    subst e'
    rw[hK (by rw[q];simp)] at e;cases e
  have hM:Mod K mg (Adi s₁.heap (Rm tabs H)):=⟨hKb,nsK hns,⟨mb,nsK hb,hbb⟩,let ⟨mc,h1,h2⟩:=hlim;⟨mc,nsK h1,h2⟩⟩
  have hbm':M5 mg (Adi s₁.heap (Rm tabs H)):=by
   obtain⟨bm,ob,b1,b2,b3,b4,b5,b6⟩:=hbm
   exact⟨bm,ob,b1,b2,Ni b3 (free (tabN b3 (by rw[b4];simp)) fun z=>by rw[z,ha] at b3;cases b3;exact absurd b4 (by simp)),b4,b5,b6⟩
  have hok2:HOk P w K (Rm tabs H) s₁.heap:=fun b u e=>by
   by_cases z:b∈tabs.map (·.1)
   ·obtain⟨q,hq,rfl,e2⟩:=Rx (H:=H) z
    rw[e2] at e
    cases e
    exact⟨#[],(hT q hq).1,trivial,fun pos cv z=>by simp[codeAmong] at z⟩
   ·rw[Gu z] at e
    rcases hO b with n|⟨o,xs,n⟩
    ·rw[n] at e;cases e
    ·rw[n] at e
     cases e
     exact hok b _ n
  have e0:Env0 P w K mg (Adi s₁.heap (Rm tabs H)) callerA [] s₁ (Rm tabs H):=⟨rfl,hM,fun b o e=>Aku e,Nat.le_of_eq (Ze _ _),trivial,fun b hb=>absurd (show b∈([]:List Addr) from hb) (by simp),hok2,.of_eq hg⟩
  have hS2:KL K (Rm tabs H) a (ns.map V.int):=hS.elim (fun⟨o,z⟩=>.inl ⟨o,by rw[Gu aT];exact z⟩) .inr
  have sp0:spT tabs K 1 fn [.ref a] (Rm tabs H) (fun v _=>v=.bl true) E0:=⟨fun q hq=>by
    obtain⟨q',hq',e1,e2⟩:=Rx (H:=H) (Bb7 (f:=(·.1)) hq)
    have hqq:q'=q:=Aad hnd hq' hq e1
    subst hqq
    exact⟨#[],by rw[e2];simp⟩,[.kl (ns.map D.int)],.bl true,.cons (.kl hS2 (hrep _)) .nil,rfl,hfn,fun v H' _ r=>by cases r;rfl⟩
  refine codeAny_mono ((F _ hKb (nsK hns) hbm').run callerA [] s₁ (Rm tabs H) ⟨[.ref a],[]⟩ [.ref a] [.ref a] _ _ hr e0 (hbind s₁ (.ref a)) (.cons rfl .nil) sp0) fun r s' h=>?_
  cases r with
  |error e=>exact h.elim
  |ok fl =>
   cases fl with
   |next=>exact False.elim h
   |brk=>exact False.elim h
   |cont=>exact False.elim h
   |ret u =>
    obtain⟨v,H',os,bare,un,hok',r',q⟩:=h
    have q':v=.bl true:=q
    subst q'
    obtain rfl:u=Value.bool true:=r'
    refine⟨rfl,⟨fun b o e=>?_,fun b o e=>un.there b o e (by simp)⟩,os,bare⟩
    by_cases z:b∈tabs.map (·.1)
    ·obtain⟨q,hq,rfl,e2⟩:=Rx (H:=H) z
     obtain⟨more,e3⟩:=un.tbls _ _ e2
     obtain⟨ps,e4,_⟩:=hok' _ _ e3
     rw[(hT q hq).1] at e
     cases e
     exact .inr (.inl ⟨(hT q hq).2,rfl,#[],ps,rfl,by rw[e4];simp⟩)
    ·refine .inl ?_
     cases q:Rm tabs H b with
     |none=>exact un.keep b o e q (by intro z;exact absurd (show b∈([]:List Addr) from z) (by simp)) (by simp)
     |some u =>
      have q0:=q
      rw[Gu z] at q0
      rcases hO b with n|⟨ob,xs,n⟩
      ·rw[n] at q0;cases q0
      ·rw[n] at q0
       cases q0
       have z2:=un.frzs b ob _ q
       obtain⟨e1,_⟩:=hok b _ n
       obtain⟨e2,_⟩:=hok' b _ z2
       rw[e] at e1;cases e1
       exact e2
 cases hk:K.lookup a with
 |some o =>
  have e:=KX a o hk
  rw[ha] at e
  cases e
  refine core (fun _=>none) (fun _=>.inl rfl) (.inr ⟨_,vs.toArray,_,hk,rfl,rfl,rfl,by rw[Azh,lenV];exact hl,by simpa using rv⟩) (fun b u z=>by have z':(none:Option HO)=some u:=z;cases z') (fun b z=>absurd rfl z) fun z=>absurd rfl z
 |none =>
  refine core (fun b=>if b=a then some (.frz { cls:=.type "list",data:=.seq vs.toArray } (.lst (ns.map V.int))) else none) (fun b=>?_) (.inl ⟨{ cls:=.type "list",data:=.seq vs.toArray },Azp rfl⟩) (fun b u z=>?_) (fun b z=>?_) fun _=>hk
  ·by_cases hb:b=a
   ·exact .inr ⟨_,_,Azp hb⟩
   ·exact .inl (Azs hb)
  ·by_cases hb:b=a
   ·have z':=(Azp hb).symm.trans z
    cases z'
    subst hb
    exact⟨ha,by rw[Azr];exact hl,vs,_,rv,ha⟩
   ·have z':=(Azs hb).symm.trans z
    cases z'
  ·by_cases hb:b=a
   ·exact hb
   ·exact absurd (Azs hb) z
theorem Aft {l:W.OpenLaw}{n k:Nat}{q:Program}{loose:List Str}{XP:(Str->Option Value)->Heap->Prop}{YP:World->Heap->Prop}{d:DefRec}{K:Params->W.Frag}{ts:List Addr}{fn:List D->Option D}{x:Str}
  (hn:l.most=some n) (hn2:n<=sizeLine) (hdf:d.params.defaults=[]) (hr:Room k callerA)
  (hY:∀ (w:World) (h:Heap),YP w h->(K w.params).In h/\∀ P∈ts,h.get? P=some (W.tabObj #[])) (hNT:∀ w:World,W.noTabs (K w.params)=true)
  (F:∀ (w:World) (mg:Str->Option Value) (fa:Addr) (h:Heap),(K w.params).In h->h.Ns mainGlobals mg->mg d.name=some (.ref fa) ->
   ∃ (fd:FuncData) (tabs:List (Addr×Str)),(∀ (s:Shared) (u:Value),BindsTo s fd ⟨[u],[]⟩ [(x,u)])/\(∀ q∈tabs,q.1∈ts/\isCodeTable h q.1)/\(tabs.map (·.1)).Nodup /\
    ∀ base:Heap,(K w.params).In base->base.Ns mainGlobals mg->M5 mg base->FnOk l.prog w (K w.params) mg base CX0 k fa fd [x] (spT tabs (K w.params) 1 fn))
  (hfn:∀ ns:List Int,ns.length<=n->fn [.kl (ns.map D.int)]=some (.bl true)) (hrep:∀ (w:World) (H:Hp) (ns:List Int),Reps (K w.params) H [] (fun _=>False) (ns.map D.int) (ns.map V.int)) :
  W.WalkO q loose XP YP l.row.toRowW d [] (fun f vs=>PySem.call f vs):=by
 refine Att.attach_call hn hdf fun w s₀ s₁ mg mb fa o pm cd doc a vs ns G Y ho hd hcd hmg hobj hints hlen hg=>?_
 obtain⟨KX,hT⟩:=hY w _ Y
 obtain⟨fd,tabs,hb,h1,h2,hF⟩:=F w mg fa _ KX G.T.g hmg
 exact Zo KX G.T.g G.T.b G.T.builtins G.T.nolimit G.T.bmain hg (fun q hq=>⟨hT _ (h1 q hq).1,(h1 q hq).2⟩) h2 (hNT w) hobj hints (Azy hlen hn2) hr hF hb (hfn ns hlen) fun H=>hrep w H ns
theorem Afm {K:W.Frag}{h:Heap}{c P:Addr} (X:K.In h) (e:W.codeHdIn K c P=true):isCodeTable h P:=by
 obtain⟨o,vs,file,tf,flags,tg,inF,text,tt,e1,r1,r2,r3,_⟩:=W.codeHd_of_K X e
 exact⟨c,o,vs,e1,r1,r2,r3⟩
section
variable {prog:Program}{w:World}{A:Around}{E:Value->Shared->Prop}{s:Shared}
end
section
variable {X:Cx}{pins:List (Addr×Obj)}{σ:St}{H:Hp}{s:Shared}{μ:List Addr}{m:MH}{k:Nat}{f:Addr}{fd:FuncData}{ps:List Str}{fn:List D->Option D}{b:Bool}
end
section
variable {X:Cx}{e:Expr}{pos p p' kp kp' cp:Pos}{x:Str}{k:Nat}{f:Addr}{fd:FuncData}{ps:List Str}{fn:List D->Option D}{b:Bool}
end
section
variable {X:Cx}{pins:List (Addr×Obj)}{σ:St}{H:Hp}{s:Shared}{h':Heap}
end
section
variable {X:Cx}{e:Expr}{es:List Expr}{pos p tp:Pos}{x1:Nat}{elts:List Expr}
end
theorem Awb {P:Program}{w:World}{K:W.Frag}{mg:Str->Option Value}{base:Heap}{x qual:Str}{st:Stmt}{f:Addr}{fd:FuncData}{N ps:List Str}{k n:Nat}{tabs:List (Addr×Str)} (F:Fun K x qual st f fd) (S:FnScope N ps (Aq st)) (g:FS) (fn:List D->Option D) (hfn:fn=Gj N.length g) (hn:ps.length=n)
  (hbody:∀ (A:Around) (outer:List Env) (s:Shared) (H:Hp) (E:XK),TabsH tabs H->Room k (A.deeper (envOfC qual (Aq st) s.heap.objs.size f fd.code)) ->
   QSs (Nf CX0 P w K mg base N qual (Aq st) f fd.code A outer s H E).nox (Bw st) g):FnOk P w K mg base CX0 (k+1) f fd ps (spT tabs K n fn):=by
 subst hfn hn
 exact Adg F S fun A outer s H E hT hr=>(hbody A outer s H E hT hr).out
section
variable {X:Cx}{a b c e:Expr}{es:List Expr}{pos p p':Pos}{x:Str}
theorem Ae2 {fd:FuncData} (F:FnOk X.prog X.w X.K X.mg X.base CX0 k f fd ps (spP X.K n fn)) (hr:Room k X.A) (hm:X.mg x=some (.ref f)) (hk:W.keepIn X.K (.ref f)=true) (hb:Binds X.K fd ps []) (ha:QL X (e::es) g) (hg:Gl X x:=by unfold Gl;kernel_rfl) (hdb:(x == ("__debug__":Str))=false:=by decide) (he':Bp e=true:=by rfl) (hpl':es.all Bp=true:=by rfl) :
  QD X (.Call (.Name x p) (e::es) [] pos) (A7 (Ji n fn) g):=⟨Tb (N2 F hr hg hm hk hb .nil Aar ha.out hdb (Ar he') (Dm hpl'))⟩
end
theorem Amg {P:Program}{w:World}{K:W.Frag}{mg:Str->Option Value}{base:Heap}{l:Lam}{N:List Str}{k n:Nat}{f:FE}{fn:List D->Option D} (S:FnScope N N l.scope) (hn:N.length=n) (hfn:fn=fnE f)
  (hb:∀ (doc pm ctv:Value) (c:Addr) (us:List Value),us.length=N.length->bindArgs (W.kdv_fn "<lambda>" l.qual l.args (.expr l.body) l.scope [] .none doc pm (.ref c) ctv) ⟨us,[]⟩=pure (N.zip us))
  (hbody:∀ (c a:Addr) (A:Around) (outer:List Env) (s:Shared) (H:Hp),Room k (A.deeper (envOfC l.qual l.scope s.heap.objs.size a (.ref c)))->QD (Nf CX0 P w K mg base N l.qual l.scope a (.ref c) A outer s H E0).nox l.body f) :
  M7 P w K mg base (k+1) n l fn:=by
 subst hfn
 exact Aki S hn hb fun c a A outer s H hr=>(hbody c a A outer s H hr).out
theorem Yq (i j:Nat) (hij:i≠j):∀ d d' env e1,Hb 2 (B4 (Au i) (B4 (Au j) Ng)) d env=some e1->Hb 2 (B4 (Au i) (B4 (Au j) Ng)) d' e1=Hb 2 (B4 (Au i) (B4 (Au j) Ng)) d' env:=fun d d' env e1 h=>by
 have he:∃ a b,e1=(env.set i (some a)).set j (some b):=by
  cases d with
  |tup ds =>
   match ds,h with
   |[a,b],h =>
    have h:some ((env.set i (some a)).set j (some b))=some e1:=h
    cases h
    exact⟨a,b,rfl⟩
   |[],h=>exact absurd h (by simp[Hb])
   |[_],h=>exact absurd h (by simp[Hb])
   |_::_::_::_,h=>exact absurd h (by simp[Hb])
  |_=>exact absurd h (by simp[Hb])
 obtain⟨a,b,rfl⟩:=he
 cases d' with
 |tup ds =>
  match ds with
  |[a',b'] =>
   show some ((((env.set i (some a)).set j (some b)).set i (some a')).set j (some b'))=some ((env.set i (some a')).set j (some b'))
   rw[List.set_comm _ _ hij.symm,List.set_set,List.set_comm _ _ hij,List.set_comm _ _ hij,List.set_set]
   exact Ba4 some (List.set_comm _ _ hij.symm)
  |[]=>rfl
  |[_]=>rfl
  |_::_::_::_=>simp[Hb]
 |_=>rfl
section
variable {X:Cx}{st:Stmt}{sts:List Stmt}
end
section
variable {X:Cx}{o' a:Expr}{apos cpos:Pos}{T:String}{id:String}
end
section
variable {X:Cx}{pins:List (Addr×Obj)}{σ:St}{H:Hp}{s:Shared}{h':Heap}
end
section
variable {X:Cx}{e e2:Expr}{es:List Expr}{pos p tp:Pos}{x1:Nat}{elts:List Expr}
end
section
variable {X:Cx}{e ex:Expr}{es:List Expr}{pos p:Pos}{x:Str}{n:Nat}{fn:List D->Option D}{g:FL}{E:XK}
end
section
variable {X:Cx}{tg elt iter:Expr}{ifs:List Expr}{scope:Scope}{fw:FW}{g:FG}{t:FB}{fe:FE}{x:Str}{pos p' spos:Pos}
end
section
variable {X:Cx}{e:Expr}{es:List Expr}{pos p:Pos}{x:Str}
open Classical in
end
structure FD (K:W.Frag) (mg:Str->Option Value) (x:Str) (st:Stmt) (ps:List Str):Prop where
 ex:∃ a fd,mg x=some (.ref a)/\Fun K x x st a fd/\Binds K fd ps []
structure FDL (K:W.Frag) (mg:Str->Option Value) (x:Str) (st:Stmt) (ps:List Str) (p:Addr):Prop where
 ex:∃ a fd c,mg x=some (.ref a)/\Fun K x x st a fd/\Binds K fd ps []/\fd.code=.ref c/\W.codeHdIn K c p=true
structure Cl (P:Program) (w:World) (K:W.Frag) (mg:Str->Option Value) (base:Heap) (k:Nat) (x:Str) (n:Nat) (fn:List D->Option D):Prop where
 ex:∃ a fd ps,FnOk P w K mg base CX0 k a fd ps (spP K n fn)/\mg x=some (.ref a)/\W.keepIn K (.ref a)=true/\Binds K fd ps []
abbrev BH (x:Str) (st:Stmt) (ps:List Str):Prop:=∀ (kV doc pm:Value) (an:Option Addr) (cdv ct:Value) (us:List Value),us.length=ps.length->bindArgs (W.fnOf x x (Dy st) (Bw st) (Aq st) .none kV doc pm an cdv ct) ⟨us,[]⟩=pure (ps.zip us)
theorem of1 {P:List Value->Prop} (h:∀ a,P [a]):∀ us:List Value,us.length=1->P us:=by
 intro us e
 cases us with
 |nil=>cases e
 |cons a us =>
  cases us with
  |nil=>exact h a
  |cons _ _=>cases e
theorem of2 {P:List Value->Prop} (h:∀ a b,P [a,b]):∀ us:List Value,us.length=2->P us:=by
 intro us e
 cases us with
 |nil=>cases e
 |cons a us=>exact of1 (P:=fun us=>P (a::us)) (h a) us (Nat.succ.inj e)
theorem of3 {P:List Value->Prop} (h:∀ a b c,P [a,b,c]):∀ us:List Value,us.length=3->P us:=by
 intro us e
 cases us with
 |nil=>cases e
 |cons a us=>exact of2 (P:=fun us=>P (a::us)) (h a) us (Nat.succ.inj e)
structure FM (K:W.Frag) (x:Str) (st:Stmt):Prop where
 ex:∃ a fd,W.nsIn K mainGlobals x=some (some (.ref a))/\Fun K x x st a fd
theorem fm_mk {K:W.Frag}{x:Str}{st:Stmt}{f:Addr}{oc:Value}{od an:Option Addr}{osl:Array (Option Value)}{kV doc pm cdv ct:Value} (n:W.nsIn K mainGlobals x=some (some (.ref f))) (l:K.lookup f=some ⟨oc,od,.func (W.fnOf x x (Dy st) (Bw st) (Aq st) .none kV doc pm an cdv ct),osl⟩)
  (c:W.codeIn K cdv x=true) (k:W.keepIn K (.ref f)=true):FM K x st:=⟨f,_,n,Uj l c k⟩
theorem FM.fd {K:W.Frag}{h:Heap}{mg:Str->Option Value}{x:Str}{st:Stmt}{ps:List Str} (F:FM K x st) (X:K.In h) (G:h.Ns mainGlobals mg)
  (hb:BH x st ps):FD K mg x st ps:=by
 obtain⟨a,fd,n,F⟩:=F.ex
 exact⟨a,fd,W.mg_of X G n,F,F.binds hb⟩
theorem FM.fd1 {K:W.Frag}{h:Heap}{mg:Str->Option Value}{x a:Str}{st:Stmt} (F:FM K x st) (X:K.In h) (G:h.Ns mainGlobals mg) (hb:BH x st [a]:=by exact fun _ _ _ _ _ _=>of1 fun _=>rfl):FD K mg x st [a]:=F.fd X G hb
theorem FM.fd2 {K:W.Frag}{h:Heap}{mg:Str->Option Value}{x a b:Str}{st:Stmt} (F:FM K x st) (X:K.In h) (G:h.Ns mainGlobals mg) (hb:BH x st [a,b]:=by exact fun _ _ _ _ _ _=>of2 fun _ _=>rfl):FD K mg x st [a,b]:=F.fd X G hb
theorem FM.fd3 {K:W.Frag}{h:Heap}{mg:Str->Option Value}{x a b c:Str}{st:Stmt} (F:FM K x st) (X:K.In h) (G:h.Ns mainGlobals mg) (hb:BH x st [a,b,c]:=by exact fun _ _ _ _ _ _=>of3 fun _ _ _=>rfl):FD K mg x st [a,b,c]:=F.fd X G hb
theorem _root_.L2.Fun.binds3 {K:W.Frag}{x a b c:Str}{st:Stmt}{f:Addr}{fd:FuncData} (F:Fun K x x st f fd) (hb:BH x st [a,b,c]:=by exact fun _ _ _ _ _ _=>of3 fun _ _ _=>rfl):Binds K fd [a,b,c] []:=F.binds hb
theorem FM.fd4 {K:W.Frag}{h:Heap}{mg:Str->Option Value}{x a b c d:Str}{st:Stmt} (F:FM K x st) (X:K.In h) (G:h.Ns mainGlobals mg) (hb:BH x st [a,b,c,d]:=by exact fun _ _ _ _ _ _ us hl=>match us,hl with|[_,_,_,_],_=>rfl):FD K mg x st [a,b,c,d]:=F.fd X G hb
theorem FM.fd5 {K:W.Frag}{h:Heap}{mg:Str->Option Value}{x a b c d e:Str}{st:Stmt} (F:FM K x st) (X:K.In h) (G:h.Ns mainGlobals mg) (hb:BH x st [a,b,c,d,e]:=by exact fun _ _ _ _ _ _ us hl=>match us,hl with|[_,_,_,_,_],_=>rfl):FD K mg x st [a,b,c,d,e]:=F.fd X G hb
section
variable {P:Program}{w:World}{K:W.Frag}{mg:Str->Option Value}{base:Heap}{x:Str}{st:Stmt}{ps:List Str}{k n:Nat}{tabs:List (Addr×Str)}{p:Addr}
theorem Du (N:List Str) (T:FD K mg x st ps) (g:FS) (fn:List D->Option D)
  (hbody:∀ (f:Addr) (cdv:Value) (A:Around) (outer:List Env) (s:Shared) (H:Hp) (E:XK),Room k (A.deeper (envOfC x (Aq st) s.heap.objs.size f cdv))->N.Nodup ->
   QSs (Nf CX0 P w K mg base N x (Aq st) f cdv A outer s H E).nox (Bw st) g) (hfn:fn=Gj N.length g:=by rfl) (hn:ps.length=n:=by rfl) (S:FnScope N ps (Aq st):=by exact⟨rfl,rfl,rfl,by decide +kernel,rfl,by decide +kernel,by decide +kernel⟩):Cl P w K mg base (k+1) x n fn:=by
 obtain⟨a,fd,m,F,b⟩:=T.ex
 exact⟨a,fd,ps,Ayx F S g fn hfn hn fun cdv A outer s H E hr=>hbody a cdv A outer s H E hr S.nd,m,F.kp,b⟩
end
section
variable {X:Cx}{e:Expr}{es:List Expr}{pos p p' cp:Pos}{x:Str}{k j n:Nat}{fn:List D->Option D}{g:FL}{tabs:List (Addr×Str)}{kp kp':Pos}{b:Bool}
theorem q_c (F:Cl X.prog X.w X.K X.mg X.base k x n fn) (hr:Room j X.A) (ha:QL X (e::es) g) (hk:k<=j:=by decide) (hg:Gl X x:=by unfold Gl;kernel_rfl) (hdb:(x == ("__debug__":Str))=false:=by decide) (he':Bp e=true:=by rfl) (hpl':es.all Bp=true:=by rfl) :
  QD X (.Call (.Name x p) (e::es) [] pos) (A7 (Ci n fn) g):=by
 obtain⟨a,fd,ps,F,m,kp,b⟩:=F.ex
 exact Ame F (hr.mono hk) m kp b ha hg hdb he' hpl'
theorem Ae0 (F:Cl X.prog X.w X.K X.mg X.base k x n fn) (hr:Room j X.A) (ha:QL X (e::es) g) (hk:k<=j:=by decide) (hg:Gl X x:=by unfold Gl;kernel_rfl) (hdb:(x == ("__debug__":Str))=false:=by decide) (he':Bp e=true:=by rfl) (hpl':es.all Bp=true:=by rfl) :
  QF X (.Call (.Name x p) (e::es) [] pos) (Bi (Gp n fn) g):=by
 obtain⟨a,fd,ps,F,m,kp,b⟩:=F.ex
 exact Amf F (hr.mono hk) m kp b ha hg hdb he' hpl'
theorem Aw3 (F:Cl X.prog X.w X.K X.mg X.base k x n fn) (hr:Room j X.A) (ha:QL X (e::es) g) (hk:k<=j:=by decide) (hg:Gl X x:=by unfold Gl;kernel_rfl) (hdb:(x == ("__debug__":Str))=false:=by decide) (he':Bp e=true:=by rfl) (hpl':es.all Bp=true:=by rfl) :
  QD X (.Call (.Name x p) (e::es) [] pos) (A7 (Ji n fn) g):=by
 obtain⟨a,fd,ps,F,m,kp,b⟩:=F.ex
 exact Ae2 F (hr.mono hk) m kp b ha hg hdb he' hpl'
theorem Asl (F:Cl X.prog X.w X.K X.mg X.base k x 1 fn) (hr:Room j X.A) (hm:X.mg "sorted"=none) (ha:QL X [e] g) (hk:k+2<=j:=by decide) (hg:Gl X "sorted":=by unfold Gl;kernel_rfl) (hgf:Gl X x:=by unfold Gl;kernel_rfl) (hdb:(x == ("__debug__":Str))=false:=by decide) (he':Bp e=true:=by rfl) :
  QF X (.Call (.Name "sorted" p) [e] [⟨some "key",.Name x p',kp⟩] pos) (Bi (Cp fn false) g):=by
 obtain⟨a,fd,ps,F,m,kp,b⟩:=F.ex
 exact Ajp F (hr.mono hk) m b hm ha hg hgf hdb he'
theorem Awa {i} (F:Cl X.prog X.w X.K X.mg X.base k x 1 fn) (hr:Room j X.A) (hm:X.mg "sorted"=none) (ha:QL X [e] g) (hk:k+2<=j:=by decide) (hg:Gl X "sorted":=by unfold Gl;kernel_rfl) (hgf:Gl X x:=by unfold Gl;kernel_rfl) (hdb:(x == ("__debug__":Str))=false:=by decide) (he':Bp e=true:=by rfl) :
  QF X (.Call (.Name "sorted" p) [e] [⟨some "key",.Name x p',kp⟩,⟨some "reverse",.Constant (.bool b) i cp,kp'⟩] pos) (Bi (Cp fn b) g):=by
 obtain⟨a,fd,ps,F,m,kp,b⟩:=F.ex
 exact Apo F (hr.mono hk) m b hm ha hg hgf hdb he'
end
end ML
end L2
end S_ML22
section S_TS1
open Lean in
set_option hygiene false in
local macro_rules|`(tactic| sizeOf_list_dec)=>do
 let n (s:String):TSyntax `ident:=mkIdent (mkPrivateNameCore `PySem.Builtin.List.W1All (Name.str `PySem.Builtin s))
 `(tactic| delta $(n "gallop"))
namespace L2
namespace TS
open PySem PySem.W PySem.Calls PyProof.Rows
section
variable {σ:Type}{M:Model}{A:Around}{E:Value->Shared->Prop}
end
section
variable {prog:Program}{w:World}{A:Around}{E:Value->Shared->Prop}{κ:SortKind}{it:Array Keyed}
variable {N:Nat}{c:Nat->Nat->Bool}{J:Shared->Prop}
end
end TS
end L2
end S_TS1
section S_TS2
namespace L2
namespace TS
open PySem PySem.W PySem.Calls PyProof.Rows
section
variable {prog:Program}{w:World}{A:Around}{E:Value->Shared->Prop}{κ:SortKind}{it:Array Keyed}{N:Nat}{c:Nat->Nat->Bool}{J:Shared->Prop}
variable {X Y O:List Nat}{ia ib:Nat}
end
end TS
end L2
end S_TS2
section S_TS3
open Lean in
set_option hygiene false in
local macro_rules|`(tactic| sizeOf_list_dec)=>do
 let n (s:String):TSyntax `ident:=mkIdent (mkPrivateNameCore `PySem.Builtin.List.W1All (Name.str `PySem.Builtin s))
 `(tactic| delta $(n "mergeLo"))
namespace L2
namespace TS
open PySem PySem.W PySem.Calls PyProof.Rows
section
variable {prog:Program}{w:World}{A:Around}{E:Value->Shared->Prop}{κ:SortKind}{it:Array Keyed}{N:Nat}{c:Nat->Nat->Bool}{J:Shared->Prop}
end
end TS
end L2
end S_TS3
section S_TS4
namespace L2
namespace TS
open PySem PySem.W PySem.Calls PyProof.Rows
section
variable {c:Nat->Nat->Bool}
variable {X Y O:List Nat}{na nb:Nat}
end
end TS
end L2
end S_TS4
section S_TS5
open Lean in
set_option hygiene false in
local macro_rules|`(tactic| sizeOf_list_dec)=>do
 let n (s:String):TSyntax `ident:=mkIdent (mkPrivateNameCore `PySem.Builtin.List.W1All (Name.str `PySem.Builtin s))
 `(tactic| delta $(n "mergeHi"))
namespace L2
namespace TS
open PySem PySem.W PySem.Calls PyProof.Rows
section
variable {prog:Program}{w:World}{A:Around}{E:Value->Shared->Prop}{κ:SortKind}{it:Array Keyed}{N:Nat}{c:Nat->Nat->Bool}{J:Shared->Prop}
end
end TS
end L2
end S_TS5
section S_TS6
open Lean in
set_option hygiene false in
local macro_rules|`(tactic| sizeOf_list_dec)=>do
 let n (s:String):TSyntax `ident:=mkIdent (mkPrivateNameCore `PySem.Builtin.List.W1All (Name.str `PySem.Builtin s))
 `(tactic| delta $(n "mergeAt"))
namespace L2
namespace TS
open PySem PySem.W PySem.Calls PyProof.Rows
section
variable {prog:Program}{w:World}{A:Around}{E:Value->Shared->Prop}{κ:SortKind}{it:Array Keyed}{N:Nat}{c:Nat->Nat->Bool}{J:Shared->Prop}
end
end TS
end L2
end S_TS6
section S_TS7
namespace L2
namespace TS
open PySem PySem.W PySem.Calls PyProof.Rows
section
variable {α:Type}
end
section
variable {prog:Program}{w:World}{A:Around}{E:Value->Shared->Prop}{κ:SortKind}{it:Array Keyed}{N:Nat}{c:Nat->Nat->Bool}{J:Shared->Prop}
end
end TS
end L2
end S_TS7
section S_TS8
namespace L2
namespace TS
open PySem PySem.W PySem.Calls PyProof.Rows
section
variable {prog:Program}{w:World}{A:Around}{E:Value->Shared->Prop}{κ:SortKind}{it:Array Keyed}{n:Nat}{c:Nat->Nat->Bool}{J:Shared->Prop}
end
end TS
end L2
end S_TS8
section S_ML35
namespace L2
namespace ML
open PySem PySem.Spec PyProof.Rows PySem.SeqAt
open PySem.W (KasT kas_sort katRev KatLex)
open Classical in
section
variable {X:Cx}{pins:List (Addr×Obj)}{σ:St}{H H1:Hp}{s:Shared}{μ:List Addr}{m:MH}{k:Nat}{f:Addr}{fd:FuncData}{ps:List Str}{fn:List D->Option D}{A':Around}
end
section
variable {X:Cx}{e:Expr}{pos p p' kp kp' cp:Pos}{x:Str}{k:Nat}{f:Addr}{fd:FuncData}{ps:List Str}{fn:List D->Option D}{b:Bool}
end
section
variable {X:Cx}{e:Expr}{es:List Expr}{pos p p' cp:Pos}{x:Str}{k j n:Nat}{fn:List D->Option D}{g:FL}{tabs:List (Addr×Str)}{kp kp':Pos}{b:Bool}
end
section
variable {X:Cx}{e:Expr}{pos p':Pos}{x:Str}{i:Nat}{f:FE}
end
end ML
end L2
end S_ML35
section S_TX1
namespace L2
namespace TX
open PySem PySem.Spec PyProof.Rows
section
variable {prog:Program}{w:World}{A:Around}{E:Value->Shared->Prop}{s:Shared}
end
end TX
end L2
end S_TX1
section S_TX2
namespace L2
namespace TX
open PySem PySem.Spec PyProof.Rows
section
variable {prog:Program}{w:World}{A:Around}{R:Result->Shared->Prop}{I:Addr}{fp wr:List Addr}{G:Array GenState->Array GenState->Prop}{n:Nat}{P:Nat->Value->Prop}{St:Nat->Shared->Prop}
end
section
variable {prog:Program}{w:World}{A:Around}{E:Value->Shared->Prop}{s:Shared}
end
end TX
end L2
end S_TX2
section S_TX3
open Lean in
set_option hygiene false in
local macro_rules|`(tactic| sizeOf_list_dec)=>do
 let n (s:String):TSyntax `ident:=mkIdent (mkPrivateNameCore `PySem.SetOps (Name.str `PySem s))
 `(tactic| delta $(n "drawn"))
open Lean in
set_option hygiene false in
local macro_rules|`(tactic| array_get_dec)=>do
 let n (s:String):TSyntax `ident:=mkIdent (mkPrivateNameCore `PySem.SetOps (Name.str `PySem s))
 `(tactic| delta $(n "mustBeLedForItsPlaces"))
namespace L2
namespace TX
open PySem PySem.Spec PyProof.Rows
section
variable {prog:Program}{w:World}{A:Around}{E:Value->Shared->Prop}{s:Shared}
end
end TX
end L2
end S_TX3
section S_TX4
open Lean in
set_option hygiene false in
local macro_rules|`(tactic| sizeOf_list_dec)=>do
 let n (s:String):TSyntax `ident:=mkIdent (mkPrivateNameCore `PySem.SetOps (Name.str `PySem s))
 `(tactic| delta $(n "drawn"))
open Lean in
set_option hygiene false in
local macro_rules|`(tactic| array_get_dec)=>do
 let n (s:String):TSyntax `ident:=mkIdent (mkPrivateNameCore `PySem.SetOps (Name.str `PySem s))
 `(tactic| delta $(n "mustBeLedForItsPlaces"))
namespace L2
namespace TX
open PySem PySem.Spec PyProof.Rows
section
variable {prog:Program}{w:World}{A:Around}{E:Value->Shared->Prop}{s:Shared}
end
end TX
end L2
end S_TX4
section S_TX5
open Lean in
set_option hygiene false in
local macro_rules|`(tactic| sizeOf_list_dec)=>do
 let n (s:String):TSyntax `ident:=mkIdent (mkPrivateNameCore `PySem.SetOps (Name.str `PySem s))
 `(tactic| delta $(n "drawn"))
namespace L2
namespace TX
open PySem PySem.Spec PyProof.Rows
section
variable {prog:Program}{w:World}{A:Around}{E:Value->Shared->Prop}{s:Shared}
end
end TX
end L2
end S_TX5
section S_TX6
namespace L2
namespace TX
open PySem PySem.Spec PyProof.Rows
section
variable {prog:Program}{w:World}{A:Around}{E:Value->Shared->Prop}{s:Shared}
end
end TX
end L2
end S_TX6
section S_TX7
namespace L2
namespace TX
open PySem PySem.Spec PyProof.Rows
noncomputable def leT (a b:Str):Bool:=!decide (b.cps.toList < a.cps.toList)
theorem Tu {a b:Str} (h:a.cps.toList=b.cps.toList):a=b:=by
 cases a;cases b;simp only at h;rw[Array.toList_inj.mp h]
theorem leT_anti {a b:Str} (h:leT a b=true) (h':leT b a=true):a=b:=by
 unfold leT at h h'
 simp only[Bool.not_eq_true',decide_eq_false_iff_not,List.not_lt] at h h'
 exact Tu (List.le_antisymm h h')
theorem leT_trans (a b c:Str) (h:leT a b=true) (h':leT b c=true):leT a c=true:=by
 unfold leT at h h' ⊢
 simp only[Bool.not_eq_true',decide_eq_false_iff_not,List.not_lt] at h h' ⊢
 exact List.le_trans h h'
theorem leT_total (a b:Str):(leT a b||leT b a)=true:=by
 unfold leT
 rcases List.le_total a.cps.toList b.cps.toList with h|h
 ·have:¬ b.cps.toList < a.cps.toList:=List.not_lt.mpr h
  simp[this]
 ·have:¬ a.cps.toList < b.cps.toList:=List.not_lt.mpr h
  simp[this]
section
variable {prog:Program}{w:World}{A:Around}{E:Value->Shared->Prop}{s:Shared}
end
end TX
end L2
end S_TX7
section S_DX1
namespace L2
namespace TX
open PySem PySem.Spec PyProof.Rows
section
variable {prog:Program}{w:World}{A:Around}{E:Value->Shared->Prop}{s:Shared}
theorem Afo:typeLookup (.type "tuple") "keys"=pure none:=by rw[Ba8,Bai];kernel_rfl
theorem Xa {a:Addr}{o:Obj}{xs:Array Value}{k:Nat}{Q:Option Value->Shared->Prop} (hx:s.heap.get? a=some o) (hc:o.cls=.type "tuple") (hdat:o.data=.seq xs k) (hd:o.dict=none) (hA:A.handled=none)
  (h:∀ h' tk,(∀ b ob,s.heap.get? b=some ob->h'.get? b=some ob)->Q none { s with heap:=h',toks:=tk }):wpAny (model prog w) A (getAttr? (.ref a) "keys") Q E s:=by
 obtain⟨c,dct,dat,sl⟩:=o
 simp only at hc hdat hd
 subst hc hdat hd
 obtain⟨hp,g,d,tk,os⟩:=s
 have hT:∀ tk',(⟨hp,g,d,tk',os⟩:Shared).TypeIs (.ref a) "tuple":=fun _=>⟨_,hx,rfl⟩
 have f1:=sub_AttributeError
 have f3:=PySem.F.slot_tuple_getattribute.lookup
 have f4:=PySem.F.slot_tuple_getattribute.bind (.ref a)
 have f5:=am_tuple_getattr_none
 unfold getAttr? getAttrBy? getAttrBy
 repeat (any_goals (first|assumption|exact hT _|((with_reducible show wpAny _ _ (call (Value.builtin "tuple.__getattribute__") _ _) _ _ _);refine call_meets PySem.F.slot_tuple_getattribute (hT _) am_entry_tuple_getattribute (PySem.F.args_tuple_getattribute_2 _ _) (meets_getattribute_miss_tuple a xs k sl "keys" _ Afo (by decide +kernel) (by decide +kernel)) ⟨hx,hA,fun h' tk' e hx'=>?_⟩)|wp_step))
 obtain⟨t',u',he⟩:=hx'.there
 show wpAny _ _ (getattributeRaised _ _ _ _ _ _ _) _ _ _
 unfold getattributeRaised
 repeat (any_goals (first|assumption|wp_step))
 exact h _ _ hx'.keeps
end
end TX
end L2
end S_DX1
section S_DX2
namespace L2
namespace TX
open PySem PySem.Spec PyProof.Rows
theorem O0:entryFor table "dict.update.loop"=some Builtin.«dict.update.loop»:=entryFor_of_tree (by kernel_rfl)
theorem G0:plainId "dict.update.loop"=true:=by decide +kernel
structure Fills (prog:Program) (w:World) (A:Around) (d:Addr) (wr:List Addr) (n:Nat) (P:Nat->Value->Prop) (C:Heap->Prop) (Dn:Nat->Heap->Prop):Prop where
 pair:∀ i v h,i < n->P i v->C h->∃ (a:Addr) (o:Obj) (c:Nat) (k x:Value),v=.ref a/\h.get? a=some o/\o.cls=.type "tuple"/\o.data=.seq #[k,x] c /\
  ∀ (s:Shared) (Q:Unit->Shared->Prop) (E:Value->Shared->Prop),s.heap=h->Dn i h->(∀ h' tk,s.toks<=tk->Heap.SameBut d s.heap h'->Dn (i+1) h'->Q () { s with heap:=h',toks:=tk })->wpAny (model prog w) A (dictSet d k x) Q E s
 cKeep:∀ h h',C h->(∀ b o,b≠d->b∉wr->h.get? b=some o->h'.get? b=some o)->C h'
 dKeep:∀ i h h',Dn i h->(∀ b o,b∉wr->h.get? b=some o->h'.get? b=some o)->Dn i h'
section
variable {prog:Program}{w:World}{A:Around}{E:Value->Shared->Prop}{R:Result->Shared->Prop}{I:Addr}{fp wr:List Addr}{G:Array GenState->Array GenState->Prop}{n:Nat}{P:Nat->Value->Prop}{St:Nat->Shared->Prop}{C:Heap->Prop}{Dn:Nat->Heap->Prop}
theorem N1 {s:Shared}{a:Addr}{o:Obj}{c:Nat}{k x:Value}{Q:List Value->Shared->Prop} (ho:s.heap.get? a=some o) (hc:o.cls=.type "tuple") (hd:o.data=.seq #[k,x] c) (h:Q [k,x] s):wpAny (model prog w) A (Builtin.Dict.pairItems (.ref a)) Q E s:=by
 unfold Builtin.Dict.pairItems
 refine Azc (Bbw (T:="tuple") ⟨o,ho,hc⟩ ?_)
 rw[Azp (by decide)]
 refine Azc (Bbg ho hd ?_)
 exact Azi h
theorem Yt (W:WalksS prog w A.in1 I fp wr G n P St) (d:Addr) (hdf:d∉fp) (F:Fills prog w A.in1 d wr n P C Dn) (res:Value) :
  ∀ (k i:Nat) (s:Shared),n - i=k->i<=n->St i s->C s.heap->Dn i s.heap->(∀ s',Moved (d::wr) G s s'->Dn n s'.heap->R (.ok (.ret res)) s') ->
   codeAny (model prog w) A (.builtin "dict.update.loop" ⟨[.ref d,.ref I,rawInt i,res],[]⟩) R s:=by
 have hdw:d∉wr:=fun h=>hdf (W.sub _ h)
 have hsub:∀ b∈wr,b∈d::wr:=fun b hb=>Azf _ hb
 intro k
 induction k with
 |zero =>
  intro i s hk hi hst hC hD hR
  have hin:i=n:=by lia
  subst hin
  refine codeAny_builtin O0 ?_
  rw[Around.under_plainId G0 _]
  show wpAny _ A.in1 (pyNext (.ref I) >>= _) _ _ s
  refine Azc (W.done s _ _ hst fun s' hm=>?_)
  show wpAny _ A.in1 (Builtin.Dict.addKeywords d [] >>= fun _=>ret res) _ _ s'
  refine Azc (Azi ?_)
  exact Azi (hR s' (hm.mono hsub) (F.dKeep _ _ _ hD fun b o hb e=>hm.heap b o hb e))
 |succ k ih =>
  intro i s hk hi hst hC hD hR
  have hlt:i < n:=by lia
  refine codeAny_builtin O0 ?_
  rw[Around.under_plainId G0 _]
  show wpAny _ A.in1 (pyNext (.ref I) >>= _) _ _ s
  refine Azc (W.item i s _ _ hlt hst fun v s' hP hst' hm=>?_)
  have hC':C s'.heap:=F.cKeep _ _ hC fun b o _ hb e=>hm.heap b o hb e
  have hD':Dn i s'.heap:=F.dKeep _ _ _ hD fun b o hb e=>hm.heap b o hb e
  obtain⟨a,o,c,kv,xv,rfl,ho,hc,hd,hset⟩:=F.pair i v s'.heap hlt hP hC'
  refine Azc (Bah (Azc (wpAny_tryCatch (N1 ho hc hd ?_))))
  refine Bah (hset s' _ _ rfl hD' fun h' tk htk hsb hD2=>?_)
  refine Azi ⟨plainId_quiet G0 _,?_⟩
  refine ih (i+1) _ (by lia) hlt (W.frame _ s' _ _ hst' htk fun b hb o e=>?_) (F.cKeep _ _ hC' fun b o hb _ e=>(hsb.2 b hb).trans e) hD2 fun s'' hm'' hD''=>?_
  ·exact (hsb.2 b (fun h:b=d=>hdf (by rw[<- h];exact hb))).trans e
  ·refine hR s'' (Moved.trans W.gtrans ((hm.mono hsub).then_heap htk fun b o hb e=>?_) hm'') hD''
   exact (hsb.2 b (fun h:b=d=>hb (by rw[h];exact Azg))).trans e
end
end TX
end L2
end S_DX2
section S_DX3
namespace L2
namespace TX
open PySem PySem.Spec PyProof.Rows
section
variable {prog:Program}{w:World}{A:Around}{E:Value->Shared->Prop}{s:Shared}{C:Heap->Prop}{Dn:Nat->Heap->Prop}
noncomputable def L1:Obj:={ cls:=.type "dict",data:=.dict #[] }
theorem dict_tuple {t:Addr}{o:Obj}{items:Array Value}{c:Nat}{Q:Value->Shared->Prop} (hh:A.handled=none) (ho:s.heap.get? t=some o) (hc:o.cls=.type "tuple") (hdat:o.data=.seq items c) (hd:o.dict=none)
  (F:∀ I,s.heap.objs.size < I->Fills prog w A.in1.in1 s.heap.objs.size [I] items.size (fun i v=>items[i]?=some v) C Dn)
  (hC:∀ h,(∀ b ob,s.heap.get? b=some ob->h.get? b=some ob)->C h) (hD:∀ h,h.get? s.heap.objs.size=some L1->Dn 0 h)
  (h:∀ h' tk,(∀ b ob,s.heap.get? b=some ob->h'.get? b=some ob)->Dn items.size h'->Q (.ref s.heap.objs.size) { s with heap:=h',toks:=tk }) :
  wpAny (model prog w) A (call (.type "dict") [.ref t]) Q E s:=by
 refine callType_codes (Q₁:=fun obj s₁=>obj=.ref s.heap.objs.size/\s₁={ s with heap:=s.heap.push L1 }) PySem.F.kt_called_dict (PySem.F.kt_typeCall_dict_1 _) PySem.F.entry_dict_init (kt_code_dict_new _ ⟨rfl,rfl⟩) ?_
 rintro obj s₁ ⟨rfl,rfl⟩
 have hlt:t < s.heap.objs.size:=Azj ho
 have hg:(s.heap.push L1).get? s.heap.objs.size=some L1:=Azq _ rfl
 have hT:Shared.TypeIs { s with heap:=s.heap.push L1 } (.ref s.heap.objs.size) "dict":=⟨_,hg,rfl⟩
 have ho1:(s.heap.push L1).get? t=some o:=Aze _ ho
 refine⟨hT,PySem.F.args_dict_init_2 _ _,?_⟩
 unfold Builtin.«dict.__init__»
 refine Azc ?_
 unfold Builtin.Dict.selfAndRest
 refine Azc (wpAny_notOrdered_dict hT ?_)
 show wpAny _ _ (pure (s.heap.objs.size,[Value.ref t])) _ _ _
 refine Azi ?_
 show wpAny _ _ (Builtin.Dict.updateFrom "dict.__init__" s.heap.objs.size (.ref t) [] .none) _ _ _
 unfold Builtin.Dict.updateFrom
 refine Azc (Bbw (T:="tuple") ⟨o,ho1,hc⟩ ?_)
 rw[Azp (by decide)]
 refine Azc (Xa ho1 hc hdat hd hh fun h1 tk1 hk1=>?_)
 rw[Azp (show (none:Option Value).isNone=true from rfl)]
 refine Azc (wpAny_rule ?_)
 have ht1:h1.IsTuple t items:=⟨o,hk1 _ _ ho1,hc,c,hdat⟩
 refine Azc (wpAny_pyIter_tuple ht1 ?_)
 have hI:s.heap.objs.size < h1.objs.size:=Azj (hk1 _ _ hg)
 have htI:t≠h1.objs.size:=Az1 (Nat.lt_trans hlt hI)
 have kp:∀ b ob,s.heap.get? b=some ob->(h1.push { cls:=.type "tuple_iterator",data:=.fields #[.ref t,.int 0 0] }).get? b=some ob:=fun b ob e=>Aze _ (hk1 _ _ (Aze _ e))
 refine Azi ⟨plainId_quiet G0 _,?_⟩
 refine Yt ((Walks.tuple (A:=A.in1.in1) hh h1.objs.size t htI items).toS) s.heap.objs.size (by
  simp only[Bba,Bap,or_false,not_or]
  exact⟨Az1 hI,Bao hlt⟩) (F h1.objs.size hI) .none items.size 0 _ (by lia) (Az5 _) ⟨⟨_,Azq _ rfl,rfl,rfl⟩,ht1.push _⟩ (hC _ kp) (hD _ (Aze _ (hk1 _ _ hg))) fun s' hm hD'=>?_
 obtain⟨h',g',d',tk',os'⟩:=s'
 have eg:g'=s.gens:=hm.gens
 have ed:d'=s.drawn:=hm.drawn
 have eo:os'=s.os:=hm.os
 subst eg;subst ed;subst eo
 refine⟨rfl,h h' tk' (fun b ob e=>?_) hD'⟩
 refine hm.heap b ob (fun hb=>?_) (kp b ob e)
 have hb':=Azj e
 rcases List.mem_cons.mp hb with rfl|hb
 ·exact absurd hb' (Az9 _)
 ·rw[List.mem_singleton.mp hb] at hb'
  exact absurd (Nat.lt_trans hI hb') (Az9 _)
end
end TX
end L2
end S_DX3
section S_ML36
namespace L2
namespace ML
open PySem PySem.Spec PyProof.Rows
abbrev Al9 (kvs:List (Key×V)) (k:Key) (v:V):List (Key×V):=if kvs.any (fun kv=>kv.1=k) then kvs.map (fun kv=>if kv.1=k then (kv.1,v) else kv) else kvs++[(k,v)]
theorem KV.any {kvs:List (Key×V)}{us:List (Key×Value)} (r:KV kvs us) (k:Key):kvs.any (fun kv=>kv.1=k)=us.any (fun kv=>kv.1=k):=by
 induction r with
 |nil=>rfl
 |cons h t ih=>rw[Ba0,Ba0,ih,h.1]
theorem KV.put {kvs:List (Key×V)}{us:List (Key×Value)} (r:KV kvs us) (k:Key) {y:V}{u:Value} (ry:RelV y u):KV (Al9 kvs k y) (stored us k u):=by
 have e0:=KV.any r k
 have c1:KV (kvs.map fun kv=>if kv.1=k then (kv.1,y) else kv) (us.map fun kv=>if kv.1=k then (kv.1,u) else kv):=by
  clear e0
  induction r with
  |nil=>exact .nil
  |@cons p q ps qs h t ih =>
   refine .cons ?_ ih
   dsimp only
   by_cases e:p.1=k
   ·rw[Azp e,Azp (h.1.symm.trans e)];exact⟨h.1,ry⟩
   ·rw[Azs e,Azs (fun z=>e (h.1.trans z))];exact h
 have c2:KV (kvs++[(k,y)]) (us++[(k,u)]):=by
  clear e0 c1
  induction r with
  |nil=>exact .cons ⟨rfl,ry⟩ .nil
  |cons h t ih=>exact .cons h ih
 unfold Al9 stored
 rw[e0]
 split
 ·exact c1
 ·exact c2
noncomputable def Ah8 (kvs:List (Key×V)) (k:Key):Option V:=(kvs.find? fun kv=>kv.1=k).map (·.2)
theorem KV.val {kvs:List (Key×V)}{us:List (Key×Value)} (r:KV kvs us) (k:Key):Ano (Ah8 kvs k) (valueAt us k):=by
 induction r with
 |nil=>exact True.intro
 |@cons p q ps qs h t ih =>
  unfold Ah8 valueAt at ih ⊢
  rw[Ba2,Ba2]
  by_cases e:p.1=k
  ·have e':q.1=k:=h.1.symm.trans e
   simp only[e,e',decide_true]
   exact h.2
  ·have e':¬ q.1=k:=fun z=>e (h.1.trans z)
   simp only[e,e',decide_false]
   exact ih
noncomputable def Adh:List Str->List D->Str->Option D
 |k::ks,v::vs,x=>if k=x then some v else Adh ks vs x
 |_,_,_=>none
noncomputable def At2:List Str->List D->Str->D->List D
 |k::ks,v::vs,x,y=>(if k=x then y else v)::At2 ks vs x y
 |_,vs,_,_=>vs
def Aa8 (ks:List Str) (vs:List D) (x:Str) (y:D):List Str×List D:=if x∈ks then (ks,At2 ks vs x y) else (ks++[x],vs++[y])
section
variable {K:W.Frag}{H:Hp}{μ:List Addr}{B:Addr->Prop}
inductive RS (K:W.Frag) (H:Hp) (μ:List Addr) (B:Addr->Prop) (ks:List Str) (vs:List D) (kvs:List (Key×V)):Prop
 |mk (h1:ks.map Sum.inr=kvs.map (·.1)) (h2:Reps K H μ B vs (kvs.map (·.2)))
theorem RS.cons_inv {k:Str}{ks:List Str}{vs:List D}{kvs:List (Key×V)} (r:RS K H μ B (k::ks) vs kvs):∃ v vs' p kvs',vs=v::vs'/\kvs=p::kvs'/\p.1=.inr k/\Rep K H μ B v p.2/\RS K H μ B ks vs' kvs':=by
 obtain⟨h1,h2⟩:=r
 cases kvs with
 |nil=>simp at h1
 |cons p kvs =>
  rw[Azm,Azm] at h1
  obtain⟨e1,e2⟩:=List.cons.inj h1
  rw[Azm] at h2
  cases h2 with
  |cons r rs=>exact⟨_,_,p,kvs,rfl,rfl,e1.symm,r,e2,rs⟩
theorem RS.nil_inv {vs:List D}{kvs:List (Key×V)} (r:RS K H μ B [] vs kvs):vs=[]/\kvs=[]:=by
 obtain⟨h1,h2⟩:=r
 cases kvs with
 |nil=>cases h2;exact⟨rfl,rfl⟩
 |cons p kvs=>simp at h1
theorem RS.any {ks:List Str}{vs:List D}{kvs:List (Key×V)} (r:RS K H μ B ks vs kvs) (x:Str):kvs.any (fun kv=>kv.1=.inr x)=decide (x∈ks):=by
 induction ks generalizing vs kvs with
 |nil=>obtain⟨rfl,rfl⟩:=r.nil_inv;rfl
 |cons k ks ih =>
  obtain⟨v,vs,p,kvs,rfl,rfl,e,_,r⟩:=r.cons_inv
  rw[Ba0,ih r,e]
  by_cases q:x=k
  ·subst q;simp
  ·have:¬ (Sum.inr k:Key)=Sum.inr x:=fun z=>q (Sum.inr.inj z).symm
   simp[q,Bak q]
theorem RS.get {ks:List Str}{vs:List D}{kvs:List (Key×V)} (r:RS K H μ B ks vs kvs) {x:Str}{z:D} (h:Adh ks vs x=some z):∃ v,Ah8 kvs (.inr x)=some v/\Rep K H μ B z v:=by
 induction ks generalizing vs kvs with
 |nil=>cases h
 |cons k ks ih =>
  obtain⟨v,vs,p,kvs,rfl,rfl,e,rv,r⟩:=r.cons_inv
  rw[Adh] at h
  unfold Ah8
  rw[Ba2]
  by_cases q:k=x
  ·rw[Azp q] at h
   cases h
   subst q
   simp only[e,decide_true]
   exact⟨_,rfl,rv⟩
  ·rw[Azs q] at h
   have:¬ (Sum.inr k:Key)=Sum.inr x:=fun z=>q (Sum.inr.inj z)
   simp only[e,this,decide_false]
   exact ih r h
theorem RS.put {ks:List Str}{vs:List D}{kvs:List (Key×V)} (r:RS K H μ B ks vs kvs) (x:Str) {y:D}{v:V} (ry:Rep K H μ B y v):RS K H μ B (Aa8 ks vs x y).1 (Aa8 ks vs x y).2 (Al9 kvs (.inr x) v):=by
 unfold Aa8 Al9
 rw[r.any x]
 by_cases q:x∈ks
 ·rw[Azp q,Azp (by simpa using q)]
  clear q
  induction ks generalizing vs kvs with
  |nil=>obtain⟨rfl,rfl⟩:=r.nil_inv;exact r
  |cons k ks ih =>
   obtain⟨w,vs,p,kvs,rfl,rfl,e,rv,r⟩:=r.cons_inv
   obtain⟨i1,i2⟩:=ih r
   refine⟨?_,?_⟩
   ·rw[Azm,Azm,Azm,i1]
    congr 1
    split<;>exact e.symm
   ·show Reps K H μ B (At2 (k::ks) (w::vs) x y) _
    rw[At2,Azm,Azm]
    refine .cons ?_ i2
    by_cases q:k=x
    ·subst q;rw[Azp rfl,Azp e];exact ry
    ·rw[Azs q,Azs (fun z=>q (Sum.inr.inj (e.symm.trans z)))];exact rv
 ·rw[Azs q,Azs (by simpa using q)]
  obtain⟨h1,h2⟩:=r
  refine⟨?_,?_⟩
  ·rw[Bav,Bav,h1];rfl
  ·rw[Bav];exact h2.append (.cons ry .nil)
end
noncomputable def Yu (m:MH):D->Option (List Str×List D)
 |.dks ks vs=>some (ks,vs)
 |.ref n=>match m[n]? with
  |some (.dcs ks vs)=>some (ks,vs)
  |_=>none
 |_=>none
def Aaf:D->D->MH->Option D:=fun x y m=>(Yu m x).bind fun kv=>match y with
 |.str k=>Adh kv.1 kv.2 k
 |_=>none
def Aqk:D->D->MH->Option D:=fun x y m=>(Yu m y).bind fun kv=>match x with
 |.str k=>some (.bl (decide (k∈kv.1)))
 |_=>none
def Nw:D->D->MH->Option D:=fun x y m=>(Yu m y).bind fun kv=>match x with
 |.str k=>some (.bl (!decide (k∈kv.1)))
 |_=>none
section
variable {K:W.Frag}{H:Hp}{μ:List Addr}{B:Addr->Prop}
theorem Rv (S:Sim K H μ m) {d:D} (r:Rep K H μ (·∈μ) d v) (h:Yu m d=some (ks,vs)):∃ a kvs,v=.ref a/\Rd H a (.dK kvs)/\RS K H μ (·∈μ) ks vs kvs:=by
 cases r with
 |dks h1 h2 h3 h4=>cases h;exact⟨_,_,rfl,h1,h3,h4⟩
 |@ref n a e =>
  unfold Yu at h
  cases q:m[n]? with
  |none=>simp[q] at h
  |some o =>
   simp only[q] at h
   cases o with
   |lst _=>exact Ad h
   |dct _ _=>exact Ad h
   |dcs ks vs =>
    cases h
    obtain⟨kvs,q1,q2,q3⟩:=S.obj n a _ e q
    exact⟨a,kvs,rfl,.inl q1,q2,q3⟩
 |_=>exact Ad h
end
section
variable {X:Cx}{pins:List (Addr×Obj)}{σ:St}{H:Hp}{s:Shared}{a:Addr}
theorem Ajd (I:Inv X pins σ H s) (e:Rd H a (.dK kvs)):kvs.length<=sizeLine/\(a == sysModules)=false/\∃ us,KV kvs us/\s.heap.DictOf (Gc X.prog X.w) a us :=
 (show ObjOk X.prog X.w X.K H s.heap a (.dK kvs) from e.ok I.hok)
end
section
variable {X:Cx}{a b c e:Expr}{es:List Expr}{pos p p':Pos}{x:Str}
theorem Ak9 {f g:FE} (ha:PD X a f) (hb:PD X b g) (hs:Jc b):PD X (.Subscript a b pos) (f2 Aaf f g):=by
 intro pins s σ H Q I ⟨env,μ,m,z,S,E,h,q⟩
 obtain⟨d1,h1,h⟩:=bind_some h
 obtain⟨d2,h2,h⟩:=bind_some h
 obtain⟨kv,h3,h⟩:=bind_some h
 refine Subscript_ (Atm ha hb I (show tE X.K f σ H fun x H1=>tE X.K g σ H1 fun y H2=>Same H H2/\Rep X.K H2 μ (·∈μ) d1 x/\Rep X.K H2 μ (·∈μ) d2 y from ⟨env,μ,m,d1,S,E,h1,fun v H1 s1 r1=>⟨env,μ,m,d2,S.same s1,E.same s1,h2,fun u H2 s2 r2=>⟨s1.trans s2,r1.same s2,r2⟩⟩⟩) fun v u s2 x y H2 I2 rx ry q2=>?_)
 obtain⟨sm,r1,r2⟩:=q2
 cases r2 with
 |str k ok =>
  obtain⟨ad,kvs,rfl,hd,rs⟩:=Rv (S.same sm) r1 (by rw[h3])
  obtain⟨w,hw,rw'⟩:=rs.get h
  cases rx
  obtain⟨t,rfl⟩:=ry
  obtain⟨z1,hm,us,rel,dd⟩:=Ajd I2 hd
  have q3:=KV.val rel (.inr k)
  rw[hw] at q3
  cases q4:valueAt us (.inr k) with
  |none=>rw[q4] at q3;exact (show False from q3).elim
  |some w' =>
   rw[q4] at q3
   refine subscriptTail_builtinR (x:=w') dd.typeIs slot_dict_getitem.lookup (wpAny_getItem_of (Gv k t) dd.mapOf q4 ?_) (hs _ _)
   exact⟨rfl,w,H2,I2.tok _,q3,q w H2 sm rw'⟩
 |_=>exact Ad h
theorem Aak:OpM X (compareOp .In) Aqk:=by
 intro pins s σ H μ m x y z v u v' u' Q I S rx ry r1 r2 e q
 obtain⟨kv,h3,h⟩:=bind_some e
 cases rx with
 |str k ok =>
  cases h
  obtain⟨ad,kvs,rfl,hd,rs⟩:=Rv S ry (by rw[h3])
  obtain⟨t,rfl⟩:=r1
  cases r2
  obtain⟨z1,hm,us,rel,dd⟩:=Ajd I hd
  refine wpAny_in_of (knd:=Gc X.prog X.w) (k:=.inr k) (Gv k t) hm dd.mapOf ?_
  have q3:=Abq (KV.val rel (.inr k))
  have q5:(Ah8 kvs (.inr k)).isSome=decide (k∈kv.1):=by
   rw[<- rs.any k]
   unfold Ah8
   rw[Option.isSome_map,Ba3,List.find?_isSome,List.any_eq_true]
  rw[<- q3,q5]
  exact⟨.bl _,H,I.tok _,rfl,q _ H (Same.refl H) (.bl _)⟩
 |_=>exact Ad h
end
noncomputable def Hx:List D->Option (List (Str×D))
 |[]=>some []
 |.tup [.str k,v]::ds=>(Hx ds).bind fun r=>some ((k,v)::r)
 |_=>none
def Oz (ps:List (Str×D)):List Str×List D:=ps.foldl (fun a p=>Aa8 a.1 a.2 p.1 p.2) ([],[])
def Mi:List D->MH->Option D:=fun xs _=>match xs with
 |[.tup ds]=>(Hx ds).bind fun ps=>some (.dks (Oz ps).1 (Oz ps).2)
 |_=>none
abbrev Q4:=Str×D×V×Value
def fD (T:List Q4):List Str×List D:=T.foldl (fun a q=>Aa8 a.1 a.2 q.1 q.2.1) ([],[])
noncomputable def fV (T:List Q4):List (Key×V):=T.foldl (fun l q=>Al9 l (.inr q.1) q.2.2.1) []
noncomputable def fU (T:List Q4):List (Key×Value):=T.foldl (fun l q=>stored l (.inr q.1) q.2.2.2) []
theorem Ajf (T:List Q4) (q:Q4):fU (T++[q])=stored (fU T) (.inr q.1) q.2.2.2:=by unfold fU;rw[List.foldl_append];rfl
theorem Xx (l:List (Key×Value)) (k:Key) (v:Value):(stored l k v).length<=l.length+1:=by
 unfold stored
 split
 ·rw[Azr];lia
 ·simp
theorem Agf (T:List Q4):(fU T).length<=T.length:=by
 have go:∀ (T:List Q4) (l:List (Key×Value)),(T.foldl (fun l q=>stored l (.inr q.1) q.2.2.2) l).length<=l.length+T.length:=by
  intro T
  induction T with
  |nil=>intro l;simp
  |cons q T ih=>intro l;have h1:=ih (stored l (.inr q.1) q.2.2.2);have h2:=Xx l (.inr q.1) q.2.2.2;simp only[List.foldl_cons,Azo];lia
 have:=go T []
 simpa [fU] using this
theorem Avb {K:W.Frag}{H:Hp}{μ:List Addr}{B:Addr->Prop} (T:List Q4) (hT:∀ q∈T,Rep K H μ B q.2.1 q.2.2.1/\RelV q.2.2.1 q.2.2.2):RS K H μ B (fD T).1 (fD T).2 (fV T)/\KV (fV T) (fU T):=by
 have go:∀ (T:List Q4) (a:List Str×List D) (l:List (Key×V)) (u:List (Key×Value)),(∀ q∈T,Rep K H μ B q.2.1 q.2.2.1/\RelV q.2.2.1 q.2.2.2)->RS K H μ B a.1 a.2 l->KV l u ->
   RS K H μ B (T.foldl (fun a q=>Aa8 a.1 a.2 q.1 q.2.1) a).1 (T.foldl (fun a q=>Aa8 a.1 a.2 q.1 q.2.1) a).2 (T.foldl (fun l q=>Al9 l (.inr q.1) q.2.2.1) l)/\KV (T.foldl (fun l q=>Al9 l (.inr q.1) q.2.2.1) l) (T.foldl (fun l q=>stored l (.inr q.1) q.2.2.2) u):=by
  intro T
  induction T with
  |nil=>intro a l u _ h1 h2;exact⟨h1,h2⟩
  |cons q T ih =>
   intro a l u hT h1 h2
   have hq:=hT q (Azg ..)
   exact ih _ _ _ (fun q hq=>hT q (Azf _ hq)) (h1.put q.1 hq.1) (KV.put h2 (.inr q.1) hq.2)
 exact go T ([],[]) [] [] hT ⟨rfl,.nil⟩ .nil
section
variable {X:Cx}{pins:List (Addr×Obj)}{σ:St}{H:Hp}{s:Shared}{μ:List Addr}{B:Addr->Prop}
theorem Xk (I:Inv X pins σ H s):∀ {ds:List D}{xs:List V}{its:List Value}{ps:List (Str×D)},Reps X.K H μ B ds xs->Vals xs its->Hx ds=some ps ->
  ∃ T:List Q4,ps=T.map (fun q=>(q.1,q.2.1))/\T.length=its.length/\(∀ q∈T,Rep X.K H μ B q.2.1 q.2.2.1/\RelV q.2.2.1 q.2.2.2) /\
   ∀ (i:Nat) (v:Value),its[i]?=some v->∃ (q:Q4) (a:Addr) (o:Obj) (c t:Nat),T[i]?=some q/\v=.ref a/\s.heap.get? a=some o/\o.cls=.type "tuple"/\o.data=.seq #[.str q.1 t,q.2.2.2] c:=by
 intro ds
 induction ds with
 |nil=>intro xs its ps r rv h;cases r;cases rv;cases h;exact⟨[],rfl,rfl,(fun _ h=>absurd h (by simp)),fun i v h=>absurd h (by simp)⟩
 |cons d ds ih =>
  intro xs its ps r rv h
  cases r with
  |cons r rs =>
  cases rv with
  |cons rv1 rvs =>
  match d,r,h with
  |.tup [.str k,w],r,h =>
   obtain⟨ps',h1,h2⟩:=bind_some h
   cases h2
   obtain⟨T,e1,e2,e3,e4⟩:=ih rs rvs h1
   cases r with
   |@tup _ a zs hq rs' =>
    obtain⟨its',rz,⟨o,ho,hc,n,hd⟩,_⟩:=I.tuple hq
    cases rs' with
    |cons ra rs' =>
    cases rs' with
    |@cons _ vb _ _ rb rs' =>
    cases rs'
    cases ra
    cases rz with
    |cons ra1 rz =>
    cases rz with
    |@cons _ ub _ _ rb1 rz =>
    cases rz
    obtain⟨t,rfl⟩:=ra1
    cases rv1
    refine⟨(k,w,vb,ub)::T,by rw[Azm,<- e1],by rw[Azo,Azo,e2],fun q hq=>?_,fun i v hv=>?_⟩
    ·rcases List.mem_cons.mp hq with rfl|hq
     ·exact⟨rb,rb1⟩
     ·exact e3 q hq
    ·cases i with
     |zero=>simp at hv;subst hv;exact⟨_,a,o,n,t,rfl,rfl,ho,hc,hd⟩
     |succ i =>
      rw[Baz] at hv
      obtain⟨q,a',o',c',t',h1,h2⟩:=e4 i v hv
      exact⟨q,a',o',c',t',by rw[Baz];exact h1,h2⟩
theorem Ada (hr:Room k X.A):Lp X (.type "dict") Mi:=by
 intro pins s σ H μ m xs z vs us Q I S rx rv e q
 match xs,e with
 |[.tup ds],e =>
  obtain⟨ps,h1,h2⟩:=bind_some e
  cases h2
  obtain⟨v,rfl,r⟩:=rx.one
  obtain⟨u,rfl,ru⟩:=G5 rv
  cases r with
  |@tup _ t zs hq rs =>
  cases ru
  obtain⟨its,rz,⟨o,ho,hc,n,hd,hdn⟩,hz⟩:=I.tupleD hq
  obtain⟨T,e1,e2,e3,e4⟩:=Xk I rs rz h1
  have ep:Oz ps=fD T:=by rw[e1];unfold Oz fD;rw[List.foldl_map]
  obtain⟨f1,f2⟩:=Avb T e3
  have hline:sizeLine=16777216:=Bas
  have lz:=rz.length
  have hb:∀ b ob,s.heap.get? b=some ob->b < s.heap.objs.size:=fun b ob e=>Azj e
  refine TX.dict_tuple (C:=fun h=>∀ b ob,s.heap.get? b=some ob->h.get? b=some ob) (Dn:=fun i h=>h.DictOf (Gc X.prog X.w) s.heap.objs.size (fU (T.take i))) hr.hd ho hc hd hdn (fun Ia hI=>⟨fun i v h hi hv hC=>?_,fun h h' hC hk b ob e=>?_,fun i h h' hD hk=>?_⟩) (fun h hk=>hk) (fun h hg=>?_) (fun h' tk hk hD=>?_)
  ·obtain⟨q,a,o',c,t',q1,q2,q3,q4,q5⟩:=e4 i v (by simpa using hv)
   refine⟨a,o',c,_,_,q2,hC _ _ q3,q4,q5,fun s' Q' E' hs hD hQ=>?_⟩
   have et:T.take (i+1)=T.take i++[q]:=by rw[List.take_add_one,q1];rfl
   have hl:=Agf (T.take i)
   have hl2:=List.length_take_le i T
   have hl3:its.toArray.size=its.length:=by simp
   rw[<- hs] at hD
   refine wpAny_dictSet_pairs (knd:=Gc X.prog X.w) (k:=.inr q.1) (hsz:=by lia) (Gv q.1 t') hD fun h' hd' hs'=>?_
   refine hQ h' _ (Bbu _) hs' ?_
   rw[et,Ajf]
   exact hd'
  ·refine hk b ob (Az1 (hb b ob e)) ?_ (hC b ob e)
   intro hm
   rw[List.mem_singleton.mp hm] at e
   exact absurd (Nat.lt_trans hI (hb _ _ e)) (Az9 _)
  ·obtain⟨od,es,ep,h0,r⟩:=hD
   exact⟨od,es,ep,hk _ _ (by simp;exact Az1 hI) h0,r⟩
  ·refine⟨_,_,_,hg,⟨rfl,rfl,rfl⟩,rfl,?_,?_,?_⟩
   ·intro e he;simp at he
   ·exact .nil
   ·exact Bbe
  ·have I1:Inv X pins σ H { s with heap:=h',toks:=tk }:=I.kept hk
   have eT:T.take its.toArray.size=T:=Bbx (by simp[e2])
   rw[eT] at hD
   have hn:H s.heap.objs.size=none:=I.fresh
   have lf:(fV T).length=(fU T).length:=Paired.length f2
   have hl:=Agf T
   have I2:Inv X pins σ (upd H s.heap.objs.size (.dK (fV T))) { s with heap:=h',toks:=tk }:=I.laid (a:=s.heap.objs.size) (o:=.dK (fV T)) (t':=tk) hk (Azn _) ⟨by lia,beq_eq_false_iff_ne.mpr (Bak (Az1 (Ake I))),fU T,f2,hD⟩
   refine⟨.ref s.heap.objs.size,_,I2,rfl,q _ _ (A6 hn) ?_⟩
   obtain⟨g1,g2⟩:=f1
   rw[ep]
   exact .dks (.inl A3) (S.nnone hn) g1 (g2.same (A6 hn))
theorem Px:OpM X (compareOp .NotIn) Nw:=by
 intro pins s σ H μ m x y z v u v' u' Q I S rx ry r1 r2 e q
 obtain⟨kv,h3,h⟩:=bind_some e
 cases rx with
 |str k ok =>
  cases h
  obtain⟨ad,kvs,rfl,hd,rs⟩:=Rv S ry (by rw[h3])
  obtain⟨t,rfl⟩:=r1
  cases r2
  obtain⟨z1,hm,us,rel,dd⟩:=Ajd I hd
  refine wpAny_notIn_of (knd:=Gc X.prog X.w) (k:=.inr k) (Gv k t) hm dd.mapOf ?_
  have q3:=Abq (KV.val rel (.inr k))
  have q5:(Ah8 kvs (.inr k)).isSome=decide (k∈kv.1):=by
   rw[<- rs.any k]
   unfold Ah8
   rw[Option.isSome_map,Ba3,List.find?_isSome,List.any_eq_true]
  rw[<- q3,q5]
  exact⟨.bl _,H,I.tok _,rfl,q _ H (Same.refl H) (.bl _)⟩
 |_=>exact Ad h
end
noncomputable def E4:List D->Option (List Str)
 |[]=>some []
 |.str x::ds=>(E4 ds).bind fun r=>some (x::r)
 |_=>none
section
variable {X:Cx}{e:Expr}{pos p p2 pos2:Pos}{k:Nat}{g:FL}
end
section
variable {X:Cx}{a b e:Expr}{pos p p2 pos2:Pos}{k:Nat}{g:FL}{f h:FE}
theorem U2 (hr:Room k X.A) (hm:X.mg "dict"=none) (ha:QL X [e] g) (hg:Gl X "dict":=by unfold Gl;kernel_rfl) (he':Bp e=true:=by rfl):QD X (.Call (.Name "dict" p) [e] [] pos) (A7 Mi g):=⟨J4 (Ada hr) hg hm (by decide +kernel) ha.out (by decide) (by decide) (Ar he') rfl⟩
theorem Abd (ha:QD X a f) (hb:QD X b h) (hs':Atw b=true:=by rfl):QD X (.Subscript a b pos) (f2 Aaf f h):=⟨Ak9 ha.out hb.out (Nk hs')⟩
end
section
variable {X:Cx}{e e':Expr}{pos p:Pos}{g:FL}
end
section
variable {X:Cx}{a e:Expr}{apos cpos:Pos}
theorem Zj {H:Hp}{s:Shared} (I:Inv X pins σ H s) (rx:Rep X.K H μ B x vx) (nx:Bt x=true) (rux:RelV vx ux) (hu:A.units+dep x < cLine) (rs:Reps X.K H μ B ds vs) (ns:A1 ds=true) (rv:Vals vs us) :
  ∃ e:Value->Bool,(∀ y∈us,SeqAt.EqAt A s y ux (e y))/\∀ (i:Nat) (y:Value) (d:D),us[i]?=some y->ds[i]?=some d->e y=deq d x:=by
 have key:∀ y,∃ b:Bool,∀ (i:Nat) (d:D),us[i]?=some y->ds[i]?=some d->b=deq d x:=fun y=>by
  by_cases h:∃ (i:Nat) (d:D),us[i]?=some y/\ds[i]?=some d
  ·obtain⟨i,d,h1,h2⟩:=h
   refine⟨deq d x,fun j d' h3 h4=>?_⟩
   obtain⟨v,e1,r1⟩:=rs.get h2
   obtain⟨v',e2,r2⟩:=rs.get h4
   obtain⟨u,e3,r3⟩:=rv.get e1
   obtain⟨u',e4,r4⟩:=rv.get e2
   rw[h1] at e3;cases e3
   rw[h3] at e4;cases e4
   cases r3.inj r4
   unfold deq
   rw[Tn I r1 r2 (Bx ns (Az8 h2)) (Bx ns (Az8 h4))]
  ·exact⟨false,fun i d h1 h2=>absurd ⟨i,d,h1,h2⟩ h⟩
 refine⟨fun y=>Classical.choose (key y),fun y hy=>?_,fun i y d h1 h2=>Classical.choose_spec (key y) i d h1 h2⟩
 obtain⟨i,hi⟩:=Bbp hy
 have hil:i < ds.length:=by
  have:=(List.getElem?_eq_some_iff.mp hi).1
  rw[rs.length,rv.length];exact this
 obtain⟨v,e1,r1⟩:=rs.get (i:=i) (d:=ds[i]) (by simp[hil])
 obtain⟨u,e3,r3⟩:=rv.get e1
 rw[hi] at e3;cases e3
 have ec:=Classical.choose_spec (key y) i ds[i] hi (by simp[hil])
 show SeqAt.EqAt A s y ux (Classical.choose (key y))
 rw[ec]
 exact L4 I r1 rx (Bx ns (Baq hil)) nx r3 rux hu
def Hf:D->List D->MH->Option D:=fun y xs m=>match xs with
 |[x]=>(B7 m x).bind fun x'=>(B7 m y).bind fun y'=>(sqL [] y').bind fun ds=>if dep x'<=50/\ds.length<=1000000 then (ds.findIdx? fun d=>deq d x').bind fun j=>some (.int (j:Nat)) else none
 |_=>none
theorem Z5 (hr:Room k X.A):MtD X "list.index" Hf:=by
 intro pins s σ H μ m y xs z v vs u us Q I S ry rx ru rv e q
 match xs,e with
 |[x],e =>
  obtain⟨x',h1,h⟩:=bind_some e
  obtain⟨y',h2,h⟩:=bind_some h
  obtain⟨ds,h3,h⟩:=bind_some h
  split at h
  ·rename_i hd
   obtain⟨j,hj,h⟩:=bind_some h
   cases h
   obtain⟨vx,rfl,rx1⟩:=rx.one
   obtain⟨ux,rfl,r1⟩:=G5 rv
   obtain⟨a1,n1⟩:=Bd S rx1 h1
   obtain⟨a2,n2⟩:=Bd S ry h2
   have hu:=hr.units
   have hu':X.A.in1.units+dep x' < cLine:=by show X.A.units+1+dep x' < cLine;lia
   have fin:∀ {a:Addr}{its:List Value}{xs:List V}{es:List D},u=.ref a->s.heap.IsList a its.toArray->Reps X.K H [] (fun _=>False) es xs->A1 es=true->Vals xs its->ds=es->wpAny (model X.prog X.w) X.A (call (.builtin "list.index") [u,ux]) (EP X pins σ Q) X.xe s:=fun {a its xs es} eu hl rs ns rv ed=>by
    subst eu ed
    obtain⟨f,h4,h5⟩:=Zj I a1 n1 r1 hu' rs ns rv
    obtain⟨⟨c,dct,dt,sl⟩,ho,hc,n,hdt⟩:=hl
    replace hc:c=.type "list":=hc
    replace hdt:dt=.seq its.toArray n:=hdt
    subst hc hdt
    have l1:=rs.length
    have l2:=rv.length
    obtain⟨hjl,hjt,hjf⟩:=List.findIdx?_eq_some_iff_getElem.mp hj
    have hji:j < its.length:=by lia
    refine call_meets F.slot_list_index ⟨_,ho,rfl⟩ F.entry_list_index (F.args_list_index_2 _ _) (SeqAt.list_indexAt a its.toArray n dct sl ux f j (by simpa using hji) (by lia) ?_ ?_) ⟨ho,fun y hy=>h4 y (by simpa using hy),?_⟩
    ·rw[List.getElem_toArray,h5 j its[j] ds[j] (Azl hji) (Azl hjl)]
     exact hjt
    ·intro i hi hij
     have hi':i < its.length:=by simpa using hi
     rw[List.getElem_toArray,h5 i its[i] ds[i] (Azl hi') (Azl (by lia))]
     simpa using hjf i hij
    ·exact⟨.int _,H,I.kept (t':=s.toks+1) (fun b o e=>e),⟨_,rfl⟩,q _ H (Same.refl H) (.int _)⟩
   cases a2 with
   |@lst es a xs hq _ rs =>
    cases h3
    cases ru
    obtain⟨its,rv,p,_⟩:=I.list (.inl hq)
    exact fin rfl p.isList rs n2 rv rfl
   |@kl es a xs hq rs =>
    cases h3
    cases ru
    obtain⟨its,rv,p,_⟩:=I.list hq.sq
    exact fin rfl p.isList rs n2 rv rfl
   |_=>cases h3
  ·exact Ad h
theorem Abe (hr:Room k X.A) (ho:QD X a f) (ha:QL X [e] g) (hbase':Mj a=true:=by rfl) (hline:(apos.endLine == cpos.line)=true:=by kernel_rfl) (hs':Bp e=true:=by rfl) :
  QD X (.Call (.Attribute a "index" apos) [e] [] cpos) (fMt "list" Hf f g):=⟨Av2 F.plainAttrs_list F.slot_list_index F.type_list_index (Z5 hr) ho.out ha.out (Ds hbase') (G4 (by rw[Ban,hs'];rfl) rfl) hline (Ar hs') rfl⟩
end
section
variable {X:Cx}{a b c e:Expr}{es:List Expr}{pos p p' apos cpos dp:Pos}{x:Str}{i:Nat}
end
section
variable {X:Cx}{a b c e:Expr}{es:List Expr}{pos p p' dp:Pos}{x:Str}{i:Nat}{g:FL}
end
end ML
end L2
end S_ML36
section S_TY1
namespace L2
namespace TY
open PySem PySem.SetTable
end TY
end L2
end S_TY1
section S_TY2
namespace L2
namespace TY
open PySem PySem.SetTable
end TY
end L2
end S_TY2
section S_TY3
namespace L2
namespace TY
open PySem PySem.SetTable
end TY
end L2
end S_TY3
section S_TY4
namespace L2
namespace TY
open PySem PySem.Spec PyProof.Rows
section
variable {prog:Program}{w:World}{ds:List PyData}
end
end TY
end L2
end S_TY4
section S_TY5
namespace L2
namespace TY
open PySem PySem.Spec PyProof.Rows
section
variable {prog:Program}{w:World}{A:Around}{E:Value->Shared->Prop}{s:Shared}
end
end TY
end L2
end S_TY5
section S_TY6
namespace L2
namespace TY
open PySem PySem.Spec PyProof.Rows L2.TX
section
variable {prog:Program}{w:World}{A:Around}{R:Result->Shared->Prop}{I:Addr}{fp wr:List Addr}{G:Array GenState->Array GenState->Prop}{n:Nat}{P:Nat->Value->Prop}{St:Nat->Shared->Prop}
end
section
variable {prog:Program}{w:World}{A:Around}{E:Value->Shared->Prop}{s:Shared}
end
end TY
end L2
end S_TY6
section S_ML41
namespace L2
namespace ML
open PySem PySem.Spec PyProof.Rows
section
variable {X:Cx}{e:Expr}{pos p p2 pos2:Pos}{k:Nat}{g:FL}
end
section
variable {X:Cx}{e:Expr}{pos p p2 p3 p4:Pos}
end
section
variable {P:Program}{w:World}{K:W.Frag}{mg:Str->Option Value}{base:Heap}{x:Str}{st:Stmt}{ps:List Str}{k n:Nat}
end
section
variable {X:Cx}{e:Expr}{es:List Expr}{pos p:Pos}{x:Str}{k j n:Nat}{fn:List D->Option D}{g:FL}
end
end ML
end L2
end S_ML41
section S_EX1
namespace L2
open PySem PySem.Spec PyProof.Rows
end L2
end S_EX1
section S_EX2
namespace L2
open PySem PySem.Spec PyProof.Rows
section
variable {X:Cx}{pins:List (Addr×Obj)}{σ:St}{H:Hp}{s s':Shared}
end
end L2
end S_EX2
section S_EX3
namespace L2
namespace ML
open PySem PySem.Spec PyProof.Rows
section
variable {X:Cx}{e:Expr}{es:List Expr}{b₀:Stmt}{suite:List Stmt}{pos xpos cpos p tp hpos:Pos}{fx' t n nm:Str}{g:FL}{gb:FS}
end
end ML
end L2
end S_EX3
section S_EX4
namespace L2
namespace ML
open PySem PySem.Spec PySem.Calls PyProof.Rows PySem.W Builtin Builtin.ObjectAttr Builtin.Getset_descriptor
section
variable {prog:Program}{w:World}{A:Around}{E:Value->Shared->Prop}{s:Shared}{K:W.Frag}{x C:Addr}{o:Obj}
end
end ML
end L2
end S_EX4
section S_EX5
namespace L2
open PySem
namespace ML
open PySem PySem.Spec PySem.Calls PyProof.Rows
section
variable {X:Cx}{a:Stmt}{rest body:List Stmt}{ga:FS}{gb:Bc->MH->Bool}{fc:FB}{c:Expr}{pos:Pos}
end
section
variable {P:Program}{w:World}{K:W.Frag}{mg:Str->Option Value}{base:Heap}{N:List Str}{qual:Str}{scope:Scope}{f C:Addr}{cd:Value}{A:Around}{outer:List Env}{s0:Shared}{H0:Hp}{E0:XK}
end
section
variable {Y:Cx}{e:Expr}{es:List Expr}{b₀:Stmt}{suite:List Stmt}{pos xpos cpos p tp hpos:Pos}{x t n nm:Str}{g:FL}{gb:FS}{k i np j:Nat}{fx:List D->Bool}
end
end ML
end L2
end S_EX5
section S_EX6
namespace L2
namespace ML
open PySem PySem.Spec PySem.Calls PyProof.Rows
open Classical in
section
variable {X:Cx}{e:Expr}{es:List Expr}{pos p p':Pos}{f:FE}{nm y:Str}{b:Bool}
end
end ML
end L2
end S_EX6
section S_EX7
namespace L2
namespace ML
open PySem PySem.Spec PyProof.Rows
section
variable {X:Cx}{e:Expr}{es:List Expr}{pos p p' cpos:Pos}{x y:Str}{k j n i:Nat}{fn:List D->Option D}{g:FL}
end
abbrev FEm:=Bc->MH->Option (D×MH)
abbrev FLm:=Bc->MH->Option (List D×MH)
abbrev FBm:=Bc->MH->Option (Bool×MH)
inductive tEm (K:W.Frag) (f:FEm) (σ:St) (H:Hp) (Q:VK):Prop
 |mk (env:Bc) (μ:List Addr) (m:MH) (d:D) (m':MH) (S:Sim K H μ m) (E:EnvRep K H μ σ env) (h:f env m=some (d,m')) (q:∀ v H' μ',Step H μ H' μ'->Sim K H' μ' m'->Rep K H' μ' (·∈μ') d v->Q v H')
inductive tLm (K:W.Frag) (f:FLm) (σ:St) (H:Hp) (Q:List V->Hp->Prop):Prop
 |mk (env:Bc) (μ:List Addr) (m:MH) (ds:List D) (m':MH) (S:Sim K H μ m) (E:EnvRep K H μ σ env) (h:f env m=some (ds,m')) (q:∀ vs H' μ',Step H μ H' μ'->Sim K H' μ' m'->Reps K H' μ' (·∈μ') ds vs->Q vs H')
inductive tBm (K:W.Frag) (f:FBm) (σ:St) (H:Hp) (Q:Bool->Hp->Prop):Prop
 |mk (env:Bc) (μ:List Addr) (m:MH) (b:Bool) (m':MH) (S:Sim K H μ m) (E:EnvRep K H μ σ env) (h:f env m=some (b,m')) (q:∀ H' μ',Step H μ H' μ'->Sim K H' μ' m'->Q b H')
abbrev PDm (X:Cx) (e:Expr) (f:FEm):Prop:=PE X e (tEm X.K f)
abbrev PLm (X:Cx) (es:List Expr) (f:FLm):Prop:=PA X es (tLm X.K f)
abbrev PBm (X:Cx) (e:Expr) (f:FBm):Prop:=PT X e (tBm X.K f)
noncomputable def fM (f:FE):FEm:=fun env m=>(f env m).bind fun d=>some (d,m)
noncomputable def f2m (o:D->D->MH->Option D) (f g:FEm):FEm:=fun env m=>(f env m).bind fun x=>(g env x.2).bind fun y=>(o x.1 y.1 y.2).bind fun d=>some (d,y.2)
noncomputable def A8:FLm:=fun _ m=>some ([],m)
noncomputable def Ag (f:FEm) (g:FLm):FLm:=fun env m=>(f env m).bind fun x=>(g env x.2).bind fun y=>some (x.1::y.1,y.2)
noncomputable def Ii (g:FLm):FEm:=fun env m=>(g env m).bind fun x=>if x.1.length<=1000000 then some (.tup x.1,x.2) else none
def Hq (f:FEm):FBm:=fun env m=>(f env m).bind fun x=>(asB x.1).bind fun b=>some (b,x.2)
noncomputable def fBm (f:FB):FBm:=fun env m=>(f env m).bind fun b=>some (b,m)
noncomputable def Dh (i:Nat) (f:FEm):FS:=fun env m=>(f env m).bind fun x=>some (.nx (env.set i (some x.1)) x.2)
noncomputable def P6 (f:FEm):FS:=fun env m=>(f env m).bind fun x=>some (.rt x.1 x.2)
noncomputable def Ie (f:FEm):FS:=fun env m=>(f env m).bind fun x=>some (.nx env x.2)
noncomputable def Amq (t:FBm) (f g:FS):FS:=fun env m=>(t env m).bind fun x=>if x.1=true then f env x.2 else g env x.2
section
variable {X:Cx}{a b c e:Expr}{es:List Expr}{pos p':Pos}{f g:FEm}{gl:FLm}
theorem Ary {f:FE} (h:PD X e f):PDm X e (fM f):=PE.imp h fun σ H Q ⟨env,μ,m,d,m',S,E,h,q⟩=>by
 obtain⟨d',h1,h⟩:=bind_some h
 cases h
 exact⟨env,μ,m,d,S,E,h1,fun v H' s r=>q v H' μ (.of_same s) (S.same s) r⟩
theorem Arf {f:FB} (h:PB X e f):PBm X e (fBm f):=fun pins s σ H Q I ⟨env,μ,m,d,m',S,E,h',q⟩=>by
 obtain⟨d',h1,h'⟩:=bind_some h'
 cases h'
 exact h pins s σ H Q I ⟨env,μ,m,d,S,E,h1,fun H' s=>q H' μ (.of_same s) (S.same s)⟩
theorem Alr:PLm X [] A8:=fun pos pins s σ H Q I ⟨env,μ,m,ds,m',S,E,h,q⟩=>by
 cases h
 exact Aaq pos pins s σ H Q I (q [] H μ .refl S .nil)
theorem Ael (ha:PDm X e f) (hr:PLm X es gl) (hs:starEach (e::es) X.env=(false,eval e X.env)::starEach es X.env):PLm X (e::es) (Ag f gl):=fun pos pins s σ H Q I ⟨env,μ,m,ds,m',S,E,h,q⟩=>by
 obtain⟨x,h1,h⟩:=bind_some h
 obtain⟨y,h2,h⟩:=bind_some h
 cases h
 refine N0 ha hr hs pos pins s σ H Q I ⟨env,μ,m,x.1,x.2,S,E,h1,fun v H1 μ1 st1 S1 r1=>?_⟩
 exact⟨env,μ1,x.2,y.1,y.2,S1,E.step S st1,h2,fun vs H2 μ2 st2 S2 r2=>q _ H2 μ2 (st1.trans st2 (st1.none S S1)) S2 (.cons (r1.step S1 st2) r2)⟩
theorem Ale {x1} (h:PLm X es gl):PDm X (.Tuple es x1 pos) (Ii gl):=PE.imp (Ag3 h) fun σ H Q ⟨env,μ,m,d,m',S,E,h,q⟩=>by
 obtain⟨x,h1,h⟩:=bind_some h
 split at h
 ·rename_i hl
  cases h
  exact⟨env,μ,m,x.1,x.2,S,E,h1,fun vs H1 μ1 st1 S1 r1=>⟨by rw[<- r1.length];exact big hl,fun p hp=>q _ _ μ1 (st1.trans (.of_same (A6 hp)) (st1.none S S1)) (S1.same (A6 hp)) (.tup (.inl (.inl A3)) (r1.same (A6 hp)))⟩⟩
 ·cases h
theorem Ai6 {k:Value->Value->Sem Value}{o:D->D->MH->Option D}{pins:List (Addr×Obj)}{σ:St}{Q:VK} (ho:OpM X k o) (ha:PDm X a f) (hb:PDm X b g) {s:Shared}{H:Hp} (I:Inv X pins σ H s) (h:tEm X.K (f2m o f g) σ H Q) :
  wpAny (model X.prog X.w) X.A (eval a X.env) (fun v s₁=>wpAny (model X.prog X.w) X.A (eval b X.env) (fun u s₂=>wpAny (model X.prog X.w) X.A (k v u) (EP X pins σ Q) X.xe s₂) X.xe s₁) X.xe s:=by
 obtain⟨env,μ,m,d,m',S,E,h,q⟩:=h
 obtain⟨x,h1,h⟩:=bind_some h
 obtain⟨y,h2,h⟩:=bind_some h
 obtain⟨z,h3,h⟩:=bind_some h
 cases h
 refine thn (ha pins s σ H (fun v H1=>∃ μ1,Step H μ H1 μ1/\Sim X.K H1 μ1 x.2/\Rep X.K H1 μ1 (·∈μ1) x.1 v) I ⟨env,μ,m,x.1,x.2,S,E,h1,fun v H1 μ1 st1 S1 r1=>⟨μ1,st1,S1,r1⟩⟩) fun v' s1 ⟨v,H1,I1,r1,μ1,st1,S1,rx⟩=>?_
 refine thn (hb pins s1 σ H1 (fun u H2=>∃ μ2,Step H1 μ1 H2 μ2/\Sim X.K H2 μ2 y.2/\Rep X.K H2 μ2 (·∈μ2) y.1 u) I1 ⟨env,μ1,x.2,y.1,y.2,S1,E.step S st1,h2,fun v H1 μ1 st1 S1 r1=>⟨μ1,st1,S1,r1⟩⟩) fun u' s2 ⟨u,H2,I2,r2,μ2,st2,S2,ry⟩=>?_
 have st:=st1.trans st2 (st1.none S S1)
 exact ho pins s2 σ H2 μ2 y.2 x.1 y.1 _ v u v' u' Q I2 S2 (rx.step S1 st2) ry r1 r2 h3 fun w H3 s3 r3=>q w H3 μ2 (st.trans (.of_same s3) (st.none S S2)) (S2.same s3) r3
theorem Alb {op}{o:D->D->MH->Option D} (ho:OpM X (binaryOp op) o) (ha:PDm X a f) (hb:PDm X b g):PDm X (.BinOp a op b pos) (f2m o f g):=fun pins s σ H Q I h=>wpAny_BinOp (Ai6 ho ha hb I h)
theorem Alc {op}{o:D->D->MH->Option D} (ho:OpM X (compareOp op) o) (ha:PDm X a f) (hb:PDm X b g) (hm:behindInMarks op b=false):PDm X (.Compare a [op] [b] pos) (f2m o f g):=fun pins s σ H Q I h=>wpAny_Compare1 (Ai6 ho ha hb I h) hm
theorem tBm.val {K:W.Frag}{f:FEm}{σ:St}{H:Hp}{Q:Bool->Hp->Prop} (h:tBm K (Hq f) σ H Q):tEm K f σ H fun x H'=>∃ k,x=.bl k/\Q k H':=by
 obtain⟨env,μ,m,b,m',S,E,h,q⟩:=h
 obtain⟨x,h1,h⟩:=bind_some h
 obtain⟨b',h2,h⟩:=bind_some h
 cases h
 obtain⟨d,m1⟩:=x
 cases Ik h2
 exact⟨env,μ,m,_,_,S,E,h1,fun v H' μ' st S' r=>by cases r;exact⟨_,rfl,q H' μ' st S'⟩⟩
theorem Ak7 {op}{o:D->D->MH->Option D} (ho:OpM X (compareOp op) o) (ha:PDm X a f) (hb:PDm X b g) (hm:behindInMarks op b=false):PBm X (.Compare a [op] [b] pos) (Hq (f2m o f g)):=by
 intro pins s σ H Q I h
 refine wpAny_isTrue_Compare1 (thn (Ai6 ho ha hb I h.val) fun v s1 h1=>thn h1 fun u s2 h2=>thn h2 fun c s3 ⟨x,H1,I1,r1,k,e,q⟩=>?_) hm
 subst e
 cases r1
 exact Ba5 ⟨H1,I1,q⟩
theorem Aa6 {i:Nat}{x:Str} (hN:X.N.Nodup) (hi:X.N[i]?=some x) (hx:Loc X.env.scope x) (he:PDm X e f) (hs:swapsWith e (some (.Name x p')) pos.line X.env=pure false) (hf:X.fn x=true\/X.env.scope.names.lookup x=some .local) :
  PSD X (.Assign [.Name x p'] e pos) (Dh i f):=PS.imp (Aa0 hN hi hx he hs hf) fun D σ H ⟨env,μ,m,o,S,E,h,q⟩=>by
 obtain⟨x,h1,h2⟩:=bind_some h
 cases h2
 exact⟨env,μ,m,x.1,x.2,S,E,h1,fun v H' μ' st S' r=>q _ H' μ' st S' ((E.step S st).set i r)⟩
theorem Al3 (he:PDm X e f):PSD X (.Return (some e) pos) (P6 f):=PS.imp (Aaz he) fun D σ H ⟨env,μ,m,o,S,E,h,q⟩=>by
 obtain⟨x,h1,h2⟩:=bind_some h
 cases h2
 exact⟨env,μ,m,x.1,x.2,S,E,h1,fun v H' μ' st S' r=>q v H' μ' st S' r⟩
theorem Aet (he:PDm X e f) (hs:swapsWith e none pos.line X.env=pure false):PSD X (.Expr e pos) (Ie f):=PS.imp (Te he hs) fun D σ H ⟨env,μ,m,o,S,E,h,q⟩=>by
 obtain⟨x,h1,h2⟩:=bind_some h
 cases h2
 exact⟨env,μ,m,x.1,x.2,S,E,h1,fun v H' μ' st S' r=>q σ H' μ' st S' (E.step S st)⟩
theorem Asd {t:FBm}{f g:FS}{sa sb:List Stmt} (hc:PBm X c t) (ha:Ri X sa f) (hb:Ri X sb g):PSD X (.If c sa sb pos) (Amq t f g):=PS.imp (Asb hc ha hb) fun D σ H ⟨env,μ,m,o,S,E,h,q⟩=>by
 obtain⟨x,h1,h⟩:=bind_some h
 refine⟨env,μ,m,x.1,x.2,S,E,h1,fun H' μ' st S'=>?_⟩
 have E':=E.step S st
 have fin:=q.step S S' st
 by_cases hx:x.1=true
 ·rw[Azp hx] at h ⊢;exact⟨env,μ',x.2,o,S',E',h,fin⟩
 ·rw[Azs hx] at h ⊢;exact⟨env,μ',x.2,o,S',E',h,fin⟩
end
section
variable {K:W.Frag}{H H':Hp}{μ μ':List Addr}{B B':Addr->Prop}{m:MH}
end
section
variable {K:W.Frag}{H H':Hp}{μ μ':List Addr}{B B':Addr->Prop}{m:MH}
theorem Gs {N:List Str}{ds:List D}{vs:List V} (r:Reps K H μ (·∈μ) ds vs):EnvRep K H μ (Eo N vs) (ds.map some++List.replicate (N.length - ds.length) none):=by
 refine⟨by unfold Eo;simp[r.length],fun i d e=>?_⟩
 by_cases hi:i < ds.length
 ·rw[Azz (by simpa using hi),Az3] at e
  cases q:ds[i]? with
  |none=>rw[q] at e;cases e
  |some d' =>
   rw[q] at e
   cases e
   obtain⟨v,h1,h2⟩:=r.get q
   refine⟨v,?_,h2⟩
   unfold Eo
   rw[Azz (by simpa [r.length] using hi),Az3,h1]
   rfl
 ·rw[Baj (by simpa using hi),Bbj] at e
  split at e<;>cases e
end
section
variable {P:Program}{w:World}{K:W.Frag}{mg:Str->Option Value}{base:Heap}{x:Str}{st:Stmt}{ps:List Str}{k n:Nat}
end
section
variable {X:Cx}{e:Expr}{es:List Expr}{pos p:Pos}{x:Str}{k j n:Nat}{fn:List D->List D->Option (D×List D)}{g:FLm}
end
theorem tEm.bin {K:W.Frag}{f g:FEm}{o:D->D->MH->Option D}{σ:St}{H:Hp}{Q:VK} (h:tEm K (f2m o f g) σ H Q)
  (r:R2) (hr:∀ μ m x y z v u H' (Q:VK),Sim K H' μ m->Rep K H' μ (·∈μ) x v->Rep K H' μ (·∈μ) y u->o x y m=some z->(∀ w H2,Same H' H2->Rep K H2 μ (·∈μ) z w->Q w H2)->r v u H' Q) :
  tOp r (tEm K f) (tEm K g) σ H Q:=by
 obtain⟨env,μ,m,d,m',S,E,h,q⟩:=h
 obtain⟨x,hx,h⟩:=bind_some h
 obtain⟨y,hy,h⟩:=bind_some h
 obtain⟨z,hz,h⟩:=bind_some h
 cases h
 refine⟨env,μ,m,x.1,x.2,S,E,hx,fun v H1 μ1 st1 S1 r1=>⟨env,μ1,x.2,y.1,y.2,S1,E.step S st1,hy,fun u H2 μ2 st2 S2 r2=>?_⟩⟩
 have st:=st1.trans st2 (st1.none S S1)
 exact hr μ2 y.2 x.1 y.1 d v u H2 Q S2 (r1.step S1 st2) r2 hz fun w H3 s3 r3=>q w H3 μ2 (st.trans (.of_same s3) (st.none S S2)) (S2.same s3) r3
noncomputable def L5 (o:List D->MH->Option D) (g:FLm):FEm:=fun env m=>(g env m).bind fun x=>(o x.1 x.2).bind fun d=>some (d,x.2)
noncomputable def Y1 (g:FLm):FEm:=fun env m=>(g env m).bind fun x=>if x.1.length<=1000000 then some (.lst x.1,x.2) else none
noncomputable def Apl (t:FBm) (f g:FEm):FEm:=fun env m=>(t env m).bind fun x=>if x.1=true then f env x.2 else g env x.2
noncomputable def Yz (t u:FBm):FBm:=fun env m=>(t env m).bind fun x=>if x.1=true then u env x.2 else some (false,x.2)
noncomputable def Xr (f:FEm) (g:FG):FS:=fun env m=>(f env m).bind fun x=>(g x.1 env).bind fun env'=>some (.nx env' x.2)
noncomputable def Lb (g:FLm) (t:FG) (b:FS):FS:=fun env m=>(g env m).bind fun x=>match x.1 with
 |[.int j]=>if -(2 ^ 62)<=j/\j < 2 ^ 62 then Hu Bv t b (C4 0 j.toNat) env x.2 else none
 |_=>none
noncomputable def Oc (o:List D->List D->Option (List D)) (f:FE) (g:FLm):FS:=fun env m=>(f env m).bind fun d=>match d with
 |.ref n=>(match m[n]? with
  |some (.lst _)=>(g env m).bind fun x=>(match x.2[n]? with
   |some (.lst ds)=>(o ds x.1).bind fun fs=>some (.nx env (x.2.set n (.lst fs)))
   |_=>none)
  |_=>none)
 |_=>none
def Ld (f:FEm) (fo:FE) (fi:FEm):FS:=fun env m=>(f env m).bind fun x=>(fo env x.2).bind fun o=>(fi env x.2).bind fun y=>match o,y.1 with
 |.ref n,.int k=>(match y.2[n]? with
  |some (.lst ds)=>(ixN ds.length k).bind fun j=>some (.nx env (y.2.set n (.lst (ds.set j x.1))))
  |_=>none)
 |_,_=>none
section
variable {X:Cx}{a b c e o' tg:Expr}{es rest:List Expr}{pos p p' cpos apos spos:Pos}{x:Str}{f g:FEm}{gl:FLm}{id T:String}
theorem Arx (ha:PDm X a f) (hb:PDm X b g) (hs:Jc b):PDm X (.Subscript a b pos) (f2m oIx f g):=PE.imp (Ar2 Agi ha hb hs) fun σ H Q h=>tEm.bin h _ Ag0
theorem Ao6 {k:Value}{o:List D->MH->Option D}{pins:List (Addr×Obj)}{σ:St}{Q:VK} (ho:Lp X k o) (ha:PLm X es gl) {s:Shared}{H:Hp} (I:Inv X pins σ H s) (h:tEm X.K (L5 o gl) σ H Q) :
  wpAny (model X.prog X.w) X.A (spliced (backTo pos (starEach es X.env))) (fun us s1=>wpAny (model X.prog X.w) X.A (call k us) (EP X pins σ Q) X.xe s1) X.xe s:=by
 obtain⟨env,μ,m,d,m',S,E,h,q⟩:=h
 obtain⟨x,h1,h⟩:=bind_some h
 obtain⟨z,h2,h⟩:=bind_some h
 cases h
 refine thn (ha pos pins s σ H (fun vs H1=>∃ μ1,Step H μ H1 μ1/\Sim X.K H1 μ1 x.2/\Reps X.K H1 μ1 (·∈μ1) x.1 vs) I ⟨env,μ,m,x.1,x.2,S,E,h1,fun v H1 μ1 st1 S1 r1=>⟨μ1,st1,S1,r1⟩⟩) fun us s1 ⟨vs,H1,I1,r1,μ1,st1,S1,rx⟩=>?_
 exact ho pins s1 σ H1 μ1 x.2 x.1 _ vs us Q I1 S1 rx r1 h2 fun w H2 s2 r2=>q w H2 μ1 (st1.trans (.of_same s2) (st1.none S S1)) (S1.same s2) r2
theorem Xm {o:List D->MH->Option D} (hc:Lp X (.type T) o) (hg:Gl X x) (hm:X.mg x=none) (hv:bootBuiltins x=some (.type T)) (ha:PLm X (e::es) gl) (hn:x≠"__name__") (hdb:(x == ("__debug__":Str))=false) (he:starEach (e::es) X.env=(false,eval e X.env)::starEach es X.env) (hpl:(backTo pos (starEach es X.env)).any (·.1)=false):PDm X (.Call (.Name x p) (e::es) [] pos) (L5 o gl):=by
 intro pins s σ H Q I h
 refine Bae (Dk I hg hm hv ?_ hn hdb)
 exact PyProof.Rows.callWith_type1 (Ao6 hc ha I h) he hpl
theorem Ald (h:PLm X es gl):PDm X (.List es pos) (Y1 gl):=PE.imp (Ag2 h) fun σ H Q ⟨env,μ,m,d,m',S,E,h,q⟩=>by
 obtain⟨x,h1,h⟩:=bind_some h
 split at h
 ·rename_i hl
  cases h
  exact⟨env,μ,m,x.1,x.2,S,E,h1,fun vs H1 μ1 st1 S1 r1=>⟨by rw[<- r1.length];exact big hl,fun p hp=>q _ _ μ1 (st1.trans (.of_same (A6 hp)) (st1.none S S1)) (S1.same (A6 hp)) (.lst (.inl A3) (S1.nnone hp) (r1.same (A6 hp)))⟩⟩
 ·cases h
theorem Arw {t:FBm} (hc:PBm X c t) (ha:PDm X a f) (hb:PDm X b g):PDm X (.IfExp c a b pos) (Apl t f g):=PE.imp (Uy hc ha hb) fun σ H Q ⟨env,μ,m,z,m',S,E,h,q⟩=>by
 obtain⟨x,h1,h2⟩:=bind_some h
 refine⟨env,μ,m,x.1,x.2,S,E,h1,fun H1 μ1 st1 S1=>?_⟩
 by_cases hx:x.1=true
 ·rw[Azp hx] at h2 ⊢
  exact⟨env,μ1,x.2,z,m',S1,E.step S st1,h2,fun v H2 μ2 st2 S2 r2=>q v H2 μ2 (st1.trans st2 (st1.none S S1)) S2 r2⟩
 ·rw[Azs hx] at h2 ⊢
  exact⟨env,μ1,x.2,z,m',S1,E.step S st1,h2,fun v H2 μ2 st2 S2 r2=>q v H2 μ2 (st1.trans st2 (st1.none S S1)) S2 r2⟩
abbrev Ann (X:Cx) (e:Expr) (f:FBm):Prop:=PW X e (tBm X.K f)
theorem Aez {t:FBm} (ha:PBm X a t):Ann X (.BoolOp .And [a] pos) t:=Aa9 ha
theorem Amc {t u:FBm} (ha:PBm X a t) (hb:Ann X (.BoolOp .And (b::rest) pos) u):Ann X (.BoolOp .And (a::b::rest) pos) (Yz t u):=PW.imp (Ag6 ha hb) fun σ H Q ⟨env,μ,m,z,m',S,E,h,q⟩=>by
 obtain⟨x,h1,h2⟩:=bind_some h
 refine⟨env,μ,m,x.1,x.2,S,E,h1,fun H1 μ1 st1 S1=>?_⟩
 by_cases hx:x.1=true
 ·rw[Azp hx] at h2 ⊢
  exact⟨env,μ1,x.2,z,m',S1,E.step S st1,h2,fun H2 μ2 st2 S2=>q H2 μ2 (st1.trans st2 (st1.none S S1)) S2⟩
 ·rw[Azs hx] at h2 ⊢
  cases h2
  exact q H1 μ1 st1 S1
theorem Aed {op}{t:FBm} (h:Ann X (.BoolOp op es pos) t):PBm X (.BoolOp op es pos) t:=h.pt
theorem Al2 {g:FG} (he:PDm X e f) (hg:PGD X tg g) (hs:swapsWithSole [tg] e pos.line X.env=pure false) (hw:swappedStores [tg] e X.env=pure none) (h1:(assignEach [tg] X.env).map (·.2)=[assign tg X.env]) :
  PSD X (.Assign [tg] e pos) (Xr f g):=PS.imp (U0 he hg hs hw h1) fun D σ H ⟨env,μ,m,o,S,E,h,q⟩=>by
 obtain⟨x,h1,h2⟩:=bind_some h
 obtain⟨env',hg',h3⟩:=bind_some h2
 cases h3
 exact⟨env,μ,m,x.1,x.2,S,E,h1,fun v H' μ' st S' r=>⟨env,μ',x.2,x.1,env',S',E.step S st,r,hg',fun σ' E'=>q σ' H' μ' st S' E'⟩⟩
theorem Aeu {t:FG}{b:FS}{body:List Stmt} (hp:PassesOwn (model X.prog X.w) X.A X.env X.xe) (hc:X.calm=true) (hg:Gl X "range") (hm:X.mg "range"=none) (ha:PLm X [a] gl) (hs:starEach [a] X.env=[(false,eval a X.env)]) (ht:PGD X tg t) (hb:Ri X body b)
  (hs':∀ x,foldedSetIterable (.Call (.Name "range" p) [a] [] pos) X.env x=pure x):PSD X (.For tg (.Call (.Name "range" p) [a] [] pos) body [] spos) (Lb gl t b):=PS.imp (Ag5 hp hc (Py hg hm ha hs) ht hb hs') fun D σ H ⟨env,μ,m,o,S,E,h,q⟩=>by
 obtain⟨⟨ds,m1⟩,h1,h2⟩:=bind_some h
 refine⟨env,μ,m,ds,m1,S,E,h1,fun vs H' μ' st S' rs=>?_⟩
 simp only at h2
 split at h2
 ·rename_i j
  split at h2
  ·rename_i hc
   obtain⟨v,rfl,r⟩:=rs.one
   cases r
   exact⟨j,rfl,hc.1,hc.2,Ui P9 S' (E.step S st) trivial h2 (q.step S S' st)⟩
  ·cases h2
 ·cases h2
theorem Aa5 {r:V->List V->Hp->VK->Prop}{o:List D->List D->Option (List D)}{f:FE}{name:Str} (pa:PlainAttrs "list") (slot:Slot "list" name id) (hty:typeOf (.builtin id)=pure (.type "method_descriptor")) (hm:MtR X id r) (ho:Anl X r o) (hf:PD X o' f) (ha:PLm X (e::es) gl)
  (hbase:attributeBase o' name X.env (eval o' X.env)=eval o' X.env)
  (hfew:((backTo cpos (starEach (e::es) X.env)).all (fun x=>!x.1)&&(backToKw cpos (keywordEach [] X.env)).all (fun x=>x.1.isSome)
   &&decide ((e::es).length+([]:List Keyword).length+(if ([]:List Keyword).isEmpty then 0 else 1) < 30))=true)
  (hline:(apos.endLine == cpos.line)=true) (hs:starEach (e::es) X.env=(false,eval e X.env)::starEach es X.env) (hplain:(backTo cpos (starEach es X.env)).any (·.1)=false) :
  PSD X (.Expr (.Call (.Attribute o' name apos) (e::es) [] cpos) spos) (Oc o f gl):=PS.imp (Te (Ar0 pa slot hty hm hf ha hbase hfew hline hs hplain)) fun D σ H ⟨env,μ,m,ob,S,E,h,q⟩=>by
 obtain⟨d,h1,h⟩:=bind_some h
 refine⟨env,μ,m,d,S,E,h1,fun v H1 s1 r1=>?_⟩
 cases r1 with
 |@ref n a e =>
  simp only at h
  obtain⟨ds0,q0,h⟩:∃ ds0,m[n]?=some (.lst ds0)/\((gl env m).bind fun x=>(match x.2[n]? with
   |some (.lst ds)=>(o ds x.1).bind fun fs=>some (.nx env (x.2.set n (.lst fs)))
   |_=>none))=some ob:=by
   cases q0:m[n]? with
   |none=>simp[q0] at h
   |some mo =>
    simp only[q0] at h
    cases mo with
    |dcs _ _=>cases h
    |dct _ _=>cases h
    |lst ds0=>exact⟨ds0,rfl,h⟩
  obtain⟨y,h2,h⟩:=bind_some h
  cases q':y.2[n]? with
  |none=>simp[q'] at h
  |some mo =>
   simp only[q'] at h
   cases mo with
   |dcs _ _=>cases h
   |dct _ _=>cases h
   |lst ds =>
    simp only at h
    obtain⟨fs,h3,h⟩:=bind_some h
    cases h
    obtain⟨xs0,e0,_⟩:=(S.same s1).obj n a _ e q0
    refine⟨.inl ⟨rfl,xs0,SqL.of e0⟩,env,μ,m,y.1,y.2,S.same s1,E.same s1,h2,fun vs H2 μ2 st2 S2 r2=>?_⟩
    have e2:=st2.ix e
    obtain⟨xs,e1,rs⟩:=S2.obj n a _ e2 q'
    refine ho μ2 H2 a xs vs ds y.1 fs _ e1 (Az8 e2) rs r2 h3 fun ys ry=>?_
    obtain⟨st3,S3,up⟩:=S2.write e2 q' ry
    have stA:=(Step.of_same s1 (μ:=μ)).trans st2 (fun c hc=>s1.free hc)
    have stB:=stA.trans st3 (stA.none S S2)
    exact q σ _ μ2 stB S3 (E.step S stB)
 |_=>exact Ad h
theorem Aa7 {fo:FE} (he:PDm X e f) (ho:PD X a fo) (hi:PDm X b g)
  (ha:∀ v,assign (.Subscript a b p) X.env v=(do
   let ov <- holding [v] (eval a X.env)
   let iv <- holding [v,ov] (eval b X.env)
   standAt p
   holding [v,ov,iv] (setItem ov iv v)
   release [v,ov,iv] [])) (hs:swapsWithSole [.Subscript a b p] e pos.line X.env=pure false) (hw:swappedStores [.Subscript a b p] e X.env=pure none) (h1:(assignEach [.Subscript a b p] X.env).map (·.2)=[assign (.Subscript a b p) X.env]) :
  PSD X (.Assign [.Subscript a b p] e pos) (Ld f fo g):=PS.imp (U0 he (Ag4 ho hi U7 ha) hs hw h1) fun D σ H ⟨env,μ,m,ob,S,E,h,q⟩=>by
 obtain⟨x,h1,h⟩:=bind_some h
 obtain⟨o,h2,h⟩:=bind_some h
 obtain⟨y,h3,h⟩:=bind_some h
 refine⟨env,μ,m,x.1,x.2,S,E,h1,fun v H1 μ1 st1 S1 r1=>⟨env,μ1,x.2,o,S1,E.step S st1,h2,fun u H2 s2 r2=>⟨env,μ1,x.2,y.1,y.2,S1.same s2,(E.step S st1).same s2,h3,fun w H3 μ3 st3 S3 r3=>?_⟩⟩⟩
 have stA:=st1.trans (.of_same s2) (st1.none S S1)
 have SA:=S1.same s2
 have stB:=stA.trans st3 (stA.none S SA)
 have r2':=r2.step SA st3
 obtain⟨n,rfl⟩:∃ n,o=.ref n:=by
  cases o with
  |ref n=>exact⟨n,rfl⟩
  |_=>cases h
 obtain⟨i,m3⟩:=y
 obtain⟨k,rfl⟩:∃ k,i=.int k:=by
  cases i with
  |int k=>exact⟨k,rfl⟩
  |_=>cases h
 cases r3
 cases r2' with
 |@ref _ c e =>
  simp only at h
  cases q':m3[n]? with
  |none=>simp[q'] at h
  |some mo =>
   simp only[q'] at h
   cases mo with
   |dcs _ _=>cases h
   |dct _ _=>cases h
   |lst ds =>
    simp only at h
    obtain⟨j,h4,h⟩:=bind_some h
    cases h
    obtain⟨xs,e1,rs⟩:=S3.obj n c _ e q'
    refine⟨c,xs,k,j,rfl,rfl,e1,by rw[<- rs.length];exact h4,?_⟩
    obtain⟨st,S4,up⟩:=S3.write e q' (rs.set ((r1.same s2).step SA st3) j)
    have stC:=stB.trans st (stB.none S S3)
    exact q σ _ μ3 stC S4 (E.step S stC)
end
open Classical
noncomputable section
noncomputable def D7 (g:FG) (t:FB) (fe:FEm) (env:Bc):List D->MH->Option (List D×MH)
 |[],m=>some ([],m)
 |d::ds,m=>(g d env).bind fun env1=>(t env1 m).bind fun b=>if b=true then (fe env1 m).bind fun x=>(D7 g t fe env ds x.2).bind fun y=>some (x.1::y.1,y.2) else D7 g t fe env ds m
def L6 (cap:List Nat) (k:Nat) (fw:FW) (g:FG) (t:FB) (fe:FEm):FLm:=fun env m=>(fw env m).bind fun w=>if (∀ m',w.chk m')/\w.all.length<=1000000 then D7 g t fe (Og cap k env) w.all m else none
section
variable {X:Cx}{elt tg iter:Expr}{ifs:List Expr}{scope:Scope}{pos:Pos}{cap:List Nat}{N':List Str}{fw:FW}{g:FG}{t:FB}{fe:FEm}
structure CompEndM (X:Cx) (pins:List (Addr×Obj)) (σ:St) (H:Hp) (μ:List Addr) (zs:List D) (m':MH) (D C:Addr) (s':Shared):Prop where
 out:∃ H3 H' μ' ys,Step H μ H3 μ'/\Sim X.K H3 μ' m'/\Same H3 H'/\H3 D=none/\H' D=some (.lst ys)/\Reps X.K H' μ' (nw μ' D) zs ys/\Inv X pins σ H' s'/\H' C=none/\∀ σ' s'' h',Inv X pins σ' H' s''->Heap.SameBut C s''.heap h'->Inv X pins σ' H' { s'' with heap:=h' }
 ns:∃ m,s'.heap.Ns C m
 lc:C≠X.env.locals
 cc:∀ x c,X.env.cells.lookup x=some c->c≠C
inductive CIm (Y:Cx) (μ:List Addr) (fp:List Addr) (tn:Nat->Heap->Prop) (Dd:Addr) (H2:Hp) (g:FG) (e0:Bc) (src:Hp->List Addr->MH->Prop) (cd:Nat->MH->Option (List D×MH)) (n:Nat) (zs:List D) (m':MH) (s:Shared):Nat->Prop where
 |mk {i:Nat}{H3:Hp}{μ3:List Addr}{m3:MH}{σ3:St}{env3:Bc}{ys:List V}{its:List Value}{na:Nat}{dn rs:List D}:i<=n->Inv Y [] σ3 H3 s->tn i s.heap->(∀ b∈fp,H3 b=none)->Step H2 μ H3 μ3->Sim Y.K H3 μ3 m3->src H3 μ3 m3->H3 Dd=none->EnvRep Y.K H3 μ3 σ3 env3->(∀ d,g d env3=g d e0) ->
  s.heap.get? Dd=some { cls:=.type "list",data:=.seq its.toArray na }->Vals ys its->Reps Y.K H3 μ3 (·∈μ3) dn ys->cd i m3=some (rs,m')->dn++rs=zs->dn.length<=i->CIm Y μ fp tn Dd H2 g e0 src cd n zs m' s (n - i)
theorem Vw (ok:CompOk X scope cap N') (hc:X.calm=true) (hi:PW' X tg iter fw) (hg2:∀ d d' env e1,g d env=some e1->g d' e1=g d' env)
  {Φ:Hp->Prop} (hΦ:∀ {pins:List (Addr×Obj)}{σ:St}{H:Hp}{s:Shared},Inv X pins σ H s->Φ H) (hg:∀ cl C s₀ H₀ ex pn,Φ H₀->PGD (Ax X N' scope cl C s₀ H₀ ex pn) tg g) (ht:∀ cl C s₀ H₀ ex pn,Φ H₀->PTs (Ax X N' scope cl C s₀ H₀ ex pn) ifs t) (he:∀ cl C s₀ H₀ ex pn,Φ H₀->PDm (Ax X N' scope cl C s₀ H₀ ex pn) elt fe)
  (hs:∀ x,foldedSetIterable iter X.env x=pure x) {use:Option (Value->Sem Unit)}{ipos:Pos}{pins:List (Addr×Obj)}{s:Shared}{σ:St}{H:Hp}{Q:Value->Shared->Prop} (I:Inv X pins σ H s) {env:Bc}{μ:List Addr}{m m':MH}{zs:List D}
  (S:Sim X.K H μ m) (E:EnvRep X.K H μ σ env) (h:L6 cap (N'.length - cap.length) fw g t fe env m=some (zs,m'))
  (hQ:∀ D C s',CompEndM X pins σ H μ zs m' D C s'->compPost (model X.prog X.w) X.A X.xe use Q (.ref D) C (.ok .next) s') :
  wpAny (model X.prog X.w) X.A (comprehension (.ListComp elt [⟨tg,iter,ifs,0⟩] scope pos) scope X.env ipos (newList []) false (eval iter X.env) use) Q X.xe s:=by
 obtain⟨w,h1,h⟩:=bind_some h
 split at h
 rotate_left
 ·cases h
 rename_i hck
 obtain⟨hck,hsz⟩:=hck
 have hfr:∀ y∈scope.names,y.2=.free->∃ c,X.env.cells.lookup y.1=some c:=fun y hy hf=>I.ok.has y.1 (ok.free y hy hf)
 obtain⟨cl0,hclos,hcl0,hcl20⟩:=Gq hfr
 refine wpAny_comprehension_free (g:=⟨tg,iter,ifs,0⟩) (gs:=[]) rfl hs hclos ok.kind ok.names (thn (hi pins s σ H (fun J H2=>∃ src,Same H H2/\Src X.K J w.all w.chk src/\src H2 μ m) I ⟨env,μ,m,w,S,E,h1,fun H' J src s1 hsrc h0=>⟨src,s1,hsrc,h0⟩⟩) fun v s1 h2=>thn h2 fun itv s2 h3=>?_)
 obtain⟨it,fp,tn,J,H2,e,I2,T,st2,f2,src,hS2,hsrc,h0⟩:=h3
 subst e
 refine Baw (Jz fun h₁ hns₁ hsb₁ heq₁=>?_)
 dsimp only at hns₁ hsb₁ heq₁ ⊢
 generalize hHp:s2.heap.push { cls:=.type "list",dict:=none,data:=.seq ([]:List Value).toArray }=HP at hns₁ hsb₁ heq₁ ⊢
 have hCs:HP.objs.size=s2.heap.objs.size+1:=by rw[<- hHp,Bbv]
 have hDC:s2.heap.objs.size≠HP.objs.size:=by rw[hCs];exact Az1 (Bcg _)
 have hCle:s2.heap.objs.size<=HP.objs.size:=by rw[hCs];exact Bbu _
 have below:∀ b,b < s2.heap.objs.size->b≠HP.objs.size/\b≠s2.heap.objs.size:=fun b hb=>⟨by rw[hCs];exact Az1 (Bbf hb),Az1 hb⟩
 have hkp:∀ b o,s2.heap.get? b=some o->h₁.get? b=some o:=fun b o e=>hsb₁ b o (hHp ▸ Aze _ e)
 have hacc:h₁.get? s2.heap.objs.size=some { cls:=.type "list",data:=.seq ([]:List Value).toArray 0 }:=hsb₁ _ _ (hHp ▸ Azq _ rfl)
 have hDn:H2 s2.heap.objs.size=none:=I2.hok.fresh (Azn _)
 have hCn:H2 HP.objs.size=none:=I2.hok.fresh hCle
 have fo:∀ b∈fp,∃ o,s2.heap.get? b=some o:=fun b hb=>let ⟨o,e,_⟩:=T.obj _ _ st2 b hb;⟨o,e⟩
 have fdc:∀ b∈fp,b≠HP.objs.size/\b≠s2.heap.objs.size:=fun b hb=>let ⟨o,e⟩:=fo b hb;below b (Azj e)
 have hsz1:(HP.push { cls:=.type "dict",data:=.dict #[] }).objs.size=HP.objs.size+1:=Bbv ..
 obtain⟨c1,c2,c3⟩:=T8 scope.names (HP.push { cls:=.type "dict",data:=.dict #[] }) cl0 (fun x c e=>by
  obtain⟨v,oc,ho,_⟩:=I2.cell x c (hcl0 x c e)
  rw[hsz1,hCs]
  exact Bbf (Bbf (Azj ho))) (fun x y c e1 e2=>I2.ok.inj x y c (hcl0 x c e1) (hcl0 y c e2))
 rw[hsz1,<- heq₁] at c1
 rw[hsz1] at c2 c3
 generalize hcle:cellsFrom (HP.objs.size+1) scope.names cl0=cl at *
 have hcl:∀ x c,cl.lookup x=some c->(X.env.cells.lookup x=some c/\scope.names.lookup x≠some .cell)\/(scope.names.lookup x=some .cell/\HP.objs.size < c/\h₁.IsCell c none/\H2 c=none):=fun x c e=>by
  rcases c1 x c e with ⟨z,w⟩|⟨z1,z2,z3⟩|⟨_,_,z⟩
  ·exact .inl ⟨hcl0 x c z,fun q=>w (Bac q)⟩
  ·exact .inr ⟨ok.cell _ z1 rfl,z2,z3,I2.hok.fresh (Azy hCle (Ba9 z2))⟩
  ·exact z.elim
 have hcl2:∀ x,((x,NameKind.free)∈scope.names\/(x,NameKind.cell)∈scope.names)->∃ c,cl.lookup x=some c:=fun x e=>c3 x (e.elim (fun z=>.inr (hcl20 x z)) .inl)
 generalize hDd:s2.heap.objs.size=Dd at *
 generalize hCc:HP.objs.size=C at *
 have Y0:Inv (Ax X N' scope cl C s2 H2 fp (X.pn++pins)) [] (capσ cap (N'.length - cap.length) σ) H2 { s2 with heap:=h₁,toks:=s2.toks } :=
  Ua (ys:=[]) ok I2 f2 fo hcl c2 hcl2 (by rw[hDd];exact hCle) ⟨_,hns₁⟩ hkp (fun _ _ _ n=>n) (Same.refl _) hCn (I2.hok.kept hkp)
 -- what stays true of the iterator's objects in the block
 have fpY:∀ {H':Hp}{ps:List (Addr×Obj)},(∀ b∈fp,H' b=none)->(∀ p∈ps,p.1∉fp)->∀ b∈fp,Ack (Ax X N' scope cl C s2 H2 fp (X.pn++pins)) ps H' b:=fun {H' ps} hn hps b hb=>by
  obtain⟨q0,q1,q2,q3,q4,q5⟩:=f2 b hb
  refine⟨hn b hb,(fdc b hb).1,fun z=>?_,.inl hb,fun x c e=>?_,fun p hp z=>?_⟩
  rotate_left
  ·rcases hcl x c e with ⟨z,_⟩|⟨_,z,_⟩
   ·exact q4 x c z
   ·obtain⟨o,e'⟩:=fo b hb
    exact Bao (Azt (by have:=Azj e';rw[hDd] at this;exact this) (Azy hCle (Ba9 z)))
  rotate_left
  ·have z:b∈X.env.locals::X.fs:=I2.stkSub b z
   rcases List.mem_cons.mp z with z|z
   ·exact q1 z
   ·exact q2 z
  ·rcases List.mem_append.mp hp with hp|hp
   ·exact q5 p hp z
   ·exact hps p hp (by rw[z];exact hb)
 have key:∀ s₃:Shared,s₃={ s2 with heap:=h₁,toks:=s2.toks } ->
   codeAny (model X.prog X.w) X.A (.compLoop (.ListComp elt [⟨tg,iter,ifs,0⟩] scope pos) 0 (.ref it) (.ref Dd) (compEnvC scope cl C X.env)) (compPost (model X.prog X.w) X.A X.xe use Q (.ref Dd) C) s₃:=by
  rintro s₃ rfl
  refine Ho (fun k s=>CIm (Ax X N' scope cl C s2 H2 fp (X.pn++pins)) μ fp tn Dd H2 g (Og cap (N'.length - cap.length) env) src (fun i m=>D7 g t fe (Og cap (N'.length - cap.length) env) (w.all.drop i) m) w.all.length zs m' s k) ?_ w.all.length
   (.mk (ys:=[]) (dn:=[]) (Az5 _) Y0 (T.keep _ _ _ st2 fun b hb o e=>hkp b o e) (fun b hb=>(f2 b hb).1) Step.refl (S.same hS2) h0 hDn (T6 (E.same hS2) cap _) (fun _=>rfl) hacc .nil .nil (by simpa using h) rfl (Az5 _))
  intro k s3 ci
  cases ci with
  |@mk i H3 μ3 m3 σ3 env3 ys its na dn rs hi' I3 st3 fr3 s3' S3 src3 hD3 E3 hg3 ha3 rv3 rr3 hc3 hz3 hl3 =>
  have hDfp:Dd∉fp:=fun z=>(fdc Dd z).2 rfl
  have hDne:Dd≠(Ax X N' scope cl C s2 H2 fp (X.pn++pins)).env.locals:=hDC
  have hDcell:∀ x c,(Ax X N' scope cl C s2 H2 fp (X.pn++pins)).env.cells.lookup x=some c->c≠Dd:=fun x c e z=>by
   rcases hcl x c e with ⟨w,_⟩|⟨_,w,_⟩
   ·obtain⟨v,oc,ho,_⟩:=I2.cell x c w
    exact absurd (Azj ho) (by rw[z,hDd];exact Az9 _)
   ·exact absurd w (by rw[z];exact Nat.not_lt.mpr hCle)
  have hDpn:∀ p∈X.pn++pins,p.1≠Dd:=fun p hp z=>absurd (Azj (I2.pin p hp).1) (by rw[z,hDd];exact Az9 _)
  have hDs:s2.heap.objs.size<=Dd:=Nat.le_of_eq hDd
  have hDfs:Dd∉(Ax X N' scope cl C s2 H2 fp (X.pn++pins)).fs:=fun z=>by
   have z:Dd∈X.env.locals::X.fs:=I2.stkSub Dd z
   rcases List.mem_cons.mp z with z|z
   ·exact absurd I2.lt (by rw[<- z,hDd];exact Az9 _)
   ·exact I2.nofs hDs z
  have I3p:Inv (Ax X N' scope cl C s2 H2 fp (X.pn++pins)) [(Dd,{ cls:=.type "list",data:=.seq its.toArray na })] σ3 H3 s3:=I3.pins_of fun p hp=>by
   have e:p=(Dd,{ cls:=.type "list",data:=.seq its.toArray na }):=by simpa using hp
   subst e
   exact⟨ha3,hD3,hDne,hDfs,fun v z=>by cases z⟩
  have pfp:∀ p∈[(Dd,({ cls:=.type "list",data:=.seq its.toArray na }:Obj))],p.1∉fp:=fun p hp=>by
   have e:p=(Dd,{ cls:=.type "list",data:=.seq its.toArray na }):=by simpa using hp
   subst e
   exact hDfp
  by_cases hlt:i < w.all.length
  ·have hd:w.all.drop i=w.all[i]::w.all.drop (i+1):=Bau hlt
   rw[hd] at hc3
   unfold D7 at hc3
   obtain⟨env4,e4,hc3⟩:=bind_some hc3
   obtain⟨tb,e5,hc3⟩:=bind_some hc3
   obtain⟨go,yl⟩:=hsrc.go H3 μ3 m3 i w.all[i] S3 src3 (hck m3) (by simp[hlt])
   refine thn (T.item (Ax X N' scope cl C s2 H2 fp (X.pn++pins)) rfl rfl rfl hc i _ s3 σ3 H3 _ I3p (fpY fr3 pfp) st3 go) fun r s4 ⟨u,hr,h4⟩=>?_
   subst hr
   refine thn h4 fun _ s5 ⟨x,H5,I5,r5,y5,st5,fr5⟩=>?_
   obtain⟨s5',rx5⟩:=yl x H5 y5
   have S5:=S3.same s5'
   have E5:=E3.same s5'
   have I5':=I5.pinned (fpY fr5 pfp) (T.obj _ _ st5)
   generalize hps:[(Dd,({ cls:=.type "list",data:=.seq its.toArray na }:Obj))]++Mo fp s5.heap=ps at I5'
   have pacc:(Dd,({ cls:=.type "list",data:=.seq its.toArray na }:Obj))∈ps:=by rw[<- hps];exact Azw _ (by simp)
   have pits:∀ b o,b∈fp->s5.heap.get? b=some o->(b,o)∈ps:=fun b o hb e=>by rw[<- hps];exact Azd _ (Er hb e)
   refine thn (hg cl C s2 H2 fp (X.pn++pins) (hΦ I2) ps s5 σ3 H5 x u (fun σ' H'=>H'=H5/\EnvRep X.K H5 μ3 σ' env4) I5' r5 ⟨env3,μ3,m3,_,env4,S5,E5,rx5,by rw[hg3];exact e4,fun σ' E'=>⟨rfl,E'⟩⟩) fun _ s6 ⟨σ6,H6,I6,eH6,E6⟩=>?_
   subst eH6
   refine thn (ht cl C s2 H2 fp (X.pn++pins) (hΦ I2) ps s6 σ6 H6 (fun b H'=>b=tb/\Same H6 H') I6 ⟨env4,μ3,m3,tb,S5,E6,e5,fun H' s=>⟨rfl,s⟩⟩) fun ok s7 ⟨H7,I7,eb,s7'⟩=>?_
   subst eb
   have S7:=S5.same s7'
   have E7:=E6.same s7'
   have stA:Step H2 μ H7 μ3:=s3'.trans (.of_same (s5'.trans s7')) (s3'.none (S.same hS2) S3)
   have src7:src H7 μ3 m3:=hsrc.keep _ _ _ _ _ _ src3 S3 (.of_same (s5'.trans s7')) S7
   have hg4:∀ d,g d env4=g d (Og cap (N'.length - cap.length) env):=fun d=>by rw[hg2 _ d _ _ e4]
   cases ok with
   |false =>
    rw[Azs Az7] at hc3
    have pin7:=fun p hp=>I7.pin p (Azd _ hp)
    refine Atp ⟨w.all.length - (i+1),by lia,.mk hlt (I7.pins_of (fun p hp=>by simp at hp)) (T.keep _ _ _ st5 fun b hb o e=>(pin7 (b,o) (pits b o hb e)).1) (fun b hb=>?_) stA S7 src7 (pin7 _ pacc).2.1 E7 hg4 (pin7 _ pacc).1 rv3 (rr3.same (s5'.trans s7')) hc3 hz3 (Nat.le_succ_of_le hl3)⟩
    obtain⟨o,e,_⟩:=T.obj _ _ st5 b hb
    exact (pin7 (b,o) (pits b o hb e)).2.1
   |true =>
    rw[Azp rfl] at hc3
    obtain⟨y,e6,hc3⟩:=bind_some hc3
    obtain⟨rs',e7,hc3⟩:=bind_some hc3
    obtain⟨e8',e9'⟩:=Prod.mk.inj (Bag hc3)
    subst e8'
    have e7:D7 g t fe (Og cap (N'.length - cap.length) env) (w.all.drop (i+1)) y.2=some (rs'.1,m'):=by rw[e7,<- e9']
    refine Atq (thn (he cl C s2 H2 fp (X.pn++pins) (hΦ I2) ps s7 σ6 H7 (fun v H'=>∃ μ8,Step H7 μ3 H' μ8/\Sim X.K H' μ8 y.2/\Rep X.K H' μ8 (·∈μ8) y.1 v) I7 ⟨env4,μ3,m3,y.1,y.2,S7,E7,e6,fun v H' μ8 st S r=>⟨μ8,st,S,r⟩⟩) fun u8 s8 ⟨x8,H8,I8,r8,μ8,st8,S8,rx8⟩=>?_)
    have pin8:=fun p hp=>I8.pin p (Azd _ hp)
    have e8:=(pin8 _ pacc).1
    have hil:its.length<=i:=by rw[<- rv3.length,<- rr3.length];exact hl3
    have hsl:sizeLine=16777216:=Bas
    refine call_meets F.slot_list_append ⟨_,e8,rfl⟩ F.entry_list_append (F.args_list_append_2 _ _) (PySem.list_append Dd its.toArray na u8 (by rw[Azh];lia)) ⟨e8,?_⟩
    obtain⟨na',q9⟩:∃ na',(s8.heap.update Dd (Obj.mapSeq fun a=>a.push u8)).get? Dd=some { cls:=.type "list",data:=.seq (its++[u8]).toArray na' }:=by
     have q9:=PySem.IsL.update e8 (fun a=>a.push u8)
     have ea:(its.toArray.push u8)=(its++[u8]).toArray:=by simp
     rw[ea] at q9
     exact⟨_,q9⟩
    have I8':Inv (Ax X N' scope cl C s2 H2 fp (X.pn++pins)) [] σ6 H8 s8:=I8.pins_of (fun p hp=>by simp at hp)
    have I9:=I8'.turned (it:=Dd) (t':=s8.toks) (h':=s8.heap.update Dd (Obj.mapSeq fun a=>a.push u8)) (fun b o hb e=>(Azu s8.heap _ (Bak hb)).trans e) (pin8 _ pacc).2.1 hDne (.inr hDs) hDcell (fun p hp=>hDpn p (by
     have hp:p∈(X.pn++pins)++[]:=hp
     simpa using hp))
    refine⟨w.all.length - (i+1),by lia,.mk (na:=na') hlt I9 (T.keep _ _ _ st5 fun b hb o e=>?_) (fun b hb=>?_) (stA.trans st8 (stA.none (S.same hS2) S7)) S8 (hsrc.keep _ _ _ _ _ _ src7 S7 st8 S8) (pin8 _ pacc).2.1 (E7.step S7 st8) hg4 ?_ (rv3.append (.cons r8 .nil)) (((rr3.same (s5'.trans s7')).step S7 st8).append (.cons rx8 .nil)) e7 (by rw[<- hz3];simp) (by rw[Azx];simp;lia)⟩
    ·exact (Azu s8.heap _ (Bak (fdc b hb).2)).trans (pin8 (b,o) (pits b o hb e)).1
    ·obtain⟨o,e,_⟩:=T.obj _ _ st5 b hb
     exact (pin8 (b,o) (pits b o hb e)).2.1
    ·exact q9
  ·have e:i=w.all.length:=by lia
   subst e
   rw[List.drop_length] at hc3
   obtain⟨e8',e9'⟩:=Prod.mk.inj (Bag hc3)
   subst e8' e9'
   rw[Az2] at hz3
   subst hz3
   refine thn (T.done (Ax X N' scope cl C s2 H2 fp (X.pn++pins)) rfl rfl rfl hc _ _ s3 σ3 H3 _ I3p (fpY fr3 pfp) st3 (hsrc.stop H3 μ3 m3 S3 src3 (hck m3))) fun r s4 ⟨hr,I4⟩=>?_
   subst hr
   have e4:=(I4.pin (Dd,_) (Azd _ (List.mem_singleton.mpr rfl))).1
   have hyl:ys.length<=sizeLine:=by rw[<- rr3.length];exact big (Azy hl3 hsz)
   have inv:∀ h',(∀ b o,b≠C->s4.heap.get? b=some o->h'.get? b=some o)->Inv X pins σ (upd H3 Dd (.lst ys)) { s4 with heap:=h' }:=fun h' hk=>by
    have nC:∀ b o,s2.heap.get? b=some o->b≠C/\b≠Dd:=fun b o e=>below b (by rw[<- hDd];exact Azj e)
    have un:Un (frs X.stack) fp H2 H3 s2.heap s4.heap:=I4.base
    refine I2.call' (s':={ s4 with heap:=h' }) (ch:=fp) I4.os ⟨fun b o e n hb hx=>hk b o (nC b o e).1 (un.keep b o e n hb hx),fun b o e n hb hx=>?_,fun b o e n hx=>?_,fun b o e hx=>?_,fun b xs e=>?_,fun b o v e=>?_,fun b ps e=>?_⟩ (fun b v e=>?_) I4.bare fun b hb=>?_
    ·obtain⟨sl,q⟩:=un.slot b o e n hb hx
     exact⟨sl,hk b _ (nC b o e).1 q⟩
    ·rw[A0 (nC b o e).2];exact un.free b o e n hx
    ·obtain⟨o',q⟩:=un.there b o e hx
     exact⟨o',hk b _ (nC b o e).1 q⟩
    ·rw[A0 (As e hDn)];exact un.tups b xs e
    ·rw[A0 (As e hDn)];exact un.frzs b o v e
    ·obtain⟨more,q⟩:=un.tbls b ps e
     exact⟨more,by rw[A0 (As e hDn)];exact q⟩
    ·have hCfree:H3 C=none:=I4.free
     by_cases hbD:b=Dd
     ·subst hbD
      rw[A3] at e
      cases e
      exact⟨hyl,its,na,rv3,hk _ _ hDC e4⟩
     ·rw[A0 hbD] at e
      refine (I4.hok b v e).stay (fun c o hc q=>hk c o ?_ q) (fun c q=>by rw[A0 (As q hD3)];exact q) (fun c xs q=>Rd.upd_none hD3 q) fun c x u q=>by rw[A0 (As q hD3)];exact q
      rcases hc with rfl|hc
      ·exact As e hCfree
      ·exact As hc hCfree
    ·obtain⟨q0,q1,q2,q3,q4,q5⟩:=f2 b hb
     exact⟨q3,q1,q4,q5⟩
   have hCl:C≠X.env.locals:=fun z=>absurd I2.lt (by rw[<- z,hDd];exact Nat.not_lt.mpr hCle)
   have hCc':∀ x c,X.env.cells.lookup x=some c->c≠C:=fun x c e z=>by
    obtain⟨v,oc,ho,_⟩:=I2.cell x c e
    exact absurd (Azj ho) (by rw[z,hDd];exact Nat.not_lt.mpr hCle)
   refine hQ Dd C s4 ⟨⟨H3,upd H3 Dd (.lst ys),μ3,ys,(Step.of_same hS2).trans s3' (fun c hc=>hS2.free hc),S3,A6 hD3,hD3,A3,rr3.fresh hD3,inv s4.heap fun _ _ _ e=>e,by rw[A0 hDC.symm];exact I4.free,fun σ' s'' h' J sb=>?_⟩,?_,hCl,hCc'⟩
   ·exact J.turned (it:=C) (t':=s''.toks) (fun b o hb e=>(sb.2 b hb).trans e) (by rw[A0 hDC.symm];exact I4.free) hCl (.inr (Azy I2.sz (by rw[hDd];exact hCle))) hCc' fun p hp z=>absurd (Azj (I2.pin p hp).1) (by rw[z,hDd];exact Nat.not_lt.mpr hCle)
   obtain⟨m',hm,_⟩:=I4.loc
   exact⟨m',hm⟩
 exact codeAny_compStart_list (key _ rfl) (T.self _ 0 _ _ _ (T.keep _ _ _ st2 fun b hb o e=>hkp b o e) (key _ rfl))
variable {x:Str}{p' spos:Pos}{i:Nat}
noncomputable def Abu (i:Nat) (f:FLm):FS:=fun env m=>(f env m).bind fun x=>some (.nx (env.set i (some (.ref x.2.length))) (x.2++[.lst x.1]))
theorem Aev (ok:CompOk X scope cap N') (hc:X.calm=true) (hi:PW' X tg iter fw) (hg2:∀ d d' env e1,g d env=some e1->g d' e1=g d' env)
  (hg:∀ cl C s₀ H₀ ex pn,PGD (Ax X N' scope cl C s₀ H₀ ex pn) tg g) (ht:∀ cl C s₀ H₀ ex pn,PTs (Ax X N' scope cl C s₀ H₀ ex pn) ifs t) (he:∀ cl C s₀ H₀ ex pn,PDm (Ax X N' scope cl C s₀ H₀ ex pn) elt fe)
  (hs:∀ x,foldedSetIterable iter X.env x=pure x) (hsw:swapsWith (.ListComp elt [⟨tg,iter,ifs,0⟩] scope pos) (some (.Name x p')) spos.line X.env=pure true) (hN:X.N.Nodup) (hn:X.N[i]?=some x) (hx:Loc X.env.scope x) (hf:X.fn x=true\/X.env.scope.names.lookup x=some .local) :
  PSD X (.Assign [.Name x p'] (.ListComp elt [⟨tg,iter,ifs,0⟩] scope pos) spos) (Abu i (L6 cap (N'.length - cap.length) fw g t fe)):=by
 intro pins s σ H Dn I ⟨env,μ,m,o,S,E,h,q⟩
 obtain⟨z,h1,h2⟩:=bind_some h
 cases h2
 rw[exec_Assign_Name_used _ _ _ _ hsw]
 refine Azc (wpAny_standAt (Azc ?_))
 show wpAny _ X.A (do let _ <- comprehension (.ListComp elt [⟨tg,iter,ifs,0⟩] scope pos) scope X.env _ (newList []) false (eval iter X.env) (some (assign (.Name x p') X.env))) _ _ s
 refine Azc (Bal (Vw ok hc hi hg2 (Φ:=fun _=>True) (fun _=>trivial) (fun cl C s₀ H₀ ex pn _=>hg cl C s₀ H₀ ex pn) (fun cl C s₀ H₀ ex pn _=>ht cl C s₀ H₀ ex pn) (fun cl C s₀ H₀ ex pn _=>he cl C s₀ H₀ ex pn) hs (use:=some (assign (.Name x p') X.env)) (Q:=fun _ s'=>SP X pins Dn .next s') I S E h1 fun D C s' ⟨⟨H3,H',μ',ys,st,S3,h1,h2,h3,h4,h5,h6,h7⟩,⟨mm,hm⟩,lc,cc⟩=>?_) (fun _ s' hq=>Azi (Azi hq)) fun _ _ e=>e)
 show wpAny _ X.A (assign (.Name x p') X.env (.ref D)) _ _ _
 refine wpAny_assign_Name (Lg (v:=.ref D) h5 hN hn hx rfl (fun s'' I'' ⟨a,sb,ha⟩=>?_) hf)
 obtain⟨st2,S4⟩:=S3.push h1 h2 h3 h4
 have st3:=st.trans st2 (st.none S S3)
 refine⟨mm,hm.sameBut sb ?_,fun h' sb'=>⟨_,H',h7 _ s'' h' I'' sb',q _ H' _ st3 S4 ((E.step S st3).set i (La S3.len))⟩⟩
 rcases ha with ha|ha
 ·rw[ha];exact lc
 ·exact (cc x a ha).symm
end
end
end ML
end L2
end S_EX7
section S_EF6
namespace L2
namespace ML
open PySem PySem.Spec PyProof.Rows
structure QDm (X:Cx) (e:Expr) (f:FEm):Prop where out:PDm X e f
structure QLm (X:Cx) (e:List Expr) (f:FLm):Prop where out:PLm X e f
structure QBm (X:Cx) (e:Expr) (f:FBm):Prop where out:PBm X e f
structure QWBm (X:Cx) (e:Expr) (f:FBm):Prop where out:Ann X e f
section
variable {X:Cx}{a b c e tg:Expr}{es:List Expr}{pos p p' apos cpos spos:Pos}{x:Str}{f g:FEm}{gl:FLm}{t u:FBm}{i k j n:Nat}{o:D->D->MH->Option D}
theorem Ap {f:FE} (h:QD X e f):QDm X e (fM f):=⟨Ary h.out⟩
theorem Ag9 {f:FB} (h:QB X e f):QBm X e (fBm f):=⟨Arf h.out⟩
theorem Az:QLm X [] A8:=⟨Alr⟩
theorem An (ha:QDm X e f) (hr:QLm X es gl) (hs':Bp e=true:=by rfl):QLm X (e::es) (Ag f gl):=⟨Ael ha.out hr.out (Ar hs')⟩
theorem J7 {x1} (h:QLm X es gl):QDm X (.Tuple es x1 pos) (Ii gl):=⟨Ale h.out⟩
theorem Ass (h:QLm X es gl):QDm X (.List es pos) (Y1 gl):=⟨Ald h.out⟩
theorem Pz {op} (ho:OpM X (binaryOp op) o) (ha:QDm X a f) (hb:QDm X b g):QDm X (.BinOp a op b pos) (f2m o f g):=⟨Alb ho ha.out hb.out⟩
theorem Asp {op} (ho:OpM X (compareOp op) o) (ha:QDm X a f) (hb:QDm X b g) (hm':Eb b=true:=by rfl):QDm X (.Compare a [op] [b] pos) (f2m o f g):=⟨Alc ho ha.out hb.out (Ep hm')⟩
theorem Th {op} (ho:OpM X (compareOp op) o) (ha:QDm X a f) (hb:QDm X b g) (hm':Eb b=true:=by rfl):QBm X (.Compare a [op] [b] pos) (Hq (f2m o f g)):=⟨Ak7 ho ha.out hb.out (Ep hm')⟩
theorem Ae4 (ha:QDm X a f) (hb:QDm X b g) (hs':Atw b=true:=by rfl):QDm X (.Subscript a b pos) (f2m oIx f g):=⟨Arx ha.out hb.out (Nk hs')⟩
theorem Asr (hm:X.mg "int"=none) (ha:QLm X [e] gl) (hg:Gl X "int":=by unfold Gl;kernel_rfl) (he':Bp e=true:=by rfl):QDm X (.Call (.Name "int" p) [e] [] pos) (L5 Agp gl):=⟨Xm Af9 hg hm (by decide +kernel) ha.out (by decide) (by decide) (Ar he') rfl⟩
theorem Awd (hc:QBm X c t) (ha:QDm X a f) (hb:QDm X b g):QDm X (.IfExp c a b pos) (Apl t f g):=⟨Arw hc.out ha.out hb.out⟩
theorem Ae5 (ha:QBm X a t):QWBm X (.BoolOp .And [a] pos) t:=⟨Aez ha.out⟩
theorem Ami (ha:QBm X a t) (hb:QWBm X (.BoolOp .And (b::es) pos) u):QWBm X (.BoolOp .And (a::b::es) pos) (Yz t u):=⟨Amc ha.out hb.out⟩
theorem Ae3 {op} (h:QWBm X (.BoolOp op es pos) t):QBm X (.BoolOp op es pos) t:=⟨Aed h.out⟩
theorem C6 (hN:X.N.Nodup) (he:QDm X e f) (hi:X.N[i]?=some x:=by kernel_rfl) (hx:Loc X.env.scope x:=by exact Bbt (by kernel_rfl)) (hs':Ij e=true:=by rfl) (hf:X.fn x=true\/X.env.scope.names.lookup x=some .local:=by exact Bbt (by kernel_rfl)) :
  QS X (.Assign [.Name x p'] e pos) (Dh i f):=⟨Aa6 hN hi hx he.out (Gh hs') hf⟩
theorem G1 (hN:X.N.Nodup) (he:QDm X e f) (hi:X.N[i]?=some x:=by kernel_rfl) (hx:Loc X.env.scope x:=by exact Or.inr (by kernel_rfl)) (hs':Ij e=true:=by rfl) (hf:X.fn x=true\/X.env.scope.names.lookup x=some .local:=by exact Bbt (by kernel_rfl)) :
  QS X (.Assign [.Name x p'] e pos) (Dh i f):=⟨Aa6 hN hi hx he.out (Gh hs') hf⟩
theorem N8 (he:QDm X e f):QS X (.Return (some e) pos) (P6 f):=⟨Al3 he.out⟩
theorem Ja (he:QDm X e f) (hs:swapsWith e none pos.line X.env=pure false:=by rfl):QS X (.Expr e pos) (Ie f):=⟨Aet he.out hs⟩
theorem Abi {f g:FS}{sa sb:List Stmt} (hc:QBm X c t) (ha:QSs X sa f) (hb:QSs X sb g):QS X (.If c sa sb pos) (Amq t f g):=⟨Asd hc.out ha.out hb.out⟩
theorem Abh {g:FG} (he:QDm X e f) (hg:QG X tg g) (hs':Ij e=true:=by rfl) (hw:swappedStores [tg] e X.env=pure none:=by kernel_rfl) (h1:(assignEach [tg] X.env).map (·.2)=[assign tg X.env]:=by kernel_rfl):QS X (.Assign [tg] e pos) (Xr f g):=⟨Al2 he.out hg.out (Jb hs') hw h1⟩
theorem N7 {t:FG}{b:FS}{body:List Stmt} (hp:PassesOwn (model X.prog X.w) X.A X.env X.xe) (hc:X.calm=true) (hm:X.mg "range"=none) (ha:QLm X [a] gl) (ht:QG X tg t) (hb:QSs X body b) (hg:Gl X "range":=by unfold Gl;kernel_rfl) (hs':Bp a=true:=by rfl) (hs2':Eb (.Call (.Name "range" p) [a] [] pos)=true:=by rfl) :
  QS X (.For tg (.Call (.Name "range" p) [a] [] pos) body [] spos) (Lb gl t b):=⟨Aeu hp hc hg hm ha.out (Ar hs') ht.out hb.out (De hs2')⟩
theorem Abg {f:FE} (hf:QD X a f) (ha:QLm X [e] gl) (hbase':Mj a=true:=by rfl) (hline:(apos.endLine == cpos.line)=true:=by kernel_rfl) (hs':Bp e=true:=by rfl) :
  QS X (.Expr (.Call (.Attribute a "append" apos) [e] [] cpos) spos) (Oc Xg f gl):=⟨Aa5 PySem.F.plainAttrs_list PySem.F.slot_list_append PySem.F.type_list_append Po Agn hf.out ha.out (Ds hbase') (G4 (by rw[Ban,hs'];rfl) rfl) hline (Ar hs') rfl⟩
theorem Abj {fo:FE} (he:QDm X e f) (ho:QD X a fo) (hi:QDm X b g) (ha:∀ v,assign (.Subscript a b p) X.env v=(do
   let ov <- holding [v] (eval a X.env)
   let iv <- holding [v,ov] (eval b X.env)
   standAt p
   holding [v,ov,iv] (setItem ov iv v)
   release [v,ov,iv] []):=by intro v;rfl) (hs':Ij e=true:=by rfl) (hw:swappedStores [.Subscript a b p] e X.env=pure none:=by kernel_rfl) (h1:(assignEach [.Subscript a b p] X.env).map (·.2)=[assign (.Subscript a b p) X.env]:=by kernel_rfl) :
  QS X (.Assign [.Subscript a b p] e pos) (Ld f fo g):=⟨Aa7 he.out ho.out hi.out ha (Jb hs') hw h1⟩
end
section
variable {X:Cx}{elt tg iter:Expr}{ifs:List Expr}{scope:Scope}{pos:Pos}{fw:FW}{g:FG}{t:FB}{fe:FEm}{x:Str}{p' spos:Pos}{i:Nat}
theorem Amh (cap:List Nat) (N':List Str) (hN:X.N.Nodup) (hc:X.calm=true) (hi:QW X tg iter fw) (hg2:∀ d d' env e1,g d env=some e1->g d' e1=g d' env) (hg:∀ cl C s₀ H₀ ex pn,QG (Ax X N' scope cl C s₀ H₀ ex pn) tg g) (ht:∀ cl C s₀ H₀ ex pn,QTs (Ax X N' scope cl C s₀ H₀ ex pn) ifs t) (he:∀ cl C s₀ H₀ ex pn,QDm (Ax X N' scope cl C s₀ H₀ ex pn) elt fe) (ok:Ha scope X.env.scope X.N N' cap=true:=by kernel_rfl) (hs':Eb iter=true:=by rfl) (hn:X.N[i]?=some x:=by kernel_rfl) (hx:Loc X.env.scope x:=by exact Bbt (by kernel_rfl)) (hf:X.fn x=true\/X.env.scope.names.lookup x=some .local:=by exact Bbt (by kernel_rfl)) (hsw:swapsWith (.ListComp elt [⟨tg,iter,ifs,0⟩] scope pos) (some (.Name x p')) spos.line X.env=pure true:=by kernel_rfl) :
  QS X (.Assign [.Name x p'] (.ListComp elt [⟨tg,iter,ifs,0⟩] scope pos) spos) (Abu i (L6 cap (N'.length - cap.length) fw g t fe)) :=
 ⟨Aev (CompOk.of ok) hc hi.out hg2 (fun cl C s H ex pn=>(hg cl C s H ex pn).out) (fun cl C s H ex pn=>(ht cl C s H ex pn).out) (fun cl C s H ex pn=>(he cl C s H ex pn).out) (De hs') hsw hN hn hx hf⟩
end
inductive spI (K:W.Frag) (n:Nat) (fn:List D->MH->Option (D×MH)) (vs:List V) (H:Hp) (Q:VK) (E:XK):Prop
 |mk (μ:List Addr) (m:MH) (ds:List D) (d:D) (m':MH) (S:Sim K H μ m) (r:Reps K H μ (·∈μ) ds vs) (l:ds.length=n) (h:fn ds m=some (d,m')) (q:∀ v H' μ',Step H μ H' μ'->Sim K H' μ' m'->Rep K H' μ' (·∈μ') d v->Q v H')
noncomputable def Lu (N:Nat) (g:FS):List D->MH->Option (D×MH):=fun ds m=>(g (ds.map some++List.replicate (N - ds.length) none) m).bind fun o=>match o with
 |.rt d m'=>some (d,m')
 |.nx _ m'=>some (.non,m')
 |_=>none
theorem Adf {P:Program}{w:World}{K:W.Frag}{mg:Str->Option Value}{base:Heap}{x qual:Str}{st:Stmt}{f:Addr}{fd:FuncData}{N ps:List Str}{k:Nat}{g:FS} (F:Fun K x qual st f fd) (S:FnScope N ps (Aq st))
  (hbody:∀ (cdv:Value) (A:Around) (outer:List Env) (s:Shared) (H:Hp) (E:XK),Room k (A.deeper (envOfC qual (Aq st) s.heap.objs.size f cdv)) ->
   Ri (Nf CX0 P w K mg base N qual (Aq st) f cdv A outer s H E).nox (Bw st) g):FnOk P w K mg base CX0 (k+1) f fd ps (spI K ps.length (Lu N.length g)):=by
 refine F.ok S (fun vs H Q E h=>?_) (fun cdv A outer s H vs Q E hr h=>?_)
 ·obtain⟨μ,m,ds,d,m',S,r,hl,_⟩:=h
  rw[<- r.length];exact hl
 ·obtain⟨μ,m,ds,d,m',S0,r,hl,h,q⟩:=h
  refine⟨_,hbody cdv A outer s H E hr,?_⟩
  obtain⟨o,h1,h2⟩:=bind_some h
  refine⟨_,μ,m,o,S0,Gs r,h1,?_⟩
  cases o with
  |rt d' m1=>cases h2;exact fun v H' μ' st S' r'=>q v H' μ' st S' r'
  |nx env m1=>cases h2;exact fun σ' H' μ' st S' E'=>q _ H' μ' st S' .non
  |bk _ _=>exact Ad h2
  |ct _ _=>exact Ad h2
structure ClI (P:Program) (w:World) (K:W.Frag) (mg:Str->Option Value) (base:Heap) (k:Nat) (x:Str) (n:Nat) (fn:List D->MH->Option (D×MH)):Prop where
 ex:∃ a fd ps,FnOk P w K mg base CX0 k a fd ps (spI K n fn)/\mg x=some (.ref a)/\W.keepIn K (.ref a)=true/\Binds K fd ps []
noncomputable def A4 (n:Nat) (fn:List D->MH->Option (D×MH)) (g:FLm):FEm:=fun env m=>(g env m).bind fun x=>if x.1.length=n then fn x.1 x.2 else none
noncomputable def Y2 (f:FL):FEm:=fun env m=>(f env m).bind fun ds=>some (.ref m.length,m++[.lst ds])
section
variable {P:Program}{w:World}{K:W.Frag}{mg:Str->Option Value}{base:Heap}{x:Str}{st:Stmt}{ps:List Str}{k n:Nat}
theorem N5 (N:List Str) (T:FD K mg x st ps) (g:FS) (fn:List D->MH->Option (D×MH))
  (hbody:∀ (f:Addr) (cdv:Value) (A:Around) (outer:List Env) (s:Shared) (H:Hp) (E:XK),Room k (A.deeper (envOfC x (Aq st) s.heap.objs.size f cdv))->N.Nodup ->
   QSs (Nf CX0 P w K mg base N x (Aq st) f cdv A outer s H E).nox (Bw st) g) (hfn:fn=Lu N.length g:=by rfl) (hn:ps.length=n:=by rfl) (S:FnScope N ps (Aq st):=by exact⟨rfl,rfl,rfl,by decide +kernel,rfl,by decide +kernel,by decide +kernel⟩):ClI P w K mg base (k+1) x n fn:=by
 obtain⟨a,fd,m,F,b⟩:=T.ex
 subst hfn hn
 exact⟨a,fd,ps,Adf F S fun cdv A outer s H E hr=>(hbody a cdv A outer s H E hr S.nd).out,m,F.kp,b⟩
end
section
variable {X:Cx}{e:Expr}{es:List Expr}{pos p apos cpos spos:Pos}{x:Str}{k j n:Nat}{fn:List D->MH->Option (D×MH)}{gl:FLm}{a e':Expr}
theorem El (F:ClI X.prog X.w X.K X.mg X.base k x n fn) (hr:Room j X.A) (ha:QLm X (e::es) gl) (hk:k<=j:=by decide) (hg:Gl X x:=by unfold Gl;kernel_rfl) (hdb:(x == ("__debug__":Str))=false:=by decide) (he':Bp e=true:=by rfl) (hpl':es.all Bp=true:=by rfl) :
  QDm X (.Call (.Name x p) (e::es) [] pos) (A4 n fn gl):=by
 obtain⟨a,fd,ps,F,m,kp,b⟩:=F.ex
 refine⟨PE.imp (N2 F (hr.mono hk) hg m kp b .nil (Aar (X:=X)) ha.out hdb (Ar he') (Dm hpl')) fun σ H Q ⟨env,μ,m,d,m',S,E,h,q⟩=>?_⟩
 obtain⟨y,h1,h⟩:=bind_some h
 split at h
 ·rename_i hl
  refine⟨env,μ,m,y.1,y.2,S,E,h1,fun vs H1 μ1 st1 S1 rs=>?_⟩
  rw[Az2]
  exact⟨μ1,y.2,y.1,d,m',S1,rs,hl,h,fun v H' μ' st S' r=>q v H' μ' (st1.trans st (st1.none S S1)) S' r⟩
 ·cases h
theorem Aha {f:FL} (h:QF X e f):QDm X e (Y2 f):=⟨PE.imp h.out fun σ H Q ⟨env,μ,m,d,m',S,E,h,q⟩=>by
 obtain⟨ds,h1,h⟩:=bind_some h
 cases h
 refine⟨env,μ,m,ds,S,E,h1,fun a xs H' s hn ha r=>?_⟩
 obtain⟨st,S'⟩:=S.push s hn ha r
 exact q _ H' _ st S' (La S.len)⟩
theorem Xp {f:FE} (hf:QD X a f) (ha:QLm X [e,e'] gl) (hbase':Mj a=true:=by rfl) (hline:(apos.endLine == cpos.line)=true:=by kernel_rfl) (hs':Bp e=true:=by rfl) (hs2:Bp e'=true:=by rfl) :
  QS X (.Expr (.Call (.Attribute a "insert" apos) [e,e'] [] cpos) spos) (Oc Hg f gl):=⟨Aa5 PySem.F.plainAttrs_list PySem.F.slot_list_insert PySem.F.type_list_insert Z6 Z7 hf.out ha.out (Ds hbase') (G4 (by rw[Ban,Ban,hs',hs2];rfl) rfl) hline (Ar hs') (by rw[Ar hs2];rfl)⟩
end
section
variable {X:Cx}{k:Nat}
noncomputable def U4 (x:Str) (n:Int):Str:=if n < 1 then Str.empty else if (n == 1||x.length == 0)=true then x else ⟨(List.replicate n.toNat x.cps).foldl (·++·) #[]⟩
def R9:D->D->MH->Option D
 |.str x,.int n,_=>if x.length<=1000/\-1000<=n/\n<=1000/\(U4 x n).length<=1000000/\PyData.strOk (U4 x n)=true then some (.str (U4 x n)) else none
 |_,_,_=>none
theorem Aal:OpM X (binaryOp .Mult) R9:=by
 intro pins s σ H μ m x y z v u v' u' Q I S rx ry r1 r2 e q
 cases rx with
 |str x ok =>
  cases ry with
  |int n =>
   unfold R9 at e
   simp only at e
   split at e
   ·rename_i hc
    obtain⟨h1,h2,h3,h4,h5⟩:=hc
    cases e
    obtain⟨t,rfl⟩:=(show ∃ t,v'=Value.str x t from r1)
    obtain⟨t2,rfl⟩:=(show ∃ t,u'=Value.int n t from r2)
    have fin:∀ t tk,EP X pins σ Q (.str (U4 x n) t) { s with toks:=tk }:=fun t tk=>⟨.str (U4 x n),H,I.tok tk,⟨t,rfl⟩,q _ H (Same.refl H) (.str _ h5)⟩
    have hz:sizeLine=16777216:=Bas
    have hx:(x.length:Int)<=1000:=by lia
    refine P.mul_str (by rw[Az6 (by lia),Az6 (by lia)];rfl) (fun h1' _=>?_) (fun h1' _=>?_) ?_
    ·have hn:(0:Int) < n:=by lia
     have:(x.length:Int) * n<=1000 * 1000:=Int.mul_le_mul hx h3 (by lia) (by lia)
     have:=Int.le_ediv_of_mul_le hn (show (x.length:Int) * n<=2 ^ 63 - 1 by lia)
     lia
    ·have hn:n.toNat<=1000:=by lia
     have:x.length * n.toNat<=1000 * 1000:=Nat.mul_le_mul h1 hn
     unfold Builtin.Str.tooLong
     exact Az6 (by rw[hz];lia)
    ·unfold U4 at fin h4
     by_cases c1:n < 1
     ·rw[Azp c1] at fin h4 ⊢
      exact⟨by decide,fin _ _⟩
     ·rw[Azs c1] at fin h4 ⊢
      by_cases c2:(n == 1||x.length == 0)=true
      ·rw[Azp c2] at fin h4 ⊢
       exact fin t s.toks
      ·rw[Azs c2] at fin h4 ⊢
       exact⟨Azy h4 (by rw[hz];decide),fin _ _⟩
   ·cases e
  |_=>exact Ad e
 |_=>exact Ad e
end
section
variable {P:Program}{w:World}{K:W.Frag}{mg:Str->Option Value}{base:Heap}{x:Str}{st:Stmt}{ps:List Str}{k n:Nat}
theorem Cl.zero (T:FD K mg x st ps):Cl P w K mg base k x n (fun _=>none):=by
 obtain⟨a,fd,m,F,b⟩:=T.ex
 exact⟨a,fd,ps,⟨fun vs H Q E ⟨ds,d,r,l,h,q⟩=>(nomatch h),fun A outer s H args us vs Q E _ _ _ _ ⟨ds,d,r,l,h,q⟩=>(nomatch h)⟩,m,F.kp,b⟩
end
end ML
end L2
end S_EF6
section S_EG1
namespace L2
namespace ML
open PySem PySem.Spec PyProof.Rows PySem.SeqAt
def LeAt (A:Around) (s:Shared) (x y:Value) (k:Bool):Prop :=
 ∀ (prog:Program) (w:World) (E:Value->Shared->Prop) (Q:Value->Shared->Prop),Q (.bool k) s->wpAny (model prog w) A (richCompare .LtE x y) Q E s
inductive LexE (A:Around) (s:Shared):List Value->List Value->Bool->Prop where
 |nil:LexE A s [] [] true
 |short {y ys}:LexE A s [] (y::ys) true
 |long {x xs}:LexE A s (x::xs) [] false
 |same {x y xs ys k}:EqAt A s x y true->LexE A s xs ys k->LexE A s (x::xs) (y::ys) k
 |diff {x y xs ys k}:EqAt A s x y false->LeAt A s x y k->LexE A s (x::xs) (y::ys) k
theorem LexE.end1 {s:Shared} (h:LexE A s xs ys k) (e:xs.zip ys=[]):k=decide (xs.length<=ys.length):=by
 cases h with
 |nil=>rfl
 |short=>simp
 |long=>simp
 |same _ _=>simp at e
 |diff _ _=>simp at e
theorem X1 (l b:Addr) (xs ys:Array Value) (n n2:Nat) (dd dd2:Option Addr) (sl sl2:Array (Option Value)) (k:Bool) :
  Meets (Builtin.«tuple.__le__» ⟨[.ref l,.ref b],[]⟩)
   (fun A R s=>(s.heap.get? l=some { cls:=.type "tuple",dict:=dd,data:=.seq xs n,slots:=sl }/\s.heap.get? b=some { cls:=.type "tuple",dict:=dd2,data:=.seq ys n2,slots:=sl2 }) /\
    LexE A.in1 s xs.toList ys.toList k/\R (.ok (.ret (.bool k))) s) :=
 .of_wp fun prog w A R s h=>by
  obtain⟨hp,g,d,tk,os⟩:=s
  obtain⟨⟨hl,hb⟩,hx,hR⟩:=h
  have f2:=AutoSeq1.sub_tuple_tuple
  wp_walk using wpAny_loadPart' hl,wpAny_loadPart' hb,wpAny_forIn_list _ (fun rest b s'=>b.1=none/\s'=⟨hp,g,d,tk,os⟩/\∃ us ws,rest=us.zip ws/\us.length+ys.size=ws.length+xs.size/\LexE A.in1 ⟨hp,g,d,tk,os⟩ us ws k) _
  case turn =>
   rintro ⟨y,x⟩ rest b s' ⟨hb1,rfl,us,ws,hz,hn,hx⟩
   cases hx with
   |nil=>cases hz
   |short=>cases hz
   |long=>cases hz
   |@same u v us ws _ he hx =>
    cases hz
    refine Azc (he prog w _ _ ?_)
    wp_walk
    exact⟨rfl,rfl,us,ws,rfl,by simp only[Azo] at hn;lia,hx⟩
   |@diff u v us ws _ he hk =>
    cases hz
    refine Azc (he prog w _ _ ?_)
    have hk2:∀ {E:Value->Shared->Prop}{Q:Value->Shared->Prop},Q (.bool k) ⟨hp,g,d,tk,os⟩->wpAny (model prog w) A.in1 (richCompare .LtE y x) Q E ⟨hp,g,d,tk,os⟩:=fun q=>hk prog w _ _ q
    wp_walk using hk2
    exact⟨_,rfl,hR⟩
  case fin =>
   rintro ⟨b1,b2⟩ s' ⟨hb1,rfl,us,ws,hz,hn,hx⟩
   simp only at hb1
   subst hb1
   have e:=hx.end1 hz.symm
   subst e
   wp_walk
   refine⟨_,rfl,?_⟩
   have e2:decide (us.length<=ws.length)=decide (xs.size<=ys.size):=by rw[Bce];lia
   rw[e2] at hR
   simpa [Builtin.Tuple.tupleCompareSizes] using hR
  case h =>
   exact⟨rfl,rfl,xs.toList,ys.toList,rfl,by simp[Nat.add_comm],hx⟩
theorem LeAt.tuples {s:Shared}{l b:Addr} (hl:s.heap.IsTuple l xs) (hb:s.heap.IsTuple b ys) (hu:A.units < cLine) (hx:LexE A.in1 s xs.toList ys.toList k):LeAt A s (.ref l) (.ref b) k:=fun prog w E Q h=>by
 obtain⟨⟨cls,dd,data,sl⟩,ho,hc,n,hd⟩:=id hl
 obtain⟨⟨cls2,dd2,data2,sl2⟩,ho2,hc2,n2,hd2⟩:=id hb
 simp only at hc hd hc2 hd2
 subst hc hd hc2 hd2
 refine richCompare_meets_room (op:=.LtE) ⟨_,ho,rfl⟩ ⟨_,ho2,rfl⟩ F.slot_tuple_le F.entry_tuple_le (F.args_tuple_le_2 _ _) (X1 l b xs ys n n2 dd dd2 sl sl2 k) ⟨⟨ho,ho2⟩,hx,?_⟩ hu
 exact⟨(fun x=>nomatch x),h⟩
theorem Zp (l b:Addr) (xs ys:Array Value) (n n2:Nat) (dd dd2:Option Addr) (sl sl2:Array (Option Value)) (k:Bool):∀ (us ws:List Value) (i:Nat),xs.toList.drop i=us->ys.toList.drop i=ws->i<=xs.size->i<=ys.size ->
  Meets (Builtin.«list.__eq__.loop» ⟨[.ref l,.ref b,rawInt i,rawInt 1],[]⟩)
   (fun A R s=>(s.heap.get? l=some { cls:=.type "list",dict:=dd,data:=.seq xs n,slots:=sl }/\s.heap.get? b=some { cls:=.type "list",dict:=dd2,data:=.seq ys n2,slots:=sl2 })/\LexE A.in1 s us ws k/\R (.ok (.ret (.bool k))) s):=by
 have none_at:∀ {zs:Array Value}{i:Nat},zs.toList.drop i=[]->zs[((i:Nat):Int).toNat]?=none:=fun {zs i} h=>by
  have:=List.drop_eq_nil_iff.mp h
  simp at this ⊢
  exact this
 have some_at:∀ {zs:Array Value}{i:Nat}{z:Value}{r:List Value},zs.toList.drop i=z::r->zs[((i:Nat):Int).toNat]?=some z/\zs.toList.drop (i+1)=r/\i+1<=zs.size:=fun {zs i z r} h=>by
  have hl:i < zs.toList.length:=by
   rcases Nat.lt_or_ge i zs.toList.length with q|q
   ·exact q
   ·rw[Bby q] at h;cases h
  have e:=Bau hl
  rw[h] at e
  obtain⟨e1,e2⟩:=List.cons.inj e
  have hl':i < zs.size:=by simpa using hl
  refine⟨?_,e2.symm,hl'⟩
  rw[e1]
  simp[hl']
 intro us
 induction us with
 |nil =>
  intro ws i hx hy hi1 hi2 prog w A R s h
  obtain⟨hp,g,d,tk,os⟩:=s
  obtain⟨⟨hl,hb⟩,hL,hR⟩:=h
  have e1:=none_at hx
  have z1:xs.size=i:=by have:=List.drop_eq_nil_iff.mp hx;simp at this;lia
  have hk:k=decide (xs.size<=ys.size):=by
   cases hL with
   |nil =>
    have:ys.size=i:=by have:=List.drop_eq_nil_iff.mp hy;simp at this;lia
    rw[z1,this];simp
   |short =>
    have:=(some_at hy).2.2
    rw[Bbd (by lia)]
  subst hk
  wp_walk using wpAny_loadPart' hl,wpAny_loadPart' hb
  rw[e1]
  wp_walk using wpAny_loadPart' hl,wpAny_loadPart' hb
  exact hR
 |cons u us ih =>
  intro ws i hx hy hi1 hi2 prog w A R s h
  obtain⟨hp,g,d,tk,os⟩:=s
  obtain⟨⟨hl,hb⟩,hL,hR⟩:=h
  obtain⟨e1,x2,x3⟩:=some_at hx
  cases hL with
  |long =>
   have e2:=none_at hy
   have hk:decide (xs.size<=ys.size)=false:=by
    have:ys.size=i:=by have:=List.drop_eq_nil_iff.mp hy;simp at this;lia
    rw[Az6 (by lia)]
   rw[<- hk] at hR
   wp_walk using wpAny_loadPart' hl,wpAny_loadPart' hb
   rw[e1,e2]
   wp_walk using wpAny_loadPart' hl,wpAny_loadPart' hb
   exact hR
  |@same _ y _ ws _ he hx' =>
   obtain⟨e2,y2,y3⟩:=some_at hy
   have hc:((i:Int)+1)=((i+1:Nat):Int):=by push_cast;rfl
   wp_walk using wpAny_loadPart' hl,wpAny_loadPart' hb
   rw[e1,e2]
   refine Azc (he prog w _ _ ?_)
   wp_walk
   rw[hc]
   exact⟨plainId_quiet Bam _,codeAny_builtin MeetsSeq3.entry_eq_loop (by
    rw[Around.under_plainId Bam _]
    exact ih ws (i+1) x2 y2 x3 y3 prog w A R _ ⟨⟨hl,hb⟩,hx',hR⟩)⟩
  |@diff _ y _ ws _ he hk =>
   obtain⟨e2,y2,y3⟩:=some_at hy
   wp_walk using wpAny_loadPart' hl,wpAny_loadPart' hb
   rw[e1,e2]
   refine Azc (he prog w _ _ ?_)
   have hk2:∀ {E:Value->Shared->Prop}{Q:Value->Shared->Prop},Q (.bool k) ⟨hp,g,d,tk,os⟩->wpAny (model prog w) A.in1 (richCompare .LtE u y) Q E ⟨hp,g,d,tk,os⟩:=fun q=>hk prog w _ _ q
   wp_walk using wpAny_loadPart' hl,wpAny_loadPart' hb
   rw[e1,e2]
   wp_walk using hk2
   exact hR
theorem Zr (l b:Addr) (xs ys:Array Value) (n n2:Nat) (dd dd2:Option Addr) (sl sl2:Array (Option Value)) (k:Bool) :
  Meets (Builtin.«list.__le__» ⟨[.ref l,.ref b],[]⟩)
   (fun A R s=>(s.heap.get? l=some { cls:=.type "list",dict:=dd,data:=.seq xs n,slots:=sl }/\s.heap.get? b=some { cls:=.type "list",dict:=dd2,data:=.seq ys n2,slots:=sl2 })/\LexE A.in1 s xs.toList ys.toList k/\R (.ok (.ret (.bool k))) s):=by
 intro prog w A R s h
 obtain⟨hp,g,d,tk,os⟩:=s
 obtain⟨⟨hl,hb⟩,hL,hR⟩:=h
 have f3:=AutoSeq1.sub_list_list
 wp_walk using wpAny_loadPart' hl,wpAny_loadPart' hb
 exact⟨plainId_quiet Bam _,codeAny_builtin MeetsSeq3.entry_eq_loop (by
  rw[Around.under_plainId Bam _]
  exact Zp l b xs ys n n2 dd dd2 sl sl2 k _ _ 0 rfl rfl (Az5 _) (Az5 _) prog w A R _ ⟨⟨hl,hb⟩,by simpa using hL,hR⟩)⟩
theorem LeAt.lists {s:Shared}{l b:Addr} (hl:s.heap.IsList l xs) (hb:s.heap.IsList b ys) (hu:A.units < cLine) (hx:LexE A.in1 s xs.toList ys.toList k):LeAt A s (.ref l) (.ref b) k:=fun prog w E Q h=>by
 obtain⟨⟨cls,dd,data,sl⟩,ho,hc,n,hd⟩:=id hl
 obtain⟨⟨cls2,dd2,data2,sl2⟩,ho2,hc2,n2,hd2⟩:=id hb
 simp only at hc hd hc2 hd2
 subst hc hd hc2 hd2
 refine richCompare_meets_room (op:=.LtE) ⟨_,ho,rfl⟩ ⟨_,ho2,rfl⟩ F.slot_list_le F.entry_list_le (F.args_list_le_2 _ _) (Zr l b xs ys n n2 dd dd2 sl sl2 k) ⟨⟨ho,ho2⟩,hx,?_⟩ hu
 exact⟨(fun x=>nomatch x),h⟩
mutual
def leD:D->D->Option Bool
 |.int i,.int j=>some (decide (i<=j))
 |.str i,.str j=>some (!(decide (j.cps.toList < i.cps.toList)))
 |.tup xs,.tup ys=>Md xs ys
 |.lst xs,.lst ys=>Md xs ys
 |_,_=>none
def Md:List D->List D->Option Bool
 |[],[]=>some true
 |[],_::_=>some true
 |_::_,[]=>some false
 |x::xs,y::ys=>if deq x y=true then Md xs ys else leD x y
end
section
variable {X:Cx}{pins:List (Addr×Obj)}{σ:St}{H:Hp}{s:Shared}{μ:List Addr}{B:Addr->Prop}
set_option tactic.hygienic true in
mutual
theorem Agk (I:Inv X pins σ H s):∀ (d d':D) {A:Around}{v v':V}{u u':Value}{k:Bool},Rep X.K H μ B d v->Rep X.K H μ B d' v'->Bt d=true->Bt d'=true->RelV v u->RelV v' u'->A.units+dep d+dep d' < cLine->leD d d'=some k->LeAt A s u u' k
 |.int i,d',A,v,v',u,u',k,r,r',n,n',q,q',hu,h=>by
  cases d'<;>first|(simp[leD] at h;done)|skip
  cases r;cases r'
  obtain⟨t,rfl⟩:=q
  obtain⟨t2,rfl⟩:=q'
  rw[leD] at h
  cases h
  intro prog w E Q q
  exact le_int q
 |.str i,d',A,v,v',u,u',k,r,r',n,n',q,q',hu,h=>by
  cases d'<;>first|(simp[leD] at h;done)|skip
  cases r;cases r'
  obtain⟨t,rfl⟩:=q
  obtain⟨t2,rfl⟩:=q'
  rw[leD] at h
  cases h
  intro prog w E Q q
  exact PySem.P.le_str q
 |.tup ds,d',A,v,v',u,u',k,r,r',n,n',q,q',hu,h=>by
  cases d'<;>first|(simp[leD] at h;done)|skip
  rename_i es
  cases r with
  |tup h1 r1 =>
  cases r' with
  |tup h2 r2 =>
  cases q
  cases q'
  obtain⟨its,rv,p,hz⟩:=I.tuple h1
  obtain⟨its',rv',p',hz'⟩:=I.tuple h2
  rw[leD] at h
  rw[dep,dep] at hu
  refine LeAt.tuples p p' (by lia) ?_
  rw[Bt] at n n'
  exact R5 I ds es r1 r2 n n' rv rv' (by show A.units+1+_+_ < _;lia) h
 |.non,d',A,v,v',u,u',k,r,r',n,n',q,q',hu,h=>by simp[leD] at h
 |.bl _,d',A,v,v',u,u',k,r,r',n,n',q,q',hu,h=>by simp[leD] at h
 |.lst ds,d',A,v,v',u,u',k,r,r',n,n',q,q',hu,h=>by
  cases d'<;>first|(simp[leD] at h;done)|skip
  rename_i es
  cases r with
  |lst h1 _ r1 =>
  cases r' with
  |lst h2 _ r2 =>
  cases q
  cases q'
  obtain⟨its,rv,p,hz⟩:=I.list (.inl h1)
  obtain⟨its',rv',p',hz'⟩:=I.list (.inl h2)
  rw[leD] at h
  rw[dep,dep] at hu
  refine LeAt.lists p.isList p'.isList (by lia) ?_
  rw[Bt] at n n'
  exact R5 I ds es r1 r2 n n' rv rv' (by show A.units+1+_+_ < _;lia) h
 |.kl _,d',A,v,v',u,u',k,r,r',n,n',q,q',hu,h=>by simp[leD] at h
 |.ref _,d',A,v,v',u,u',k,r,r',n,n',q,q',hu,h=>by simp[leD] at h
 |.dic _ _,d',A,v,v',u,u',k,r,r',n,n',q,q',hu,h=>by simp[leD] at h
 |.dks _ _,d',A,v,v',u,u',k,r,r',n,n',q,q',hu,h=>by simp[leD] at h
 |.fz _ _ _ _,d',A,v,v',u,u',k,r,r',n,n',q,q',hu,h=>by simp[leD] at h
 |.fn _ _,d',A,v,v',u,u',k,r,r',n,n',q,q',hu,h=>by simp[leD] at h
theorem R5 (I:Inv X pins σ H s):∀ (ds es:List D) {A:Around}{vs vs':List V}{us us':List Value}{k:Bool},Reps X.K H μ B ds vs->Reps X.K H μ B es vs'->A1 ds=true->A1 es=true->Vals vs us->Vals vs' us'->A.units+Cz ds+Cz es < cLine->Md ds es=some k->LexE A s us us' k
 |[],es,A,vs,vs',us,us',k,r,r',n,n',q,q',hu,h=>by
  cases r
  cases q
  cases es with
  |nil=>cases r';cases q';rw[Md] at h;cases h;exact .nil
  |cons e es =>
   cases r' with
   |cons r1 r2=>cases q' with
    |cons q1 q2=>rw[Md] at h;cases h;exact .short
 |d::ds,es,A,vs,vs',us,us',k,r,r',n,n',q,q',hu,h=>by
  cases r with
  |cons r1 rs =>
  cases q with
  |cons q1 qs =>
  cases es with
  |nil=>cases r';cases q';rw[Md] at h;cases h;exact .long
  |cons e es =>
   cases r' with
   |cons r2 rs2=>cases q' with
    |cons q2 qs2 =>
     rw[Md] at h
     rw[A1,Az0] at n n'
     rw[Cz,Cz] at hu
     have he:=L4 (A:=A) I r1 r2 n.1 n'.1 q1 q2 (by lia)
     by_cases hd:deq d e=true
     ·rw[Azp hd] at h
      rw[hd] at he
      exact .same he (R5 I ds es rs rs2 n.2 n'.2 qs qs2 (by lia) h)
     ·rw[Azs hd] at h
      rw[Bool.eq_false_iff.mpr hd] at he
      exact .diff he (Agk I d e r1 r2 n.1 n'.1 q1 q2 (by lia) h)
end
end
section
variable {X:Cx}
def Atu:D->D->MH->Option D:=fun x y m=>(B7 m x).bind fun x'=>(B7 m y).bind fun y'=>if dep x'<=30/\dep y'<=30 then (leD x' y').bind fun k=>some (.bl k) else none
theorem Aq5 (hr:Room k X.A):OpM X (compareOp .LtE) Atu:=by
 intro pins s σ H μ m x y z v u v' u' Q I S rx ry r1 r2 e q
 obtain⟨x',e1,h1⟩:=bind_some e
 obtain⟨y',e2,h1⟩:=bind_some h1
 split at h1
 ·rename_i hd
  obtain⟨b,h2,h3⟩:=bind_some h1
  cases h3
  obtain⟨a1,n1⟩:=Bd S rx e1
  obtain⟨a2,n2⟩:=Bd S ry e2
  have hu:=hr.units
  exact Agk I _ _ a1 a2 n1 n2 r1 r2 (by lia) h2 _ _ _ _ ⟨.bl b,H,I,rfl,q _ H (Same.refl H) (.bl _)⟩
 ·cases h1
end
end ML
end L2
end S_EG1
section S_EG2
namespace L2
namespace ML
open PySem PySem.Spec PyProof.Rows
section
variable {X:Cx}{e:Expr}{pos p:Pos}{g:FL}
end
noncomputable def ltT (a b:Str):Bool:=decide (a.cps.toList < b.cps.toList)
def Ls:D->Str->List D->List Str->D
 |b,u,d::ds,t::ts=>if ltT t u=true then Ls d t ds ts else Ls b u ds ts
 |b,_,_,_=>b
def Avq:List D->List Str->Option D
 |d::ds,t::ts=>some (Ls d t ds ts)
 |_,_=>none
def Xh (fn:List D->Option D):List D->MH->Option D:=fun xs m=>match xs with
 |[x]=>(sqL m x).bind fun ds=>(Ef fn m ds).bind fun ks=>(E4 ks).bind fun ts=>Avq ds ts
 |_=>none
section
variable {X:Cx}{pins:List (Addr×Obj)}{σ:St}{H:Hp}{s:Shared}{μ:List Addr}{m:MH}{k:Nat}{f:Addr}{lm:Lam}{fn:List D->Option D}{A':Around}
theorem Amp {us:List Value}{vs:List V}{Q:VK} (L:M7 X.prog X.w X.K X.mg X.base k 1 lm fn) (hr:Room k A') (he:Env0 X.prog X.w X.K X.mg X.base A' X.stack s H) (I:Inv X pins σ H s) (fa:FnAt H f lm) (r:Vals vs us) (h:spP X.K 1 fn vs H Q E0) :
  wpAny (model X.prog X.w) A' (call (.ref f) us) (EP X pins σ Q) (fun _ _=>False) s:=by
 refine wpAny_call (codeAny_mono (L f A' X.stack s H us vs Q hr he fa r h) fun r s' hq=>?_)
 cases r with
 |error e=>exact hq.elim
 |ok fl =>
  cases fl with
  |ret u=>exact I.after hq
  |next=>exact False.elim hq
  |brk=>exact False.elim hq
  |cont=>exact False.elim hq
theorem Aam (L:M7 X.prog X.w X.K X.mg X.base k 1 lm fn) (hr:Room k A') (he:Env0 X.prog X.w X.K X.mg X.base A' X.stack s H) (I:Inv X pins σ H s) (S:Sim X.K H μ m) (fa:FnAt H f lm) {d:D}{y:V}{v:Value}{t:Str} (r:Rep X.K H μ (·∈μ) d y) (rv:RelV y v) (hk:Ci 1 fn [d] m=some (.str t)) :
  wpAny (model X.prog X.w) A' (call (.ref f) [v]) (fun kv s'=>∃ tk H',kv=.str t tk/\Same H H'/\Inv X pins σ H' s') (fun _ _=>False) s:=by
 obtain⟨ds',h3,h4⟩:=bind_some hk
 split at h4
 ·rename_i hl1
  refine Bal (Amp (us:=[v]) (vs:=[y]) (Q:=fun v' H'=>Same H H'/\Rep X.K H' μ (·∈μ) (.str t) v') L hr he I fa (.cons rv .nil) ⟨ds',_,Di S (.cons r .nil) h3,hl1,h4,fun v' H' s' r'=>⟨s',Rep.ofCall S r'⟩⟩) (fun kv s2 hq=>?_) fun _ _ z=>z
  obtain⟨v',H2,I2,rv2,s2',r2⟩:=hq
  cases r2
  obtain⟨tk,rfl⟩:=rv2
  exact⟨tk,H2,rfl,s2',I2⟩
 ·exact Ad h4
theorem Ir:(toString "min"++toString ".loop":String)="min.loop":=by decide
theorem Jw {R:Result->Shared->Prop}{l Sa Ia:Addr}{ys0:List V} (L:M7 X.prog X.w X.K X.mg X.base k 1 lm fn) (hr:Room (k+1) X.A) (S:Sim X.K H μ m) (fa:FnAt H f lm) (hq:SqL X.K H l ys0) (hSz:X.s₀.heap.objs.size<=Sa) (hIz:X.s₀.heap.objs.size<=Ia) (hx:∀ p∈X.pn++pins,p.1≠Sa) (hy:∀ p∈X.pn++pins,p.1≠Ia) (hne:Sa≠Ia) (hlI:l≠Ia) :
  ∀ (ds ks:List D) (ts:List Str) (ys:List V) (j:Nat) (b:D) (yb:V) (vb:Value) (u:Str) (tk:Tok) (s:Shared) (H1:Hp) (c:Nat) (oI:Obj),ys0.drop j=ys->j<=ys0.length->Reps X.K H μ (·∈μ) ds ys->Ef fn m ds=some ks->E4 ks=some ts->Same H H1 ->
   Inv X ((Sa,seqObj "list" #[vb,.str u tk] c)::(Ia,oI)::pins) σ H1 s->oI.cls=.type "list_iterator"->oI.data=.fields #[.ref l,.int j 0]->RelV yb vb->Rep X.K H μ (·∈μ) b yb ->
   (∀ s' H' v y,Same H H'->Inv X pins σ H' s'->RelV y v->Rep X.K H μ (·∈μ) (Ls b u ds ts) y->R (.ok (.ret v)) s') ->
   codeAny (model X.prog X.w) X.A (.builtin "min.loop" ⟨[.ref Ia,.ref f,.ref Sa],[]⟩) R s
 |[],ks,ts,ys,j,b,yb,vb,u,tk,s,H1,c,oI,hd,hj,rs,hK,hT,sm,I,c1,c2,rb,Rb,hR=>by
  cases rs
  have hin:j=ys0.length:=by
   have:=Ba4 List.length hd
   rw[List.length_drop] at this
   simp at this;lia
  obtain⟨its,rv,pl,hz⟩:=I.list (sm.seq hq)
  have hsz:its.toArray.size=ys0.length:=by rw[Azh];exact rv.length.symm
  have W:=Walks.list (prog:=X.prog) (w:=X.w) (A:=X.A.in1) hr.hd Ia l hlI its.toArray
  have pS:=I.pin (Sa,seqObj "list" #[vb,.str u tk] c) (Azd _ (Azg ..))
  have pI:=I.pin (Ia,oI) (Azd _ (Azf _ (Azg ..)))
  refine codeAny_builtin PySem.F.entry_min_loop ?_
  rw[Around.under_plainId PySem.F.plain_min_loop _]
  refine Azc (Bbg pS.1 rfl (Azc (wpAny_tryCatch (W.done _ _ _ ⟨⟨oI,pI.1,c1,by rw[hsz,<- hin];exact c2⟩,pl.isList⟩ fun h' tk' hk'=>?_))))
  have hS':=hk' Sa _ (by simpa using hne) pS.1
  refine Azc (Bbl hS' rfl (Azc (wpAny_letGo (Azi ?_))))
  have I0:Inv X pins σ H1 s:=I.pins_of fun p hp=>I.pin p (Azd _ (Azf _ (Azf _ hp)))
  have I1:Inv X ((Sa,seqObj "list" #[vb,.str u tk] c)::pins) σ H1 { s with heap:=h',toks:=tk' }:=by
   have:=(I.pins_of (pins':=(Sa,seqObj "list" #[vb,.str u tk] c)::pins) fun p hp=>I.pin p (Azd _ (by
    rcases List.mem_cons.mp hp with rfl|hp
    ·exact Azg ..
    ·exact Azf _ (Azf _ hp)))).turned (t':=tk') (h':=h') (it:=Ia) (fun b o hb e=>hk' b o (by simpa using hb) e) pI.2.1 pI.2.2.1 (.inr hIz) (fun x c hl z=>by
     obtain⟨v,o2,e2,d2⟩:=I.cell x c hl
     rw[z] at e2
     rw[show s.heap.get? Ia=some oI from pI.1] at e2
     cases e2
     exact pI.2.2.2.2 v d2) (fun p hp=>by
     rcases List.mem_append.mp hp with z|z
     ·exact hy p (Azw _ z)
     ·rcases List.mem_cons.mp z with rfl|z
      ·exact hne
      ·exact hy p (Azd _ z))
   exact this
  obtain⟨c2',hc2⟩:∃ c2,(h'.update Sa (Obj.mapSeq fun _=>(#[]:Array Value))).get? Sa=some (seqObj "list" #[] c2):=⟨_,get?_update_seq hS' fun _=>#[]⟩
  have I2:=Inv.setPin (pre:=[]) I1 hSz hx (fun c o hc q=>(Azu _ _ (Bak hc)).trans q) hc2 (fun v z=>by cases z)
  have I3:Inv X pins σ H1 _:=I2.pins_of fun p hp=>I2.pin p (Azd _ (Azf _ hp))
  refine hR _ H1 vb yb sm I3 rb ?_
  rw[Ls]
  ·exact Rb
  ·intros;contradiction
 |d::ds,ks,ts,ys,j,b,yb,vb,u,tk,s,H1,c,oI,hd,hj,rs,hK,hT,sm,I,c1,c2,rb,Rb,hR=>by
  cases rs with
  |@cons _ y _ ys' r rs =>
  obtain⟨key,h1,h⟩:=bind_some hK
  obtain⟨ks',h2,h⟩:=bind_some h
  cases h
  obtain⟨t,ts',rfl,rfl,h5⟩:∃ t ts',key=.str t/\ts=t::ts'/\E4 ks'=some ts':=by
   cases key with
   |str t =>
    rw[E4] at hT
    obtain⟨r,e1,e2⟩:=bind_some hT
    cases e2
    exact⟨t,r,rfl,rfl,e1⟩
   |_=>exact Ad hT
  have hget:ys0[j]?=some y:=by
   have:=Ba4 (·[0]?) hd
   simpa using this
  have hlt:j < ys0.length:=(List.getElem?_eq_some_iff.mp hget).1
  have hd':ys0.drop (j+1)=ys':=by
   have:=Ba4 List.tail hd
   rw[List.tail_drop] at this
   exact this
  obtain⟨its,rv,pl,hz⟩:=I.list (sm.seq hq)
  have hsz:its.toArray.size=ys0.length:=by rw[Azh];exact rv.length.symm
  have W:=Walks.list (prog:=X.prog) (w:=X.w) (A:=X.A.in1) hr.hd Ia l hlI its.toArray
  have pS:=I.pin (Sa,seqObj "list" #[vb,.str u tk] c) (Azd _ (Azg ..))
  have pI:=I.pin (Ia,oI) (Azd _ (Azf _ (Azg ..)))
  refine codeAny_builtin PySem.F.entry_min_loop ?_
  rw[Around.under_plainId PySem.F.plain_min_loop _]
  refine Azc (Bbg pS.1 rfl (Azc (wpAny_tryCatch (W.item j _ _ _ (by rw[hsz];exact hlt) ⟨⟨oI,pI.1,c1,c2⟩,pl.isList⟩ fun v h' tk' hP hst' hk'=>?_))))
  obtain⟨oI',hoI',hoc,hod⟩:=id hst'.1
  have rvy:RelV y v:=by
   obtain⟨w',e1,e2⟩:=rv.get hget
   have hP:its.toArray[j]?=some v:=hP
   rw[List.getElem?_toArray,e1] at hP
   cases hP
   exact e2
  have I1:Inv X ((Sa,seqObj "list" #[vb,.str u tk] c)::(Ia,oI')::pins) σ H1 { s with heap:=h',toks:=tk' }:=by
   have:=Inv.setPin (pre:=[(Sa,seqObj "list" #[vb,.str u tk] c)]) (post:=pins) (h':=h') I hIz (fun p hp=>by
    rcases List.mem_append.mp hp with z|z
    ·exact hy p (Azw _ z)
    ·rcases List.mem_cons.mp z with rfl|z
     ·exact hne
     ·exact hy p (Azd _ z)) (fun b o hb e=>hk' b o (by simpa using hb) e) hoI' (fun v z=>by rw[hod] at z;cases z)
   exact this.kept (t':=tk') (h':=h') fun _ _ e=>e
  refine Azc (wpAny_tryCatch (Bah (Bal (Aam L hr.in1 I1.env0.in1 I1 (S.same sm) (fa.up fun b o _ z=>sm b o z) (r.same sm) rvy h1) (fun kv s2 he=>?_) fun _ _ hF=>hF.elim)))
  obtain⟨t2,H2,rfl,sm2,I2⟩:=he
  have pS2:=I2.pin (Sa,seqObj "list" #[vb,.str u tk] c) (Azd _ (Azg ..))
  refine Azc (wpAny_tryCatch (Bah (Azc (lt_str ?_))))
  refine Azc (Bah (Ba5 (Azc (wpAny_letGo (Azi ?_)))))
  by_cases hb:t.cps.toList < u.cps.toList
  ·obtain⟨c2',hc2⟩:∃ c2,(s2.heap.update Sa (Obj.mapSeq fun _=>#[v,.str t t2])).get? Sa=some (seqObj "list" #[v,.str t t2] c2):=⟨_,get?_update_seq pS2.1 fun _=>#[v,.str t t2]⟩
   have I3:=Inv.setPin (pre:=[]) I2 hSz (fun p hp=>by
    rcases List.mem_append.mp hp with z|z
    ·exact hx p (Azw _ z)
    ·rcases List.mem_cons.mp z with rfl|z
     ·exact Bak hne
     ·exact hx p (Azd _ z)) (fun c o hc q=>(Azu _ _ (Bak hc)).trans q) hc2 (fun v z=>by cases z)
   simp only[hb,decide_true,Bbc]
   refine Azc (Bbl pS2.1 rfl (Azc (wpAny_letGo ?_)))
   rw[Ir]
   refine Azi ⟨plainId_quiet PySem.F.plain_min_loop _,Jw L hr S fa hq hSz hIz hx hy hne hlI ds ks' ts' ys' (j+1) d y v t t2 _ H2 c2' oI' hd' hlt rs h2 h5 (sm.trans sm2) I3 hoc hod rvy r fun s' H' v' y' a1 a2 a3 a4=>hR s' H' v' y' a1 a2 a3 ?_⟩
   rw[Ls,Azp (by unfold ltT;exact Bbd hb)]
   exact a4
  ·simp only[hb,decide_false,Baf,Bbn]
   refine Azc (wpAny_letGo ?_)
   rw[Ir]
   refine Azi ⟨plainId_quiet PySem.F.plain_min_loop _,Jw L hr S fa hq hSz hIz hx hy hne hlI ds ks' ts' ys' (j+1) b yb vb u tk _ H2 c oI' hd' hlt rs h2 h5 (sm.trans sm2) I2 hoc hod rb Rb fun s' H' v' y' a1 a2 a3 a4=>hR s' H' v' y' a1 a2 a3 ?_⟩
   rw[Ls,Azs (by unfold ltT;exact fun z=>hb (Baa z))]
   exact a4
theorem Yl {Q:VK}{l:Addr}{ys:List V}{ds ks:List D}{ts:List Str}{d0:D} (L:M7 X.prog X.w X.K X.mg X.base k 1 lm fn) (hr:Room (k+1) X.A) (I:Inv X pins σ H s) (S:Sim X.K H μ m) (fa:FnAt H f lm) (hq:SqL X.K H l ys) (rs:Reps X.K H μ (·∈μ) ds ys) (hK:Ef fn m ds=some ks) (hT:E4 ks=some ts) (hm:Avq ds ts=some d0) (q:∀ v H',Same H H'->Rep X.K H' μ (·∈μ) d0 v->Q v H') :
  wpAny (model X.prog X.w) X.A (call (.builtin "min") [.ref l] [(Str.ofString "key",.ref f)]) (EP X pins σ Q) X.xe s:=by
 cases rs with
 |nil=>exact Ad hm
 |@cons d y ds ys r rs =>
 obtain⟨key,h1,h⟩:=bind_some hK
 obtain⟨ks',h2,h⟩:=bind_some h
 cases h
 obtain⟨t,ts',rfl,rfl,h5⟩:∃ t ts',key=.str t/\ts=t::ts'/\E4 ks'=some ts':=by
  cases key with
  |str t =>
   rw[E4] at hT
   obtain⟨r,e1,e2⟩:=bind_some hT
   cases e2
   exact⟨t,r,rfl,rfl,e1⟩
  |_=>exact Ad hT
 cases hm
 obtain⟨its,rv,pl,hz⟩:=I.list hq
 have hls:=pl.isList
 obtain⟨ol,hol,_⟩:=id hls
 have hll:l < s.heap.objs.size:=Azj hol
 have hsz:its.toArray.size=(y::ys).length:=by rw[Azh];exact rv.length.symm
 refine kmk_tree PySem.F.kind_min PySem.F.plain_min PySem.F.entry_min (kmk_min_key _ _) ?_
 refine Azc (Bbr (show Builtin.Builtins.bindParams "min" ["key","default"] 0 ⟨[],[(Str.ofString "key",.ref f)]⟩=pure [some (.ref f),none] from rfl) (Azc (Azi (Azc (wpAny_pyIter_list hls (Azc (wpAny_newList ?_ (Az5 _))))))))
 rw[Ir]
 refine Azi ⟨plainId_quiet PySem.F.plain_min_loop _,?_⟩
 generalize hit:(⟨.type "list_iterator",none,.fields #[.ref l,.int 0 0],#[]⟩:Obj)=oi
 have hps:(s.heap.push oi).objs.size=s.heap.objs.size+1:=size_push' ..
 have gI:((s.heap.push oi).push (seqObj "list" #[] 0)).get? s.heap.objs.size=some oi:=Aze _ (Azq _ (by rw[<- hit];rfl))
 have gS:((s.heap.push oi).push (seqObj "list" #[] 0)).get? (s.heap.push oi).objs.size=some (seqObj "list" #[] 0):=Azq _ rfl
 generalize hSa:(s.heap.push oi).objs.size=Sa at gS hps
 have hSl:s.heap.objs.size<=Sa:=by rw[hps];exact Bbu _
 have hne:Sa≠s.heap.objs.size:=by rw[hps];exact Nat.succ_ne_self _
 have hlI:l≠s.heap.objs.size:=Az1 hll
 have ci:oi.cls=.type "list_iterator":=by rw[<- hit]
 have di:oi.data=.fields #[.ref l,.int ((0:Nat):Int) 0]:=by rw[<- hit];rfl
 have I0:=I.kept (t':=s.toks) (h':=(s.heap.push oi).push (seqObj "list" #[] 0)) fun c o z=>Aze _ (Aze _ z)
 have far:∀ a,s.heap.objs.size<=a->∀ p∈X.pn++pins,p.1≠a:=fun a ha p hp=>Az1 (Azt (Azj (I.pin p hp).1) ha)
 have I1:Inv X ((Sa,seqObj "list" #[] 0)::(s.heap.objs.size,oi)::pins) σ H { s with heap:=(s.heap.push oi).push (seqObj "list" #[] 0) }:=I0.pins_of fun p hp=>by
  rcases List.mem_cons.mp hp with rfl|hp
  ·exact⟨gS,I.hok.fresh hSl,Bao (Azt I.lt hSl),I.nofs hSl,fun v z=>by cases z⟩
  ·rcases List.mem_cons.mp hp with rfl|hp
   ·exact⟨gI,I.hok.fresh (Azn _),Bao I.lt,I.nofs (Azn _),fun v z=>by rw[di] at z;cases z⟩
   ·exact I0.pin p (Azd _ hp)
 have W:=Walks.list (prog:=X.prog) (w:=X.w) (A:=X.A.in1) hr.hd s.heap.objs.size l hlI its.toArray
 refine codeAny_builtin PySem.F.entry_min_loop ?_
 rw[Around.under_plainId PySem.F.plain_min_loop _]
 refine Azc (Bbg gS rfl (Azc (wpAny_tryCatch (W.item 0 _ _ _ (by rw[hsz];simp) ⟨⟨oi,gI,ci,di⟩,?_⟩ fun v h' tk' hP hst' hk'=>?_))))
 ·exact hls.at fun o e=>Aze _ (Aze _ e)
 obtain⟨oI',hoI',hoc,hod⟩:=id hst'.1
 have rvy:RelV y v:=by
  obtain⟨w',e1,e2⟩:=rv.get (i:=0) (x:=y) rfl
  have hP:its.toArray[0]?=some v:=hP
  rw[List.getElem?_toArray,e1] at hP
  cases hP
  exact e2
 have I2:Inv X ((Sa,seqObj "list" #[] 0)::(s.heap.objs.size,oI')::pins) σ H { s with heap:=h',toks:=tk' }:=by
  have:=Inv.setPin (pre:=[(Sa,seqObj "list" #[] 0)]) (post:=pins) (h':=h') I1 I.sz (fun p hp=>by
   rcases List.mem_append.mp hp with z|z
   ·exact far _ (Azn _) p (Azw _ z)
   ·rcases List.mem_cons.mp z with rfl|z
    ·exact hne
    ·exact far _ (Azn _) p (Azd _ z)) (fun b o hb e=>hk' b o (by simpa using hb) e) hoI' (fun v z=>by rw[hod] at z;cases z)
  exact this.kept (t':=tk') (h':=h') fun _ _ e=>e
 refine Azc (wpAny_tryCatch (Bah (Bal (Aam L hr.in1 I2.env0.in1 I2 S fa r rvy h1) (fun kv s2 he=>?_) fun _ _ hF=>hF.elim)))
 obtain⟨t2,H2,rfl,sm2,I3⟩:=he
 have pS2:=I3.pin (Sa,seqObj "list" #[] 0) (Azd _ (Azg ..))
 obtain⟨c2',hc2⟩:∃ c2,(s2.heap.update Sa (Obj.mapSeq fun _=>#[v,.str t t2])).get? Sa=some (seqObj "list" #[v,.str t t2] c2):=⟨_,get?_update_seq pS2.1 fun _=>#[v,.str t t2]⟩
 have I4:=Inv.setPin (pre:=[]) I3 (Azy I.sz hSl) (fun p hp=>by
  rcases List.mem_append.mp hp with z|z
  ·exact far _ hSl p (Azw _ z)
  ·rcases List.mem_cons.mp z with rfl|z
   ·exact Bak hne
   ·exact far _ hSl p (Azd _ z)) (fun c o hc q=>(Azu _ _ (Bak hc)).trans q) hc2 (fun v z=>by cases z)
 refine Azc (Bbl pS2.1 rfl ?_)
 rw[Ir]
 exact Azi ⟨plainId_quiet PySem.F.plain_min_loop _,Jw L hr S fa hq (Azy I.sz hSl) I.sz (far _ hSl) (far _ (Azn _)) hne hlI ds ks' ts' ys 1 d y v t t2 _ H2 c2' oI' rfl (by simp) rs h2 h5 sm2 I4 hoc hod rvy r fun s' H' v' y' a1 a2 a3 a4=>⟨y',H',a2,a3,q y' H' a1 (a4.same a1)⟩⟩
end
section
variable {X:Cx}{e el:Expr}{pos p kp:Pos}{k:Nat}{lm:Lam}{fn:List D->Option D}{g:FL}
theorem Ala (L:M7 X.prog X.w X.K X.mg X.base k 1 lm fn) (hr:Room (k+1) X.A) (hg:Gl X "min") (hm:X.mg "min"=none) (ha:PL X [e] g) (hl:PE X el (Axe lm)) (he:starEach [e] X.env=(false,eval e X.env)::starEach [] X.env) :
  PD X (.Call (.Name "min" p) [e] [⟨some "key",el,kp⟩] pos) (A7 (Xh fn) g):=by
 intro pins s σ H Q I h
 obtain⟨env,μ,m,d,S,E,h,q⟩:=h
 obtain⟨xs,h1,h2⟩:=bind_some h
 refine Bae (Dk I hg hm (show bootBuiltins "min"=some (.builtin "min") by decide +kernel) ?_ (by decide) (by decide))
 refine PyProof.Rows.callWith_kw (thn (ha pos pins s σ H (fun vs H1=>Same H H1/\Reps X.K H1 μ (·∈μ) xs vs) I ⟨env,μ,m,xs,S,E,h1,fun v H1 s1 r1=>⟨s1,r1⟩⟩) fun us s1 ⟨vs,H1,I1,r1,s1',rx⟩=>?_) (by rw[he];rfl) (by rw[he];rfl) rfl rfl
 refine kws_cons (thn (hl pins s1 σ H1 (fun v H2=>∃ a,v=.ref a/\Same H1 H2/\FnAt H2 a lm) I1 fun a H' s' fa=>⟨a,rfl,s',fa⟩) fun u s2 ⟨v,H2,I2,r2,a,e1,s2',fa⟩=>kws_nil ?_)
 subst e1
 cases r2
 match xs,h2 with
 |[d'],h2 =>
  obtain⟨ds,h3,h2⟩:=bind_some h2
  obtain⟨ks,h4,h2⟩:=bind_some h2
  obtain⟨ts,h5,h2⟩:=bind_some h2
  obtain⟨v,rfl,r⟩:=rx.one
  obtain⟨c,ys,rfl,hq,rs⟩:=Gg (S.same s1') r h3
  obtain⟨u,rfl,r3⟩:=G5 r1
  cases r3
  exact Yl L hr I2 ((S.same s1').same s2') fa (s2'.seq hq) (rs.same s2') h4 h5 h2 fun v H' s3 rr=>q v H' ((s1'.trans s2').trans s3) rr
theorem Asq {args:Arguments}{body:Expr}{scope:Scope}{c P:Addr}{fd:FuncData}{lp:Pos}{j:Nat} (hr:Room j X.A) (L:M7 X.prog X.w X.K X.mg X.base k 1 lm fn) (hB:M5 X.mg X.base) (hT:TabQ X.H₀ P lm.qual) (hcode:fd.code=.ref c) (hC:W.codeHdIn X.K c P=true) (hm:X.mg "min"=none) (ha:QL X [e] g) (hk:k+1<=j:=by decide) (hec:X.env.code=fd.code:=by rfl)
  (hcl:closureFor scope X.env=pure []:=by rfl) (hdef:defaultsOf args X.env=([],[]):=by rfl) (hl:lm=⟨X.env.qual++"<lambda>",args,body,scope⟩:=by rfl) (hg:Gl X "min":=by unfold Gl;kernel_rfl) (he':Bp e=true:=by rfl) :
  QD X (.Call (.Name "min" p) [e] [⟨some "key",.Lambda args body scope lp,kp⟩] pos) (A7 (Xh fn) g):=⟨Ala L (hr.mono hk) hg hm ha.out (Ar3 hB hT (hec.trans hcode) hC hcl hdef hl) (Ar he')⟩
end
end ML
end L2
end S_EG2
section S_EH2
namespace L2
namespace ML
open PySem PySem.Spec PyProof.Rows PySem.SeqAt
open PySem.W (KasT kas_sort katRev KatLex)
noncomputable def Anh:D->Bool
 |.tup (.str _::_)=>true
 |_=>false
theorem R3 {d:D} (h:Anh d=true):∃ i ds,d=.tup (.str i::ds):=by
 cases d with
 |tup es =>
  cases es with
  |nil=>exact Cv h
  |cons e ds =>
   cases e with
   |str i=>exact⟨i,ds,rfl⟩
   |_=>exact Cv h
 |_=>exact Cv h
def Axb (m:MH):D->Option (List D)
 |.tup ds=>some ds
 |d=>sqL m d
def D9:List D->MH->Option (List D):=fun xs m=>match xs with
 |[d]=>(Axb m d).bind fun ds=>(Ex false ds ds).bind fun out=>if ds.length < 64/\ds.all Anh=true/\A1 ds=true/\Cz ds<=20/\out.length < 64 then some out else none
 |_=>none
section
variable {X:Cx}{pins:List (Addr×Obj)}{σ:St}{H:Hp}{s:Shared}{μ:List Addr}{B:Addr->Prop}
theorem Zw (x:Str) (t:Tok):W.Looks M h (typeOf (.str x t)) (.type "str"):=W.Looks.of_pure rfl
theorem Xj {prog:Program}{w:World}{A:Around}{E:Value->Shared->Prop}{Q:Bool->Shared->Prop}{a b:Str}{t u:Tok} (q:Q (ltT a b) s):wpAny (model prog w) A (oneLt' true (.str a t) (.str b u)) Q E s:=by
 exact oneLt_str q
theorem Adp (I:Inv X pins σ H s) {A:Around}{E:Value->Shared->Prop}{Q:Bool->Shared->Prop}{i j:Str}{ds es:List D}{v v':V}{u u':Value}{b:Bool} (r:Rep X.K H μ B (.tup (.str i::ds)) v) (r':Rep X.K H μ B (.tup (.str j::es)) v') (n:A1 ds=true) (n':A1 es=true) (ru:RelV v u) (ru':RelV v' u') (hu:A.units+Cz ds+Cz es+1 < cLine) (h:Dr (.str i::ds) (.str j::es)=some b) (q:Q b s):wpAny (model X.prog X.w) A (keyLt' (tuples' true) u u') Q E s:=by
 cases r with
 |tup h1 r1 =>
 cases r' with
 |tup h2 r2 =>
 cases ru
 cases ru'
 obtain⟨its,rv,⟨o,ho,hc,nn,hd⟩,hz⟩:=I.tuple h1
 obtain⟨its',rv',⟨o',ho',hc',nn',hd'⟩,hz'⟩:=I.tuple h2
 cases r1 with
 |cons x1 xs1 =>
 cases r2 with
 |cons x2 xs2 =>
 cases rv with
 |cons q1 qs1 =>
 cases rv' with
 |cons q2 qs2 =>
 have he:=L4 (A:=A) I x1 x2 rfl rfl q1 q2 (by rw[show dep (D.str j)=0 by simp[dep]];lia)
 cases x1
 cases x2
 obtain⟨t,rfl⟩:=q1
 obtain⟨t',rfl⟩:=q2
 refine W.kat_lt ho hd ho' hd' (W.kat_cons (he X.prog X.w _ _ ?_))
 rw[Dr] at h
 by_cases hdq:deq (.str i) (.str j)=true
 ·rw[Azp hdq] at h
  rw[hdq]
  exact W.kat_yes (Zq rfl (Gw (A:=A) I ds es xs1 xs2 n n' qs1 qs2 (by lia) h) 1 (by decide) (by simp;lia) q)
 ·rw[Azs hdq,ltD] at h
  cases h
  rw[Bool.eq_false_iff.mpr hdq]
  exact W.kat_no (Xj q)
theorem Mc (I:Inv X pins σ H s):∀ {ks:List D}{vs:List V}{us:List Value},Reps X.K H μ B ks vs->Vals vs us->ks.all Anh=true->∃ fs,W.KatTups s.heap us fs/\fs.length=us.length/\∀ f∈fs,∃ i t,f=Value.str i t
 |_,_,_,.nil,.nil,_=>⟨[],.nil,rfl,fun _ h=>nomatch h⟩
 |_,_,_,.cons r rs,.cons q qs,h=>by
  rw[Ban,Az0] at h
  obtain⟨i,ds,rfl⟩:=R3 h.1
  obtain⟨fs,h1,h2,h3⟩:=Mc I rs qs h.2
  cases r with
  |tup e1 r1 =>
  cases q
  obtain⟨its,rv,⟨o,ho,hc,nn,hd⟩,hz⟩:=I.tuple e1
  cases r1 with
  |cons x1 _ =>
  cases rv with
  |cons q1 _ =>
  cases x1
  obtain⟨t,rfl⟩:=q1
  refine⟨.str i t::fs,W.KatTups.cons ho hc hd (by simp) h1,by simp[h2],fun f hf=>?_⟩
  rcases List.mem_cons.mp hf with rfl|hf
  ·exact⟨i,t,rfl⟩
  ·exact h3 f hf
theorem Yj (I:Inv X pins σ H s) {A':Around}{ks:List D}{kvs:List V}{us:List Value} (rk:Vals kvs us) (rks:Reps X.K H μ (·∈μ) ks kvs) (hI:ks.all Anh=true) (hn:A1 ks=true) (hd:Cz ks<=20) (hu:A'.units+50 < cLine) (i j:Nat) (c:Bool) (C:Bool->Shared->Prop)
  (h:ltD (ks.getD i .non) (ks.getD j .non)=some c) (q:C c s):W.kas_ask X.prog X.w A' (tuples' true) us i j C s:=by
 have key:∀ i,ks.getD i .non=.non\/ks.getD i .non∈ks:=fun i=>by
  by_cases h:i < ks.length
  ·right
   rw[Azk,Azl h]
   exact Baq h
  ·left
   rw[Azk,Bab (by lia)];rfl
 have r1:=Reps.getN rks i
 have r2:=Reps.getN rks j
 have v1:=Vals.getN rk i
 have v2:=Vals.getN rk j
 have k1:=key i
 have k2:=key j
 generalize ks.getD i .non=x at h r1 k1
 generalize ks.getD j .non=y at h r2 k2
 rcases k1 with rfl|k1
 ·simp[ltD] at h
 ·obtain⟨i1,ds,rfl⟩:=R3 (List.all_eq_true.mp hI _ k1)
  rcases k2 with rfl|k2
  ·simp[ltD] at h
  ·obtain⟨i2,es,rfl⟩:=R3 (List.all_eq_true.mp hI _ k2)
   have d1:=Jk k1
   have d2:=Jk k2
   have n1:=Bx hn k1
   have n2:=Bx hn k2
   rw[dep,Cz] at d1 d2
   rw[Bt,A1,Az0] at n1 n2
   rw[ltD] at h
   exact Adp I r1 r2 n1.2 n2.2 v1 v2 (by lia) h q
theorem Mx {A':Around}{P:PySem.Fin->Shared->Prop}{E:Value->Shared->Prop}{D0:Addr}{e1:Nat}{st:SortSt}{outv:List Value} (hout:(arrOf st).map (·.2)=List.toArray outv) (hz:outv.length < 128) (hf:failedOf st=none) (I:Inv X ((D0,seqObj "list" #[] e1)::pins) σ H s) (hD:X.s₀.heap.objs.size<=D0) (hy:∀ p∈X.pn++pins,p.1≠D0)
  (fin:∀ s' c,Inv X ((D0,seqObj "list" (List.toArray outv) c)::pins) σ H s'->P (.done (.ret .none)) s'):wpAny (model X.prog X.w) A' (do
   let touched:=(<- seqEpoch D0) != e1
   Builtin.List.listUpdate (.ref D0) fun _=>(arrOf st).map (·.2)
   if let some e:=failedOf st then rule "list.sort.comparison-raised";throw e
   if touched then rule "list.sort.modified";raiseError "ValueError" "list modified during sort"
   ret .none) P E s:=by
 have pd:=I.pin (D0,seqObj "list" #[] e1) (Azd _ (Azg ..))
 obtain⟨c2,hc2⟩:∃ c2,(s.heap.update D0 (Obj.mapSeq fun _=>List.toArray outv)).get? D0=some (seqObj "list" (List.toArray outv) c2):=⟨_,get?_update_seq pd.1 fun _=>List.toArray outv⟩
 have Ic:=Inv.setPin (pre:=[]) I hD hy (fun c o hc q=>(Azu _ _ (Bak hc)).trans q) hc2 (fun v z=>by cases z)
 have hline:sizeLine=16777216:=Bas
 rw[hout]
 refine Azc (seqEpoch_at pd.1 rfl (Azc (listUpdate_at pd.1 rfl ?_ (Az5 _) (by rw[Azh];lia))))
 rw[hf]
 simp only[bne_self_eq_false,Baf,Bbn]
 exact Azi (fin _ c2 Ic)
theorem Vu {Q:VK}{k:Nat}{l:Addr}{o:Obj}{n:Nat}{T:String}{its:List Value}{xs:List V}{ds out:List D} (hr:Room k X.A) (I:Inv X pins σ H s) (ri:Vals xs its) (rs:Reps X.K H μ (·∈μ) ds xs) (hT:T="list"\/T="tuple") (ho:s.heap.get? l=some o) (hc:o.cls=.type T) (hd:o.data=.seq its.toArray n) (h64:ds.length < 64) (hI:ds.all Anh=true) (hn:A1 ds=true) (hdp:Cz ds<=20) (hs:Ex false ds ds=some out) (hz0:out.length < 64)
  (q:∀ a ys H',Same H H'->H a=none->H' a=some (.lst ys)->Reps X.K H' μ (nw μ a) out ys->Q (.ref a) H'):wpAny (model X.prog X.w) X.A (call (.builtin "sorted") [.ref l]) (EP X pins σ Q) X.xe s:=by
 have l1:=ri.length
 have l2:=rs.length
 have hline:sizeLine=16777216:=Bas
 refine Calls.call_function_entry kind_sorted plain_sorted entry_sorted (args_sorted1 _) ?_
 unfold Builtin.«sorted»
 refine Azc (m:=checkCount "sorted" 1 1 _) (Azi (Azc (wpAny_collect_seq l hT ho hc hd (fun h' hk=>Azc (wpAny_newList ?_ (by simp;lia))) (by rw[Azh];lia))))
 rw[show its.toArray.toList=its by simp]
 have I1:Inv X pins σ H { s with heap:=h' }:=I.kept (t':=s.toks) hk
 have I2:Inv X pins σ H { s with heap:=h'.push (seqObj "list" its.toArray 0) }:=I1.kept (t':=s.toks) fun c o z=>Aze _ z
 have hg:(h'.push (seqObj "list" its.toArray 0)).get? h'.objs.size=some (seqObj "list" its.toArray 0):=Azq _ rfl
 have hfree:H h'.objs.size=none:=I1.hok.fresh (Azn _)
 have hy:∀ p∈X.pn++pins,p.1≠h'.objs.size:=fun p hp=>Az1 (Azj (I1.pin p hp).1)
 have hD:X.s₀.heap.objs.size<=h'.objs.size:=I1.sz
 have I3:Inv X ((h'.objs.size,seqObj "list" its.toArray 0)::pins) σ H { s with heap:=h'.push (seqObj "list" its.toArray 0) }:=I2.pins_of fun p hp=>by
  rcases List.mem_cons.mp hp with rfl|hp
  ·exact⟨hg,hfree,Bao I1.lt,I1.nofs (Azn _),fun v z=>by cases z⟩
  ·exact I2.pin p (Azd _ hp)
 show wpAny (model X.prog X.w) X.A.in1 _ _ _ { s with heap:=h'.push (seqObj "list" its.toArray 0) }
 refine Azc (Bah (Ba1 slot_list_sort ⟨_,hg,rfl⟩ entry_list_sort ?_ (args_list_sort _)))
 generalize h'.objs.size=D0 at hg hfree hy hD I3
 generalize h'.push (seqObj "list" its.toArray 0)=h1 at hg I2 I3
 obtain⟨e1,ho1⟩:∃ e1,(h1.update D0 (Obj.mapSeq fun _=>(#[]:Array Value))).get? D0=some (seqObj "list" #[] e1):=⟨_,get?_update_seq hg fun _=>#[]⟩
 have Ia:=Inv.setPin (pre:=[]) I3 hD hy (fun c o hc q=>(Azu _ _ (Bak hc)).trans q) ho1 (fun v z=>by cases z)
 have Ib:=Ia.kept (t':=s.toks) (h':=((h1.update D0 (Obj.mapSeq fun _=>(#[]:Array Value))).push (seqObj "tuple" its.toArray 0)).push (seqObj "list" #[] 0)) fun c o q=>Aze _ (Aze _ q)
 have fin:∀ (s':Shared) (c:Nat) (ys:List V) (ws:List Value),Vals ys ws->Reps X.K H μ (·∈μ) out ys->Inv X ((D0,seqObj "list" (List.toArray ws) c)::pins) σ H s'->EP X pins σ Q (.ref D0) s':=fun s' c ys ws r1 r2 I' =>
  have lo:ys.length<=sizeLine:=by have:=r2.length;lia
  ⟨.ref D0,upd H D0 (.lst ys),Inv.adopt I' hD hy r1 lo,rfl,q D0 ys _ (A6 hfree) hfree A3 (r2.fresh hfree)⟩
 rw[list_sort_plain]
 refine Azc (listItems_at hg rfl (Azc (listUpdate_at hg rfl (Azc (seqEpoch_at ho1 rfl (Azc (wpAny_newTuple (Azc (wpAny_newList (Bah ?_) (Az5 _))) (by show its.length<=_;lia))))) (by rw[Azh];lia) (Az5 _))))
 show wpAny (model X.prog X.w) X.A.in1.in1 _ _ _ { s with heap:=((h1.update D0 (Obj.mapSeq fun _=>(#[]:Array Value))).push (seqObj "tuple" its.toArray 0)).push (seqObj "list" #[] 0) }
 dsimp only
 unfold Ex at hs
 by_cases h2:its.toArray.size < 2
 ·rw[Azp h2,Azp h2]
  rw[Azh] at h2
  rw[Azp (by lia)] at hs
  cases hs
  refine Azc (Azi ?_)
  rw[StateT.run_pure]
  refine Azc (Azi ?_)
  dsimp only
  refine Mx (outv:=its) (st:=SortSt.mk' general' (its.toArray.zip its.toArray) #[] 7 none) ?_ (by lia) rfl Ib hD hy fun s' c I'=>⟨_,rfl,Azi ⟨_,rfl,fin s' c xs its ri rs I'⟩⟩
  show ((its.toArray.zip its.toArray).map (·.2))=_
  apply Array.toList_inj.mp
  rw[Array.toList_map,ksk_zip]
  exact List.map_snd_zip (Azn _)
 ·rw[Azs h2,Azs h2]
  rw[Azh] at h2
  rw[Azs (by lia)] at hs
  obtain⟨p,hp,hs⟩:=bind_some hs
  cases hs
  obtain⟨fs,ht,hfl,hfi⟩:=Mc Ib rs ri hI
  refine Azc (W.kat_kind (T:=.type "str") ht (by lia) (fun v hv=>?_) (by decide) ?_)
  ·obtain⟨i,t,rfl⟩:=hfi v hv
   exact Zw i t
  have hw:(kas_sort its.length).kasWp (W.kas_ask X.prog X.w X.A.in1.in1 (tuples' true) its) (fun p' s'=>p'=p/\s'={ s with heap:=((h1.update D0 (Obj.mapSeq fun _=>(#[]:Array Value))).push (seqObj "tuple" its.toArray 0)).push (seqObj "list" #[] 0) }) { s with heap:=((h1.update D0 (Obj.mapSeq fun _=>(#[]:Array Value))).push (seqObj "tuple" its.toArray 0)).push (seqObj "list" #[] 0) }:=by
   rw[show its.length=ds.length by lia]
   exact Yx (fun i j c C h q=>Yj Ib ri rs hI hn hdp (by have:=hr.un;show X.A.units+1+1+50 < _;lia) i j c C h q) _ hp ⟨rfl,rfl⟩
  refine Azc (Bal (W.kat_run (ks:=its) (vs:=its) (Q:=fun st' s'=>s'={ s with heap:=((h1.update D0 (Obj.mapSeq fun _=>(#[]:Array Value))).push (seqObj "tuple" its.toArray 0)).push (seqObj "list" #[] 0) }/\p.size=its.length/\arrOf st'=p.map (W.kas_item ((List.toArray its).zip (List.toArray its)))/\failedOf st'=none) rfl (by lia) (by lia)
   (fun p' st' s' a1 a2 a3 ⟨a4,a5⟩=>by subst a4;exact⟨a5,a1,a2,a3⟩) hw) ?_ fun _ _ z=>z)
  rintro ⟨⟨⟩,st'⟩ s' ⟨hs',hpz,har,hf⟩
  replace hs':s'=_:=hs'
  subst hs'
  dsimp only
  refine Mx (W.kat_snds rfl har) (by rw[Azr,Bbk,hpz];lia) hf Ib hD hy fun s' c I'=>⟨_,rfl,Azi ⟨_,rfl,fin s' c (p.toList.map fun i=>xs.getD i .non) _ (Vals.mapN ri _) (Reps.mapN rs _) I'⟩⟩
end
section
variable {X:Cx}{e:Expr}{pos p:Pos}{g:FL}{k:Nat}
theorem Ac9 (hr:Room k X.A):X6 X (.builtin "sorted") D9:=by
 intro pins s σ H μ m xs z vs us Q I S rx rv e q
 match xs,e with
 |[d],e =>
  obtain⟨ds,h2,e⟩:=bind_some e
  obtain⟨out,h3,e⟩:=bind_some e
  split at e
  ·rename_i hc
   cases e
   obtain⟨v,rfl,r⟩:=rx.one
   obtain⟨u,rfl,ru⟩:=G5 rv
   have fin:∀ {l:Addr}{o:Obj}{n:Nat}{T:String}{its:List Value}{ys:List V},u=.ref l->Vals ys its->Reps X.K H μ (·∈μ) ds ys->(T="list"\/T="tuple")->s.heap.get? l=some o->o.cls=.type T->o.data=.seq its.toArray n->wpAny (model X.prog X.w) X.A (call (.builtin "sorted") [u]) (EP X pins σ Q) X.xe s:=by
    intro l o n T its ys eu ri rs hT ho hcl hd
    subst eu
    exact Vu hr I ri rs hT ho hcl hd hc.1 hc.2.1 hc.2.2.1 hc.2.2.2.1 h3 hc.2.2.2.2 q
   have lst:sqL m d=some ds->wpAny (model X.prog X.w) X.A (call (.builtin "sorted") [u]) (EP X pins σ Q) X.xe s:=fun h2=>by
    obtain⟨a,ys,rfl,hq,rs⟩:=Gg S r h2
    cases ru
    obtain⟨its,rv,pl,hz'⟩:=I.list hq
    obtain⟨o,ho,hcl,n,hd⟩:=pl.isList
    exact fin rfl rv rs (.inl rfl) ho hcl hd
   cases d with
   |tup es =>
    cases h2
    cases r with
    |tup h1 r1 =>
    cases ru
    obtain⟨its,rv,⟨o,ho,hcl,n,hd⟩,hz⟩:=I.tuple h1
    exact fin rfl rv r1 (.inr rfl) ho hcl hd
   |_=>exact lst h2
  ·exact Ad e
theorem N6 (hr:Room k X.A) (hm:X.mg "sorted"=none) (ha:QL X [e] g) (hg:Gl X "sorted":=by unfold Gl;kernel_rfl) (he':Bp e=true:=by rfl):QF X (.Call (.Name "sorted" p) [e] [] pos) (Bi D9 g):=⟨Aef (Ac9 hr) hg hm boot_sorted ha.out (by decide) (by decide) (Ar he') rfl⟩
end
end ML
end L2
end S_EH2
section S_EH3
namespace L2
namespace ML
open PySem PySem.Spec PyProof.Rows
noncomputable def Awl (tabs:List (Addr×Str)) (K:W.Frag) (n:Nat) (fn:List D->MH->Option (D×MH)):Sp:=fun vs H Q E=>TabsH tabs H/\spI K n fn vs H Q E
theorem O3 {P:Program}{w:World}{K:W.Frag}{mg:Str->Option Value}{base:Heap}{x qual:Str}{st:Stmt}{f:Addr}{fd:FuncData}{N ps:List Str}{k:Nat}{tabs:List (Addr×Str)}{g:FS} (F:Fun K x qual st f fd) (S:FnScope N ps (Aq st))
  (hbody:∀ (A:Around) (outer:List Env) (s:Shared) (H:Hp) (E:XK),TabsH tabs H->Room k (A.deeper (envOfC qual (Aq st) s.heap.objs.size f fd.code)) ->
   Ri (Nf CX0 P w K mg base N qual (Aq st) f fd.code A outer s H E).nox (Bw st) g):FnOk P w K mg base CX0 (k+1) f fd ps (Awl tabs K ps.length (Lu N.length g)):=by
 obtain⟨oc,od,kV,doc,pm,an,cdv,ct,osl,rfl,lk,hcd⟩:=F.ex
 refine Ajl lk hcd S (fun vs H Q E h=>?_) fun A outer s H vs Q E hr h=>?_
 ·obtain⟨_,μ,m,ds,d,m',S,r,hl,_⟩:=h
  rw[<- r.length];exact hl
 ·obtain⟨hT,μ,m,ds,d,m',S0,r,hl,h,q⟩:=h
  refine⟨_,(hbody A outer s H E hT hr).nox,?_⟩
  obtain⟨o,h1,h2⟩:=bind_some h
  refine⟨_,μ,m,o,S0,Gs r,h1,?_⟩
  cases o with
  |rt d' m1=>cases h2;exact fun v H' μ' st S' r'=>q v H' μ' st S' r'
  |nx env m1=>cases h2;exact fun σ' H' μ' st S' E'=>q _ H' μ' st S' .non
  |bk _ _=>exact Ad h2
  |ct _ _=>exact Ad h2
structure ClIT (P:Program) (w:World) (K:W.Frag) (mg:Str->Option Value) (base:Heap) (tabs:List (Addr×Str)) (k:Nat) (x:Str) (n:Nat) (fn:List D->MH->Option (D×MH)):Prop where
 ex:∃ a fd ps,FnOk P w K mg base CX0 k a fd ps (Awl tabs K n fn)/\mg x=some (.ref a)/\W.keepIn K (.ref a)=true/\Binds K fd ps []
section
variable {P:Program}{w:World}{K:W.Frag}{mg:Str->Option Value}{base:Heap}{x:Str}{st:Stmt}{ps:List Str}{k n:Nat}{tabs:List (Addr×Str)}{p:Addr}
theorem Ag8 (N:List Str) (T:FD K mg x st ps) (g:FS) (fn:List D->MH->Option (D×MH))
  (hbody:∀ (f:Addr) (cdv:Value) (A:Around) (outer:List Env) (s:Shared) (H:Hp) (E:XK),TabsH tabs H->Room k (A.deeper (envOfC x (Aq st) s.heap.objs.size f cdv))->N.Nodup ->
   QSs (Nf CX0 P w K mg base N x (Aq st) f cdv A outer s H E).nox (Bw st) g) (hfn:fn=Lu N.length g:=by rfl) (hn:ps.length=n:=by rfl) (S:FnScope N ps (Aq st):=by exact⟨rfl,rfl,rfl,by decide +kernel,rfl,by decide +kernel,by decide +kernel⟩):ClIT P w K mg base tabs (k+1) x n fn:=by
 obtain⟨a,fd,m,F,b⟩:=T.ex
 subst hfn hn
 exact⟨a,fd,ps,O3 F S fun A outer s H E hT hr=>(hbody a fd.code A outer s H E hT hr S.nd).out,m,F.kp,b⟩
theorem Aso (N:List Str) (T:FDL K mg x st ps p) (g:FS) (fn:List D->MH->Option (D×MH))
  (hbody:∀ (f:Addr) (fd:FuncData) (c:Addr) (A:Around) (outer:List Env) (s:Shared) (H:Hp) (E:XK),TabsH tabs H->Room k (A.deeper (envOfC x (Aq st) s.heap.objs.size f fd.code))->N.Nodup->fd.code=.ref c->W.codeHdIn K c p=true ->
   QSs (Nf CX0 P w K mg base N x (Aq st) f fd.code A outer s H E).nox (Bw st) g) (hfn:fn=Lu N.length g:=by rfl) (hn:ps.length=n:=by rfl) (S:FnScope N ps (Aq st):=by exact⟨rfl,rfl,rfl,by decide +kernel,rfl,by decide +kernel,by decide +kernel⟩):ClIT P w K mg base tabs (k+1) x n fn:=by
 obtain⟨a,fd,c,m,F,b,e1,e2⟩:=T.ex
 subst hfn hn
 exact⟨a,fd,ps,O3 F S fun A outer s H E hT hr=>(hbody a fd c A outer s H E hT hr S.nd e1 e2).out,m,F.kp,b⟩
theorem ClIT.zero (T:FD K mg x st ps):ClIT P w K mg base tabs k x n (fun _ _=>none):=by
 obtain⟨a,fd,m,F,b⟩:=T.ex
 exact⟨a,fd,ps,⟨fun vs H Q E ⟨_,μ,m,ds,d,m',S,r,l,h,q⟩=>(nomatch h),fun A outer s H args us vs Q E _ _ _ _ ⟨_,μ,m,ds,d,m',S,r,l,h,q⟩=>(nomatch h)⟩,m,F.kp,b⟩
theorem ClIT.zeroL (T:FDL K mg x st ps p):ClIT P w K mg base tabs k x n (fun _ _=>none):=by
 obtain⟨a,fd,c,m,F,b,_⟩:=T.ex
 exact⟨a,fd,ps,⟨fun vs H Q E ⟨_,μ,m,ds,d,m',S,r,l,h,q⟩=>(nomatch h),fun A outer s H args us vs Q E _ _ _ _ ⟨_,μ,m,ds,d,m',S,r,l,h,q⟩=>(nomatch h)⟩,m,F.kp,b⟩
end
section
variable {X:Cx}{e:Expr}{es:List Expr}{pos p:Pos}{x:Str}{k j n:Nat}{fn:List D->MH->Option (D×MH)}{gl:FLm}{tabs:List (Addr×Str)}
theorem Aas {f:Addr}{fd:FuncData}{ps:List Str}{t:TA} (F:FnOk X.prog X.w X.K X.mg X.base CX0 k f fd ps (Awl tabs X.K n fn)) (hT:TabsH tabs X.H₀) (hr:Room k X.A) (hg:Gl X x) (hm:X.mg x=some (.ref f)) (hk:W.keepIn X.K (.ref f)=true) (hb:Binds X.K fd ps []) (ha:PA X (e::es) t) (hdb:(x == ("__debug__":Str))=false) (he:starEach (e::es) X.env=(false,eval e X.env)::starEach es X.env) (hpl:(backTo pos (starEach es X.env)).any (·.1)=false) :
  PE X (.Call (.Name x p) (e::es) [] pos) (Am6 (spI X.K n fn) [] E0 t):=by
 intro pins s σ H Q I h
 refine Bae (Np I hg hm ?_ hdb)
 refine W.callWith_K (h₀:=X.base) I.ok.mod.kin hk (thn (ha pos pins s σ H _ I h) fun us s1 ⟨vs,H1,I1,r,q⟩=>⟨I1.kIn,?_⟩) he hpl
 exact Ahe F hr hb .nil Aar I1 r ⟨TabsH.on I1 hT,q⟩
theorem Ae1 (hT:TabsH tabs X.H₀) (F:ClIT X.prog X.w X.K X.mg X.base tabs k x n fn) (hr:Room j X.A) (ha:QLm X (e::es) gl) (hk:k<=j:=by decide) (hg:Gl X x:=by unfold Gl;kernel_rfl) (hdb:(x == ("__debug__":Str))=false:=by decide) (he':Bp e=true:=by rfl) (hpl':es.all Bp=true:=by rfl) :
  QDm X (.Call (.Name x p) (e::es) [] pos) (A4 n fn gl):=by
 obtain⟨a,fd,ps,F,m,kp,b⟩:=F.ex
 refine⟨PE.imp (Aas F hT (hr.mono hk) hg m kp b ha.out hdb (Ar he') (Dm hpl')) fun σ H Q ⟨env,μ,m,d,m',S,E,h,q⟩=>?_⟩
 obtain⟨y,h1,h⟩:=bind_some h
 split at h
 ·rename_i hl
  refine⟨env,μ,m,y.1,y.2,S,E,h1,fun vs H1 μ1 st1 S1 rs=>?_⟩
  rw[Az2]
  exact⟨μ1,y.2,y.1,d,m',S1,rs,hl,h,fun v H' μ' st S' r=>q v H' μ' (st1.trans st (st1.none S S1)) S' r⟩
 ·cases h
end
noncomputable def Ap0:List Keyword->Option (Arguments×Expr×Scope)
 |[]=>none
 |⟨_,.Lambda a b s _,_⟩::_=>some (a,b,s)
 |_::es=>Ap0 es
def R4:List Expr->Option (Arguments×Expr×Scope)
 |[]=>none
 |.Call _ _ ks _::es=>(Ap0 ks).orElse fun _=>R4 es
 |_::es=>R4 es
def Zn:List Stmt->Option (Arguments×Expr×Scope)
 |[]=>none
 |.Return (some (.Call _ es _ _)) _::r=>(R4 es).orElse fun _=>Zn r
 |_::r=>Zn r
def Apz (q:Str) (st:Stmt):Lam:=match Zn (Bw st) with
 |some (a,b,s)=>⟨q,a,b,s⟩
 |none=>⟨q,Dy st,.Constant .none 0 ⟨0,0,0,0⟩,Aq st⟩
section
variable {X:Cx}{e:Expr}{es:List Expr}{pos p:Pos}{x:Str}{k j n:Nat}{fn:List D->Option D}{g:FL}
end
section
variable {X:Cx}{e:Expr}{x:Str}{pos p':Pos}{i:Nat}{f:FL}
theorem Ae7 (hN:X.N.Nodup) (he:QF X e f) (hi:X.N[i]?=some x:=by kernel_rfl) (hx:Loc X.env.scope x:=by exact Or.inr (by kernel_rfl)) (hsw:swapsWith e (some (.Name x p')) pos.line X.env=pure false:=by kernel_rfl) (hf:X.fn x=true\/X.env.scope.names.lookup x=some .local:=by exact Bbt (by kernel_rfl)) :
  QS X (.Assign [.Name x p'] e pos) (Gf i f):=⟨Tf hN hi hx he.out hsw hf⟩
end
noncomputable section
open Classical
def W {α:Type} (x:Option α) (Q:α->Prop):Prop:=∃ a,x=some a/\Q a
theorem W.out {d:α} (h:W x (fun a=>a=d)):x=some d:=by obtain⟨a,h1,h2⟩:=h;rw[h1,h2]
theorem W.imp {α:Type}{x:Option α}{P Q:α->Prop} (h:W x P) (i:∀ a,P a->Q a):W x Q:=by obtain⟨a,h1,h2⟩:=h;exact⟨a,h1,i a h2⟩
theorem Ab:W (some a) Q=Q a:=by
 apply Bb4;constructor
 ·rintro ⟨b,h,q⟩;cases h;exact q
 ·exact fun q=>⟨a,rfl,q⟩
theorem Aw:W none Q=False:=by
 apply Bb4;constructor
 ·rintro ⟨b,h,q⟩;exact Ad h
 ·exact False.elim
theorem W_bind:W (x.bind f) Q=W x (fun a=>W (f a) Q):=by
 cases x with
 |none=>rw[Aw];exact Aw
 |some a=>rw[Ab];rfl
theorem G8 [Decidable c]:W (if c then some x else none) Q=(c/\Q x):=by
 by_cases h:c
 ·rw[Azp h,Ab];simp[h]
 ·rw[Azs h,Aw];simp[h]
noncomputable def Ang (Q:D->Prop):Out->Prop
 |.rt d m=>W (Cg m d) Q
 |.nx _ _=>Q .non
 |_=>False
theorem Ajk {d:D}:Ang Q (.rt d m)=W (Cg m d) Q:=rfl
theorem Ajj:Ang Q (.nx e m)=Q .non:=rfl
theorem B8:W (Gj n g ds) Q=W (g (ds.map some++List.replicate (n - ds.length) none) []) (Ang Q):=by
 unfold Gj
 rw[W_bind]
 congr 1
 funext o
 cases o<;>first|rfl|exact Ab|exact Aw
noncomputable def As1 (g:FS) (Q:Out->Prop):Out->Prop
 |.nx e m=>W (g e m) Q
 |o=>Q o
theorem Amt:As1 g Q (.nx e m)=W (g e m) Q:=rfl
theorem Amu:As1 g Q (.rt e m)=Q (.rt e m):=rfl
theorem Amr:As1 g Q (.bk e m)=Q (.bk e m):=rfl
theorem Ams:As1 g Q (.ct e m)=Q (.ct e m):=rfl
theorem Aoq:W (Bh f g env m) Q=W (f env m) (As1 g Q):=by
 unfold Bh
 rw[W_bind]
 congr 1
 funext o
 cases o<;>first|rfl|exact Ab
theorem Aoo:W (Eu env m) Q=Q (.nx env m):=Ab
theorem Aop:W (Dl f env m) Q=W (f env m) fun d=>Q (.rt d m):=by
 unfold Dl;rw[W_bind];congr 1;funext d;exact Ab
theorem Aiw:W (Lc f env m) Q=W (f env m) fun ds=>Q (.rt (.ref m.length) (m++[.lst ds])):=by
 unfold Lc;rw[W_bind];congr 1;funext d;exact Ab
def cK (p q:Prop) (b:Bool):Prop:=(b=true->p)/\(b=false->q)
theorem T5:cK p q true=p:=by unfold cK;simp
theorem Rk:cK p q false=q:=by unfold cK;simp
theorem cK.mk {p q:Prop}{b:Bool} (h1:b=true->p) (h2:b=false->q):cK p q b:=⟨h1,h2⟩
theorem cK.dec [Decidable c] (h1:c->p) (h2:¬ c->q):cK p q (decide c):=⟨fun h=>h1 (Baa h),fun h=>h2 (of_decide_eq_false h)⟩
theorem Eh:W (if b=true then x else y) Q=cK (W x Q) (W y Q) b:=by
 cases b
 ·rw[Rk];rfl
 ·rw[T5];rfl
theorem Auu {t:FB}:W (sIf t f g env m) Q=W (t env m) (cK (W (f env m) Q) (W (g env m) Q)):=by
 unfold sIf;rw[W_bind];congr 1;funext c;exact Eh
theorem Axx {d:D}:W (fC d env m) Q=Q d:=Ab
theorem Axw:W (f2 o f g env m) Q=W (f env m) fun x=>W (g env m) fun y=>W (o x y m) Q:=by
 unfold f2;rw[W_bind];congr 1;funext d;exact W_bind
theorem Axv:W (f1 o f env m) Q=W (f env m) fun x=>W (o x m) Q:=W_bind
theorem An6:W (Aj env m) Q=Q []:=Ab
theorem Aip:W (Aa f g env m) Q=W (f env m) fun x=>W (g env m) fun xs=>Q (x::xs):=by
 unfold Aa;rw[W_bind];congr 1;funext d;rw[W_bind];congr 1;funext e;exact Ab
theorem Aii:W (A7 o g env m) Q=W (g env m) fun xs=>W (o xs m) Q:=W_bind
theorem Acn:W (Bi o g env m) Q=W (g env m) fun xs=>W (o xs m) Q:=W_bind
theorem Aug {T:String}:W (fMt T o f g env m) Q=W (f env m) fun x=>Aty T m x=true/\W (g env m) fun xs=>W (o x xs m) Q:=by
 unfold fMt;rw[W_bind];congr 1;funext d
 by_cases h:Aty T m d=true
 ·rw[Azp h,W_bind];simp[h]
 ·rw[Azs h,Aw];simp[h]
theorem An0:W (C0 g env m) Q=W (g env m) fun ds=>Q (.lst ds):=by
 unfold C0;rw[W_bind];congr 1;funext d;exact Ab
theorem An4:W (C1 g env m) Q=W (g env m) fun ds=>ds.length<=1000000/\Q (.tup ds):=by
 unfold C1;rw[W_bind];congr 1;funext d;exact G8
theorem Acr:W (B2 g env m) Q=W (g env m) fun ds=>ds.length<=1000000/\Q ds:=by
 unfold B2;rw[W_bind];congr 1;funext d;exact G8
theorem Rn:W (Bm f env m) Q=W (f env m) fun d=>W (asB d) Q:=W_bind
theorem Aua:W (asB (.bl b)) Q=Q b:=Ab
theorem Afw:W (Rl f env m) Q=W (f env m) fun d=>W (Ah5 m d) Q:=W_bind
theorem Aou:W (Ah5 m (.bl b)) Q=Q b:=Ab
theorem Aow:W (Ah5 m (.tup ds)) Q=Q (!ds.isEmpty):=Ab
theorem Aov:W (Ah5 m (.lst ds)) Q=Q (!ds.isEmpty):=Ab
theorem Anv:W (Acf f g env m) Q=W (f env m) (cK (W (g env m) Q) (Q false)):=by
 unfold Acf;rw[W_bind];congr 1;funext c;rw[Eh,Ab]
theorem Aui:W (fOr f g env m) Q=W (f env m) (cK (Q true) (W (g env m) Q)):=by
 unfold fOr;rw[W_bind];congr 1;funext c;rw[Eh,Ab]
theorem An1:W (Ach f env m) Q=W (f env m) fun b=>Q (!b):=by
 unfold Ach;rw[W_bind];congr 1;funext c;exact Ab
theorem Aig:W (Vz f g env m) Q=W (f env m) fun d=>W (asB d) (cK (W (g env m) Q) (Q (.bl false))):=by
 unfold Vz;rw[W_bind,Rn];congr 1;funext c;congr 1;funext c;rw[Eh,Ab]
theorem An2:W (Anf f g env m) Q=W (f env m) fun d=>W (asB d) (cK (Q (.bl true)) (W (g env m) Q)):=by
 unfold Anf;rw[W_bind,Rn];congr 1;funext c;congr 1;funext c;rw[Eh,Ab]
theorem Aim:W (Y3 f env m) Q=W (f env m) fun d=>W (Ah5 m d) fun b=>Q (.bl (!b)):=by
 unfold Y3;rw[W_bind,Afw];congr 1;funext c;congr 1;funext c;exact Ab
theorem Auf {t:FB}:W (fIf t f g env m) Q=W (t env m) (cK (W (f env m) Q) (W (g env m) Q)):=by
 unfold fIf;rw[W_bind];congr 1;funext c;exact Eh
theorem Auj {l h:FO}:W (fSl f l h env m) Q=W (f env m) fun x=>W (l env m) fun lo=>W (h env m) fun hi=>W (oSl x lo hi) Q:=by
 unfold fSl
 rw[W_bind];congr 1;funext x
 rw[W_bind];congr 1;funext y
 rw[W_bind]
theorem Auh:W (fNo env m) Q=Q none:=Ab
theorem Ain:W (Hc f env m) Q=W (f env m) fun d=>W (asI d) fun i=>Q (some i):=by
 unfold Hc
 rw[W_bind];congr 1;funext x
 rw[W_bind];congr 1;funext y
 exact Ab
theorem Aub:W (asI (.int i)) Q=Q i:=Ab
theorem Aoi {z:Str}{lo hi:Option Int}{Q:D->Prop}:W (oSl (.str z) lo hi) Q=(z.length<=1000000/\Q (.str (Txt.slice z lo hi))):=G8
theorem Af4 {z:List D}{lo hi:Option Int}{Q:D->Prop}:W (oSl (.tup z) lo hi) Q=Q (.tup (Ln z lo hi)):=Ab
def slK (lo hi:Option Int) (m:MH) (x:D) (Q:List D->Prop):Prop:=W (match x with
 |.tup _=>none
 |x=>(sq m x).bind fun ds=>some (Ln ds lo hi)) Q
theorem An3 {l h:FO}:W (Aje f l h env m) Q=W (f env m) fun x=>W (l env m) fun lo=>W (h env m) fun hi=>slK lo hi m x Q:=by
 unfold Aje slK
 rw[W_bind];congr 1;funext x
 rw[W_bind];congr 1;funext y
 rw[W_bind]<;>congr 1
theorem Awj {lo hi:Option Int}{m:MH}{ds:List D}{Q:List D->Prop}:slK lo hi m (.lst ds) Q=Q (Ln ds lo hi):=Ab
theorem Awk {lo hi:Option Int}{m:MH}{n:Nat}{Q:List D->Prop}:slK lo hi m (.ref n) Q=W (sq m (.ref n)) fun ds=>Q (Ln ds lo hi):=by
 unfold slK;exact W_bind.trans (by congr 1;funext ds;exact Ab)
theorem Anw:W (Acg f g env m) Q=W (f env m) fun x=>W (g env m) fun y=>W (sqL m x) fun xs=>W (sqL m y) fun ys=>xs.length+ys.length<=1000000/\Q (xs++ys):=by
 unfold Acg
 rw[W_bind];congr 1;funext x
 rw[W_bind];congr 1;funext y
 rw[W_bind];congr 1;funext z
 rw[W_bind];congr 1;funext k
 exact G8
theorem Anz:W (Ane U f env m) Q=W (f env m) fun d=>W (tyD m d) fun T=>W (Adn T U) fun b=>Q (.bl b):=by
 unfold Ane
 rw[W_bind];congr 1;funext x
 rw[W_bind];congr 1;funext y
 rw[W_bind];congr 1;funext z
 exact Ab
theorem Afx:W (Lq env m) Q=Q true:=Ab
theorem Aij {cap:List Nat}{t:FB}:W (B6 cap k fw g t fe env m) Q=W (fw env m) fun w=>(w.chk m/\w.all.length<=1000000)/\W (Gr g t fe m (Og cap k env) w.all) Q:=by
 unfold B6
 rw[W_bind];congr 1;funext w
 by_cases h:w.chk m/\w.all.length<=1000000
 ·rw[Azp h];apply Bb4;exact⟨fun q=>⟨h,q⟩,fun q=>q.2⟩
 ·rw[Azs h,Aw];apply Bb4;exact⟨False.elim,fun q=>h q.1⟩
theorem Jd {t:FB}:W (Gr g t fe m env []) Q=Q []:=Ab
theorem G7 {t:FB}{d:D}:W (Gr g t fe m env (d::ds)) Q=W (g d env) fun env1=>W (t env1 m) (cK (W (fe env1 m) fun y=>W (Gr g t fe m env ds) fun ys=>Q (y::ys)) (W (Gr g t fe m env ds) Q)):=by
 rw[Gr,W_bind];congr 1;funext e
 rw[W_bind];congr 1;funext ok
 rw[Eh,W_bind]
 congr 1
 congr 1;funext y
 rw[W_bind];congr 1;funext z
 exact Ab
theorem Anp:W (Ew (.int i) (.int j) m) Q=Q (.int (i+j)):=Ab
theorem Anq:W (Ew (.str i) (.str j) m) Q=(i.length+j.length<=1000000/\Q (.str (i++j))):=G8
theorem Anr:W (Ew (.tup i) (.tup j) m) Q=(i.length+j.length<=1000000/\Q (.tup (i++j))):=G8
theorem Aot:W (Aea (.int i) (.int j) m) Q=Q (.int (i - j)):=Ab
theorem Aof:W (Ad8 (.int i) (.int j) m) Q=(((-(2 ^ 64) < i/\i < 2 ^ 64)\/(-(2 ^ 64) < j/\j < 2 ^ 64))/\Q (.int (i * j))):=G8
theorem Anu:W (Aqj (.int i) (.int j) m) Q=((0 < j/\j < 1073741824)/\Q (.int (i / j))):=G8
theorem Af2:W (Xi (.int i) (.int j) m) Q=(0 < j/\Q (.int (i % j))):=G8
theorem Aoj:W (Atv (.int i) (.int j) m) Q=((0<=j/\j<=1000000/\i.natAbs < 2 ^ 64)/\Q (.int (i ^ j.toNat))):=G8
theorem Aut:W (oLt (.int i) (.int j) m) Q=Q (.bl (decide (i < j))):=by
 rw[show oLt (.int i) (.int j) m=some (.bl (decide (i < j))) by rfl,Ab]
theorem Auk:W (oGt (.int i) (.int j) m) Q=Q (.bl (decide (j < i))):=Ab
theorem Axu:W (oEq x y m) Q=W (B7 m x) fun x'=>W (B7 m y) fun y'=>dep x'<=60/\Q (.bl (deq x' y')):=by
 unfold oEq eqO
 rw[W_bind,W_bind];congr 1;funext x'
 rw[W_bind];congr 1;funext y'
 rw[G8,Ab]
theorem Ax4:W (oNe x y m) Q=W (B7 m x) fun x'=>W (B7 m y) fun y'=>dep x'<=60/\Q (.bl (!deq x' y')):=by
 unfold oNe eqO
 rw[W_bind,W_bind];congr 1;funext x'
 rw[W_bind];congr 1;funext y'
 rw[G8,Ab]
theorem Aur:W (oIx (.str z) (.int i) m) Q=(z.length<=1000000/\W (atI z.cps.toList i) fun c=>Q (.str ⟨#[c]⟩)):=by
 show W (if z.length<=1000000 then (atI z.cps.toList i).bind fun c=>some (.str ⟨#[c]⟩) else none) Q=_
 by_cases h:z.length<=1000000
 ·rw[Azp h,W_bind];simp only[h,true_and];congr 1;funext c;exact Ab
 ·rw[Azs h,Aw];simp[h]
theorem Gm:W (oIx (.tup z) (.int i) m) Q=W (atI z i) Q:=rfl
theorem Aup:W (oIx (.lst z) (.int i) m) Q=W (atI z i) Q:=rfl
theorem Auo:W (oIx (.kl z) (.int i) m) Q=W (atI z i) Q:=rfl
theorem Auq:W (oIx (.ref n) (.int i) m) Q=W (sq m (.ref n)) fun z=>W (atI z i) Q:=W_bind
theorem Aod:W (J0 [.tup z] m) Q=Q (.int z.length):=Ab
theorem Af0:W (J0 [.lst z] m) Q=Q (.int z.length):=Ab
theorem Aoc:W (J0 [.kl z] m) Q=Q (.int z.length):=Ab
theorem Af1:W (J0 [.ref n] m) Q=W (sq m (.ref n)) fun z=>Q (.int z.length):=by
 show W (((sq m (.ref n)).bind fun ds=>some ds.length).bind fun n=>some (.int n)) Q=_
 rw[W_bind,W_bind];congr 1;funext z;rw[Ab,Ab]
theorem At9 {d:D}:W (Aqh [d] m) Q=W (sqL m d) fun ds=>W (Rt ds) fun bs=>Q (.bl (bs.any (fun b=>b))):=by
 unfold Aqh
 simp only
 rw[W_bind];congr 1;funext z;rw[W_bind];congr 1;funext z;exact Ab
theorem Af5:W (sqL m (.lst z)) Q=Q z:=Ab
theorem Aun:W (oIn x (.tup z) m) Q=W (B7 m x) fun x'=>W (B7 m (.tup z)) fun y'=>W (sq [] y') fun ds=>dep x'<=50/\Q (.bl (ds.any fun d=>deq d x')):=by
 unfold oIn inO;rw[W_bind];simp only
 rw[W_bind];congr 1;funext x';rw[W_bind];congr 1;funext z;rw[W_bind];congr 1;funext z;rw[G8,Ab]
theorem Aum:W (oIn x (.lst z) m) Q=W (B7 m x) fun x'=>W (B7 m (.lst z)) fun y'=>W (sq [] y') fun ds=>dep x'<=50/\Q (.bl (ds.any fun d=>deq d x')):=by
 unfold oIn inO;rw[W_bind];simp only
 rw[W_bind];congr 1;funext x';rw[W_bind];congr 1;funext z;rw[W_bind];congr 1;funext z;rw[G8,Ab]
theorem X9:W (Ci n fn ds m) Q=W (Cw m ds) fun ds'=>ds'.length=n/\W (fn ds') Q:=by
 unfold Ci
 rw[W_bind];congr 1;funext z
 by_cases h:z.length=n
 ·rw[Azp h];simp[h]
 ·rw[Azs h,Aw];simp[h]
theorem Vn:W (Cw m []) Q=Q []:=Ab
theorem Vm {d:D}:W (Cw m (d::ds)) Q=W (B7 m d) fun d'=>W (Cw m ds) fun ds'=>Q (d'::ds'):=by
 rw[Cw,W_bind];congr 1;funext z;rw[W_bind];congr 1;funext z;exact Ab
theorem Ai0:W (B7 m (.int b)) Q=Q (.int b):=Ab
theorem Ai3:W (B7 m (.str b)) Q=Q (.str b):=Ab
theorem Ai1:W (B7 m (.lst b)) Q=(A1 b=true/\Q (.lst b)):=G8
theorem Auw:W (tyD m (.int b)) Q=Q "int":=Ab
theorem Aux:W (tyD m (.str b)) Q=Q "str":=Ab
theorem Vk:W (Adn "int" "str") Q=Q false:=by rw[show Adn "int" "str"=some false by decide,Ab]
theorem Vl:W (Adn "str" "str") Q=Q true:=by rw[show Adn "str" "str"=some true by decide,Ab]
theorem Au0:W (Cg m (.bl b)) Q=Q (.bl b):=by rw[Cg,Ab]
theorem Au2:W (Cg m (.int b)) Q=Q (.int b):=by rw[Cg,Ab]
theorem Ao2:W (Dx m []) Q=Q []:=by rw[Dx,Ab]
theorem Ao1 {d:D}:W (Dx m (d::ds)) Q=W (Cg m d) fun e=>W (Dx m ds) fun es=>Q (e::es):=by
 rw[Dx,W_bind];congr 1;funext z;rw[W_bind];congr 1;funext z;exact Ab
def Atk (m:MH) (d:D) (Q:Wk->Prop):Prop:=W (match d with
 |.str z=>some ⟨Mt z,Bv⟩
 |.tup ds=>some ⟨ds,Bv⟩
 |.lst ds=>some ⟨ds,Bv⟩
 |.kl ds=>some ⟨ds,Bv⟩
 |.ref n=>(match m[n]? with
  |some (.lst ds)=>some ⟨ds,fun m'=>m'[n]?=some (.lst ds)⟩
  |_=>none)
 |_=>none) Q
theorem Ao0:W (Eg f env m) Q=W (f env m) fun d=>Atk m d Q:=W_bind
theorem Azb:Atk m (.tup z) Q=Q ⟨z,Bv⟩:=Ab
theorem Ay9:Atk m (.lst z) Q=Q ⟨z,Bv⟩:=Ab
theorem Aza:Atk m (.ref n) Q=W (sq m (.ref n)) fun ds=>Q ⟨ds,fun m'=>m'[n]?=some (.lst ds)⟩:=by
 unfold Atk sq
 simp only
 cases m[n]? with
 |none=>rw[Aw,Aw]
 |some o=>cases o with
  |lst ds=>rw[Ab,Ab]
  |dct ds=>rw[Aw,Aw]
  |dcs ks ds=>rw[Aw,Aw]
def Axa (ds:List D) (Q:Wk->Prop):Prop:=W (match ds with
 |[.int j]=>if -(2 ^ 62)<=j/\j < 2 ^ 62 then some ⟨C4 0 j.toNat,Bv⟩ else none
 |_=>none) Q
theorem Ai4:W (Lj g env m) Q=W (g env m) fun ds=>Axa ds Q:=W_bind
theorem Awi:Axa [.int j] Q=((-(2 ^ 62)<=j/\j < 2 ^ 62)/\Q ⟨C4 0 j.toNat,Bv⟩):=G8
theorem Aol:W (Lo f g b env m) Q=W (f env m) fun w=>W (Hu w.chk g b w.all env m) Q:=W_bind
theorem Acu:W (Hu chk g b [] e m) Q=(chk m/\Q (.nx e m)):=by rw[Hu];exact G8
def Xw (chk:MH->Prop) (g:FG) (b:FS) (ds:List D) (Q:Out->Prop):Out->Prop
 |.nx e m=>W (Hu chk g b ds e m) Q
 |.ct e m=>W (Hu chk g b ds e m) Q
 |.bk e m=>Q (.nx e m)
 |.rt d m=>Q (.rt d m)
theorem Afj:Xw chk g b ds Q (.nx e m)=W (Hu chk g b ds e m) Q:=rfl
theorem Afi:Xw chk g b ds Q (.ct e m)=W (Hu chk g b ds e m) Q:=rfl
theorem Afh:Xw chk g b ds Q (.bk e m)=Q (.nx e m):=rfl
theorem Afk:Xw chk g b ds Q (.rt e m)=Q (.rt e m):=rfl
theorem Yc {d:D}:W (Hu chk g b (d::ds) e m) Q=(chk m/\W (g d e) fun e1=>W (b e1 m) (Xw chk g b ds Q)):=by
 rw[Hu]
 by_cases h:chk m
 ·rw[Azp h,W_bind]
  apply Bb4
  have k:∀ e1,W ((b e1 m).bind fun o=>match o with
   |.nx env2 m2=>Hu chk g b ds env2 m2
   |.ct env2 m2=>Hu chk g b ds env2 m2
   |.bk env2 m2=>some (.nx env2 m2)
   |.rt d m2=>some (.rt d m2)) Q=W (b e1 m) (Xw chk g b ds Q):=by
   intro e1
   rw[W_bind]
   congr 1
   funext o
   cases o<;>first|rfl|exact Ab
  exact⟨fun q=>⟨h,q.imp fun e1 q=>(k e1) ▸ q⟩,fun q=>q.2.imp fun e1 q=>(k e1) ▸ q⟩
 ·rw[Azs h,Aw];simp[h]
theorem Vv:Bv m=True:=rfl
theorem Ayc {d:D}{l:Bc}:W (Ac 0 (some d::l) m) Q=Q d:=Ab
theorem Axk {d:D}{l:Bc}:W (Au 0 d (y::l)) Q=Q (some d::l):=Ab
theorem Ayd {d:D}{l:Bc}:W (Ac 1 (x0::some d::l) m) Q=Q d:=Ab
theorem Ax5 {l:Bc}:W (Da 1 f (x0::y::l) m) Q=W (f (x0::y::l) m) fun d=>Q (.nx (x0::some d::l) m):=by unfold Da;rw[W_bind];congr 1;funext d;exact Ab
theorem Axz {l:Bc}:W (Gf 1 f (x0::y::l) m) Q=W (f (x0::y::l) m) fun ds=>Q (.nx (x0::some (.ref m.length)::l) (m++[.lst ds])):=by unfold Gf;rw[W_bind];congr 1;funext d;exact Ab
theorem Axl {d:D}{l:Bc}:W (Au 1 d (x0::y::l)) Q=Q (x0::some d::l):=Ab
theorem Aye {d:D}{l:Bc}:W (Ac 2 (x0::x1::some d::l) m) Q=Q d:=Ab
theorem Ax6 {l:Bc}:W (Da 2 f (x0::x1::y::l) m) Q=W (f (x0::x1::y::l) m) fun d=>Q (.nx (x0::x1::some d::l) m):=by unfold Da;rw[W_bind];congr 1;funext d;exact Ab
theorem Ax0 {l:Bc}:W (Gf 2 f (x0::x1::y::l) m) Q=W (f (x0::x1::y::l) m) fun ds=>Q (.nx (x0::x1::some (.ref m.length)::l) (m++[.lst ds])):=by unfold Gf;rw[W_bind];congr 1;funext d;exact Ab
theorem Axm {d:D}{l:Bc}:W (Au 2 d (x0::x1::y::l)) Q=Q (x0::x1::some d::l):=Ab
theorem Ayf {d:D}{l:Bc}:W (Ac 3 (x0::x1::x2::some d::l) m) Q=Q d:=Ab
theorem Ax7 {l:Bc}:W (Da 3 f (x0::x1::x2::y::l) m) Q=W (f (x0::x1::x2::y::l) m) fun d=>Q (.nx (x0::x1::x2::some d::l) m):=by unfold Da;rw[W_bind];congr 1;funext d;exact Ab
theorem Ax1 {l:Bc}:W (Gf 3 f (x0::x1::x2::y::l) m) Q=W (f (x0::x1::x2::y::l) m) fun ds=>Q (.nx (x0::x1::x2::some (.ref m.length)::l) (m++[.lst ds])):=by unfold Gf;rw[W_bind];congr 1;funext d;exact Ab
theorem Axn {d:D}{l:Bc}:W (Au 3 d (x0::x1::x2::y::l)) Q=Q (x0::x1::x2::some d::l):=Ab
theorem Ayg {d:D}{l:Bc}:W (Ac 4 (x0::x1::x2::x3::some d::l) m) Q=Q d:=Ab
theorem Ax8 {l:Bc}:W (Da 4 f (x0::x1::x2::x3::y::l) m) Q=W (f (x0::x1::x2::x3::y::l) m) fun d=>Q (.nx (x0::x1::x2::x3::some d::l) m):=by unfold Da;rw[W_bind];congr 1;funext d;exact Ab
theorem Ax2 {l:Bc}:W (Gf 4 f (x0::x1::x2::x3::y::l) m) Q=W (f (x0::x1::x2::x3::y::l) m) fun ds=>Q (.nx (x0::x1::x2::x3::some (.ref m.length)::l) (m++[.lst ds])):=by unfold Gf;rw[W_bind];congr 1;funext d;exact Ab
theorem Axo {d:D}{l:Bc}:W (Au 4 d (x0::x1::x2::x3::y::l)) Q=Q (x0::x1::x2::x3::some d::l):=Ab
theorem Ayh {d:D}{l:Bc}:W (Ac 5 (x0::x1::x2::x3::x4::some d::l) m) Q=Q d:=Ab
theorem Ax9 {l:Bc}:W (Da 5 f (x0::x1::x2::x3::x4::y::l) m) Q=W (f (x0::x1::x2::x3::x4::y::l) m) fun d=>Q (.nx (x0::x1::x2::x3::x4::some d::l) m):=by unfold Da;rw[W_bind];congr 1;funext d;exact Ab
theorem Ax3 {l:Bc}:W (Gf 5 f (x0::x1::x2::x3::x4::y::l) m) Q=W (f (x0::x1::x2::x3::x4::y::l) m) fun ds=>Q (.nx (x0::x1::x2::x3::x4::some (.ref m.length)::l) (m++[.lst ds])):=by unfold Gf;rw[W_bind];congr 1;funext d;exact Ab
theorem Axp {d:D}{l:Bc}:W (Au 5 d (x0::x1::x2::x3::x4::y::l)) Q=Q (x0::x1::x2::x3::x4::some d::l):=Ab
theorem Ayi {d:D}{l:Bc}:W (Ac 6 (x0::x1::x2::x3::x4::x5::some d::l) m) Q=Q d:=Ab
theorem Aya {l:Bc}:W (Da 6 f (x0::x1::x2::x3::x4::x5::y::l) m) Q=W (f (x0::x1::x2::x3::x4::x5::y::l) m) fun d=>Q (.nx (x0::x1::x2::x3::x4::x5::some d::l) m):=by unfold Da;rw[W_bind];congr 1;funext d;exact Ab
theorem Axq {d:D}{l:Bc}:W (Au 6 d (x0::x1::x2::x3::x4::x5::y::l)) Q=Q (x0::x1::x2::x3::x4::x5::some d::l):=Ab
theorem Ayj {d:D}{l:Bc}:W (Ac 7 (x0::x1::x2::x3::x4::x5::x6::some d::l) m) Q=Q d:=Ab
theorem Axr {d:D}{l:Bc}:W (Au 7 d (x0::x1::x2::x3::x4::x5::x6::y::l)) Q=Q (x0::x1::x2::x3::x4::x5::x6::some d::l):=Ab
theorem Ayk {d:D}{l:Bc}:W (Ac 8 (x0::x1::x2::x3::x4::x5::x6::x7::some d::l) m) Q=Q d:=Ab
theorem Ayb {l:Bc}:W (Da 8 f (x0::x1::x2::x3::x4::x5::x6::x7::y::l) m) Q=W (f (x0::x1::x2::x3::x4::x5::x6::x7::y::l) m) fun d=>Q (.nx (x0::x1::x2::x3::x4::x5::x6::x7::some d::l) m):=by unfold Da;rw[W_bind];congr 1;funext d;exact Ab
theorem Axs {d:D}{l:Bc}:W (Au 8 d (x0::x1::x2::x3::x4::x5::x6::x7::y::l)) Q=Q (x0::x1::x2::x3::x4::x5::x6::x7::some d::l):=Ab
theorem Ayl {d:D}{l:Bc}:W (Ac 9 (x0::x1::x2::x3::x4::x5::x6::x7::x8::some d::l) m) Q=Q d:=Ab
theorem Axt {d:D}{l:Bc}:W (Au 9 d (x0::x1::x2::x3::x4::x5::x6::x7::x8::y::l)) Q=Q (x0::x1::x2::x3::x4::x5::x6::x7::x8::some d::l):=Ab
end
theorem Bs:deq (.int i) (.int j)=decide (i=j):=by
 unfold deq pyD
 rw[show PyData.eqv (.int i) (.int j)=(i == j) by simp[PyData.eqv]]
 by_cases h:i=j<;>simp[h]
theorem B9:deq (.str i) (.str j)=decide (i=j):=by
 unfold deq pyD
 rw[show PyData.eqv (.str i) (.str j)=(i == j) by simp[PyData.eqv]]
 by_cases h:i=j<;>simp[h]
theorem Agb:deq (.bl i) (.bl j)=decide (i=j):=by
 cases i<;>cases j<;>decide
theorem B5:dep (.int i)=0:=by simp[dep]
theorem Ei:dep (.str i)=0:=by simp[dep]
theorem Vj (h0:0<=i) (h1:i < xs.length) (q:∀ d,xs[i.toNat]?=some d->d∈xs->Q d):W (atI xs i) Q:=by
 unfold atI ixN
 rw[Azp h0,Azp h1]
 have hi:i.toNat < xs.length:=by lia
 refine⟨xs[i.toNat],?_,q _ (Azl hi) (Baq hi)⟩
 exact Azl hi
theorem Ani:(⟨#[c]⟩:Str).length=1:=rfl
theorem Ac8:Og [] k env=List.replicate k none:=rfl
theorem Ym {cap:List Nat}:Og (i::cap) k env=(env[i]?).bind id::Og cap k env:=rfl
theorem Bl {α:Type}{g:FG}{fe:FE}{m:MH}{env:Bc}{h:α->D} (F:α->D) {xs:List α}{Q:List D->Prop} (k:∀ x∈xs,W (g (h x) env) fun e1=>W (fe e1 m) fun y=>y=F x) (q:Q (xs.map F)):W (Gr g Lq fe m env (xs.map h)) Q:=by
 induction xs generalizing Q with
 |nil=>rw[Bbb,Jd];exact q
 |cons d ds ih =>
  rw[Azm,G7]
  refine (k d (Azg ..)).imp fun e1 h1=>?_
  rw[Afx,T5]
  refine h1.imp fun y hy=>?_
  subst hy
  exact ih (fun e he=>k e (Azf _ he)) q
noncomputable section
open Classical
theorem Auv:W (sq m (.tup ds)) Q=Q ds:=Ab
theorem Aos:W (sq m (.lst ds)) Q=Q ds:=Ab
theorem Af6:W (sqL m (.ref n)) Q=W (sq m (.ref n)) Q:=rfl
def At1 (o i d:D) (env:Bc) (m:MH) (Q:Out->Prop):Prop:=W (match o,i with
 |.ref n,.int k=>(match m[n]? with
  |some (.lst ds)=>(ixN ds.length k).bind fun j=>some (.nx env (m.set n (.lst (ds.set j d))))
  |_=>none)
 |_,_=>none) Q
theorem As2 {d:D}:At1 (.ref n) (.int k) d env m Q=W (sq m (.ref n)) fun ds=>W (ixN ds.length k) fun j=>Q (.nx env (m.set n (.lst (ds.set j d)))):=by
 unfold At1 sq
 simp only
 cases m[n]? with
 |none=>rw[Aw,Aw]
 |some o=>cases o with
  |lst ds=>simp only;rw[Ab,W_bind];congr 1;funext j;exact Ab
  |dct ds=>rw[Aw,Aw]
  |dcs ks ds=>rw[Aw,Aw]
theorem Ac1:W (G3 f fo fi env m) Q=W (f env m) fun d=>W (fo env m) fun o=>W (fi env m) fun i=>At1 o i d env m Q:=by
 unfold G3 At1
 rw[W_bind];congr 1;funext x
 rw[W_bind];congr 1;funext y
 rw[W_bind]<;>congr 1
def Atr (o:List D->List D->Option (List D)) (d:D) (g:FL) (env:Bc) (m:MH) (Q:Out->Prop):Prop:=W (match d with
 |.ref n=>(g env m).bind fun es=>(match m[n]? with
  |some (.lst ds)=>(o ds es).bind fun fs=>some (.nx env (m.set n (.lst fs)))
  |_=>none)
 |_=>none) Q
theorem Aon:W (Xs o f g env m) Q=W (f env m) fun d=>Atr o d g env m Q:=by
 unfold Xs Atr
 rw[W_bind]<;>congr 1
theorem Aqb:Atr o (.ref n) g env m Q=W (g env m) fun es=>W (sq m (.ref n)) fun ds=>W (o ds es) fun fs=>Q (.nx env (m.set n (.lst fs))):=by
 unfold Atr sq
 simp only
 rw[W_bind];congr 1;funext es
 cases m[n]? with
 |none=>rw[Aw,Aw]
 |some o=>cases o with
  |lst ds=>simp only;rw[Ab,W_bind];congr 1;funext j;exact Ab
  |dct ds=>rw[Aw,Aw]
  |dcs ks ds=>rw[Aw,Aw]
theorem Aoh {d:D}:W (Xg ds [d]) Q=(ds.length < 1000000/\Q (ds++[d])):=G8
theorem Oi {d:D}:W (Hg ds [.int i,d]) Q=((ds.length < 1000000/\0<=i/\i < 2 ^ 62)/\Q (insD ds i.toNat d)):=G8
theorem Acy {d:D}:W (Ea [d] m) Q=W (sq m d) fun ds=>Q (.tup ds):=W_bind.trans (by congr 1;funext ds;exact Ab)
theorem Air {d:D}:W (Aag [d] m) Q=W (sq m d) Q:=rfl
theorem Aok:W (Asy f g env m) Q=W (f env m) fun d=>W (g d env) fun e=>Q (.nx e m):=by
 unfold Asy
 rw[W_bind];congr 1;funext x
 rw[W_bind];congr 1;funext y
 exact Ab
theorem Afv:W (Hb n g (.tup ds) env) Q=(ds.length=n/\W (g ds env) Q):=by
 unfold Hb
 simp only
 by_cases h:ds.length=n
 ·rw[Azp h];simp[h]
 ·rw[Azs h,Aw];simp[h]
theorem Aie {d:D}:W (B4 g h (d::ds) env) Q=W (g d env) fun e=>W (h ds e) Q:=W_bind
theorem Ant:W (Ng [] env) Q=Q env:=Ab
theorem Aus:W (Aql x y m) Q=W (B7 m x) fun x'=>W (B7 m y) fun y'=>(dep x'<=30/\dep y'<=30)/\W (ltD x' y') fun k=>Q (.bl k):=by
 unfold Aql
 rw[W_bind];congr 1;funext x'
 rw[W_bind];congr 1;funext y'
 by_cases h:dep x'<=30/\dep y'<=30
 ·rw[Azp h,W_bind]
  apply Bb4
  have e:(fun k=>W (some (D.bl k)) Q)=fun k=>Q (.bl k):=by funext k;exact Ab
  rw[e]
  exact⟨fun q=>⟨h,q⟩,fun q=>q.2⟩
 ·rw[Azs h,Aw];apply Bb4;exact⟨False.elim,fun q=>h q.1⟩
theorem Ai2:W (B7 m (.ref n)) Q=W (sq m (.ref n)) fun ds=>A1 ds=true/\Q (.lst ds):=by
 unfold B7 sq
 simp only
 cases m[n]? with
 |none=>rw[Aw,Aw]
 |some o=>cases o with
  |lst ds=>simp only;rw[Ab];exact G8
  |dct ds=>rw[Aw,Aw]
  |dcs ks ds=>rw[Aw,Aw]
theorem Aor:W (sq (.lst ds::m) (.ref 0)) Q=Q ds:=Ab
theorem Ayn {n:Nat}{ds:List D}{m:MH}{Q:D->Prop} (h:m[n]?=some (.lst ds)):W (Cg m (.ref n)) Q=cK (Q (.lst ds)) (W (xpL m ds) fun es=>Q (.lst es)) (Bf ds):=by
 rw[Cg,h]
 show W (if _ then _ else _) Q=_
 rw[Eh,Ab,W_bind]
 congr 2;funext es;exact Ab
theorem Au4:W (Cg (.lst ds::m) (.ref 0)) Q=cK (Q (.lst ds)) (W (xpL (.lst ds::m) ds) fun es=>Q (.lst es)) (Bf ds):=Ayn rfl
end
theorem W.eq (h:W x fun d=>d=a):W x Q=Q a:=by rw[h.out,Ab]
mutual
theorem M3:∀ {d:D},Bg d=true->Cg m d=some d
 |.non,_=>by rw[Cg]
 |.bl _,_=>by rw[Cg]
 |.int _,_=>by rw[Cg]
 |.str _,_=>by rw[Cg]
 |.tup ds,h=>by rw[Bg] at h;rw[Cg,Lm h];rfl
 |.lst _,h=>by simp[Bg] at h
 |.kl _,h=>by simp[Bg] at h
 |.ref _,h=>by simp[Bg] at h
theorem Lm:∀ {ds:List D},Bf ds=true->Dx m ds=some ds
 |[],_=>by rw[Dx]
 |d::ds,h=>by
  rw[Bf,Az0] at h
  rw[Dx,M3 h.1,Lm h.2];rfl
end
mutual
theorem Mh:∀ {d:D},Bg d=true->Bt d=true
 |.non,_=>by simp[Bt]
 |.bl _,_=>by simp[Bt]
 |.int _,_=>by simp[Bt]
 |.str _,_=>by simp[Bt]
 |.tup ds,h=>by rw[Bg] at h;rw[Bt];exact Ay h
 |.lst _,h=>by simp[Bg] at h
 |.kl _,h=>by simp[Bg] at h
 |.ref _,h=>by simp[Bg] at h
theorem Ay:∀ {ds:List D},Bf ds=true->A1 ds=true
 |[],_=>by rw[A1]
 |d::ds,h=>by
  rw[Bf,Az0] at h
  rw[A1,Mh h.1,Ay h.2];rfl
end
theorem By {d:D} (h:Bg d=true):B7 m d=some d:=by
 have h2:=Mh h
 cases d<;>first|(simp[Bg] at h;done)|(unfold B7;simp only;rw[Azp h2])
theorem Au1 {d:D} (h:Bg d=true):W (Cg m d) Q=Q d:=by rw[M3 h,Ab]
theorem Aiz {d:D} (h:Bg d=true):W (B7 m d) Q=Q d:=by rw[By h,Ab]
theorem Pp:Bg .non=true:=by simp[Bg]
theorem C3:Bg (.int b)=true:=by simp[Bg]
theorem Be:Bg (.str b)=true:=by simp[Bg]
theorem A2:Bg (.tup ds)=Bf ds:=by rw[Bg]
theorem Bn:Bf []=true:=by rw[Bf]
theorem Ak {d:D}:Bf (d::ds)=(Bg d&&Bf ds):=by rw[Bf]
theorem Mg:∀ {ds:List D},Bf ds=true ↔ ∀ d∈ds,Bg d=true
 |[]=>by simp[Bf]
 |d::ds=>by rw[Bf,Az0,Mg];simp
theorem Af {α:Type}{f:α->D}{xs:List α} (h:∀ x,Bg (f x)=true):Bf (xs.map f)=true:=by
 rw[Mg];intro d hd;obtain⟨x,_,rfl⟩:=List.mem_map.mp hd;exact h x
theorem Ej:deq (.tup []) (.tup [])=true:=by simp[deq,pyD,J6,PyData.eqv,PyData.eqvAll]
theorem Cm:deq (.tup (x::xs)) (.tup (y::ys))=(deq x y&&deq (.tup xs) (.tup ys)):=by
 simp[deq,pyD,J6,PyData.eqv,PyData.eqvAll]
theorem Apf:deq (.tup []) (.tup (x::xs))=false:=by simp[deq,pyD,J6,PyData.eqv,PyData.eqvAll]
theorem Agc:deq (.tup (x::xs)) (.tup [])=false:=by simp[deq,pyD,J6,PyData.eqv,PyData.eqvAll]
theorem Adc:deq (.lst []) (.lst [])=true:=by simp[deq,pyD,J6,PyData.eqv,PyData.eqvAll]
theorem Yr:deq (.lst (x::xs)) (.lst (y::ys))=(deq x y&&deq (.lst xs) (.lst ys)):=by
 simp[deq,pyD,J6,PyData.eqv,PyData.eqvAll]
theorem Ajb:deq (.lst []) (.lst (x::xs))=false:=by simp[deq,pyD,J6,PyData.eqv,PyData.eqvAll]
theorem Aja:deq (.lst (x::xs)) (.lst [])=false:=by simp[deq,pyD,J6,PyData.eqv,PyData.eqvAll]
theorem Apg:deq .non .non=true:=by simp[deq,pyD,PyData.eqv]
theorem Apd {t:Str}:deq (.int i) (.str t)=false:=by simp[deq,pyD,PyData.eqv]
theorem Aph {t:Str}:deq (.str t) (.int i)=false:=by simp[deq,pyD,PyData.eqv]
theorem Nh [DecidableEq α] (h:∀ x y,deq (f x) (f y)=decide (x=y)):∀ xs ys:List α,deq (.tup (xs.map f)) (.tup (ys.map f))=decide (xs=ys)
 |[],[]=>by simp[Ej]
 |[],y::ys=>by simp[Apf]
 |x::xs,[]=>by simp[Agc]
 |x::xs,y::ys=>by
  rw[Azm,Azm,Cm,h,Nh h xs ys]
  by_cases e1:x=y<;>by_cases e2:xs=ys<;>simp[e1,e2]
theorem Im [DecidableEq α] (h:∀ x y,deq (f x) (f y)=decide (x=y)):∀ xs ys:List α,deq (.lst (xs.map f)) (.lst (ys.map f))=decide (xs=ys)
 |[],[]=>by simp[Adc]
 |[],y::ys=>by simp[Ajb]
 |x::xs,[]=>by simp[Aja]
 |x::xs,y::ys=>by
  rw[Azm,Azm,Yr,h,Im h xs ys]
  by_cases e1:x=y<;>by_cases e2:xs=ys<;>simp[e1,e2]
theorem C5:dep (.tup ds)=Cz ds+1:=by rw[dep]
theorem B0 {n:Nat}:∀ {ds:List D},(∀ d∈ds,dep d<=n)->Cz ds<=n
 |[],_=>by rw[Cz];exact Az5 _
 |d::ds,h=>by
  rw[Cz]
  have h1:=h d (Azg ..)
  have h2:=B0 (n:=n) (ds:=ds) fun e he=>h e (Azf _ he)
  lia
noncomputable def Zx {α:Type} (I:List α->Bc->MH->Prop) (xs:List α) (Q:Out->Prop):Out->Prop
 |.nx e m=>I xs e m
 |.ct e m=>I xs e m
 |.bk e m=>Q (.nx e m)
 |.rt d m=>Q (.rt d m)
theorem Ady:Zx I xs Q (.nx e m)=I xs e m:=rfl
theorem Adx:Zx I xs Q (.ct e m)=I xs e m:=rfl
theorem Adw:Zx I xs Q (.bk e m)=Q (.nx e m):=rfl
theorem Adz {d:D}:Zx I xs Q (.rt d m)=Q (.rt d m):=rfl
theorem Ct {α:Type}{h:α->D}{chk:MH->Prop}{g:FG}{b:FS}{Q:Out->Prop} (I:List α->Bc->MH->Prop) (hs:∀ x xs e m,I (x::xs) e m->chk m/\W (g (h x) e) fun e1=>W (b e1 m) (Zx I xs Q)) (he:∀ e m,I [] e m->chk m/\Q (.nx e m)) :
  ∀ {xs:List α}{e:Bc}{m:MH},I xs e m->W (Hu chk g b (xs.map h) e m) Q
 |[],e,m,hi=>by
  rw[Bbb,Acu];exact he e m hi
 |x::xs,e,m,hi=>by
  rw[Azm,Yc]
  obtain⟨h1,h2⟩:=hs x xs e m hi
  refine⟨h1,h2.imp fun e1 h3=>h3.imp fun o ho=>?_⟩
  cases o with
  |nx e m=>exact Ct I hs he ho
  |ct e m=>exact Ct I hs he ho
  |bk e m=>exact ho
  |rt d m=>exact ho
noncomputable def Xd (I:Nat->Bc->MH->Prop) (k:Nat) (Q:Out->Prop):Out->Prop
 |.nx e m=>I k e m
 |.ct e m=>I k e m
 |.bk e m=>Q (.nx e m)
 |.rt d m=>Q (.rt d m)
theorem Adu:Xd I k Q (.nx e m)=I k e m:=rfl
theorem Adt:Xd I k Q (.ct e m)=I k e m:=rfl
theorem Ads:Xd I k Q (.bk e m)=Q (.nx e m):=rfl
theorem Adv {d:D}:Xd I k Q (.rt d m)=Q (.rt d m):=rfl
theorem An5 (I:Nat->Bc->MH->Prop) (hs:∀ (k:Nat) e m,k < n->I k e m->chk m/\W (g (h k) e) fun e1=>W (b e1 m) (Xd I (k+1) Q)) (he:∀ e m,I n e m->chk m/\Q (.nx e m)) (h0:I 0 e m):W (Hu chk g b ((List.range n).map h) e m) Q:=by
 refine Ct (h:=h) (fun xs e m=>∃ k,k<=n/\xs=(List.range n).drop k/\I k e m) ?_ ?_ ⟨0,Az5 _,rfl,h0⟩
 ·rintro x xs e m ⟨k,hk,hx,hi⟩
  have hk2:k < n:=by
   rcases Nat.lt_or_ge k n with h|h
   ·exact h
   ·rw[Bby (by simpa using h)] at hx;cases hx
  rw[Bau (by simpa using hk2),List.getElem_range] at hx
  obtain⟨e1,e2⟩:=List.cons.inj hx
  rw[e1,e2]
  obtain⟨h1,h2⟩:=hs k e m hk2 hi
  refine⟨h1,h2.imp fun e1 h3=>h3.imp fun o ho=>?_⟩
  cases o with
  |nx e m=>exact⟨k+1,hk2,rfl,ho⟩
  |ct e m=>exact⟨k+1,hk2,rfl,ho⟩
  |bk e m=>exact ho
  |rt d m=>exact ho
 ·rintro e m ⟨k,hk,hx,hi⟩
  have:k=n:=by
   have:=Ba4 List.length hx
   simp at this;lia
  subst this
  exact he e m hi
theorem Je {lo:Int}{n:Nat}{chk:MH->Prop}{g:FG}{b:FS}{Q:Out->Prop}{e:Bc}{m:MH} (I:Nat->Bc->MH->Prop) (hs:∀ (k:Nat) e m,k < n->I k e m->chk m/\W (g (.int (lo+k)) e) fun e1=>W (b e1 m) (Xd I (k+1) Q)) (he:∀ e m,I n e m->chk m/\Q (.nx e m)) (h0:I 0 e m):W (Hu chk g b (C4 lo n) e m) Q:=An5 I hs he h0
theorem Amk:C4 0 3=[.int 0,.int 1,.int 2]:=rfl
theorem Vh {l:List α}:W (atI (x::l) 0) Q=Q x:=by
 rw[show atI (x::l) 0=some x by unfold atI ixN;rw[Azp (by decide),Azp (by simp<;>lia)];rfl,Ab]
theorem Vi {l:List α}:W (atI (x::y::l) 1) Q=Q y:=by
 rw[show atI (x::y::l) 1=some y by unfold atI ixN;rw[Azp (by decide),Azp (by simp<;>lia)];rfl,Ab]
theorem Aib {l:List α}:W (atI (x::y::z::l) 2) Q=Q z:=by
 rw[show atI (x::y::z::l) 2=some z by unfold atI ixN;rw[Azp (by decide),Azp (by simp<;>lia)];rfl,Ab]
theorem Ans {l:List α}:W (atI (x::y::z::w::l) 3) Q=Q w:=by
 rw[show atI (x::y::z::w::l) 3=some w by unfold atI ixN;rw[Azp (by decide),Azp (by simp<;>lia)];rfl,Ab]
theorem M8 {α β:Type}{f:α->β}{xs:List α}{k:Nat} (h:k < xs.length) {Q:β->Prop}:W (atI (xs.map f) (k:Int)) Q=Q (f xs[k]):=by
 rw[show atI (xs.map f) (k:Int)=some (f xs[k]) by unfold atI ixN;rw[Azp (by lia),Azp (by simp;lia)];simp[h],Ab]
theorem Atz {n d:Nat}:HT.sIx n d none=d:=rfl
theorem Adm:insD (xs.map f) i (f y)=(insD xs i y).map f:=by
 unfold insD;simp
theorem Adl:(insD xs i y).length=xs.length+1:=by
 unfold insD;simp;lia
theorem Ayq:Ln [x,y,z,w] none (some 3)=[x,y,z]:=rfl
theorem Au5:(Int.natAbs 10 < 18446744073709551616)=True:=by simp
inductive Mark where
 |n (i:Int)
 |s (t:Str)
 deriving DecidableEq
structure Mk where
 a:Int
 b:Int
 c:Int
 ms:List Mark
 deriving DecidableEq
noncomputable def Mark.d:Mark->D
 |.n i=>.int i
 |.s t=>.str t
def Mk.d (x:Mk):D:=.tup [.int x.a,.int x.b,.int x.c,.tup (x.ms.map Mark.d)]
noncomputable def Mark.lt:Mark->Mark->Bool
 |.n i,.n j=>decide (i < j)
 |.n _,.s _=>true
 |.s _,.n _=>false
 |.s t,.s u=>decide (t.cps.toList < u.cps.toList)
def mlt:List Mark->List Mark->Bool
 |[],[]=>false
 |[],_::_=>true
 |_::_,[]=>false
 |x::xs,y::ys=>if x=y then mlt xs ys else x.lt y
def Mk.older (x y:Mk):Bool :=
 if x.a≠y.a then decide (x.a < y.a) else if x.b≠y.b then decide (x.b < y.b) else if x.c≠y.c then decide (x.c < y.c) else
 if x.ms=[]\/y.ms=[] then decide (x.ms≠[]/\y.ms=[]) else mlt x.ms y.ms
theorem Mark.deq (x y:Mark):deq x.d y.d=decide (x=y):=by
 cases x<;>cases y<;>simp[Mark.d,Bs,B9,Apd,Aph]
theorem Mk.deq (x y:Mk):L2.ML.deq x.d y.d=decide (x=y):=by
 unfold Mk.d
 rw[Cm,Cm,Cm,Cm,Ej,Bs,Bs,Bs,Nh Mark.deq]
 obtain⟨a,b,c,ms⟩:=x
 obtain⟨a',b',c',ms'⟩:=y
 by_cases h1:a=a'<;>by_cases h2:b=b'<;>by_cases h3:c=c'<;>by_cases h4:ms=ms'<;>simp[h1,h2,h3,h4]
theorem Mark.pure (x:Mark):Bg x.d=true:=by cases x<;>simp[Mark.d,Bg]
theorem Mk.pure (x:Mk):Bg x.d=true:=by
 unfold Mk.d
 rw[A2,Ak,Ak,Ak,Ak,C3,C3,C3,A2,Af Mark.pure,Bn];rfl
theorem Mark.dep (x:Mark):dep x.d=0:=by cases x<;>simp[Mark.d,B5,Ei]
theorem Mk.dep (x:Mk):L2.ML.dep x.d<=2:=by
 unfold Mk.d
 rw[C5]
 have h:Cz (x.ms.map Mark.d)<=0:=B0 fun d hd=>by
  obtain⟨m,_,rfl⟩:=List.mem_map.mp hd
  rw[Mark.dep];exact Azn _
 have:Cz [D.int x.a,D.int x.b,D.int x.c,D.tup (x.ms.map Mark.d)]<=1:=B0 fun d hd=>by
  simp only[Bba,Bap,or_false] at hd
  rcases hd with rfl|rfl|rfl|rfl
  ·rw[B5];lia
  ·rw[B5];lia
  ·rw[B5];lia
  ·rw[C5];lia
 lia
theorem R8 (xs:List Mark):Bf (xs.map Mark.d)=true:=Af Mark.pure
theorem Co (xs:List Mk):Bf (xs.map Mk.d)=true:=Af Mk.pure
theorem Z1 (l:List Mark):(L2.ML.dep (.tup (l.map Mark.d))<=60)=True:=by
 have h:Cz (l.map Mark.d)<=0:=B0 fun d hd=>by
  obtain⟨m,_,rfl⟩:=List.mem_map.mp hd
  rw[Mark.dep];exact Azn _
 rw[C5];simp;lia
theorem Ap5 (x:Mk):(L2.ML.dep x.d<=60)=True:=by have:=Mk.dep x;simp;lia
theorem Ajc (l:List Mark):L2.ML.deq (.tup (l.map Mark.d)) (.tup [])=decide (l=[]):=by cases l<;>simp[Ej,Agc]
theorem Ap6 {x:Mk}{m:MH}{Q:D->Prop}:W (oIx x.d (.int 0) m) Q=Q (.int x.a):=by unfold Mk.d;rw[Gm,Vh]
theorem Ap7 {x:Mk}{m:MH}{Q:D->Prop}:W (oIx x.d (.int 1) m) Q=Q (.int x.b):=by unfold Mk.d;rw[Gm,Vi]
theorem Ap8 {x:Mk}{m:MH}{Q:D->Prop}:W (oIx x.d (.int 2) m) Q=Q (.int x.c):=by unfold Mk.d;rw[Gm,Aib]
theorem Ap9 {x:Mk}{m:MH}{Q:D->Prop}:W (oIx x.d (.int 3) m) Q=Q (.tup (x.ms.map Mark.d)):=by unfold Mk.d;rw[Gm,Ans]
theorem Ao7:Rt []=some []:=rfl
noncomputable def Mark.rk:Mark->D
 |.n i=>.tup [.int 0,.int i,.str (Str.ofString "")]
 |.s t=>.tup [.int 1,.int 0,.str t]
def Mk.rk (x:Mk):D:=.tup [.int x.a,.int x.b,.int x.c,.int (if x.ms=[] then 1 else 0),.tup (x.ms.map Mark.rk)]
theorem Mark.rk_deq (x y:Mark):L2.ML.deq x.rk y.rk=decide (x=y):=by
 cases x<;>cases y<;>simp[Mark.rk,Cm,Ej,Bs,B9,Bce]
theorem Jv:ltD (.int i) (.int j)=some (decide (i < j)):=by rw[ltD]
theorem Hd:ltD (.tup xs) (.tup ys)=Dr xs ys:=by rw[ltD]
theorem Mark.rk_lt (x y:Mark) (h:x≠y):ltD x.rk y.rk=some (x.lt y):=by
 cases x with
 |n i=>cases y with
  |n j =>
   have hij:i≠j:=fun e=>h (by rw[e])
   simp[Mark.rk,Mark.lt,ltD,Dr,Bs,hij]
  |s t=>simp[Mark.rk,Mark.lt,ltD,Dr,Bs]
 |s t=>cases y with
  |n j=>simp[Mark.rk,Mark.lt,ltD,Dr,Bs]
  |s u =>
   have hij:t≠u:=fun e=>h (by rw[e])
   simp[Mark.rk,Mark.lt,ltD,Dr,Bs,B9,hij]
theorem Ahd:∀ xs ys:List Mark,Dr (xs.map Mark.rk) (ys.map Mark.rk)=some (mlt xs ys)
 |[],[]=>by simp[Dr,mlt]
 |[],y::ys=>by simp[Dr,mlt]
 |x::xs,[]=>by simp[Dr,mlt]
 |x::xs,y::ys=>by
  rw[Azm,Azm,Dr,Mark.rk_deq,mlt]
  by_cases e:x=y
  ·rw[Azp (by simpa using e),Azp e];exact Ahd xs ys
  ·rw[Azs (by simpa using e),Azs e];exact Mark.rk_lt x y e
theorem Nt:∀ xs:List Mark,mlt xs xs=false
 |[]=>rfl
 |x::xs=>by rw[mlt,Azp rfl];exact Nt xs
theorem Mk.rk_lt (x y:Mk):ltD x.rk y.rk=some (x.older y):=by
 obtain⟨a,b,c,ms⟩:=x
 obtain⟨a',b',c',ms'⟩:=y
 unfold Mk.rk Mk.older
 simp only
 rw[Hd,Dr,Bs]
 by_cases h1:a=a'
 ·subst h1
  rw[Azp (by simp),Dr,Bs,Azs (show ¬ (a≠a) by simp)]
  by_cases h2:b=b'
  ·subst h2
   rw[Azp (by simp),Dr,Bs,Azs (show ¬ (b≠b) by simp)]
   by_cases h3:c=c'
   ·subst h3
    rw[Azp (by simp),Dr,Bs,Azs (show ¬ (c≠c) by simp)]
    by_cases h4:ms=[]
    ·subst h4
     by_cases h5:ms'=[]
     ·subst h5
      simp[Dr,Ej]
     ·simp[h5,Jv]
    ·by_cases h5:ms'=[]
     ·subst h5
      simp[h4,Jv]
     ·rw[Azs (show ¬ (ms=[]\/ms'=[]) by rw[not_or];exact⟨h4,h5⟩),Azp (by simp[h4,h5]),Dr,Nh Mark.rk_deq]
      by_cases h6:ms=ms'
      ·subst h6;rw[Azp (by simp),Dr,Nt]
      ·rw[Azs (by simpa using h6),Hd];exact Ahd _ _
   ·rw[Azs (by simpa using h3),Azp (show c≠c' from h3),Jv]
  ·rw[Azs (by simpa using h2),Azp (show b≠b' from h2),Jv]
 ·rw[Azs (by simpa using h1),Azp (show a≠a' from h1),Jv]
theorem Mark.rk_pure (x:Mark):Bg x.rk=true:=by cases x<;>simp[Mark.rk,Bg,Bf]
theorem Mk.rk_pure (x:Mk):Bg x.rk=true:=by
 unfold Mk.rk
 rw[A2,Ak,Ak,Ak,Ak,Ak,C3,C3,C3,C3,A2,Af Mark.rk_pure,Bn];rfl
theorem Mark.rk_dep (x:Mark):L2.ML.dep x.rk<=1:=by
 cases x<;>(unfold Mark.rk;rw[C5];simp[Cz,B5,Ei])
theorem Mk.rk_dep (x:Mk):L2.ML.dep x.rk<=3:=by
 unfold Mk.rk
 rw[C5]
 have h:Cz (x.ms.map Mark.rk)<=1:=B0 fun d hd=>by
  obtain⟨m,_,rfl⟩:=List.mem_map.mp hd
  exact Mark.rk_dep m
 have:Cz [D.int x.a,D.int x.b,D.int x.c,D.int (if x.ms=[] then 1 else 0),D.tup (x.ms.map Mark.rk)]<=2:=B0 fun d hd=>by
  simp only[Bba,Bap,or_false] at hd
  rcases hd with rfl|rfl|rfl|rfl|rfl
  ·rw[B5];lia
  ·rw[B5];lia
  ·rw[B5];lia
  ·rw[B5];lia
  ·rw[C5];lia
 lia
theorem Xc (l r:List Nat) (h:l≠r):decide (l < r)=!decide (r < l):=by
 by_cases h1:l < r
 ·have h2:¬ r < l:=List.lt_asymm h1
  simp[h1,h2]
 ·have h2:r < l:=by
   rcases Classical.em (r < l) with h3|h3
   ·exact h3
   ·exact absurd (List.le_antisymm (List.not_lt.mp h3) (List.not_lt.mp h1)) h
  simp[h1,h2]
theorem Tu {t u:Str} (h:t.cps.toList=u.cps.toList):t=u:=by
 obtain⟨⟨a⟩⟩:=t
 obtain⟨⟨b⟩⟩:=u
 simp at h
 rw[h]
theorem Mark.self (x:Mark):x.lt x=false:=by
 cases x with
 |n i=>simp[Mark.lt]
 |s t=>simp[Mark.lt,List.lt_irrefl]
theorem Mark.tri {x y:Mark} (h:x≠y):x.lt y=!y.lt x:=by
 cases x with
 |n i=>cases y with
  |n j =>
   have:i≠j:=fun e=>h (by rw[e])
   simp only[Mark.lt]
   by_cases h1:i < j
   ·simp[h1,show ¬ j < i by lia]
   ·simp[h1,show j < i by lia]
  |s t=>rfl
 |s t=>cases y with
  |n j=>rfl
  |s u=>exact Xc _ _ fun e=>h (by rw[Tu e])
theorem Mark.trans {x y z:Mark} (h1:x.lt y=true) (h2:y.lt z=true):x.lt z=true:=by
 cases x with
 |n i=>cases y with
  |n j=>cases z with
   |n k=>simp[Mark.lt] at *;lia
   |s t=>rfl
  |s t=>cases z with
   |n k=>exact Cv h2
   |s u=>rfl
 |s t=>cases y with
  |n j=>exact Cv h1
  |s u=>cases z with
   |n k=>exact Cv h2
   |s v=>simp[Mark.lt] at *;exact List.lt_trans h1 h2
theorem Z4:∀ {xs ys:List Mark},xs≠ys->mlt xs ys=!mlt ys xs
 |[],[],h=>absurd rfl h
 |[],_::_,_=>rfl
 |_::_,[],_=>rfl
 |x::xs,y::ys,h=>by
  rw[mlt,mlt]
  by_cases e:x=y
  ·subst e
   rw[Azp rfl,Azp rfl]
   exact Z4 fun z=>h (by rw[z])
  ·rw[Azs e,Azs fun z=>e z.symm]
   exact Mark.tri e
theorem Pn:∀ {xs ys zs:List Mark},mlt xs ys=true->mlt ys zs=true->mlt xs zs=true
 |[],[],_,h,_=>by exact Cv h
 |[],_::_,[],_,h=>by exact Cv h
 |[],_::_,_::_,_,_=>rfl
 |_::_,[],_,h,_=>by exact Cv h
 |_::_,_::_,[],_,h=>by exact Cv h
 |x::xs,y::ys,z::zs,h1,h2=>by
  rw[mlt] at h1 h2 ⊢
  by_cases e1:x=y
  ·subst e1
   rw[Azp rfl] at h1
   by_cases e2:x=z
   ·rw[Azp e2] at h2 ⊢
    exact Pn h1 h2
   ·rw[Azs e2] at h2 ⊢
    exact h2
  ·rw[Azs e1] at h1
   by_cases e2:y=z
   ·subst e2
    rw[Azs e1]
    exact h1
   ·rw[Azs e2] at h2
    have h3:=Mark.trans h1 h2
    by_cases e3:x=z
    ·subst e3
     rw[Mark.self] at h3
     exact Cv h3
    ·rw[Azs e3];exact h3
theorem Es (x:Mk):x.older x=false:=by
 unfold Mk.older
 rw[Azs (by simp),Azs (by simp),Azs (by simp)]
 split
 ·simp
 ·exact Nt _
theorem Pw {x y:Mk}:x.older y=true ↔ x.a < y.a\/x.a=y.a/\(x.b < y.b\/x.b=y.b/\(x.c < y.c\/x.c=y.c/\(x.ms≠[]/\(y.ms=[]\/mlt x.ms y.ms=true)))):=by
 obtain⟨a,b,c,ms⟩:=x
 obtain⟨a',b',c',ms'⟩:=y
 unfold Mk.older
 simp only
 by_cases h1:a=a'
 ·subst h1
  rw[Azs (by simp)]
  by_cases h2:b=b'
  ·subst h2
   rw[Azs (by simp)]
   by_cases h3:c=c'
   ·subst h3
    rw[Azs (by simp)]
    simp only[Int.lt_irrefl,false_or,true_and]
    by_cases h4:ms=[]\/ms'=[]
    ·rw[Azp h4,Bat]
     constructor
     ·exact fun h=>⟨h.1,.inl h.2⟩
     ·rintro ⟨h5,h6⟩
      exact⟨h5,h4.resolve_left h5⟩
    ·rw[Azs h4]
     rw[not_or] at h4
     exact⟨fun h=>⟨h4.1,.inr h⟩,fun h=>h.2.resolve_left h4.2⟩
   ·rw[Azp (by simpa using h3)]
    simp[h3]
  ·rw[Azp (by simpa using h2)]
   simp[h2]
 ·rw[Azp (by simpa using h1)]
  simp[h1]
theorem Cc {x y z:Mk} (h1:x.older y=true) (h2:y.older z=true):x.older z=true:=by
 rw[Pw] at *
 rcases h1 with h1|⟨ha,h1|⟨hb,h1|⟨hc,hm,h1⟩⟩⟩
 ·rcases h2 with h2|⟨ha',_⟩
  ·exact .inl (by lia)
  ·exact .inl (by lia)
 ·rcases h2 with h2|⟨ha',h2|⟨hb',_⟩⟩
  ·exact .inl (by lia)
  ·exact .inr ⟨by lia,.inl (by lia)⟩
  ·exact .inr ⟨by lia,.inl (by lia)⟩
 ·rcases h2 with h2|⟨ha',h2|⟨hb',h2|⟨hc',_⟩⟩⟩
  ·exact .inl (by lia)
  ·exact .inr ⟨by lia,.inl (by lia)⟩
  ·exact .inr ⟨by lia,.inr ⟨by lia,.inl (by lia)⟩⟩
  ·exact .inr ⟨by lia,.inr ⟨by lia,.inl (by lia)⟩⟩
 ·rcases h2 with h2|⟨ha',h2|⟨hb',h2|⟨hc',hm',h2⟩⟩⟩
  ·exact .inl (by lia)
  ·exact .inr ⟨by lia,.inl (by lia)⟩
  ·exact .inr ⟨by lia,.inr ⟨by lia,.inl (by lia)⟩⟩
  ·refine .inr ⟨by lia,.inr ⟨by lia,.inr ⟨by lia,hm,?_⟩⟩⟩
   rcases h1 with h1|h1
   ·exact absurd h1 hm'
   ·rcases h2 with h2|h2
    ·exact .inl h2
    ·exact .inr (Pn h1 h2)
theorem J1 {x y:Mk} (h:x.older y=true):y.older x=false:=by
 cases e:y.older x with
 |false=>rfl
 |true =>
  have h2:=Cc h e
  rw[Es] at h2
  exact Cv h2
theorem J3 {x y:Mk} (h:x≠y):x.older y=!y.older x:=by
 cases e:y.older x with
 |true=>exact J1 e
 |false =>
  show x.older y=true
  have e':¬ y.older x=true:=by rw[e];decide
  rw[Pw] at e' ⊢
  by_cases ha:x.a=y.a
  ·by_cases hb:x.b=y.b
   ·by_cases hc:x.c=y.c
    ·have hm:x.ms≠y.ms:=fun z=>h (by cases x;cases y;simp at *;exact⟨ha,hb,hc,z⟩)
     refine .inr ⟨ha,.inr ⟨hb,.inr ⟨hc,?_⟩⟩⟩
     have e2:¬ (y.ms≠[]/\(x.ms=[]\/mlt y.ms x.ms=true)):=fun z=>e' (.inr ⟨ha.symm,.inr ⟨hb.symm,.inr ⟨hc.symm,z⟩⟩⟩)
     by_cases h4:y.ms=[]
     ·exact⟨fun z=>hm (by rw[z,h4]),.inl h4⟩
     ·have e3:¬ (x.ms=[]\/mlt y.ms x.ms=true):=fun z=>e2 ⟨h4,z⟩
      rw[not_or] at e3
      refine⟨e3.1,.inr ?_⟩
      rw[Z4 hm]
      cases q:mlt y.ms x.ms with
      |true=>exact absurd q e3.2
      |false=>rfl
    ·rcases Int.lt_or_gt_of_ne hc with h5|h5
     ·exact .inr ⟨ha,.inr ⟨hb,.inl h5⟩⟩
     ·exact absurd (.inr ⟨ha.symm,.inr ⟨hb.symm,.inl h5⟩⟩) e'
   ·rcases Int.lt_or_gt_of_ne hb with h5|h5
    ·exact .inr ⟨ha,.inl h5⟩
    ·exact absurd (.inr ⟨ha.symm,.inl h5⟩) e'
  ·rcases Int.lt_or_gt_of_ne ha with h5|h5
   ·exact .inl h5
   ·exact absurd (.inl h5) e'
def Awy (Q:List D->Prop) (d:D):Prop:=∃ es,d=.lst es/\Bf es=true/\Q es
theorem Ap1 (h:Bf es=true):Awy Q (.lst es)=Q es:=by
 apply Bb4
 constructor
 ·rintro ⟨fs,e,_,q⟩;cases e;exact q
 ·exact fun q=>⟨es,rfl,h,q⟩
theorem Aic:W (Gp n fn ds m) Q=W (Cw m ds) fun ds'=>ds'.length=n/\W (fn ds') (Awy Q):=by
 unfold Gp
 rw[W_bind,X9]
 congr 1;funext ds'
 apply Bb4
 refine⟨fun⟨h1,h2⟩=>⟨h1,h2.imp fun d h=>?_⟩,fun⟨h1,h2⟩=>⟨h1,h2.imp fun d h=>?_⟩⟩
 ·cases d with
  |lst es =>
   simp only at h
   rw[G8] at h
   exact⟨es,rfl,h.1,h.2⟩
  |_=>rw[Aw] at h;exact h.elim
 ·obtain⟨es,rfl,h1,h2⟩:=h
  simp only
  rw[G8]
  exact⟨h1,h2⟩
def Zy (I:Nat->Bc->MH->Prop) (k:Nat) (Q:Out->Prop):Out->Prop
 |.nx e m=>∃ j,j < k/\I j e m
 |.ct e m=>∃ j,j < k/\I j e m
 |.bk e m=>Q (.nx e m)
 |.rt d m=>Q (.rt d m)
theorem Ad2:Zy I k Q (.nx e m)=∃ j,j < k/\I j e m:=rfl
theorem Ad1:Zy I k Q (.ct e m)=∃ j,j < k/\I j e m:=rfl
theorem Ad0:Zy I k Q (.bk e m)=Q (.nx e m):=rfl
theorem Ad3 {d:D}:Zy I k Q (.rt d m)=Q (.rt d m):=rfl
theorem Ro (I:Nat->Bc->MH->Prop) (hs:∀ k e m,I k e m->W (c e m) (cK (W (b e m) (Zy I k Q)) (Q (.nx e m)))):∀ {n k:Nat}{e:Bc}{m:MH},k < n->I k e m->W (E8 c b n e m) Q
 |0,_,_,_,h,_=>absurd h (Bb5 _)
 |n+1,k,e,m,h,hi=>by
  rw[E8,W_bind]
  refine (hs k e m hi).imp fun t ht=>?_
  cases t with
  |false=>rw[Rk] at ht;rw[Azs (by decide),Ab];exact ht
  |true =>
   rw[T5] at ht
   rw[Azp rfl,W_bind]
   refine ht.imp fun o ho=>?_
   cases o with
   |nx e m=>obtain⟨j,hj,hi⟩:=ho;exact Ro I hs (by lia) hi
   |ct e m=>obtain⟨j,hj,hi⟩:=ho;exact Ro I hs (by lia) hi
   |bk e m=>simp only;rw[Ab];exact ho
   |rt d m=>simp only;rw[Ab];exact ho
def Asw (ds:List D) (Q:Wk->Prop):Prop:=W (match ds with
 |[.int i,.int j,.int k]=>if 0<=i/\i < 1000000000/\0<=j/\j < 1000000000/\0 < k/\k < 1000000 then some ⟨(List.range (Tp i j k)).map fun (q:Nat)=>.int (i+q * k),Bv⟩ else none
 |_=>none) Q
theorem Ai5:W (Afs g env m) Q=W (g env m) fun ds=>Asw ds Q:=W_bind
theorem Asx:Asw [.int i,.int j,.int k] Q=((0<=i/\i < 1000000000/\0<=j/\j < 1000000000/\0 < k/\k < 1000000)/\Q ⟨(List.range (Tp i j k)).map fun (q:Nat)=>.int (i+q * k),Bv⟩):=G8
theorem Pq (xs:List Mk):A1 (xs.map Mk.d)=true:=Ay (Co xs)
theorem Ai9 {α β:Type}{f:α->β}{xs:List α}{lo hi:Option Int}:Ln (xs.map f) lo hi=(Ln xs lo hi).map f:=by
 unfold Ln;rw[Azr,List.map_take,List.map_drop]
def oD:Option Mk->D
 |none=>.non
 |some h=>h.d
abbrev Pc:=Mk×Option Mk
def pD (p:Pc):D:=.tup [p.1.d,oD p.2]
theorem Aae (o:Option Mk):Bg (oD o)=true:=by
 cases o with
 |none=>exact Pp
 |some x=>exact x.pure
theorem Aap (p:Pc):Bg (pD p)=true:=by unfold pD;rw[A2,Ak,Ak,Bn,p.1.pure,Aae];rfl
theorem Iy (ps:List Pc):Bf (ps.map pD)=true:=Af Aap
theorem Arh:W (oIx (pD p) (.int 0) m) Q=Q p.1.d:=by unfold pD;rw[Gm,Vh]
theorem Ari:W (oIx (pD p) (.int 1) m) Q=Q (oD p.2):=by unfold pD;rw[Gm,Vi]
theorem Arj:W (Hb 2 g (pD p) env) Q=W (g [p.1.d,oD p.2] env) Q:=by
 unfold pD;rw[Afv];simp
theorem Aqi:W (Agq (oD o) m) Q=Q (.bl o.isNone):=by cases o<;>exact Ab
noncomputable def Dt:List Mk->List Pc
 |[]=>[]
 |[x]=>[(x,none)]
 |x::y::r=>(x,some y)::Dt r
theorem Hh:∀ ys:List Mk,(Dt ys).length=(ys.length+1) / 2
 |[]=>rfl
 |[x]=>by simp[Dt]
 |x::y::r=>by rw[Dt,Azo,Hh r,Azo,Azo];lia
theorem Mn:∀ (ys:List Mk) (k:Nat) (h:2 * k < ys.length),(Dt ys)[k]?=some (ys[2 * k],ys[2 * k+1]?)
 |[],_,h=>absurd h (Bb5 _)
 |[x],0,_=>rfl
 |[x],k+1,h=>by simp at h<;>lia
 |x::y::r,0,_=>rfl
 |x::y::r,k+1,h=>by
  have h':2 * k < r.length:=by simp at h;lia
  rw[Dt,Baz,Mn r k h']
  rfl
theorem Hi:∀ {ys:List Mk}{p:Pc},p∈Dt ys->p.1∈ys/\∀ h,p.2=some h->h∈ys
 |[x],p,h=>by simp[Dt] at h;subst h;exact⟨Azg ..,fun h e=>by cases e⟩
 |x::y::r,p,h=>by
  rw[Dt] at h
  rcases List.mem_cons.mp h with rfl|h
  ·exact⟨by simp,fun h e=>by cases e;simp⟩
  ·obtain⟨h1,h2⟩:=Hi h
   exact⟨by simp[h1],fun z e=>by have:=h2 z e;simp[this]⟩
def inP (m:Mk) (p:Pc):Bool:=!m.older p.1&&match p.2 with|none=>true|some h=>m.older h
open Classical
noncomputable section
theorem An9:W (Agp [.bl b] m) Q=Q (.int (if b then 1 else 0)):=Ab
end
end ML
end L2
end S_EH3
section S_MM7
namespace L2
namespace ML
open PySem
theorem mp1 {a:D}{l:Bc}:List.map some [a]++l=some a::l:=rfl
theorem mp2 {a b:D}{l:Bc}:List.map some [a,b]++l=some a::some b::l:=rfl
theorem mp3 {a b c:D}{l:Bc}:List.map some [a,b,c]++l=some a::some b::some c::l:=rfl
theorem ln1 {a:D}:[a].length=1:=rfl
theorem ln2 {a b:D}:[a,b].length=2:=rfl
theorem ln3 {a b c:D}:[a,b,c].length=3:=rfl
theorem Au9 {p q:Prop}{b:Bool} (h:b=true):cK p q b=p:=by rw[h,T5]
theorem Au8 {p q:Prop}{b:Bool} (h:b=false):cK p q b=q:=by rw[h,Rk]
end ML
end L2
end S_MM7
section S_MM8
namespace L2
namespace ML
open PySem
variable {m:MH}
theorem Auc {n:Nat}{fn:List D->Option D}{ds:List D}{Q:D->Prop}:W (Ji n fn ds m) Q=W (Dc m ds) fun ds'=>ds'.length=n/\W (fn ds') Q:=by
 unfold Ji
 rw[W_bind];congr 1;funext z
 by_cases h:z.length=n
 ·rw[Azp h];simp[h]
 ·rw[Azs h,Aw];simp[h]
theorem Aoy {Q:List D->Prop}:W (Dc m []) Q=Q []:=Ab
theorem Aox {d:D}{ds:List D}{Q:List D->Prop}:W (Dc m (d::ds)) Q=W (Of m d) fun d'=>W (Dc m ds) fun ds'=>Q (d'::ds'):=by
 rw[Dc,W_bind];congr 1;funext x;rw[W_bind];congr 1;funext y;exact Ab
theorem Auz {ds:List D}{Q:D->Prop}:W (Of m (.tup ds)) Q=W (B7 m (.tup ds)) Q:=rfl
theorem Auy {ks:List Str}{vs:List D}{Q:D->Prop}:W (Of m (.dks ks vs)) Q=(A1 vs=true/\Q (.dks ks vs)):=G8
theorem Aym {n:Nat}{Q:D->Prop}:W (Of m (.ref n)) Q=W (B7 m (.ref n)) Q:=rfl
theorem Aul {x:Str}{ks:List Str}{vs:List D}{Q:D->Prop}:W (Aqk (.str x) (.dks ks vs) m) Q=Q (.bl (decide (x∈ks))):=Ab
theorem Aog {x:Str}{ks:List Str}{vs:List D}{Q:D->Prop}:W (Nw (.str x) (.dks ks vs) m) Q=Q (.bl (!decide (x∈ks))):=Ab
theorem An7 {x:Str}{ks:List Str}{vs:List D}{Q:D->Prop}:W (Aaf (.dks ks vs) (.str x) m) Q=W (Adh ks vs x) Q:=rfl
theorem Aif {ds:List D}{Q:D->Prop}:W (Mi [.tup ds] m) Q=W (Hx ds) fun ps=>Q (.dks (Oz ps).1 (Oz ps).2):=by
 show W ((Hx ds).bind _) Q=_
 rw[W_bind];congr 1;funext ps;exact Ab
theorem Ade {α:Type} (k:α->Str) (v:α->D) {xs:List α} (h:(xs.map k).Nodup):Oz (xs.map fun x=>(k x,v x))=(xs.map k,xs.map v):=by
 have go:∀ (ys xs:List α),((xs++ys).map k).Nodup->(ys.map fun x=>(k x,v x)).foldl (fun a p=>Aa8 a.1 a.2 p.1 p.2) (xs.map k,xs.map v)=((xs++ys).map k,(xs++ys).map v):=by
  intro ys
  induction ys with
  |nil=>intro xs _;simp
  |cons y ys ih =>
   intro xs h
   have hy:k y∉xs.map k:=fun hm=>by
    rw[Bav,List.nodup_append] at h
    exact h.2.2 _ hm _ (by simp) rfl
   have e:Aa8 (xs.map k) (xs.map v) (k y) (v y)=((xs++[y]).map k,(xs++[y]).map v):=by
    unfold Aa8;rw[Azs hy];simp
   rw[Azm,List.foldl_cons]
   show (ys.map fun x=>(k x,v x)).foldl _ (Aa8 (xs.map k) (xs.map v) (k y) (v y))=_
   rw[e,ih (xs++[y]) (by simpa using h)]
   simp
 have:=go xs [] (by simpa using h)
 simpa [Oz] using this
theorem Xl {α:Type} (k:α->Str) (v:α->D) (xs:List α):Hx (xs.map fun x=>.tup [.str (k x),v x])=some (xs.map fun x=>(k x,v x)):=by
 induction xs with
 |nil=>rfl
 |cons x xs ih=>rw[Azm,Hx,ih];rfl
theorem Uk {α:Type} (k:α->Str) (v:α->D) (xs:List α) (t:Str):Adh (xs.map k) (xs.map v) t=(xs.find? fun x=>k x=t).map v:=by
 induction xs with
 |nil=>rfl
 |cons x xs ih =>
  rw[Azm,Azm,Adh,Ba2]
  by_cases h:k x=t
  ·simp[h]
  ·simp[h,ih]
theorem Nq {α:Type} (k:α->Str) (xs:List α) (t:Str):decide (t∈xs.map k)=(xs.find? fun x=>k x=t).isSome:=by
 rw[Ba3,Bat,List.find?_isSome,List.mem_map]
 simp
end ML
end L2
end S_MM8
section S_MS1
namespace L2
namespace ML
open PyProof.Rows PySem.W
def Sat {α:Type} (c:Nat->Nat->Option Bool) (t:KasT α) (Q:α->Prop):Prop:=∃ a,evO c t=some a/\Q a
theorem Sat.ret (h:Q a):Sat c (.ret a) Q:=⟨a,rfl,h⟩
theorem Sat.ask (h1:c i j=some b) (h2:Sat c (k b) Q):Sat c (.ask i j k) Q:=by
 obtain⟨a,e,q⟩:=h2
 exact⟨a,by rw[evO,h1];exact e,q⟩
theorem Ud:∀ t:KasT α,evO c (t.bind f)=(evO c t).bind fun a=>evO c (f a)
 |.ret a=>rfl
 |.ask i j k=>by
  show (c i j).bind (fun b=>evO c ((k b).bind f))=((c i j).bind fun b=>evO c (k b)).bind _
  cases c i j with
  |none=>rfl
  |some b=>exact Ud (k b)
theorem Sat.bind {t:KasT α} (h:Sat c t fun a=>Sat c (f a) Q):Sat c (t.bind f) Q:=by
 obtain⟨a,e,b,e2,q⟩:=h
 exact⟨b,by rw[Ud,e];exact e2,q⟩
def PermN (n:Nat) (p:Array Nat):Prop:=p.Perm (List.range n).toArray
theorem PermN.size (h:PermN n p):p.size=n:=by have:=Array.Perm.size_eq h;simpa using this
theorem PermN.lt (h:PermN n p) (hn:0 < n) (i:Nat):p.getD i 0 < n:=by
 by_cases hi:i < p.size
 ·have h1:p[i]∈p.toList:=by simp
  have h2:=(Array.perm_iff_toList_perm.mp h).mem_iff.mp h1
  have h3:p[i] < n:=by simpa using h2
  simpa [Array.getD,hi] using h3
 ·simpa [Array.getD,hi] using hn
section
variable {O:KeyOrd} (key:Nat->O.α)
noncomputable def KA (p:Array Nat) (i:Nat):O.α:=key (p.getD i 0)
def Srt (p:Array Nat) (k:Nat):Prop:=∀ i j,i<=j->j < k->O.kle (KA key p i) (KA key p j)
def Nin (p:Array Nat) (k:Nat):Prop:=∀ i j,i<=j->j < k->O.kle (KA key p j) (KA key p i)
end
section
variable {O:KeyOrd}{key:Nat->O.α}{n:Nat}{c:Nat->Nat->Option Bool}{p:Array Nat}
theorem Gk (h:p[i]?=r[j]?):KA key p i=KA key r j:=by
 unfold KA
 rw[Array.getD_eq_getD_getElem?,Array.getD_eq_getD_getElem?,h]
theorem X8 (hj:j<=p.size) (k:Nat):KA key (kas_rev p i j) k=if i<=k/\k < j then KA key p (i+j - 1 - k) else KA key p k:=by
 have e:=getElem?_mirror_all (i:=i) hj k
 unfold kas_rev
 by_cases q:i<=k/\k < j
 ·rw[Azp q] at e;rw[Azp q];exact Gk e
 ·rw[Azs q] at e;rw[Azs q];exact Gk e
theorem M6 (hj:j<=p.size) (he:∀ k,i<=k->k < j->KA key p k=KA key p (j - 1)) (k:Nat):KA key (kas_rev p i j) k=KA key p k:=by
 rw[X8 hj]
 by_cases q:i<=k/\k < j
 ·rw[Azp q,he _ (by lia) (by lia),he k q.1 q.2]
 ·rw[Azs q]
theorem Afu {src d:Nat} (hs:src < p.size) (hd:d<=src) (k:Nat):KA key (bubble p src d) k=if k=src - d then KA key p src else if src - d < k/\k<=src then KA key p (k - 1) else KA key p k:=by
 have e:=getElem?_bubble hs d hd k
 by_cases q:k=src - d
 ·rw[Azp q] at e;rw[Azp q];exact Gk e
 ·rw[Azs q] at e;rw[Azs q]
  by_cases q2:src - d < k/\k<=src
  ·rw[Azp q2] at e;rw[Azp q2];exact Gk e
  ·rw[Azs q2] at e;rw[Azs q2];exact Gk e
theorem PermN.rev (h:PermN n p) (i j:Nat):PermN n (kas_rev p i j):=(mirror_perm _ _ _ _).trans h
theorem PermN.bub (h:PermN n p) (i j:Nat):PermN n (bubble p i j):=(bubble_perm _ _ _).trans h
theorem Om (hc:∀ i j,i < n->j < n->c i j=some (O.blt (key i) (key j))) (hn:0 < n) (hp:PermN n p) (i j:Nat) (h:Sat c (k (O.blt (KA key p i) (KA key p j))) Q):Sat c (.ask (p.getD i 0) (p.getD j 0) k) Q :=
 Sat.ask (hc _ _ (hp.lt hn i) (hp.lt hn j)) h
theorem Am4:Srt key p 1:=fun i j hij hj=>by
 have:i=j:=by lia
 subst this;exact Bb8 _
theorem Afg (hs:Srt key p a) (h1:1<=a) (h:O.kle (KA key p (a - 1)) (KA key p a)):Srt key p (a+1):=fun i j hij hj=>by
 by_cases q:j < a
 ·exact hs i j hij q
 ·have:j=a:=by lia
  subst this
  by_cases q2:i=j
  ·subst q2;exact Bb8 _
  ·exact KeyOrd.kle_trans (hs i (j - 1) (by lia) (by lia)) h
theorem Iu (hs:Nin key p a) (h1:1<=a) (h:O.kle (KA key p a) (KA key p (a - 1))):Nin key p (a+1):=fun i j hij hj=>by
 by_cases q:j < a
 ·exact hs i j hij q
 ·have:j=a:=by lia
  subst this
  by_cases q2:i=j
  ·subst q2;exact Bb8 _
  ·exact KeyOrd.kle_trans h (hs i (j - 1) (by lia) (by lia))
theorem Aaa (h:Nin key p a) (e:∀ k,KA key r k=KA key p k):Nin key r a:=fun i j hij hj=>by rw[e,e];exact h i j hij hj
theorem Rq (hc:∀ i j,i < n->j < n->c i j=some (O.blt (key i) (key j))) (hn:0 < n) (hp:PermN n p):∀ (f a:Nat),1<=a->Srt key p a ->
  (∀ m,a<=m->m<=a+f->Srt key p m->(m=a+f\/O.klt (KA key p m) (KA key p (m - 1)))->Q m)->Sat c (kas_asc p f a) Q
 |0,a,h1,hs,h=>Sat.ret (h a (Azn _) (Azn _) hs (.inl rfl))
 |f+1,a,h1,hs,h=>by
  rw[kas_asc]
  refine Om hc hn hp a (a - 1) ?_
  cases e:O.blt (KA key p a) (KA key p (a - 1)) with
  |true=>exact Sat.ret (h a (Azn _) (by lia) hs (.inr e))
  |false =>
   rw[Azs (by decide)]
   refine Rq hc hn hp f (a+1) (by lia) (Afg hs h1 e) fun m m1 m2 m3 m4=>h m (by lia) (by lia) m3 ?_
   rcases m4 with m4|m4
   ·exact .inl (by lia)
   ·exact .inr m4
theorem Ip (hc:∀ i j,i < n->j < n->c i j=some (O.blt (key i) (key j))) (hn:0 < n) (hz:z<=n) (h:∀ p m q,PermN n p->1<=m->m<=z->Nin key p m->q+1<=m->(∀ i,m - (q+1)<=i->i < m->KA key p i=KA key p (m - 1))->Q (p,m,q)):∀ (f:Nat) {p:Array Nat}{x q:Nat},PermN n p->x+f=z->Nin key p x->q+1<=x ->
  (∀ i,x - (q+1)<=i->i < x->KA key p i=KA key p (x - 1))->Sat c (kas_desc f p x q) Q
 |0,p,x,q,hp,hx,hs,hq,he=>Sat.ret (h p x q hp (by lia) (by lia) hs hq he)
 |f+1,p,x,q,hp,hx,hs,hq,he=>by
  rw[kas_desc]
  refine Om hc hn hp x (x - 1) ?_
  have hsz:x<=p.size:=by rw[hp.size];lia
  cases e:O.blt (KA key p x) (KA key p (x - 1)) with
  |true =>
   rw[Azp rfl]
   have s1:=Iu hs (by lia) (KeyOrd.kle_of_klt e)
   by_cases q0:q > 0
   ·rw[Azp q0]
    refine Ip hc hn hz h f (hp.rev _ _) (by lia) (Aaa s1 (M6 hsz he)) (by lia) fun i h1 h2=>?_
    have:i=x+1 - 1:=by lia
    rw[this]
   ·rw[Azs q0]
    refine Ip hc hn hz h f hp (by lia) s1 (by lia) fun i h1 h2=>?_
    have:i=x+1 - 1:=by lia
    rw[this]
  |false =>
   rw[Azs (by decide)]
   refine Om hc hn hp (x - 1) x ?_
   cases e2:O.blt (KA key p (x - 1)) (KA key p x) with
   |true=>exact Sat.ret (h p x q hp (by lia) (by lia) hs hq he)
   |false =>
    rw[Azs (by decide)]
    have eq:KA key p x=KA key p (x - 1):=KeyOrd.kle_antisymm e2 e
    refine Ip hc hn hz h f hp (by lia) (Iu hs (by lia) e2) (by lia) fun i h1 h2=>?_
    rw[show x+1 - 1=x by lia]
    by_cases hix:i=x
    ·rw[hix]
    ·rw[eq];exact he i (by lia) (by lia)
theorem Vg (hc:∀ i j,i < n->j < n->c i j=some (O.blt (key i) (key j))) (hn:0 < n) (hz:z<=n) (h1:1<=a) (ha:a<=z) (hp:PermN n p) (hs:Nin key p a) (h:∀ m r,PermN n r->1<=m->m<=z->Srt key r m->Q (m,r)):Sat c (kas_tail3 a z p) Q:=by
 unfold kas_tail3
 have hsz:a<=p.size:=by rw[hp.size];lia
 refine Sat.bind (Rq hc hn (hp.rev 0 a) (z - a) a h1 (fun i j hij hj=>?_) fun m m1 m2 m3 _=>Sat.ret (h m _ (hp.rev 0 a) (by lia) (by lia) m3))
 rw[X8 hsz,X8 hsz,Azp (by lia),Azp (by lia)]
 exact hs _ _ (by lia) (by lia)
theorem Uw (hc:∀ i j,i < n->j < n->c i j=some (O.blt (key i) (key j))) (hn:0 < n) (hz:z<=n) (ha:a+1<=z) (hp:PermN n p) (hs:Nin key p (a+1)) (h:∀ m r,PermN n r->1<=m->m<=z->Srt key r m->Q (m,r)):Sat c (kas_descPart a z p) Q:=by
 unfold kas_descPart
 refine Sat.bind (Ip (p:=p) (x:=a+1) (q:=0) hc hn hz (fun r m q hr m1 m2 m3 m4 m5=>?_) (z - (a+1)) hp (by lia) hs (by lia) fun i h1 h2=>?_)
 ·have hsz:m<=r.size:=by rw[hr.size];lia
  show Sat c (if q > 0 then _ else _) Q
  by_cases q0:q > 0
  ·rw[Azp q0]
   exact Vg hc hn hz m1 m2 (hr.rev _ _) (Aaa m3 (M6 hsz m5)) h
  ·rw[Azs q0]
   exact Vg hc hn hz m1 m2 hr m3 h
 ·have:i=a+1 - 1:=by lia
  rw[this]
theorem Yp (hc:∀ i j,i < n->j < n->c i j=some (O.blt (key i) (key j))) (hz:z<=n) (h1:1<=z) (hp:PermN n p) (h:∀ m r,PermN n r->1<=m->m<=z->Srt key r m->Q (m,r)):Sat c (kas_count z p) Q:=by
 have hn:0 < n:=by lia
 unfold kas_count
 refine Sat.bind (Rq hc hn hp (z - 1) 1 (Azn _) Am4 fun m m1 m2 m3 m4=>?_)
 have hsz:m<=p.size:=by rw[hp.size];lia
 by_cases q:(m == z)=true
 ·rw[Azp q];exact Sat.ret (h m p hp m1 (by lia) m3)
 ·rw[Azs q]
  have hmz:m≠z:=fun e=>q (by simp[e])
  have hlt:O.klt (KA key p m) (KA key p (m - 1)):=m4.resolve_left (by lia)
  by_cases q1:m > 1
  ·rw[Azp q1]
   refine Om hc hn hp 0 (m - 1) ?_
   cases e:O.blt (KA key p 0) (KA key p (m - 1)) with
   |true=>rw[Azp rfl];exact Sat.ret (h m p hp m1 (by lia) m3)
   |false =>
    rw[Azs (by decide)]
    have all:∀ k,0<=k->k < m->KA key p k=KA key p (m - 1):=fun k _ hk=>KeyOrd.kle_antisymm (m3 k (m - 1) (by lia) (by lia)) (KeyOrd.kle_trans e (m3 0 k (by lia) hk))
    have flat:Nin key p m:=fun i j hij hj=>by rw[all i (by lia) (by lia),all j (by lia) hj];exact Bb8 _
    exact Uw hc hn hz (by lia) (hp.rev 0 m) (Aaa (Iu flat m1 (KeyOrd.kle_of_klt hlt)) (M6 hsz all)) h
  ·rw[Azs q1]
   have e1:m=1:=by lia
   subst e1
   refine Uw hc hn hz (by lia) hp (Iu (fun i j hij hj=>?_) (Azn _) (KeyOrd.kle_of_klt hlt)) h
   have:i=j:=by lia
   subst this;exact Bb8 _
theorem J5 (hc:∀ i j,i < n->j < n->c i j=some (O.blt (key i) (key j))) (hn:0 < n) (hp:PermN n p) (hs:Srt key p k) (h:∀ l,l<=k->(∀ i,i < l->O.kle (KA key p i) (KA key p k))->(∀ i,l<=i->i < k->O.klt (KA key p k) (KA key p i))->Q l) :
  ∀ (f l r:Nat),l<=r->r<=k->r - l<=f->(∀ i,i < l->O.kle (KA key p i) (KA key p k))->(∀ i,r<=i->i < k->O.klt (KA key p k) (KA key p i))->Sat c (kas_place p k f l r) Q
 |0,l,r,h1,h2,h3,lo,hi=>by
  have e:l=r:=by lia
  subst e
  exact Sat.ret (h l h2 lo hi)
 |f+1,l,r,h1,h2,h3,lo,hi=>by
  rw[kas_place]
  by_cases q:l ≥ r
  ·rw[Azp q]
   have e:l=r:=by lia
   subst e
   exact Sat.ret (h l h2 lo hi)
  ·rw[Azs q]
   refine Om hc hn hp k ((l+r) / 2) ?_
   cases e:O.blt (KA key p k) (KA key p ((l+r) / 2)) with
   |true =>
    rw[Azp rfl]
    exact J5 hc hn hp hs h f l ((l+r) / 2) (by lia) (by lia) (by lia) lo fun i a1 a2=>KeyOrd.klt_of_klt_of_kle e (hs _ _ a1 a2)
   |false =>
    rw[Azs (by decide)]
    exact J5 hc hn hp hs h f ((l+r) / 2+1) r (by lia) h2 (by lia) (fun i a1=>KeyOrd.kle_trans (hs i ((l+r) / 2) (by lia) (by lia)) e) hi
theorem Yk (hc:∀ i j,i < n->j < n->c i j=some (O.blt (key i) (key j))) (hn:0 < n) (h:∀ p,PermN n p->Srt key p n->Q p):∀ (f:Nat) {p:Array Nat}{k:Nat},PermN n p->k+f=n->Srt key p k->Sat c (kas_bin f p k) Q
 |0,p,k,hp,hk,hs=>by
  have e:k=n:=by lia
  subst e
  exact Sat.ret (h p hp hs)
 |f+1,p,k,hp,hk,hs=>by
  rw[kas_bin]
  refine Sat.bind (J5 hc hn hp hs (fun l hl lo hi=>?_) k 0 k (Az5 _) (Azn _) (by lia) (fun i hi=>absurd hi (Bb5 _)) fun i a1 a2=>absurd a2 (by lia))
  refine Yk hc hn h f (hp.bub _ _) (by lia) fun i j hij hj=>?_
  have hks:k < p.size:=by rw[hp.size];lia
  rw[Afu hks (by lia),Afu hks (by lia),show k - (k - l)=l by lia]
  by_cases i1:i=l<;>by_cases j1:j=l
  ·rw[Azp i1,Azp j1];exact Bb8 _
  ·rw[Azp i1,Azs j1,Azp (by lia)];exact KeyOrd.kle_of_klt (hi _ (by lia) (by lia))
  ·rw[Azs i1,Azp j1,Azs (by lia)];exact lo _ (by lia)
  ·rw[Azs i1,Azs j1]
   by_cases i2:l < i/\i<=k<;>by_cases j2:l < j/\j<=k
   ·rw[Azp i2,Azp j2];exact hs _ _ (by lia) (by lia)
   ·exact absurd j2 (by lia)
   ·rw[Azs i2,Azp j2];exact hs _ _ (by lia) (by lia)
   ·rw[Azs i2,Azs j2];exact hs _ _ (by lia) (by lia)
theorem Afe (hc:∀ i j,i < n->j < n->c i j=some (O.blt (key i) (key j))) (hn:0 < n):Sat c (kas_sort n) fun p=>PermN n p/\Srt key p n:=by
 unfold kas_sort
 refine Sat.bind (Yp hc (Azn _) hn (Array.Perm.refl _) fun m r hr m1 m2 m3=>?_)
 show Sat c (if m < n then kas_bin (n - max m 1) r (max m 1) else .ret r) _
 by_cases q:m < n
 ·rw[Azp q]
  exact Yk hc hn (fun p h1 h2=>⟨h1,h2⟩) _ hr (by lia) (by rw[show max m 1=m by lia];exact m3)
 ·rw[Azs q]
  have e:m=n:=by lia
  subst e
  exact Sat.ret ⟨hr,m3⟩
end
theorem Le {α:Type} [Inhabited α] {blt:α->α->Bool} (irr:∀ a,blt a a=false) (tr:∀ a b c,blt a b=true->blt b c=true->blt a c=true) (ng:∀ a b c,blt a c=true->blt a b=true\/blt b c=true) (tt:∀ a b,blt a b=false->blt b a=false->a=b)
  {c:Nat->Nat->Option Bool}{zs:List α} (hc:∀ i j (hi:i < zs.length) (hj:j < zs.length),c i j=some (blt zs[i] zs[j])) (hn:0 < zs.length) :
  ∃ p:Array Nat,evO c (kas_sort zs.length)=some p/\(p.toList.map fun i=>zs.getD i default).Perm zs/\(p.toList.map fun i=>zs.getD i default).Pairwise (fun x y=>blt y x=false)/\∀ i∈p.toList,i < zs.length:=by
 obtain⟨p,e,hp,hs⟩:=Afe (O:=⟨α,blt,irr,tr,ng,tt⟩) (key:=fun i=>zs.getD i default) (n:=zs.length) (c:=c) (fun i j hi hj=>by
  rw[hc i j hi hj]
  show some (blt zs[i] zs[j])=some (blt (zs.getD i default) (zs.getD j default))
  rw[Azk,Azk,Azl hi,Azl hj];rfl) hn
 have hl:p.toList.Perm (List.range zs.length):=Array.perm_iff_toList_perm.mp hp
 refine⟨p,e,?_,?_,fun i hi=>by simpa using hl.mem_iff.mp hi⟩
 ·have h2:=hl.map fun i=>zs.getD i default
  have e2:(List.range zs.length).map (fun i=>zs.getD i default)=zs:=by
   apply List.ext_getElem?
   intro i
   by_cases hi:i < zs.length
   ·simp[hi]
   ·simp[hi]
  rwa [e2] at h2
 ·rw[List.pairwise_iff_getElem]
  intro i j hi hj hij
  have hi':i < p.size:=by simpa using hi
  have hj':j < p.size:=by simpa using hj
  have h3:=hs i j (Ba9 hij) (by rw[<- hp.size];exact hj')
  have h4:blt (zs.getD (p.getD j 0) default) (zs.getD (p.getD i 0) default)=false:=h3
  simpa [Array.getD,hi',hj'] using h4
end ML
end L2
end S_MS1
section S_MP1
namespace L2
namespace ML
open PySem PySem.Spec PyProof.Rows
end ML
end L2
end S_MP1
section S_MM12
namespace L2
namespace ML
open PySem
end ML
end L2
end S_MM12
section S_MM13
namespace L2
namespace ML
open PySem
section
variable {env:Bc}{m:MH}{f g:FEm}{gl:FLm}{t u:FBm}
theorem Axy {f:FE}{Q:D×MH->Prop}:W (fM f env m) Q=W (f env m) fun d=>Q (d,m):=by
 unfold fM;rw[W_bind];congr 1;funext d;exact Ab
theorem Aue {f:FB}{Q:Bool×MH->Prop}:W (fBm f env m) Q=W (f env m) fun d=>Q (d,m):=by
 unfold fBm;rw[W_bind];congr 1;funext d;exact Ab
theorem Aud {o:D->D->MH->Option D}{Q:D×MH->Prop}:W (f2m o f g env m) Q=W (f env m) fun x=>W (g env x.2) fun y=>W (o x.1 y.1 y.2) fun d=>Q (d,y.2):=by
 unfold f2m;rw[W_bind];congr 1;funext x;rw[W_bind];congr 1;funext y;rw[W_bind];congr 1;funext d;exact Ab
theorem Aiq {Q:List D×MH->Prop}:W (A8 env m) Q=Q ([],m):=Ab
theorem Acv {Q:List D×MH->Prop}:W (Ag f gl env m) Q=W (f env m) fun x=>W (gl env x.2) fun y=>Q (x.1::y.1,y.2):=by
 unfold Ag;rw[W_bind];congr 1;funext x;rw[W_bind];congr 1;funext y;exact Ab
theorem Aio {Q:D×MH->Prop}:W (Ii gl env m) Q=W (gl env m) fun x=>x.1.length<=1000000/\Q (.tup x.1,x.2):=by
 unfold Ii;rw[W_bind];congr 1;funext x;exact G8
theorem Aik {Q:D×MH->Prop}:W (Y1 gl env m) Q=W (gl env m) fun x=>x.1.length<=1000000/\Q (.lst x.1,x.2):=by
 unfold Y1;rw[W_bind];congr 1;funext x;exact G8
theorem Acs {Q:Bool×MH->Prop}:W (Hq f env m) Q=W (f env m) fun x=>W (asB x.1) fun b=>Q (b,x.2):=by
 unfold Hq;rw[W_bind];congr 1;funext x;rw[W_bind];congr 1;funext b;exact Ab
theorem Acp {o:List D->MH->Option D}{Q:D×MH->Prop}:W (L5 o gl env m) Q=W (gl env m) fun x=>W (o x.1 x.2) fun d=>Q (d,x.2):=by
 unfold L5;rw[W_bind];congr 1;funext x;rw[W_bind];congr 1;funext b;exact Ab
theorem Anx {Q:D×MH->Prop}:W (Apl t f g env m) Q=W (t env m) fun x=>cK (W (f env x.2) Q) (W (g env x.2) Q) x.1:=by
 unfold Apl;rw[W_bind];congr 1;funext x;exact Eh
theorem Aih {Q:Bool×MH->Prop}:W (Yz t u env m) Q=W (t env m) fun x=>cK (W (u env x.2) Q) (Q (false,x.2)) x.1:=by
 unfold Yz;rw[W_bind];congr 1;funext x;rw[Eh,Ab]
theorem Aiy {i:Nat}{Q:Out->Prop}:W (Dh i f env m) Q=W (f env m) fun x=>Q (.nx (env.set i (some x.1)) x.2):=by
 unfold Dh;rw[W_bind];congr 1;funext x;exact Ab
theorem Aix {Q:Out->Prop}:W (P6 f env m) Q=W (f env m) fun x=>Q (.rt x.1 x.2):=by
 unfold P6;rw[W_bind];congr 1;funext x;exact Ab
theorem Acz {Q:Out->Prop}:W (Ie f env m) Q=W (f env m) fun x=>Q (.nx env x.2):=by
 unfold Ie;rw[W_bind];congr 1;funext x;exact Ab
theorem Aom {a b:FS}{Q:Out->Prop}:W (Amq t a b env m) Q=W (t env m) fun x=>cK (W (a env x.2) Q) (W (b env x.2) Q) x.1:=by
 unfold Amq;rw[W_bind];congr 1;funext x;exact Eh
theorem Ait {h:FG}{Q:Out->Prop}:W (Xr f h env m) Q=W (f env m) fun x=>W (h x.1 env) fun e=>Q (.nx e x.2):=by
 unfold Xr;rw[W_bind];congr 1;funext x;rw[W_bind];congr 1;funext y;exact Ab
theorem Aiv {i:Nat}{Q:Out->Prop}:W (Abu i gl env m) Q=W (gl env m) fun x=>Q (.nx (env.set i (some (.ref x.2.length))) (x.2++[.lst x.1])):=by
 unfold Abu;rw[W_bind];congr 1;funext x;exact Ab
theorem Ail {f:FL}{Q:D×MH->Prop}:W (Y2 f env m) Q=W (f env m) fun ds=>Q (.ref m.length,m++[.lst ds]):=by
 unfold Y2;rw[W_bind];congr 1;funext x;exact Ab
theorem Aco {n:Nat}{fn:List D->MH->Option (D×MH)}{Q:D×MH->Prop}:W (A4 n fn gl env m) Q=W (gl env m) fun x=>x.1.length=n/\W (fn x.1 x.2) Q:=by
 unfold A4;rw[W_bind];congr 1;funext x
 by_cases hc:x.1.length=n
 ·rw[Azp hc];simp[hc]
 ·rw[Azs hc,Aw];simp[hc]
def Atn (Q:D×MH->Prop):Out->Prop
 |.rt d m=>Q (d,m)
 |.nx _ m=>Q (.non,m)
 |_=>False
theorem D6 {n:Nat}{b:FS}{ds:List D}{Q:D×MH->Prop}:W (Lu n b ds m) Q=W (b (ds.map some++List.replicate (n - ds.length) none) m) (Atn Q):=by
 unfold Lu;rw[W_bind];congr 1;funext o
 cases o<;>first|exact Ab|exact Aw
theorem Aji {d:D}{Q:D×MH->Prop}:Atn Q (.rt d m)=Q (d,m):=rfl
theorem Ajh {Q:D×MH->Prop}:Atn Q (.nx env m)=Q (.non,m):=rfl
def Ajn (tg:FG) (b:FS) (env:Bc) (Q:Out->Prop) (x:List D×MH):Prop:=match x.1 with
 |[.int j]=>(-(2 ^ 62)<=j/\j < 2 ^ 62)/\W (Hu Bv tg b (C4 0 j.toNat) env x.2) Q
 |_=>False
theorem An8 {c:Prop} [Decidable c] {α:Type}{x:Option α}{Q:α->Prop}:W (if c then x else none) Q=(c/\W x Q):=by
 by_cases h:c
 ·rw[Azp h];exact Bb4 ⟨fun q=>⟨h,q⟩,fun q=>q.2⟩
 ·rw[Azs h,Aw];exact Bb4 ⟨False.elim,fun q=>h q.1⟩
theorem Ac0 {tg:FG}{b:FS}{Q:Out->Prop}:W (Lb gl tg b env m) Q=W (gl env m) (Ajn tg b env Q):=by
 unfold Lb
 rw[W_bind];congr 1;funext x
 obtain⟨ds,m'⟩:=x
 unfold Ajn
 simp only
 cases ds with
 |nil=>exact Aw
 |cons d ds =>
  cases d with
  |int j =>
   cases ds with
   |nil=>exact An8 (c:=-(2 ^ 62)<=j/\j < 2 ^ 62)
   |cons _ _=>exact Aw
  |_=>exact Aw
theorem Ajo {tg:FG}{b:FS}{Q:Out->Prop}{j:Int}:Ajn tg b env Q ([.int j],m)=((-(2 ^ 62)<=j/\j < 2 ^ 62)/\W (Hu Bv tg b (C4 0 j.toNat) env m) Q):=rfl
def Akr (o:List D->List D->Option (List D)) (gl:FLm) (env:Bc) (m:MH) (Q:Out->Prop):D->Prop
 |.ref n=>W (sq m (.ref n)) fun _=>W (gl env m) fun x=>W (sq x.2 (.ref n)) fun ds=>W (o ds x.1) fun fs=>Q (.nx env (x.2.set n (.lst fs)))
 |_=>False
theorem Aiu {o:List D->List D->Option (List D)}{f:FE}{Q:Out->Prop}:W (Oc o f gl env m) Q=W (f env m) (Akr o gl env m Q):=by
 unfold Oc
 rw[W_bind];congr 1;funext d
 cases d with
 |ref n =>
  simp only[Akr,sq]
  cases h:m[n]? with
  |none=>simp only[Aw]
  |some a =>
   cases a with
   |lst ds0 =>
    simp only[Ab]
    rw[W_bind];congr 1;funext x
    cases h2:x.2[n]? with
    |none=>simp only[Aw]
    |some b =>
     cases b with
     |lst ds=>simp only[Ab];rw[W_bind];congr 1;funext fs;exact Ab
     |dct _ _=>simp only[Aw]
     |dcs _ _=>simp only[Aw]
   |dct _ _=>simp only[Aw]
   |dcs _ _=>simp only[Aw]
 |_=>exact Aw
theorem Aks {o:List D->List D->Option (List D)}{n:Nat}{Q:Out->Prop}:Akr o gl env m Q (.ref n)=W (sq m (.ref n)) fun _=>W (gl env m) fun x=>W (sq x.2 (.ref n)) fun ds=>W (o ds x.1) fun fs=>Q (.nx env (x.2.set n (.lst fs))):=rfl
theorem Aid {h:FG}{tt:FB}{fe:FEm}{Q:List D×MH->Prop}:W (D7 h tt fe env [] m) Q=Q ([],m):=Ab
theorem Acm {h:FG}{tt:FB}{fe:FEm}{d:D}{ds:List D}{Q:List D×MH->Prop}:W (D7 h tt fe env (d::ds) m) Q=W (h d env) fun e1=>W (tt e1 m) (cK (W (fe e1 m) fun x=>W (D7 h tt fe env ds x.2) fun y=>Q (x.1::y.1,y.2)) (W (D7 h tt fe env ds m) Q)):=by
 rw[D7,W_bind];congr 1;funext e1
 rw[W_bind];congr 1;funext b
 cases b with
 |true =>
  rw[Azp rfl,T5,W_bind];congr 1;funext x;rw[W_bind];congr 1;funext y;exact Ab
 |false=>rw[Azs Az7,Rk]
theorem Acq {cap:List Nat}{k:Nat}{fw:FW}{h:FG}{tt:FB}{fe:FEm}{Q:List D×MH->Prop}:W (L6 cap k fw h tt fe env m) Q=W (fw env m) fun w=>((∀ m',w.chk m')/\w.all.length<=1000000)/\W (D7 h tt fe (Og cap k env) w.all m) Q:=by
 unfold L6
 rw[W_bind];congr 1;funext w
 by_cases hc:(∀ m',w.chk m')/\w.all.length<=1000000
 ·rw[Azp hc];exact Bb4 ⟨fun q=>⟨hc,q⟩,fun q=>q.2⟩
 ·rw[Azs hc,Aw];exact Bb4 ⟨False.elim,fun q=>hc q.1⟩
def Amv (env:Bc) (d:D) (m:MH) (Q:Out->Prop):D->D->Prop
 |.ref n,.int k=>W (sq m (.ref n)) fun ds=>W (ixN ds.length k) fun j=>Q (.nx env (m.set n (.lst (ds.set j d))))
 |_,_=>False
theorem Aby {d:D}{n:Nat}{k:Int}{Q:Out->Prop}:Amv env d m Q (.ref n) (.int k)=W (sq m (.ref n)) fun ds=>W (ixN ds.length k) fun j=>Q (.nx env (m.set n (.lst (ds.set j d)))):=rfl
theorem Yd {fo:FE}{Q:Out->Prop}:W (Ld f fo g env m) Q=W (f env m) fun x=>W (fo env x.2) fun o=>W (g env x.2) fun y=>Amv env x.1 y.2 Q o y.1:=by
 unfold Ld
 rw[W_bind];congr 1;funext x
 rw[W_bind];congr 1;funext o
 rw[W_bind];congr 1;funext y
 obtain⟨i,m'⟩:=y
 cases o with
 |ref n =>
  cases i with
  |int k =>
   simp only[Amv,sq]
   cases h:m'[n]? with
   |none=>simp only[Aw]
   |some a =>
    cases a with
    |lst ds=>simp only[Ab];rw[W_bind];congr 1;funext j;exact Ab
    |dct _ _=>simp only[Aw]
    |dcs _ _=>simp only[Aw]
  |_=>exact Aw
 |_=>exact Aw
end
end ML
end L2
end S_MM13
section S_MM14
namespace L2
namespace ML
open PySem
theorem Zc (x:Str) (hx:PyData.strOk x=true):∀ (k:Nat) (acc:Array Nat),PyData.strOk ⟨acc⟩=true->PyData.strOk ⟨(List.replicate k x.cps).foldl (·++·) acc⟩=true
 |0,acc,h=>h
 |k+1,acc,h=>by
  rw[List.replicate_succ,List.foldl_cons]
  exact Zc x hx k _ (Ig (x:=⟨acc⟩) (y:=x) h hx)
theorem Uh (x:Str):∀ (k:Nat) (acc:Array Nat),((List.replicate k x.cps).foldl (·++·) acc).size=acc.size+k * x.cps.size
 |0,acc=>by simp
 |k+1,acc=>by
  rw[List.replicate_succ,List.foldl_cons,Uh x k,Array.size_append,Nat.succ_mul]
  lia
theorem Amm {x:Str}{n:Int} (hx:PyData.strOk x=true):PyData.strOk (U4 x n)=true:=by
 unfold U4
 split
 ·simp[PyData.strOk,Str.empty]
 ·split
  ·exact hx
  ·exact Zc x hx _ _ (by simp[PyData.strOk])
theorem Ob {x:Str}{n:Int} (h0:0<=n):(U4 x n).length<=n.toNat * x.length:=by
 unfold U4
 split
 ·exact Az5 _
 ·split
  ·rename_i h1 h2
   have:1<=n.toNat:=by lia
   have:=Nat.mul_le_mul_right x.length this
   lia
  ·show ((List.replicate n.toNat x.cps).foldl (·++·) #[]).size<=_
   rw[Uh]
   show 0+_<=n.toNat * x.cps.size
   lia
theorem Af3 {x:Str}{n:Int}{m:MH} (h0:0<=n) (h1:n<=1000) (hl:x.length<=1000) (hx:PyData.strOk x=true) {Q:D->Prop}:W (R9 (.str x) (.int n) m) Q=Q (.str (U4 x n)):=by
 have e:R9 (.str x) (.int n) m=some (.str (U4 x n)):=by
  unfold R9
  simp only
  have:=Ob (x:=x) h0
  have h3:n.toNat * x.length<=1000 * 1000:=Nat.mul_le_mul (by lia) hl
  rw[Azp ⟨hl,by lia,h1,by lia,Amm hx⟩]
 rw[e,Ab]
end ML
end L2
end S_MM14
section S_MK1
namespace L2
namespace Seek
variable {N M S:Type} [DecidableEq N] [DecidableEq M]
structure Shelf (N M S:Type) where
 root:N
 W:List (N×S)
 nd:N->M->List (N×S)
 lies:M->S->Bool
 mks:N->List M
abbrev Ch (N M:Type):=List (N×M)
abbrev Nd (N S:Type):=N×N×S
variable (Z:Shelf N M S)
noncomputable def needs (ch:Ch N M):List (Nd N S):=Z.W.map (fun x=>(Z.root,x))++ch.flatMap fun c=>(Z.nd c.1 c.2).map fun x=>(c.1,x)
noncomputable def tk (ch:Ch N M) (n:N):Option M:=(ch.find? fun c=>decide (c.1=n)).map (·.2)
def isB (ch:Ch N M) (x:Nd N S):Bool:=match tk ch x.2.1 with
 |some m=>!Z.lies m x.2.2
 |none=>false
inductive Paper (N M S:Type) where
 |brk (x:Nd N S)
 |opn (n b:N) (rows:List (M×Paper N M S))
mutual
def rests:Paper N M S->N->Bool
 |.brk x,n=>decide (n=x.1)||decide (n=x.2.1)
 |.opn _ b rows,n=>decide (n=b)||restsL rows n
def restsL:List (M×Paper N M S)->N->Bool
 |[],_=>false
 |r::rs,n=>rests r.2 n||restsL rs n
end
mutual
inductive Valid:Ch N M->Paper N M S->Prop
 |brk {ch x}:x∈needs Z ch->isB Z ch x=true->Valid ch (.brk x)
 |opn {ch n b s rows}:tk ch n=none->(b,n,s)∈needs Z ch->Rows ch n (Z.mks n) rows->Valid ch (.opn n b rows)
inductive Rows:Ch N M->N->List M->List (M×Paper N M S)->Prop
 |nil {ch n}:Rows ch n [] []
 |cons {ch n m ms p rs}:Valid (ch++[(n,m)]) p->Rows ch n ms rs->Rows ch n (m::ms) ((m,p)::rs)
end
variable {Z}
theorem tk_mem {ch:Ch N M}{n:N}{m:M} (h:tk ch n=some m):(n,m)∈ch:=by
 unfold tk at h
 obtain⟨c,h1,h2⟩:=Option.map_eq_some_iff.mp h
 have e:c.1=n:=by simpa using List.find?_some h1
 have:c=(n,m):=by rw[<- e,<- h2]
 rw[<- this];exact List.mem_of_find?_eq_some h1
theorem tk_none {ch:Ch N M}{n:N}:tk ch n=none ↔ ∀ c∈ch,c.1≠n:=by
 unfold tk
 rw[Option.map_eq_none_iff,List.find?_eq_none]
 simp
theorem tk_of {ch:Ch N M} (hn:(ch.map (·.1)).Nodup) {n:N}{m:M} (h:(n,m)∈ch):tk ch n=some m:=by
 cases e:tk ch n with
 |none=>exact absurd rfl (tk_none.mp e _ h)
 |some m' =>
  have h':=tk_mem e
  congr 1
  induction ch with
  |nil=>cases h
  |cons c ch ih =>
   rw[Azm,Bck] at hn
   have key:∀ {a:M},(n,a)∈ch->c.1≠n:=fun q z=>hn.1 (List.mem_map.mpr ⟨_,q,z.symm⟩)
   rcases List.mem_cons.mp h with h|h<;>rcases List.mem_cons.mp h' with h'|h'
   ·rw[<- h] at h';exact Ba4 Prod.snd h'
   ·exact absurd (by rw[<- h]) (key h')
   ·exact absurd (by rw[<- h']) (key h)
   ·refine ih hn.2 h ?_ h'
    unfold tk at e ⊢
    rw[Ba2] at e
    rw[Az6 (key h)] at e
    exact e
theorem Ab6 {a b:Ch N M}{n0 n:N}{m0:M} (h:n≠n0):tk (a++(n0,m0)::b) n=tk (a++b) n:=by
 unfold tk
 rw[List.find?_append,List.find?_append,Ba2,Az6 (fun z=>h z.symm)]
theorem Mf {a b:Ch N M}{n0:N}{m0:M}{x:Nd N S} (h:x∈needs Z (a++(n0,m0)::b)) (hx:x.1≠n0):x∈needs Z (a++b):=by
 unfold needs at h ⊢
 rw[List.mem_append] at h ⊢
 refine h.imp id fun h=>?_
 obtain⟨c,hc,hm⟩:=List.mem_flatMap.mp h
 refine List.mem_flatMap.mpr ⟨c,?_,hm⟩
 rcases List.mem_append.mp hc with hc|hc
 ·exact Azw _ hc
 ·rcases List.mem_cons.mp hc with rfl|hc
  ·obtain⟨y,_,rfl⟩:=List.mem_map.mp hm
   exact absurd rfl hx
  ·exact Azd _ hc
set_option tactic.hygienic true in
theorem Valid.drop {n0:N}{m0:M}{ch:Ch N M}{p:Paper N M S} (h:Valid Z ch p):∀ {a b:Ch N M},ch=a++(n0,m0)::b->rests p n0=false->Valid Z (a++b) p:=by
 refine Valid.rec (motive_1:=fun ch p _=>∀ {a b:Ch N M},ch=a++(n0,m0)::b->rests p n0=false->Valid Z (a++b) p) (motive_2:=fun ch n ms rs _=>∀ {a b:Ch N M},ch=a++(n0,m0)::b->restsL rs n0=false->Rows Z (a++b) n ms rs) ?_ ?_ ?_ ?_ h
 ·rintro ch x h1 h2 a b rfl hr
  rw[rests,Bool.or_eq_false_iff,decide_eq_false_iff_not,decide_eq_false_iff_not] at hr
  refine .brk (Mf h1 fun z=>hr.1 z.symm) ?_
  unfold isB at h2 ⊢
  rw[<- Ab6 (a:=a) (b:=b) (m0:=m0) fun z=>hr.2 z.symm]
  exact h2
 ·rintro ch n b' s rows h1 h2 _ ih a b rfl hr
  rw[rests,Bool.or_eq_false_iff,decide_eq_false_iff_not] at hr
  have hn:n≠n0:=fun z=>tk_none.mp h1 (n0,m0) (by simp) z.symm
  refine .opn ?_ (Mf h2 fun z=>hr.1 z.symm) (ih rfl hr.2)
  rw[<- Ab6 (m0:=m0) hn];exact h1
 ·intro ch n a b e _;exact .nil
 ·rintro ch n m ms p rs _ _ ih1 ih2 a b rfl hr
  rw[restsL,Bool.or_eq_false_iff] at hr
  refine .cons ?_ (ih2 rfl hr.2)
  have:=ih1 (a:=a) (b:=b++[(n,m)]) (by simp) hr.1
  simpa using this
variable (Z) in
structure Sol (ch:Ch N M):Prop where
 nd:(ch.map (·.1)).Nodup
 of:∀ c∈ch,c.2∈Z.mks c.1
 ok:∀ x∈needs Z ch,∃ m,tk ch x.2.1=some m/\Z.lies m x.2.2=true
theorem needs_sub {a b:Ch N M} (h:∀ c∈a,c∈b) {x:Nd N S} (hx:x∈needs Z a):x∈needs Z b:=by
 unfold needs at hx ⊢
 rw[List.mem_append] at hx ⊢
 refine hx.imp id fun hx=>?_
 obtain⟨c,hc,hm⟩:=List.mem_flatMap.mp hx
 exact List.mem_flatMap.mpr ⟨c,h c hc,hm⟩
theorem Valid.noSol {ch:Ch N M}{p:Paper N M S} (h:Valid Z ch p):∀ {r:Ch N M},Sol Z r->(∀ c∈ch,c∈r)->False:=by
 refine Valid.rec (motive_1:=fun ch p _=>∀ {r:Ch N M},Sol Z r->(∀ c∈ch,c∈r)->False) (motive_2:=fun ch n ms rs _=>∀ {r:Ch N M}{m:M},m∈ms->(n,m)∈r->Sol Z r->(∀ c∈ch,c∈r)->False) ?_ ?_ ?_ ?_ h
 ·intro ch x h1 h2 r hr hs
  obtain⟨m,e1,e2⟩:=hr.ok x (needs_sub hs h1)
  unfold isB at h2
  cases e:tk ch x.2.1 with
  |none=>rw[e] at h2;cases h2
  |some m' =>
   rw[e] at h2
   rw[tk_of hr.nd (hs _ (tk_mem e))] at e1
   cases e1
   simp[e2] at h2
 ·intro ch n b s rows h1 h2 _ ih r hr hs
  obtain⟨m,e1,e2⟩:=hr.ok _ (needs_sub hs h2)
  have hm:=tk_mem e1
  exact ih (hr.of _ hm) hm hr hs
 ·intro ch n r m hm;cases hm
 ·intro ch n m ms p rs _ _ ih1 ih2 r m' hm hmr hr hs
  rcases List.mem_cons.mp hm with rfl|hm
  ·exact ih1 hr fun c hc=>by
    rcases List.mem_append.mp hc with hc|hc
    ·exact hs c hc
    ·rw[List.mem_singleton.mp hc];exact hmr
  ·exact ih2 hm hmr hr hs
variable (Z) in
def free (ch:Ch N M):List (Nd N S):=(needs Z ch).filter fun x=>(tk ch x.2.1).isNone
section
variable (Z) (Dg:List (Nd N S)->Option (Nd N S))
mutual
def first:Nat->Ch N M->Option (Option (Ch N M))
 |0,_=>none
 |f+1,ch=>if (needs Z ch).any (isB Z ch)=true then some none else match Dg (free Z ch) with
  |none=>some (some ch)
  |some x=>firstL f ch x.2.1 (Z.mks x.2.1)
def firstL:Nat->Ch N M->N->List M->Option (Option (Ch N M))
 |_,_,_,[]=>some none
 |f,ch,n,m::ms=>match first f (ch++[(n,m)]) with
  |none=>none
  |some (some r)=>some (some r)
  |some none=>firstL f ch n ms
end
inductive Res (N M S:Type) where
 |book (ch:Ch N M) (st:List (N×M×List (M×Paper N M S)))
 |stuck (p:Paper N M S)
mutual
def sb:Nat->Ch N M->Option (Res N M S)
 |0,_=>none
 |f+1,ch=>match (needs Z ch).find? (isB Z ch) with
  |some x=>some (.stuck (.brk x))
  |none=>match Dg (free Z ch) with
   |none=>some (.book ch [])
   |some x=>sw f ch x (Z.mks x.2.1) []
def sw:Nat->Ch N M->Nd N S->List M->List (M×Paper N M S)->Option (Res N M S)
 |_,_,x,[],ps=>some (.stuck (.opn x.2.1 x.1 ps))
 |f,ch,x,m::ms,ps=>match sb f (ch++[(x.2.1,m)]) with
  |none=>none
  |some (.book r st)=>some (.book r ((x.2.1,m,ps)::st))
  |some (.stuck p)=>if rests p x.2.1=true then sw f ch x ms (ps++[(m,p)]) else some (.stuck p)
end
end
variable {Dg:List (Nd N S)->Option (Nd N S)}
variable (Z) in
structure Way (U:List N) (ch:Ch N M):Prop where
 nd:(ch.map (·.1)).Nodup
 of:∀ c∈ch,c.2∈Z.mks c.1
 un:∀ c∈ch,c.1∈U
theorem Way.snoc {U:List N}{ch:Ch N M}{n:N}{m:M} (h:Way Z U ch) (hn:tk ch n=none) (hm:m∈Z.mks n) (hu:n∈U):Way Z U (ch++[(n,m)]) where
 nd:=by
  rw[Bav,List.nodup_append]
  refine⟨h.nd,by simp,fun a ha b hb=>?_⟩
  obtain⟨c,hc,rfl⟩:=List.mem_map.mp ha
  have:b=n:=by simpa using hb
  subst this
  exact tk_none.mp hn c hc
 of:=fun c hc=>by
  rcases List.mem_append.mp hc with hc|hc
  ·exact h.of c hc
  ·rw[List.mem_singleton.mp hc];exact hm
 un:=fun c hc=>by
  rcases List.mem_append.mp hc with hc|hc
  ·exact h.un c hc
  ·rw[List.mem_singleton.mp hc];exact hu
theorem Pu {α:Type} [DecidableEq α]:∀ {l m:List α},l.Nodup->(∀ x∈l,x∈m)->l.length<=m.length
 |[],_,_,_=>Az5 _
 |x::l,m,hn,hs=>by
  rw[Bck] at hn
  have h1:x∈m:=hs x (Azg ..)
  have h2:=Pu (l:=l) (m:=m.erase x) hn.2 fun y hy=>(List.mem_erase_of_ne (show y≠x from fun z=>hn.1 (by rw[<- z];exact hy))).mpr (hs y (Azf _ hy))
  rw[List.length_erase_of_mem h1] at h2
  have:0 < m.length:=List.length_pos_of_mem h1
  rw[Azo]
  lia
theorem Way.len {U:List N}{ch:Ch N M} (h:Way Z U ch):ch.length<=U.length:=by
 have:=Pu h.nd (m:=U) fun a ha=>by obtain⟨c,hc,rfl⟩:=List.mem_map.mp ha;exact h.un c hc
 simpa using this
theorem free_mem {ch:Ch N M}{x:Nd N S} (h:x∈free Z ch):x∈needs Z ch/\tk ch x.2.1=none:=by
 unfold free at h
 obtain⟨h1,h2⟩:=List.mem_filter.mp h
 exact⟨h1,Option.isNone_iff_eq_none.mp h2⟩
variable (hp:∀ l x,Dg l=some x->x∈l) (hq:∀ l,Dg l=none->l=[]) {U:List N} (hU:∀ ch x,x∈needs Z ch->x.2.1∈U)
include hp hq hU
theorem first_sol:∀ (f:Nat) {ch r:Ch N M},Way Z U ch->first Z Dg f ch=some (some r)->Sol Z r/\∀ c∈ch,c∈r
 |0,ch,r,_,h=>by rw[first] at h;cases h
 |f+1,ch,r,hw,h=>by
  rw[first] at h
  split at h
  ·cases h
  ·rename_i hb
   cases e:Dg (free Z ch) with
   |none =>
    rw[e] at h
    cases h
    have hf:=hq _ e
    refine⟨⟨hw.nd,hw.of,fun x hx=>?_⟩,fun c hc=>hc⟩
    cases t:tk ch x.2.1 with
    |none =>
     have:x∈free Z ch:=List.mem_filter.mpr ⟨hx,by rw[t];rfl⟩
     rw[hf] at this;cases this
    |some m =>
     refine⟨m,rfl,?_⟩
     have:isB Z ch x≠true:=fun z=>hb (List.any_eq_true.mpr ⟨x,hx,z⟩)
     unfold isB at this
     rw[t] at this
     simpa using this
   |some x =>
    rw[e] at h
    obtain⟨h1,h2⟩:=free_mem (hp _ _ e)
    have:∀ ms,(∀ m∈ms,m∈Z.mks x.2.1)->firstL Z Dg f ch x.2.1 ms=some (some r)->Sol Z r/\∀ c∈ch,c∈r:=by
     intro ms
     induction ms with
     |nil=>intro _ h;rw[firstL] at h;cases h
     |cons m ms ih =>
      intro hm h
      rw[firstL] at h
      split at h
      ·cases h
      ·rename_i r' e'
       cases h
       obtain⟨q1,q2⟩:=first_sol f (hw.snoc h2 (hm m (Azg ..)) (hU _ _ h1)) e'
       exact⟨q1,fun c hc=>q2 c (Azw _ hc)⟩
      ·exact ih (fun m hm'=>hm m (Azf _ hm')) h
    exact this _ (fun _ h=>h) h
theorem Ue:∀ (f:Nat) {ch:Ch N M},Way Z U ch->U.length+1<=f+ch.length->first Z Dg f ch≠none
 |0,ch,hw,h=>by have:=hw.len;lia
 |f+1,ch,hw,h=>by
  rw[first]
  split
  ·simp
  ·cases e:Dg (free Z ch) with
   |none=>simp
   |some x =>
    obtain⟨h1,h2⟩:=free_mem (hp _ _ e)
    have:∀ ms,(∀ m∈ms,m∈Z.mks x.2.1)->firstL Z Dg f ch x.2.1 ms≠none:=by
     intro ms
     induction ms with
     |nil=>intro _;rw[firstL];simp
     |cons m ms ih =>
      intro hm
      rw[firstL]
      have:=Ue f (hw.snoc h2 (hm m (Azg ..)) (hU _ _ h1)) (by simp;lia)
      split
      ·contradiction
      ·simp
      ·exact ih fun m hm'=>hm m (Azf _ hm')
    exact this _ fun _ h=>h
theorem Valid.first_none {f:Nat}{ch:Ch N M}{p:Paper N M S} (h:Valid Z ch p) (hw:Way Z U ch) (hf:U.length+1<=f+ch.length):first Z Dg f ch=some none:=by
 cases e:first Z Dg f ch with
 |none=>exact absurd e (Ue hp hq hU f hw hf)
 |some o =>
  cases o with
  |none=>rfl
  |some r=>obtain⟨h1,h2⟩:=first_sol hp hq hU f hw e;exact (h.noSol h1 h2).elim
omit hp hq hU in
theorem Rows.snoc {ch:Ch N M}{n:N}{m:M}{p:Paper N M S}:∀ {ms:List M}{rs:List (M×Paper N M S)},Rows Z ch n ms rs->Valid Z (ch++[(n,m)]) p->Rows Z ch n (ms++[m]) (rs++[(m,p)])
 |_,_,.nil,h=>.cons h .nil
 |_,_,.cons a b,h=>.cons a (b.snoc h)
variable (Z) in
inductive Steps:Ch N M->List (N×M×List (M×Paper N M S))->Prop
 |nil {ch}:Steps ch []
 |cons {ch n m ms0 ms ps st}:Rows Z ch n ms0 ps->Z.mks n=ms0++m::ms->Steps (ch++[(n,m)]) st->Steps ch ((n,m,ps)::st)
noncomputable def Told (f:Nat) (Z:Shelf N M S) (Dg:List (Nd N S)->Option (Nd N S)) (ch:Ch N M):Res N M S->Prop
 |.book r st=>first Z Dg f ch=some (some r)/\r=ch++st.map (fun s=>(s.1,s.2.1))/\Steps Z ch st
 |.stuck p=>Valid Z ch p
theorem sb_told:∀ (f:Nat) {ch:Ch N M}{r:Res N M S},Way Z U ch->U.length+1<=f+ch.length->sb Z Dg f ch=some r->Told f Z Dg ch r
 |0,ch,r,_,_,h=>by rw[sb] at h;cases h
 |f+1,ch,r,hw,hf,h=>by
  rw[sb] at h
  cases hb:(needs Z ch).find? (isB Z ch) with
  |some x =>
   rw[hb] at h
   cases h
   exact .brk (List.mem_of_find?_eq_some hb) (List.find?_some hb)
  |none =>
   rw[hb] at h
   have hnb:¬ (needs Z ch).any (isB Z ch)=true:=fun z=>by
    obtain⟨x,hx,q⟩:=List.any_eq_true.mp z
    exact List.find?_eq_none.mp hb x hx q
   cases e:Dg (free Z ch) with
   |none =>
    rw[e] at h
    cases h
    refine⟨?_,by simp,.nil⟩
    rw[first,Azs hnb,e]
   |some x =>
    rw[e] at h
    obtain⟨h1,h2⟩:=free_mem (hp _ _ e)
    have go:∀ (ms ms0:List M) (ps:List (M×Paper N M S)),ms0++ms=Z.mks x.2.1->Rows Z ch x.2.1 ms0 ps->sw Z Dg f ch x ms ps=some r->(match r with
      |.book q st=>firstL Z Dg f ch x.2.1 ms=some (some q)/\q=ch++st.map (fun s=>(s.1,s.2.1))/\Steps Z ch st
      |.stuck p=>Valid Z ch p):=by
     intro ms
     induction ms with
     |nil =>
      intro ms0 ps hm hr h
      rw[sw] at h
      cases h
      rw[Az2] at hm
      subst hm
      exact .opn h2 h1 hr
     |cons m ms ih =>
      intro ms0 ps hm hr h
      have hmm:m∈Z.mks x.2.1:=by rw[<- hm];simp
      have hw':=hw.snoc h2 hmm (hU _ _ h1)
      have hf':U.length+1<=f+(ch++[(x.2.1,m)]).length:=by simp;lia
      rw[sw] at h
      cases es:sb Z Dg f (ch++[(x.2.1,m)]) with
      |none=>rw[es] at h;cases h
      |some r' =>
       rw[es] at h
       have ht:=sb_told f hw' hf' es
       cases r' with
       |book q st =>
        cases h
        obtain⟨t1,t2,t3⟩:=ht
        refine⟨?_,by rw[t2];simp,.cons hr hm.symm t3⟩
        rw[firstL,t1]
       |stuck p =>
        have ht:Valid Z (ch++[(x.2.1,m)]) p:=ht
        by_cases hr':rests p x.2.1=true
        ·simp only[hr',Bbc] at h
         have:=ih (ms0++[m]) (ps++[(m,p)]) (by rw[<- hm];simp) (hr.snoc ht) h
         cases r with
         |stuck p'=>exact this
         |book q st =>
          obtain⟨t1,t2,t3⟩:=this
          refine⟨?_,t2,t3⟩
          rw[firstL,ht.first_none hp hq hU hw' hf']
          exact t1
        ·simp only[hr',Bbn] at h
         cases h
         have:=ht.drop (a:=ch) (b:=[]) rfl (Bool.eq_false_iff.mpr hr')
         rw[Az2] at this
         exact this
    have:=go (Z.mks x.2.1) [] [] rfl .nil h
    cases r with
    |stuck p=>exact this
    |book q st =>
     obtain⟨t1,t2,t3⟩:=this
     refine⟨?_,t2,t3⟩
     rw[first,Azs hnb,e]
     exact t1
theorem sb_ne:∀ (f:Nat) {ch:Ch N M},Way Z U ch->U.length+1<=f+ch.length->sb Z Dg f ch≠none
 |0,ch,hw,h=>by have:=hw.len;lia
 |f+1,ch,hw,h=>by
  rw[sb]
  cases hb:(needs Z ch).find? (isB Z ch) with
  |some x=>simp
  |none =>
   cases e:Dg (free Z ch) with
   |none=>simp
   |some x =>
    obtain⟨h1,h2⟩:=free_mem (hp _ _ e)
    have:∀ ms ps,(∀ m∈ms,m∈Z.mks x.2.1)->sw Z Dg f ch x ms ps≠none:=by
     intro ms
     induction ms with
     |nil=>intro ps _;rw[sw];simp
     |cons m ms ih =>
      intro ps hm
      rw[sw]
      have hne:=sb_ne f (hw.snoc h2 (hm m (Azg ..)) (hU _ _ h1)) (by simp;lia)
      cases es:sb Z Dg f (ch++[(x.2.1,m)]) with
      |none=>exact absurd es hne
      |some r =>
       cases r with
       |book q st=>simp
       |stuck p =>
        by_cases hr:rests p x.2.1=true
        ·simp only[hr,Bbc]
         exact ih _ fun m hm'=>hm m (Azf _ hm')
        ·simp[hr]
    exact this _ _ fun _ h=>h
end Seek
end L2
end S_MK1
section S_K61a
namespace K61a
open PySem L2 L2.ML
noncomputable section
noncomputable def top (i:Nat):Stmt:=PySem.Challenge.pw_stretchbook_k61_whole_no_book_ahead.main.body.getD i (.Pass ⟨0,0,0,0⟩)
abbrev As9:Stmt:=top 1
abbrev Ah1:Stmt:=top 2
abbrev Atb:Stmt:=top 3
abbrev As6:Stmt:=top 4
abbrev Ahj:Stmt:=top 6
abbrev Atc:Stmt:=top 8
abbrev Atd:Stmt:=top 9
abbrev As5:Stmt:=top 11
abbrev Ahk:Stmt:=top 12
abbrev Ahh:Stmt:=top 14
abbrev As7:Stmt:=top 15
abbrev Xv:Stmt:=top 16
abbrev Ahm:Stmt:=top 17
abbrev Ahu:Stmt:=top 19
abbrev Ahv:Stmt:=top 20
abbrev Ahw:Stmt:=top 21
abbrev Ah2:Stmt:=top 22
abbrev Ahx:Stmt:=top 23
abbrev Ahn:Stmt:=top 24
abbrev Ahy:Stmt:=top 25
abbrev Ahz:Stmt:=top 26
abbrev Aho:Stmt:=top 27
abbrev Ah0:Stmt:=top 28
abbrev Ata:Stmt:=top 29
abbrev Ahp:Stmt:=top 30
abbrev Ahq:Stmt:=top 31
abbrev Ahr:Stmt:=top 32
abbrev Ahl:Stmt:=top 33
abbrev Ahs:Stmt:=top 34
abbrev Aht:Stmt:=top 35
abbrev Ahi:Stmt:=top 36
abbrev As8:Stmt:=top 37
abbrev Rc:Stmt:=top 38
def lam_z1:Lam:=Apz "sought_behind.<locals>.<lambda>" Xv
def App:FE:=(f2 oIx (Ac 0) (fC (.int 1)))
def Hr:List D->Option D:=fnE App
def Avh:FS:=(Bh (sIf (Rl (Ane "str" (Ac 0))) (Dl (C1 (Aa (fC (.int 1)) (Aa (fC (.int 0)) (Aa (Ac 0) Aj))))) Eu) (Dl (C1 (Aa (fC (.int 0)) (Aa (Ac 0) (Aa (fC (.str (Str.ofString ""))) Aj))))))
def Y9:List D->Option D:=Gj 1 Avh
def Akb:FS:=(Bh (Da 1 (f2 oIx (Ac 0) (fC (.int 3)))) (Bh (Da 2 (fIf (Rl (Ac 1)) (fC (.int 0)) (fC (.int 1)))) (Dl (C1 (Aa (f2 oIx (Ac 0) (fC (.int 0))) (Aa (f2 oIx (Ac 0) (fC (.int 1))) (Aa (f2 oIx (Ac 0) (fC (.int 2))) (Aa (Ac 2) (Aa (A7 Ea (Aa (C0 (B6 [] 1 (Eg (Ac 1)) (Au 0) Lq (A7 (Ci 1 Y9) (Aa (Ac 0) Aj)))) Aj)) Aj)))))))))
def Ht:List D->Option D:=Gj 3 Akb
def Avj:FS:=(Dl (f2 Aql (A7 (Ci 1 Ht) (Aa (Ac 0) Aj)) (A7 (Ci 1 Ht) (Aa (Ac 1) Aj))))
def V2:List D->Option D:=Gj 2 Avj
def Avf:FS:=(Lc (Bi (Cp Ht true) (Aa (Ac 0) Aj)))
def Y7:List D->Option D:=Gj 1 Avf
def Ajt:FS:=(Bh (Da 2 (fC (.int 0))) (Bh (Da 3 (A7 J0 (Aa (Ac 1) Aj))) (Bh (E8 (Bm (f2 oLt (Ac 2) (Ac 3))) (Bh (Da 4 (f2 Aqj (f2 Ew (Ac 2) (Ac 3)) (fC (.int 2)))) (sIf (Rl (A7 (Ci 2 V2) (Aa (Ac 0) (Aa (f2 oIx (f2 oIx (Ac 1) (Ac 4)) (fC (.int 0))) Aj)))) (Da 3 (Ac 4)) (Da 2 (f2 Ew (Ac 4) (fC (.int 1)))))) 1000) (Bh (sIf (Bm (f2 oEq (Ac 2) (fC (.int 0)))) (Dl (fC (.bl false))) Eu) (Bh (Da 5 (f2 oIx (f2 oIx (Ac 1) (f2 Aea (Ac 2) (fC (.int 1)))) (fC (.int 1)))) (Dl (Anf (f1 Agq (Ac 5)) (A7 (Ci 2 V2) (Aa (Ac 0) (Aa (Ac 5) Aj))))))))))
def O4:List D->Option D:=Gj 6 Ajt
def Avk:FS:=(Lc (Bi (Gp 1 Y7) (Aa (C0 (B6 [1] 1 (Eg (Ac 0)) (Au 1) (Bm (f2 oEq (f2 oIx (Ac 1) (fC (.int 0))) (Ac 0))) (f2 oIx (Ac 1) (fC (.int 1))))) Aj)))
def Za:List D->Option D:=Gj 2 Avk
def Avl:FS:=(Bh (Lo (Eg (Ac 0)) (Au 3) (sIf (Bm (f2 oEq (fSl (Ac 3) fNo (Hc (fC (.int 2)))) (C1 (Aa (Ac 1) (Aa (Ac 2) Aj))))) (Dl (f2 oIx (Ac 3) (fC (.int 2)))) Eu)) (Dl (C1 Aj)))
def Zb:List D->Option D:=Gj 4 Avl
def Ave:FS:=(Bh (Gf 3 (B6 [] 2 (Eg (Ac 1)) (Hb 2 (B4 (Au 0) (B4 (Au 1) Ng))) Lq (C1 (Aa (fC (.str (Str.ofString ""))) (Aa (Ac 0) (Aa (Ac 1) Aj)))))) (Bh (Lo (Eg (Ac 2)) (Hb 2 (B4 (Au 4) (B4 (Au 5) Ng))) (Xs Akt (Ac 3) (Aa (C0 (B6 [4] 2 (Eg (A7 (Ci 3 Zb) (Aa (Ac 0) (Aa (Ac 4) (Aa (Ac 5) Aj))))) (Hb 2 (B4 (Au 1) (B4 (Au 2) Ng))) Lq (C1 (Aa (Ac 0) (Aa (Ac 1) (Aa (Ac 2) Aj)))))) Aj))) (Dl (Ac 3))))
def Y5:List D->Option D:=Gj 6 Ave
def Aju:FS:=(Dl (Vz (f2 Aqk (f2 oIx (Ac 0) (fC (.int 1))) (Ac 1)) (A7 (Ci 2 O4) (Aa (f2 Aaf (Ac 1) (f2 oIx (Ac 0) (fC (.int 1)))) (Aa (f2 oIx (Ac 0) (fC (.int 2))) Aj)))))
def O5:List D->Option D:=Gj 2 Aju
def V4 (r_z10:List D->Option D):FS:=(Bh (sIf (Bm (f2 oEq (f2 oIx (Ac 0) (fC (.int 0))) (fC (.str (Str.ofString "broken"))))) (Dl (f2 oIn (Ac 1) (fSl (Ac 0) (Hc (fC (.int 1))) (Hc (fC (.int 3)))))) Eu) (Dl (Anf (f2 oEq (Ac 1) (f2 oIx (Ac 0) (fC (.int 2)))) (A7 Aqh (Aa (C0 (B6 [1] 1 (Eg (f2 oIx (Ac 0) (fC (.int 3)))) (Au 1) Lq (A7 (Ci 2 r_z10) (Aa (f2 oIx (Ac 1) (fC (.int 1))) (Aa (Ac 0) Aj))))) Aj)))))
def Jq:Nat->(List D->Option D)
 |0=>(fun _=>none)
 |n+1=>(Gj 2 (V4 (Jq n)))
def Y6:List D->Option D:=(Jq 24)
def Ato (r_z1:List D->MH->Option (D×MH)) (r_z3:List D->MH->Option (D×MH)):FS:=(Bh (Da 4 (f2 oIx (Ac 3) (fC (.int 1)))) (Bh (Gf 5 (B2 Aj)) (Bh (Lo (Eg (C0 (Bi (Gp 2 Za) (Aa (Ac 0) (Aa (Ac 4) Aj))))) (Au 6) (Bh (Dh 7 (A4 3 r_z1 (Ag (fM (Ac 0)) (Ag (fM (Ac 1)) (Ag (fM (f2 Ew (Ac 2) (C1 (Aa (C1 (Aa (Ac 4) (Aa (Ac 6) Aj))) Aj)))) A8))))) (Bh (sIf (Bm (f2 oEq (f2 oIx (Ac 7) (fC (.int 0))) (fC (.str (Str.ofString "book"))))) (P6 (Ii (Ag (fM (fC (.str (Str.ofString "book")))) (Ag (fM (f2 oIx (Ac 7) (fC (.int 1)))) (Ag (Y2 (Acg (C0 (B2 (Aa (C1 (Aa (Ac 4) (Aa (Ac 6) (Aa (A7 Ea (Aa (Ac 5) Aj)) Aj)))) Aj))) (f2 oIx (Ac 7) (fC (.int 2))))) A8))))) Eu) (Bh (sIf (Ach (Rl (A7 (Ci 2 Y6) (Aa (f2 oIx (Ac 7) (fC (.int 1))) (Aa (Ac 4) Aj))))) (Dl (Ac 7)) Eu) (Xs Xg (Ac 5) (Aa (C1 (Aa (Ac 6) (Aa (f2 oIx (Ac 7) (fC (.int 1))) Aj))) Aj)))))) (Dl (C1 (Aa (fC (.str (Str.ofString "stuck"))) (Aa (C1 (Aa (fC (.str (Str.ofString "open"))) (Aa (Ac 4) (Aa (f2 oIx (Ac 3) (fC (.int 0))) (Aa (A7 Ea (Aa (Ac 5) Aj)) Aj))))) Aj)))))))
def Ajr (r_z1:List D->MH->Option (D×MH)) (r_z3:List D->MH->Option (D×MH)):FS:=(Bh (Da 3 (C0 (Bi (Gp 3 Y5) (Aa (Ac 0) (Aa (Ac 1) (Aa (Ac 2) Aj)))))) (Bh (Da 4 (A7 Mi (Aa (Ac 2) Aj))) (Bh (Lo (Eg (Ac 3)) (Au 5) (sIf (Acf (Bm (f2 Aqk (f2 oIx (Ac 5) (fC (.int 1))) (Ac 4))) (Ach (Rl (A7 (Ji 2 O5) (Aa (Ac 5) (Aa (Ac 4) Aj)))))) (Dl (C1 (Aa (fC (.str (Str.ofString "stuck"))) (Aa (f2 Ew (C1 (Aa (fC (.str (Str.ofString "broken"))) Aj)) (Ac 5)) Aj)))) Eu)) (Bh (Da 6 (C0 (B6 [4] 1 (Eg (Ac 3)) (Au 1) (Bm (f2 Nw (f2 oIx (Ac 1) (fC (.int 1))) (Ac 0))) (Ac 1)))) (Bh (sIf (Ach (Rl (Ac 6))) (P6 (Ii (Ag (fM (fC (.str (Str.ofString "book")))) (Ag (fM (A7 Ea (Aa (C0 (Bi D9 (Aa (Ac 2) Aj))) Aj))) (Ag (Y2 (B2 Aj)) A8))))) Eu) (P6 (A4 4 r_z3 (Ag (fM (Ac 0)) (Ag (fM (Ac 1)) (Ag (fM (Ac 2)) (Ag (fM (A7 (Xh Hr) (Aa (Ac 6) Aj))) A8)))))))))))
def Ee:Nat->(List D->MH->Option (D×MH))×(List D->MH->Option (D×MH))
 |0=>(fun _ _=>none,fun _ _=>none)
 |n+1=>(Lu 7 (Ajr (Ee n).1 (Ee n).2),Lu 8 (Ato (Ee n).1 (Ee n).2))
def Apn:List D->MH->Option (D×MH):=(Ee 24).1
def Ajw:FS:=(P6 (A4 3 Apn (Ag (fM (Ac 0)) (Ag (fM (Ac 1)) (Ag (fM (C1 Aj)) A8)))))
def O7:List D->MH->Option (D×MH):=Lu 2 Ajw
def Aj4:FS:=(Bh (Da 1 (fC (.int 0))) (Bh (sIf (Bm (f2 oGt (A7 J0 (Aa (Ac 0) Aj)) (fC (.int 0)))) (Da 1 (f2 Xi (f2 oIx (Ac 0) (fC (.int 0))) (fC (.int 2)))) Eu) (Lc (B2 (Aa (Ac 0) (Aa (fC (.int 0)) (Aa (Ac 1) (Aa (fC (.int 0)) Aj))))))))
def Pd:List D->MH->Option (D×MH):=Lu 2 Aj4
def Aj5:FS:=(Bh (G3 (f2 Ad8 (fC (.int 100)) (Ac 1)) (Ac 0) (fC (.int 1))) (Bh (G3 (fC (.int 0)) (Ac 0) (fC (.int 3))) (sIf (Bm (f2 oGt (A7 J0 (Aa (f2 oIx (Ac 0) (fC (.int 0))) Aj)) (fC (.int 0)))) (G3 (f2 oIx (f2 oIx (Ac 0) (fC (.int 0))) (f2 Xi (Ac 1) (A7 J0 (Aa (f2 oIx (Ac 0) (fC (.int 0))) Aj)))) (Ac 0) (fC (.int 3))) Eu)))
def Hs:List D->MH->Option (D×MH):=Lu 2 Aj5
def Aj6:FS:=(Bh (G3 (f2 Ew (f2 oIx (Ac 0) (fC (.int 1))) (fC (.int 1))) (Ac 0) (fC (.int 1))) (Bh (sIf (Bm (f2 oEq (f2 oIx (Ac 0) (fC (.int 2))) (fC (.int 1)))) (Bh (Da 2 (f2 Xi (f2 oIx (Ac 0) (fC (.int 3))) (Ac 1))) (Bh (G3 (f2 Aqj (f2 oIx (Ac 0) (fC (.int 3))) (Ac 1)) (Ac 0) (fC (.int 3))) (Dl (Ac 2)))) Eu) (Bh (Da 3 (f2 Xi (f2 Ad8 (f2 Ew (f2 Xi (f2 oIx (Ac 0) (fC (.int 3))) (fC (.int 2147483629))) (fC (.int 1))) (f2 Ew (f2 Ad8 (f2 Ad8 (fC (.int 31)) (f2 oIx (Ac 0) (fC (.int 1)))) (f2 oIx (Ac 0) (fC (.int 1)))) (fC (.int 7919)))) (fC (.int 2147483647)))) (Dl (f2 Xi (f2 Xi (f2 Ad8 (Ac 3) (fC (.int 48271))) (fC (.int 2147483629))) (Ac 1))))))
def Bu:List D->MH->Option (D×MH):=Lu 4 Aj6
def Akc:FS:=(Bh (Gf 1 (B2 Aj)) (Bh (Lo (Eg (f2 oIx (Ac 0) (fC (.int 3)))) (Au 2) (sIf (Rl (Ane "str" (Ac 2))) (Xs Xg (Ac 1) (Aa (C1 (Aa (fC (.int 1)) (Aa (fC (.int 0)) (Aa (Ac 2) Aj)))) Aj)) (Xs Xg (Ac 1) (Aa (C1 (Aa (fC (.int 0)) (Aa (Ac 2) (Aa (fC (.str (Str.ofString ""))) Aj)))) Aj)))) (Dl (C1 (Aa (f2 oIx (Ac 0) (fC (.int 0))) (Aa (f2 oIx (Ac 0) (fC (.int 1))) (Aa (f2 oIx (Ac 0) (fC (.int 2))) (Aa (A7 Agp (Aa (f2 oEq (f2 oIx (Ac 0) (fC (.int 3))) (C1 Aj)) Aj)) (Aa (Ac 1) Aj)))))))))
def D8:List D->Option D:=Gj 3 Akc
def Aj7:FS:=(Bh (Da 2 (A7 (Ci 1 D8) (Aa (Ac 0) Aj))) (Bh (Lo (Eg (Ac 1)) (Hb 2 (B4 (Au 3) (B4 (Au 4) Ng))) (sIf (Acf (Bm (f2 Atu (A7 (Ci 1 D8) (Aa (Ac 3) Aj)) (Ac 2))) (fOr (Bm (f1 Agq (Ac 4))) (Bm (f2 Aql (Ac 2) (A7 (Ci 1 D8) (Aa (Ac 4) Aj)))))) (Dl (fC (.bl true))) Eu)) (Dl (fC (.bl false)))))
def Pe:List D->Option D:=Gj 5 Aj7
def Ajx:FS:=(Bh (Da 2 (fC (.str (Str.ofString "abcdefghijklmnopqrstuvwxyz")))) (Bh (Dh 3 (A4 2 Bu (Ag (fM (Ac 0)) (Ag (fM (fC (.int 3))) A8)))) (Bh (Dh 4 (A4 2 Bu (Ag (fM (Ac 0)) (Ag (fM (fC (.int 26))) A8)))) (Bh (sIf (Bm (f2 oEq (Ac 3) (fC (.int 0)))) (Lc (B6 [4] 1 (Lj (Aa (Ac 1) Aj)) (Au 1) Lq (f2 oIx (C0 (B2 (Aa (fC (.str (Str.ofString "part"))) (Aa (fC (.str (Str.ofString "need"))) (Aa (fC (.str (Str.ofString "wants"))) (Aa (fC (.str (Str.ofString "broken"))) (Aa (fC (.str (Str.ofString "open"))) (Aa (fC (.str (Str.ofString "shelf"))) Aj)))))))) (f2 Xi (f2 Ew (Ac 0) (Ac 1)) (fC (.int 6)))))) Eu) (Bh (sIf (Bm (f2 oEq (Ac 3) (fC (.int 1)))) (Lc (B6 [2,4] 1 (Lj (Aa (Ac 1) Aj)) (Au 2) Lq (fSl (f2 Ew (Ac 0) (Ac 0)) (Hc (Ac 1)) (Hc (f2 Ew (f2 Ew (Ac 1) (fC (.int 1))) (Ac 2)))))) Eu) (Bh (Dh 5 (f2m Ew (fM (fC (.int 1))) (A4 2 Bu (Ag (fM (Ac 0)) (Ag (fM (fC (.int 8))) A8))))) (Bh (Dh 6 (A4 2 Bu (Ag (fM (Ac 0)) (Ag (fM (Ac 5)) A8)))) (Bh (Dh 7 (f2m oIx (fM (Ac 2)) (A4 2 Bu (Ag (fM (Ac 0)) (Ag (fM (fC (.int 26))) A8))))) (Lc (B6 [7,6,2,5,4] 1 (Lj (Aa (Ac 1) Aj)) (Au 5) Lq (f2 Ew (f2 Ew (f2 R9 (Ac 0) (Ac 1)) (f2 oIx (Ac 2) (f2 Xi (f2 Ew (Ac 4) (f2 Ad8 (fC (.int 7)) (Ac 5))) (fC (.int 26))))) (f2 R9 (Ac 0) (f2 Aea (f2 Aea (Ac 3) (fC (.int 1))) (Ac 1))))))))))))))
def O8:List D->MH->Option (D×MH):=Lu 8 Ajx
def Aj8:FS:=(Bh (Abu 1 (L6 [0] 1 (Lj (Aa (fC (.int 3)) Aj)) (Au 1) Lq (A4 2 Bu (Ag (fM (Ac 0)) (Ag (fM (fC (.int 3))) A8))))) (Bh (Dh 2 (Y1 (Ag (fM (C1 Aj)) (Ag (fM (C1 Aj)) (Ag (fM (C1 Aj)) (Ag (Ii (Ag (A4 2 Bu (Ag (fM (Ac 0)) (Ag (fM (fC (.int 3))) A8))) A8)) (Ag (fM (C1 (Aa (fC (.str (Str.ofString "a"))) Aj))) (Ag (Ii (Ag (fM (fC (.str (Str.ofString "ab")))) (Ag (A4 2 Bu (Ag (fM (Ac 0)) (Ag (fM (fC (.int 2))) A8))) A8))) (Ag (fM (C1 (Aa (fC (.int 0)) (Aa (fC (.str (Str.ofString "b"))) Aj)))) (Ag (fM (C1 (Aa (fC (.str (Str.ofString "a"))) (Aa (fC (.int 0)) Aj)))) A8)))))))))) (Bh (Dh 3 (f2m oIx (fM (Ac 2)) (A4 2 Bu (Ag (fM (Ac 0)) (Ag (fM (fC (.int 8))) A8))))) (Bh (Amq (Hq (f2m oEq (A4 2 Bu (Ag (fM (Ac 0)) (Ag (fM (fC (.int 16))) A8))) (fM (fC (.int 0))))) (Ld (f2m Aea (fM (f2 Aea (f2 Atv (fC (.int 10)) (fC (.int 12))) (fC (.int 2)))) (A4 2 Bu (Ag (fM (Ac 0)) (Ag (fM (fC (.int 2))) A8)))) (Ac 1) (A4 2 Bu (Ag (fM (Ac 0)) (Ag (fM (fC (.int 3))) A8)))) Eu) (Dl (C1 (Aa (f2 oIx (Ac 1) (fC (.int 0))) (Aa (f2 oIx (Ac 1) (fC (.int 1))) (Aa (f2 oIx (Ac 1) (fC (.int 2))) (Aa (Ac 3) Aj))))))))))
def Ma:List D->MH->Option (D×MH):=Lu 4 Aj8
def Aj9:FS:=(Bh (Da 2 (C1 (Aa (fC (.int 0)) (Aa (fC (.int 0)) (Aa (fC (.int 0)) (Aa (C1 (Aa (fC (.int 0)) Aj)) Aj)))))) (Bh (Amq (Hq (f2m oEq (A4 2 Bu (Ag (fM (Ac 0)) (Ag (fM (fC (.int 3))) A8))) (fM (fC (.int 0))))) (Dl (C1 (Aa (C1 (Aa (Ac 2) (Aa (fC .non) Aj))) Aj))) Eu) (Bh (Gf 3 (B2 Aj)) (Bh (Lb (Ag (A4 2 Bu (Ag (fM (Ac 0)) (Ag (fM (fC (.int 5))) A8))) A8) (Au 4) (Bh (Dh 5 (f2m oIx (fM (Ac 1)) (A4 2 Bu (Ag (fM (Ac 0)) (Ag (fM (A7 J0 (Aa (Ac 1) Aj))) A8))))) (sIf (Bm (f2 Bz (Ac 5) (Ac 3))) (Xs Xg (Ac 3) (Aa (Ac 5) Aj)) Eu))) (Bh (Amq (Yz (Hq (f2m oEq (A4 2 Bu (Ag (fM (Ac 0)) (Ag (fM (fC (.int 2))) A8))) (fM (fC (.int 0))))) (fBm (Bm (f2 Bz (Ac 2) (Ac 3))))) (Xs Xg (Ac 3) (Aa (Ac 2) Aj)) Eu) (Bh (Gf 3 (Acg (C0 (Bi (Cp D8 false) (Aa (Ac 3) Aj))) (C0 (B2 (Aa (fC .non) Aj))))) (Dl (A7 Ea (Aa (C0 (B6 [3] 1 (Afs (Aa (fC (.int 0)) (Aa (f2 Aea (A7 J0 (Aa (Ac 3) Aj)) (fC (.int 1))) (Aa (fC (.int 2)) Aj)))) (Au 1) Lq (C1 (Aa (f2 oIx (Ac 0) (Ac 1)) (Aa (f2 oIx (Ac 0) (f2 Ew (Ac 1) (fC (.int 1)))) Aj))))) Aj)))))))))
def Pf:List D->MH->Option (D×MH):=Lu 6 Aj9
def Hm:FS:=(Bh (Dh 3 (A4 2 O8 (Ag (fM (Ac 0)) (Ag (fM (Ac 2)) A8)))) (Bh (Gf 4 (B2 Aj)) (Bh (Lo (Lj (Aa (Ac 2) Aj)) (Au 5) (Bh (Ie (A4 2 Hs (Ag (fM (Ac 0)) (Ag (fM (f2 Ew (fC (.int 2)) (Ac 5))) A8)))) (Lb (Ag (f2m Ew (fM (fC (.int 1))) (A4 2 Bu (Ag (fM (Ac 0)) (Ag (fM (fIf (Bm (f2 oLt (Ac 1) (fC (.int 2)))) (f2 oIx (C0 (B2 (Aa (fC (.int 2)) (Aa (fC (.int 4)) Aj)))) (Ac 1)) (fC (.int 3)))) A8)))) A8) (Au 6) (Bh (Dh 7 (Ii (Ag (fM (f2 oIx (Ac 3) (Ac 5))) (Ag (A4 1 Ma (Ag (fM (Ac 0)) A8)) A8)))) (sIf (Bm (f2 Bz (Ac 7) (Ac 4))) (Oc Hg (Ac 4) (Ag (A4 2 Bu (Ag (fM (Ac 0)) (Ag (fM (f2 Ew (A7 J0 (Aa (Ac 4) Aj)) (fC (.int 1)))) A8))) (Ag (fM (Ac 7)) A8))) Eu))))) (Dl (C1 (Aa (Ac 3) (Aa (Ac 4) Aj)))))))
def Ajy:FS:=(Bh (Ie (A4 2 Hs (Ag (fM (Ac 0)) (Ag (fM (fC (.int 1))) A8)))) (Bh (Dh 1 (A4 2 Bu (Ag (fM (Ac 0)) (Ag (fM (fC (.int 16))) A8)))) (Bh (Dh 2 (Apl (fBm (Bm (f2 oLt (Ac 1) (fC (.int 2))))) (fM (f2 oIx (C0 (B2 (Aa (fC (.int 6)) (Aa (fC (.int 3)) Aj)))) (Ac 1))) (f2m Ew (fM (fC (.int 1))) (A4 2 Bu (Ag (fM (Ac 0)) (Ag (fM (fC (.int 4))) A8)))))) Hm)))
def O9:List D->MH->Option (D×MH):=Lu 8 Ajy
def Aka:FS:=(Bh (Gf 1 (B2 (Aa (C1 (Aa (fC (.int 0)) (Aa (fC (.int 0)) (Aa (fC (.int 0)) (Aa (C1 (Aa (fC (.int 0)) Aj)) Aj))))) Aj))) (Bh (Lo (Eg (Ac 0)) (Hb 2 (B4 (Au 2) (B4 (Au 3) Ng))) (Bh (Da 4 (C1 (Aa (f2 oIx (Ac 3) (fC (.int 0))) (Aa (f2 oIx (Ac 3) (fC (.int 1))) (Aa (f2 oIx (Ac 3) (fC (.int 2))) (Aa (f2 Ew (f2 oIx (Ac 3) (fC (.int 3))) (C1 (Aa (fC (.int 0)) Aj))) Aj)))))) (Bh (sIf (Bm (f2 oEq (f2 oIx (Ac 3) (fC (.int 3))) (C1 Aj))) (Da 4 (C1 (Aa (f2 oIx (Ac 3) (fC (.int 0))) (Aa (f2 oIx (Ac 3) (fC (.int 1))) (Aa (f2 Ew (f2 oIx (Ac 3) (fC (.int 2))) (fC (.int 1))) (Aa (C1 (Aa (fC (.int 0)) Aj)) Aj)))))) Eu) (Gf 1 (Acg (Ac 1) (C0 (B6 [1] 1 (Eg (C0 (B2 (Aa (Ac 3) (Aa (Ac 4) Aj))))) (Au 1) (Bm (f2 Bz (Ac 1) (Ac 0))) (Ac 1)))))))) (Dl (Ac 1))))
def Pg:List D->Option D:=Gj 5 Aka
def Avi:FS:=(Bh (Gf 5 (B2 Aj)) (Bh (Lb (Ag (A4 2 Bu (Ag (fM (Ac 0)) (Ag (fM (Ac 4)) A8))) A8) (Au 6) (Bh (Dh 7 (f2m oIx (fM (C0 (Acg (Ac 1) (C0 (B2 (Aa (fC (.str (Str.ofString "qqqqqqqq"))) Aj)))))) (A4 2 Bu (Ag (fM (Ac 0)) (Ag (f2m Ew (fM (A7 J0 (Aa (Ac 1) Aj))) (L5 Agp (Ag (f2m oEq (A4 2 Bu (Ag (fM (Ac 0)) (Ag (fM (fC (.int 6))) A8))) (fM (fC (.int 0)))) A8))) A8))))) (sIf (Acf (Bm (f2 oNe (Ac 7) (Ac 2))) (Bm (f2 Bz (Ac 7) (C0 (B6 [] 1 (Eg (Ac 5)) (Au 0) Lq (f2 oIx (Ac 0) (fC (.int 0)))))))) (Oc Xg (Ac 5) (Ag (Ii (Ag (fM (Ac 7)) (Ag (A4 2 Pf (Ag (fM (Ac 0)) (Ag (fM (Ac 3)) A8))) A8))) A8)) Eu))) (Dl (A7 Ea (Aa (Ac 5) Aj)))))
def V0:List D->MH->Option (D×MH):=Lu 8 Avi
def Ajz:FS:=(Bh (Xr (A4 1 O9 (Ag (fM (Ac 0)) A8)) (Hb 2 (B4 (Au 1) (B4 (Au 2) Ng)))) (Bh (Da 3 (C0 (Bi (Gp 1 Pg) (Aa (Ac 2) Aj)))) (Bh (Gf 4 (B2 Aj)) (Bh (Lo (Lj (Aa (A7 J0 (Aa (Ac 2) Aj)) Aj)) (Au 5) (Bh (Ie (A4 2 Hs (Ag (fM (Ac 0)) (Ag (fM (f2 Ew (fC (.int 10)) (Ac 5))) A8)))) (Bh (Asy (f2 oIx (Ac 2) (Ac 5)) (Hb 2 (B4 (Au 6) (B4 (Au 7) Ng)))) (Oc Xg (Ac 4) (Ag (Ii (Ag (fM (Ac 6)) (Ag (fM (Ac 7)) (Ag (A4 5 V0 (Ag (fM (Ac 0)) (Ag (fM (Ac 1)) (Ag (fM (Ac 6)) (Ag (fM (Ac 3)) (Ag (fM (fC (.int 4))) A8)))))) A8)))) A8))))) (Dl (C1 (Aa (Ac 1) (Aa (Ac 3) (Aa (A7 Ea (Aa (Ac 4) Aj)) Aj)))))))))
def Pa:List D->MH->Option (D×MH):=Lu 8 Ajz
def Aj0:FS:=(Bh (Gf 3 (B6 [] 2 (Eg (Ac 1)) (Hb 2 (B4 (Au 0) (B4 (Au 1) Ng))) Lq (C1 (Aa (fC (.str (Str.ofString ""))) (Aa (Ac 0) (Aa (Ac 1) Aj)))))) (Bh (Lo (Eg (Ac 2)) (Hb 2 (B4 (Au 4) (B4 (Au 5) Ng))) (Lo (Eg (Ac 0)) (Hb 3 (B4 (Au 6) (B4 (Au 7) (B4 (Au 8) Ng)))) (sIf (Acf (Bm (f2 oEq (Ac 6) (Ac 4))) (Bm (f2 oEq (Ac 7) (Ac 5)))) (Xs Akt (Ac 3) (Aa (C0 (B6 [4] 1 (Eg (Ac 8)) (Au 1) Lq (C1 (Aa (Ac 0) (Aa (f2 oIx (Ac 1) (fC (.int 0))) (Aa (f2 oIx (Ac 1) (fC (.int 1))) Aj)))))) Aj)) Eu))) (Dl (Ac 3))))
def Jo:List D->Option D:=Gj 9 Aj0
def Aj1:FS:=(Bh (Da 2 (C0 (B6 [1] 1 (Eg (Ac 0)) (Au 1) (Bm (f2 oEq (f2 oIx (Ac 1) (fC (.int 0))) (Ac 0))) (f2 oIx (Ac 1) (fC (.int 1)))))) (Lc (Bi Ad9 (Aa (C0 (Bi (Cp D8 false) (Aa (Ac 2) Aj))) Aj))))
def L9:List D->Option D:=Gj 3 Aj1
def Ajv:FS:=(Dl (Vz (f2 Aqk (f2 oIx (Ac 0) (fC (.int 1))) (Ac 1)) (Y3 (A7 (Ci 2 Pe) (Aa (f2 Aaf (Ac 1) (f2 oIx (Ac 0) (fC (.int 1)))) (Aa (f2 oIx (Ac 0) (fC (.int 2))) Aj))))))
def O6:List D->Option D:=Gj 2 Ajv
def Aj2:FS:=(Bh (Gf 2 (B2 (Aa (C1 Aj) Aj))) (Bh (Lo (Eg (Ac 1)) (Au 3) (Bh (Gf 4 (Bi Aag (Aa (Ac 2) Aj))) (Bh (Lo (Eg (C0 (Bi (Gp 2 L9) (Aa (Ac 0) (Aa (Ac 3) Aj))))) (Au 5) (Gf 4 (Acg (Ac 4) (C0 (B6 [3,5] 1 (Eg (Ac 2)) (Au 2) Lq (f2 Ew (Ac 2) (C1 (Aa (C1 (Aa (Ac 0) (Aa (Ac 1) Aj))) Aj)))))))) (Da 2 (Ac 4))))) (Dl (Ac 2))))
def Pb:List D->Option D:=Gj 6 Aj2
def Aj3:FS:=(Bh (Da 3 (A7 Mi (Aa (Ac 2) Aj))) (Bh (Lo (Eg (C0 (Bi (Gp 3 Jo) (Aa (Ac 0) (Aa (Ac 1) (Aa (Ac 2) Aj)))))) (Au 4) (sIf (fOr (Bm (f2 Nw (f2 oIx (Ac 4) (fC (.int 1))) (Ac 3))) (Rl (A7 (Ji 2 O6) (Aa (Ac 4) (Aa (Ac 3) Aj))))) (Dl (fC (.bl false))) Eu)) (Dl (fC (.bl true)))))
def Jp:List D->Option D:=Gj 5 Aj3
def Ajs:FS:=(Bh (Gf 3 (B6 [] 2 (Eg (Ac 1)) (Hb 2 (B4 (Au 0) (B4 (Au 1) Ng))) Lq (Ac 0))) (Bh (Lo (Lj (Aa (A7 J0 (Aa (Ac 2) Aj)) Aj)) (Au 4) (Lo (Eg (C0 (Bi (Gp 3 Jo) (Aa (Ac 0) (Aa (C1 Aj) (Aa (Ac 2) Aj)))))) (Au 5) (sIf (Acf (Bm (f2 oIn (f2 oIx (Ac 5) (fC (.int 0))) (Ac 3))) (Bm (f2 Bz (f2 oIx (Ac 5) (fC (.int 1))) (Ac 3)))) (Xs Xg (Ac 3) (Aa (f2 oIx (Ac 5) (fC (.int 1))) Aj)) Eu))) (Dl (f2 oEq (C0 (B6 [3] 2 (Eg (Ac 2)) (Hb 2 (B4 (Au 1) (B4 (Au 2) Ng))) (Bm (f2 Bz (Ac 1) (Ac 0))) (Ac 1))) (C0 (B2 Aj))))))
def L8:List D->Option D:=Gj 6 Ajs
def Avg:FS:=(Bh (Da 4 (C0 (Bi (Gp 2 L9) (Aa (Ac 0) (Aa (f2 oIx (Ac 3) (fC (.int 0))) Aj))))) (Bh (Lo (Eg (C0 (Aje (Ac 4) fNo (Hc (fMt "list" Hf (Ac 4) (Aa (f2 oIx (Ac 3) (fC (.int 1))) Aj)))))) (Au 5) (Lo (Eg (Ac 1)) (Au 6) (sIf (Bm (f2 oEq (C0 (B6 [6] 1 (Eg (C0 (Acg (Ac 2) (C0 (B2 (Aa (C1 (Aa (f2 oIx (Ac 3) (fC (.int 0))) (Aa (Ac 5) Aj))) Aj)))))) (Au 1) (Bm (f2 Bz (Ac 1) (Ac 0))) (Ac 1))) (C0 (B2 Aj)))) (Dl (fC (.bl false))) Eu))) (Dl (fC (.bl true)))))
def Y8:List D->Option D:=Gj 7 Avg
def Vf:FS:=(Bh (sIf (fOr (Bm (f2 oNe (C0 (Bi D9 (Aa (Ac 8) Aj))) (C0 (Bi Aag (Aa (f2 oIx (Ac 7) (fC (.int 1))) Aj))))) (Bm (f2 Bz (f2 oIx (Ac 7) (fC (.int 1))) (C0 (B6 [] 1 (Eg (Ac 6)) (Au 0) Lq (A7 Ea (Aa (C0 (Bi D9 (Aa (Ac 0) Aj))) Aj))))))) (Dl (fC (.bl false))) Eu) (Bh (Lo (Lj (Aa (A7 J0 (Aa (Ac 8) Aj)) Aj)) (Au 9) (sIf (Ach (Rl (A7 (Ci 4 Y8) (Aa (Ac 4) (Aa (Ac 6) (Aa (C0 (Aje (Ac 8) fNo (Hc (Ac 9)))) (Aa (f2 oIx (Ac 8) (Ac 9)) Aj))))))) (Dl (fC (.bl false))) Eu)) (Dl (fC (.bl true)))))
def Ab5:FS:=(Bh (Da 8 (C0 (B6 [] 1 (Eg (f2 oIx (Ac 7) (fC (.int 2)))) (Au 0) Lq (fSl (Ac 0) fNo (Hc (fC (.int 2))))))) Vf)
def Tx:FS:=(Bh (sIf (fOr (Bm (f2 oNe (f2 oIx (Ac 7) (fC (.int 0))) (fC (.str (Str.ofString "book"))))) (fOr (Ach (Rl (A7 (Ci 3 Jp) (Aa (Ac 4) (Aa (Ac 5) (Aa (f2 oIx (Ac 7) (fC (.int 1))) Aj)))))) (Ach (Rl (A7 (Ci 3 L8) (Aa (Ac 4) (Aa (Ac 5) (Aa (f2 oIx (Ac 7) (fC (.int 1))) Aj)))))))) (Dl (fC (.bl false))) Eu) Ab5)
def Ab4:FS:=(Bh (sIf (Bm (f2 oEq (Ac 6) (C0 (B2 Aj)))) (Dl (f2 oEq (f2 oIx (Ac 7) (fC (.int 0))) (fC (.str (Str.ofString "stuck"))))) Eu) Tx)
def Ab3:FS:=(Bh (Dh 7 (A4 2 O7 (Ag (fM (Ac 4)) (Ag (fM (Ac 5)) A8)))) Ab4)
def Tw:FS:=(Bh (Da 6 (C0 (B6 [4,5] 1 (Eg (C0 (Bi (Gp 2 Pb) (Aa (Ac 4) (Aa (Ac 2) Aj))))) (Au 2) (Rl (A7 (Ci 3 Jp) (Aa (Ac 0) (Aa (Ac 1) (Aa (Ac 2) Aj))))) (Ac 2)))) Ab3)
def Tv:FS:=(Bh (Ie (A4 2 Hs (Ag (fM (Ac 1)) (Ag (fM (fC (.int 40))) A8)))) (Bh (Dh 5 (A4 5 V0 (Ag (fM (Ac 1)) (Ag (fM (Ac 2)) (Ag (fM (fC (.str (Str.ofString "")))) (Ag (fM (Ac 3)) (Ag (fM (fC (.int 5))) A8))))))) Tw))
def Ajq:FS:=(Bh (Dh 1 (A4 1 Pd (Ag (fM (Ac 0)) A8))) (Bh (Xr (A4 1 Pa (Ag (fM (Ac 1)) A8)) (Hb 3 (B4 (Au 2) (B4 (Au 3) (B4 (Au 4) Ng))))) (Bh (sIf (Bm (f2 oGt (A7 J0 (Aa (Ac 2) Aj)) (fC (.int 4)))) (Bh (Da 2 (C0 (Aje (Ac 2) fNo (Hc (fC (.int 3)))))) (Da 4 (A7 Ea (Aa (C0 (B6 [2] 1 (Eg (Ac 4)) (Au 1) (Bm (f2 oIn (f2 oIx (Ac 1) (fC (.int 0))) (Ac 0))) (Ac 1))) Aj)))) Eu) Tv)))
def L7:List D->Option D:=Gj 10 Ajq
theorem sc_law:FnScope ["_law_script","_law_feed_here","_law_names_here","_law_pool_here","_law_shelf_here","_law_wants","_law_sounds","_law_told","_law_pairs","_law_k"] ["_law_script"] (Aq Rc):=⟨rfl,rfl,rfl,by decide +kernel,rfl,by decide +kernel,by decide +kernel⟩
theorem As0:FnScope ["other"] ["other"] lam_z1.scope:=⟨rfl,rfl,rfl,by decide +kernel,rfl,by decide +kernel,by decide +kernel⟩
abbrev tabs (p_z1:Addr):List (Addr×Str):=[(p_z1,lam_z1.qual)]
theorem Ap3 {p_z1:Addr}:(p_z1,lam_z1.qual)∈tabs p_z1:=by simp
structure Blt (mg:Str->Option Value):Prop where
 b_any:mg "any"=none
 b_dict:mg "dict"=none
 b_int:mg "int"=none
 b_isinstance:mg "isinstance"=none
 b_len:mg "len"=none
 b_list:mg "list"=none
 b_min:mg "min"=none
 b_range:mg "range"=none
 b_reversed:mg "reversed"=none
 b_sorted:mg "sorted"=none
 b_str:mg "str"=none
 b_tuple:mg "tuple"=none
structure Txt (K:W.Frag) (mg:Str->Option Value) (p_z1:Addr):Prop where
 h_z5:FD K mg "mark_rank" As9 ["mark"]
 h_z30:FD K mg "rank" Ah1 ["make"]
 h_z7:FD K mg "is_older" Atb ["one","other"]
 h_z2:FD K mg "newest_first" As6 ["makes"]
 h_z12:FD K mg "lies_in" Ahj ["make","span"]
 h_z8:FD K mg "makes_of" Atc ["shelf","name"]
 h_z9:FD K mg "needs_of" Atd ["shelf","name","make"]
 h_z0:FD K mg "needs_at_work" As5 ["shelf","wants","book"]
 h_z13:FD K mg "is_kept" Ahk ["need","taken"]
 h_z10:FD K mg "rests_on" Ahh ["paper","name"]
 h_z3:FD K mg "sought_with" As7 ["shelf","wants","choices","need"]
 h_z1:FDL K mg "sought_behind" Xv ["shelf","wants","choices"] p_z1
 h_z15:FD K mg "sought" Ahm ["shelf","wants"]
 h_z23:FD K mg "_law_feed" Ahu ["_law_script"]
 h_z24:FD K mg "_law_open" Ahv ["_law_feed_here","_law_k"]
 h_z25:FD K mg "_law_draw" Ahw ["_law_feed_here","_law_many"]
 h_z31:FD K mg "_law_age" Ah2 ["_law_make_here"]
 h_z26:FD K mg "_law_lies" Ahx ["_law_make_here","_law_span_here"]
 h_z16:FD K mg "_law_names" Ahn ["_law_feed_here","_law_many"]
 h_z27:FD K mg "_law_make" Ahy ["_law_feed_here"]
 h_z28:FD K mg "_law_span" Ahz ["_law_feed_here","_law_pool_here"]
 h_z17:FD K mg "_law_stock" Aho ["_law_feed_here"]
 h_z29:FD K mg "_law_pool" Ah0 ["_law_stock_here"]
 h_z6:FD K mg "_law_needs_of" Ata ["_law_feed_here","_law_names_here","_law_own","_law_pool_here","_law_most"]
 h_z18:FD K mg "_law_shelf" Ahp ["_law_feed_here"]
 h_z19:FD K mg "_law_needs" Ahq ["_law_shelf_here","_law_wants","_law_choices"]
 h_z20:FD K mg "_law_makes" Ahr ["_law_shelf_here","_law_name"]
 h_z14:FD K mg "_law_broken" Ahl ["_law_need","_law_taken"]
 h_z21:FD K mg "_law_books" Ahs ["_law_shelf_here","_law_names_here"]
 h_z22:FD K mg "_law_sound" Aht ["_law_shelf_here","_law_wants","_law_book"]
 h_z11:FD K mg "_law_reached" Ahi ["_law_shelf_here","_law_wants","_law_book"]
 h_z4:FD K mg "_law_none_newer" As8 ["_law_shelf_here","_law_sounds","_law_ahead","_law_pair"]
theorem Aqm {P:Program}{w:World}{K:W.Frag}{mg:Str->Option Value}{base:Heap}:M7 P w K mg base 1 1 lam_z1 Hr :=
 Amg As0 rfl rfl (fun doc pm ctv c us hl=>match us,hl with|[_],_=>rfl) fun c a A outer s H hr=>(Av (Ai 0) Ah)
section
variable {P:Program}{w:World}{K:W.Frag}{mg:Str->Option Value}{base:Heap}{p_z1:Addr} (T:Txt K mg p_z1) (B:Blt mg) (hB:M5 mg base)
include T B
theorem Avv:Cl P w K mg base 1 "mark_rank" 1 Y9 :=
 Du ["mark"] T.h_z5 Avh Y9 fun _ _ _ _ _ _ _ hr nd=>(Ae (Cs (Ec (Ag7 (Ai 0) B.b_isinstance B.b_str (by decide +kernel))) (Am (A9 (Bo (Ao Ah (Ao Ah (Ao (Ai 0) Al)))))) Br) (Am (A9 (Bo (Ao Ah (Ao (Ai 0) (Ao Hj Al)))))))
theorem Aai:Cl P w K mg base 2 "rank" 1 Ht :=
 Du ["make","marks","without_marks"] T.h_z30 Akb Ht fun _ _ _ _ _ _ _ hr nd=>(Ae (Cf nd (Av (Ai 0) Ah)) (Ae (Cf nd (Aw4 (Ec (Ai 1)) Ah Ah)) (Am (A9 (Bo (Ao (Av (Ai 0) Ah) (Ao (Av (Ai 0) Ah) (Ao (Av (Ai 0) Ah) (Ao (Ai 2) (Ao (C9 B.b_tuple (Ao (Dq (Cd [] ["mark"] rfl (Ce (Ai 1)) (Ck 0) (fun _ _ _ _ _ _=>(Cq (show (["mark"]:List Str).Nodup by decide))) (fun _ _ _ _ _ _=>C7) (fun _ _ _ _ _ _=>(q_c (Avv T B) hr (Ao (Ai 0) Al))))) Al)) Al))))))))))
theorem Aq4:Cl P w K mg base 3 "is_older" 2 V2 :=
 Du ["one","other"] T.h_z7 Avj V2 fun _ _ _ _ _ _ _ hr nd=>(Am (A9 (Hy (Agx hr) (q_c (Aai T B) hr (Ao (Ai 0) Al)) (q_c (Aai T B) hr (Ao (Ai 1) Al)))))
theorem Avt:Cl P w K mg base 5 "newest_first" 1 Y7 :=
 Du ["makes"] T.h_z2 Avf Y7 fun _ _ _ _ _ _ _ hr nd=>(Am (Ge (Awa (Aai T B) hr B.b_sorted (Ao (Ai 0) Al))))
theorem Aqq:Cl P w K mg base 4 "lies_in" 2 O4 :=
 Du ["make","span","first","behind","middle","high"] T.h_z12 Ajt O4 fun _ _ _ _ _ _ _ hr nd=>(Ae (Cf nd Ah) (Ae (Cf nd (Ed B.b_len (Ao (Ai 1) Al))) (Ae (Ae8 _ Az4 (Ba (Akx) (Ai 2) (Ai 3)) (Ae (Cf nd (Bq Agw (Bq B3 (Ai 2) (Ai 3)) Ah)) (Am (Cs (Ec (q_c (Aq4 T B) hr (Ao (Ai 0) (Ao (Av (Av (Ai 1) (Ai 4)) Ah) Al)))) (Am (Cf nd (Ai 4))) (Am (Cf nd (Bq B3 (Ai 4) Ah))))))) (Ae (Cs (Ba (Dj hr) (Ai 2) Ah) (Am (A9 Abc)) Br) (Ae (Cf nd (Av (Av (Ai 1) (Bq Mm (Ai 2) Ah)) Ah)) (Am (A9 (Aw5 (Awc (Ai 5)) (Ae6 (q_c (Aq4 T B) hr (Ao (Ai 0) (Ao (Ai 5) Al))))))))))))
theorem Avw:Cl P w K mg base 6 "makes_of" 2 Za :=
 Du ["shelf","name"] T.h_z8 Avk Za fun _ _ _ _ _ _ _ hr nd=>(Am (Ge (Ae0 (Avt T B) hr (Ao (Dq (Cd [1] ["name","entry"] rfl (Ce (Ai 0)) (Ck 1) (fun _ _ _ _ _ _=>(Cq (show (["name","entry"]:List Str).Nodup by decide))) (fun _ _ _ _ _ _=>(H4 (Ba (Dj hr) (Av (Ai 1) Ah) (A5 0)))) (fun _ _ _ _ _ _=>(Av (Ai 1) Ah)))) Al))))
theorem Avx:Cl P w K mg base 1 "needs_of" 3 Zb :=
 Du ["shelf","name","make","entry"] T.h_z9 Avl Zb fun _ _ _ _ _ _ _ hr nd=>(Ae (Cr Az4 rfl (Ce (Ai 0)) (G6 nd) (Am (Cs (Ba (Dj hr) (Atx (Ai 3) J8 (D2 Ah)) (Bo (Ao (Ai 1) (Ao (Ai 2) Al)))) (Am (A9 (Av (Ai 3) Ah))) Br))) (Am (A9 (Bo Al))))
theorem Avr:Cl P w K mg base 2 "needs_at_work" 3 Y5 :=
 Du ["shelf","wants","book","needs","by","make"] T.h_z0 Ave Y5 fun _ _ _ _ _ _ _ hr nd=>(Ae (U1 [] ["name","span"] nd rfl (Ce (Ai 1)) (Yq 0 1 (by decide)) (fun _ _ _ _ _ _=>(Dw rfl (Bb (Cq (show (["name","span"]:List Str).Nodup by decide)) (Bb (Cq (show (["name","span"]:List Str).Nodup by decide)) Dv)))) (fun _ _ _ _ _ _=>C7) (fun _ _ _ _ _ _=>(Bo (Ao Hj (Ao (Ai 0) (Ao (Ai 1) Al)))))) (Ae (Cr Az4 rfl (Ce (Ai 2)) (Dw rfl (Bb (Tg nd) (Bb (G6 nd) Dv))) (Am (Ahb (Ai 3) (Ao (Dq (Cd [4] ["by","name","span"] rfl (Ce (q_c (Avx T B) hr (Ao (Ai 0) (Ao (A5 4) (Ao (Ai 5) Al))))) (Yq 1 2 (by decide)) (fun _ _ _ _ _ _=>(Dw rfl (Bb (Cq (show (["by","name","span"]:List Str).Nodup by decide)) (Bb (Cq (show (["by","name","span"]:List Str).Nodup by decide)) Dv)))) (fun _ _ _ _ _ _=>C7) (fun _ _ _ _ _ _=>(Bo (Ao (A5 0) (Ao (Ai 1) (Ao (Ai 2) Al))))))) Al)))) (Am (A9 (Ai 3)))))
theorem Aqr:Cl P w K mg base 5 "is_kept" 2 O5 :=
 Du ["need","taken"] T.h_z13 Aju O5 fun _ _ _ _ _ _ _ hr nd=>(Am (A9 (Asi (Hy Aak (Av (Ai 0) Ah) (Ai 1)) (Ae6 (q_c (Aqq T B) hr (Ao (Abd (Ai 1) (Av (Ai 0) Ah)) (Ao (Av (Ai 0) Ah) Al)))))))
theorem Aaj:∀ n,Cl P w K mg base (n+16) "rests_on" 2 (Jq n)
 |0=>Cl.zero T.h_z10
 |n+1=>by
  have ih:=Aaj n
  exact Du (k:=n+16) ["paper","name"] T.h_z10 (V4 (Jq n)) _ (fun _ _ _ _ _ _ _ hr nd=>(Ae (Cs (Ba (Dj hr) (Av (Ai 0) Ah) Hj) (Am (A9 (Hy (Akw hr) (A5 1) (Atx (Ai 0) (D2 Ah) (D2 Ah))))) Br) (Am (A9 (Aw5 (Hy (Dj hr) (A5 1) (Av (Ai 0) Ah)) (Ae6 (Asm rfl B.b_any (Ao (Dq (Cd [1] ["name","row"] rfl (Ce (Av (Ai 0) Ah)) (Ck 1) (fun _ _ _ _ _ _=>(Cq (show (["name","row"]:List Str).Nodup by decide))) (fun _ _ _ _ _ _=>C7) (fun _ _ _ _ _ _=>(q_c (hk:=by lia) ih hr (Ao (Av (Ai 1) Ah) (Ao (A5 0) Al)))))) Al))))))))
theorem Aqo:Cl P w K mg base (40) "rests_on" 2 Y6:=(Aaj T B 24)
include hB in
theorem Agv:∀ n,ClIT P w K mg base (tabs p_z1) (n+41) "sought_behind" 3 (Ee n).1/\ClIT P w K mg base (tabs p_z1) (n+41) "sought_with" 4 (Ee n).2
 |0=>⟨ClIT.zeroL T.h_z1,ClIT.zero T.h_z3⟩
 |n+1=>by
  have ih:=Agv n
  exact⟨Aso (k:=n+41) ["shelf","wants","choices","needs","chosen","need","left"] T.h_z1 (Ajr (Ee n).1 (Ee n).2) _ (fun _ _ _ _ _ _ _ _ hT hr nd tc th=>(Ae (Cf nd (Dq (Ae0 (hk:=by lia) (Avr T B) hr (Ao (Ai 0) (Ao (Ai 1) (Ao (Ai 2) Al)))))) (Ae (Oa nd (U2 hr B.b_dict (Ao (Ai 2) Al))) (Ae (Cr Az4 rfl (Ce (Ai 3)) (G6 nd) (Am (Cs (D1 (P0 (Ba Aak (Av (Ai 5) Ah) (A5 4)) (J9 (Mp (Ec (Aw3 (hk:=by lia) (Aqr T B) hr (Ao (Ai 5) (Ao (A5 4) Al)))))))) (Am (A9 (Bo (Ao Hj (Ao (Bq B3 (Bo (Ao Hj Al)) (Ai 5)) Al))))) Br))) (Ae (Iz [4] ["chosen","need"] nd rfl (Ce (Ai 3)) (Ck 1) (fun _ _ _ _ _ _=>(Cq (show (["chosen","need"]:List Str).Nodup by decide))) (fun _ _ _ _ _ _=>(H4 (Ba Px (Av (Ai 1) Ah) (A5 0)))) (fun _ _ _ _ _ _=>(Ai 1))) (Ae (Cs (Mp (Ec (Ai 6))) (Am (N8 (J7 (An (Ap Hj) (An (Ap (C9 B.b_tuple (Ao (Dq (N6 hr B.b_sorted (Ao (Ai 2) Al))) Al))) (An (Aha (Dp Al)) Az)))))) Br) (Am (N8 (Ae1 (hk:=by lia) hT ih.2 hr (An (Ap (Ai 0)) (An (Ap (Ai 1)) (An (Ap (Ai 2)) (An (Ap (Asq (hk:=by lia) hr Aqm hB (hT _ Ap3) tc th B.b_min (Ao (Ai 6) Al))) Az))))))))))))),Ag8 (k:=n+41) ["shelf","wants","choices","need","name","papers","make","found"] T.h_z3 (Ato (Ee n).1 (Ee n).2) _ (fun _ _ _ _ _ _ _ hT hr nd=>(Ae (Cf nd (Av (Ai 3) Ah)) (Ae (Hz nd (Dp Al)) (Ae (Cr Az4 rfl (Ce (Dq (Ae0 (hk:=by lia) (Avw T B) hr (Ao (Ai 0) (Ao (Ai 4) Al))))) (G6 nd) (Ae (C6 nd (Ae1 (hk:=by lia) hT ih.1 hr (An (Ap (Ai 0)) (An (Ap (Ai 1)) (An (Ap (Bq B3 (Ai 2) (Bo (Ao (Bo (Ao (Ai 4) (Ao (Ai 6) Al))) Al)))) Az))))) (Ae (Cs (Ba (Dj hr) (Av (Ai 7) Ah) Hj) (Am (N8 (J7 (An (Ap Hj) (An (Ap (Av (Ai 7) Ah)) (An (Aha (Xo (Dq (Dp (Ao (Bo (Ao (Ai 4) (Ao (Ai 6) (Ao (C9 B.b_tuple (Ao (Ai 5) Al)) Al)))) Al))) (Av (Ai 7) Ah))) Az)))))) Br) (Ae (Cs (Mp (Ec (q_c (hk:=by lia) (Aqo T B) hr (Ao (Av (Ai 7) Ah) (Ao (Ai 4) Al))))) (Am (A9 (Ai 7))) Br) (Am (Mq (Ai 5) (Ao (Bo (Ao (Ai 6) (Ao (Av (Ai 7) Ah) Al))) Al))))))) (Am (A9 (Bo (Ao Hj (Ao (Bo (Ao Hj (Ao (Ai 4) (Ao (Av (Ai 3) Ah) (Ao (C9 B.b_tuple (Ao (Ai 5) Al)) Al))))) Al)))))))))⟩
include hB in
theorem Avs:ClIT P w K mg base (tabs p_z1) (65) "sought_behind" 3 Apn:=(Agv T B hB 24).1
include hB in
include hB in
theorem Aqt:ClIT P w K mg base (tabs p_z1) 66 "sought" 2 O7 :=
 Ag8 ["shelf","wants"] T.h_z15 Ajw O7 fun _ _ _ _ _ _ _ hT hr nd=>(Am (N8 (Ae1 hT (Avs T B hB) hr (An (Ap (Ai 0)) (An (Ap (Ai 1)) (An (Ap (Bo Al)) Az))))))
theorem Aqy:ClI P w K mg base 1 "_law_feed" 1 Pd :=
 N5 ["_law_script","_law_odd"] T.h_z23 Aj4 Pd fun _ _ _ _ _ _ _ hr nd=>(Ae (Cf nd Ah) (Ae (Cs (Ba Akv (Ed B.b_len (Ao (Ai 0) Al)) Ah) (Am (Cf nd (Bq Gy (Av (Ai 0) Ah) Ah))) Br) (Am (Ge (Dp (Ao (Ai 0) (Ao Ah (Ao (Ai 1) (Ao Ah Al)))))))))
theorem Uv:ClI P w K mg base 1 "_law_open" 2 Hs :=
 N5 ["_law_feed_here","_law_k"] T.h_z24 Aj5 Hs fun _ _ _ _ _ _ _ hr nd=>(Ae (G2 (Bq Ml Ah (Ai 1)) (Ai 0) Ah) (Ae (G2 Ah (Ai 0) Ah) (Am (Cs (Ba Akv (Ed B.b_len (Ao (Av (Ai 0) Ah) Al)) Ah) (Am (G2 (Av (Av (Ai 0) Ah) (Bq Gy (Ai 1) (Ed B.b_len (Ao (Av (Ai 0) Ah) Al)))) (Ai 0) Ah)) Br))))
theorem Cb:ClI P w K mg base 1 "_law_draw" 2 Bu :=
 N5 ["_law_feed_here","_law_many","_law_found","_law_mixed"] T.h_z25 Aj6 Bu fun _ _ _ _ _ _ _ hr nd=>(Ae (G2 (Bq B3 (Av (Ai 0) Ah) Ah) (Ai 0) Ah) (Ae (Cs (Ba (Dj hr) (Av (Ai 0) Ah) Ah) (Ae (Cf nd (Bq Gy (Av (Ai 0) Ah) (Ai 1))) (Ae (G2 (Bq Agw (Av (Ai 0) Ah) (Ai 1)) (Ai 0) Ah) (Am (A9 (Ai 2))))) Br) (Ae (Cf nd (Bq Gy (Bq Ml (Bq B3 (Bq Gy (Av (Ai 0) Ah) Ah) Ah) (Bq B3 (Bq Ml (Bq Ml Ah (Av (Ai 0) Ah)) (Av (Ai 0) Ah)) Ah)) Ah)) (Am (A9 (Bq Gy (Bq Gy (Bq Ml (Ai 3) Ah) Ah) (Ai 1)))))))
theorem Pv:Cl P w K mg base 1 "_law_age" 1 D8 :=
 Du ["_law_make_here","_law_marks","_law_mark"] T.h_z31 Akc D8 fun _ _ _ _ _ _ _ hr nd=>(Ae (Hz nd (Dp Al)) (Ae (Cr Az4 rfl (Ce (Av (Ai 0) Ah)) (G6 nd) (Am (Cs (Ec (Ag7 (Ai 2) B.b_isinstance B.b_str (by decide +kernel))) (Am (Mq (Ai 1) (Ao (Bo (Ao Ah (Ao Ah (Ao (Ai 2) Al)))) Al))) (Am (Mq (Ai 1) (Ao (Bo (Ao Ah (Ao (Ai 2) (Ao Hj Al)))) Al)))))) (Am (A9 (Bo (Ao (Av (Ai 0) Ah) (Ao (Av (Ai 0) Ah) (Ao (Av (Ai 0) Ah) (Ao (Asn B.b_int (Ao (Hy (Dj hr) (Av (Ai 0) Ah) (Bo Al)) Al)) (Ao (Ai 1) Al))))))))))
theorem Aqz:Cl P w K mg base 2 "_law_lies" 2 Pe :=
 Du ["_law_make_here","_law_span_here","_law_age_here","_law_low","_law_high"] T.h_z26 Aj7 Pe fun _ _ _ _ _ _ _ hr nd=>(Ae (Cf nd (q_c (Pv T B) hr (Ao (Ai 0) Al))) (Ae (Cr Az4 rfl (Ce (Ai 1)) (Dw rfl (Bb (G6 nd) (Bb (G6 nd) Dv))) (Am (Cs (D1 (P0 (Ba (Aq5 hr) (q_c (Pv T B) hr (Ao (Ai 3) Al)) (Ai 2)) (J9 (D1 (Abk (Asj (Ai 4)) (U3 (Ba (Agx hr) (Ai 2) (q_c (Pv T B) hr (Ao (Ai 4) Al))))))))) (Am (A9 Abc)) Br))) (Am (A9 Abc))))
theorem Aqu:ClI P w K mg base 2 "_law_names" 2 O8 :=
 N5 ["_law_feed_here","_law_many","_law_letters","_law_style","_law_base","_law_size","_law_at","_law_rest"] T.h_z16 Ajx O8 fun _ _ _ _ _ _ _ hr nd=>(Ae (Oa nd Hj) (Ae (C6 nd (El (Cb T B) hr (An (Ap (Ai 0)) (An (Ap Ah) Az)))) (Ae (G1 nd (El (Cb T B) hr (An (Ap (Ai 0)) (An (Ap Ah) Az)))) (Ae (Cs (Ba (Dj hr) (Ai 3) Ah) (Am (Ge (Cd [4] ["_law_base","_law_k"] rfl (P1 B.b_range (Ao (Ai 1) Al)) (Ck 1) (fun _ _ _ _ _ _=>(Cq (show (["_law_base","_law_k"]:List Str).Nodup by decide))) (fun _ _ _ _ _ _=>C7) (fun _ _ _ _ _ _=>(Av (Dq (Dp (Ao Hj (Ao Hj (Ao Hj (Ao Hj (Ao Hj (Ao Hj Al)))))))) (Bq Gy (Bq B3 (A5 0) (Ai 1)) Ah)))))) Br) (Ae (Cs (Ba (Dj hr) (Ai 3) Ah) (Am (Ge (Cd [2,4] ["_law_letters","_law_base","_law_k"] rfl (P1 B.b_range (Ao (Ai 1) Al)) (Ck 2) (fun _ _ _ _ _ _=>(Cq (show (["_law_letters","_law_base","_law_k"]:List Str).Nodup by decide))) (fun _ _ _ _ _ _=>C7) (fun _ _ _ _ _ _=>(Atx (Bq B3 (A5 0) (A5 0)) (D2 (A5 1)) (D2 (Bq B3 (Bq B3 (A5 1) Ah) (Ai 2)))))))) Br) (Ae (G1 nd (Pz B3 (Ap Ah) (El (Cb T B) hr (An (Ap (Ai 0)) (An (Ap Ah) Az))))) (Ae (G1 nd (El (Cb T B) hr (An (Ap (Ai 0)) (An (Ap (A5 5)) Az)))) (Ae (G1 nd (Ae4 (Ap (A5 2)) (El (Cb T B) hr (An (Ap (Ai 0)) (An (Ap Ah) Az))))) (Am (Ge (Cd [7,6,2,5,4] ["_law_rest","_law_at","_law_letters","_law_size","_law_base","_law_k"] rfl (P1 B.b_range (Ao (Ai 1) Al)) (Ck 5) (fun _ _ _ _ _ _=>(Cq (show (["_law_rest","_law_at","_law_letters","_law_size","_law_base","_law_k"]:List Str).Nodup by decide))) (fun _ _ _ _ _ _=>C7) (fun _ _ _ _ _ _=>(Bq B3 (Bq B3 (Bq Aal (A5 0) (A5 1)) (Av (A5 2) (Bq Gy (Bq B3 (A5 4) (Bq Ml Ah (Ai 5))) Ah))) (Bq Aal (A5 0) (Bq Mm (Bq Mm (A5 3) Ah) (A5 1))))))))))))))))
theorem Aq0:ClI P w K mg base 2 "_law_make" 1 Ma :=
 N5 ["_law_feed_here","_law_numbers","_law_marks","_law_kept"] T.h_z27 Aj8 Ma fun _ _ _ _ _ _ _ hr nd=>(Ae (Amh [0] ["_law_feed_here","_law_k"] nd rfl (P1 B.b_range (Ao Ah Al)) (Ck 1) (fun _ _ _ _ _ _=>(Cq (show (["_law_feed_here","_law_k"]:List Str).Nodup by decide))) (fun _ _ _ _ _ _=>C7) (fun _ _ _ _ _ _=>(El (Cb T B) hr (An (Ap (A5 0)) (An (Ap Ah) Az))))) (Ae (C6 nd (Ass (An (Ap (Bo Al)) (An (Ap (Bo Al)) (An (Ap (Bo Al)) (An (J7 (An (El (Cb T B) hr (An (Ap (A5 0)) (An (Ap Ah) Az))) Az)) (An (Ap (Bo (Ao Hj Al))) (An (J7 (An (Ap Hj) (An (El (Cb T B) hr (An (Ap (A5 0)) (An (Ap Ah) Az))) Az))) (An (Ap (Bo (Ao Ah (Ao Hj Al)))) (An (Ap (Bo (Ao Hj (Ao Ah Al)))) Az)))))))))) (Ae (C6 nd (Ae4 (Ap (Ai 2)) (El (Cb T B) hr (An (Ap (A5 0)) (An (Ap Ah) Az))))) (Ae (Abi (Th (Dj hr) (El (Cb T B) hr (An (Ap (A5 0)) (An (Ap Ah) Az))) (Ap Ah)) (Am (Abj (Pz Mm (Ap (Bq Mm (Bq Aq6 Ah Ah) Ah)) (El (Cb T B) hr (An (Ap (A5 0)) (An (Ap Ah) Az)))) (Ai 1) (El (Cb T B) hr (An (Ap (A5 0)) (An (Ap Ah) Az))))) Br) (Am (A9 (Bo (Ao (Av (Ai 1) Ah) (Ao (Av (Ai 1) Ah) (Ao (Av (Ai 1) Ah) (Ao (Ai 3) Al)))))))))))
theorem Aq1:ClI P w K mg base 4 "_law_span" 2 Pf :=
 N5 ["_law_feed_here","_law_pool_here","_law_oldest","_law_ends","_law_k","_law_one"] T.h_z28 Aj9 Pf fun _ _ _ _ _ _ _ hr nd=>(Ae (Cf nd (Bo (Ao Ah (Ao Ah (Ao Ah (Ao (Bo (Ao Ah Al)) Al)))))) (Ae (Abi (Th (Dj hr) (El (Cb T B) hr (An (Ap (Ai 0)) (An (Ap Ah) Az))) (Ap Ah)) (Am (A9 (Bo (Ao (Bo (Ao (Ai 2) (Ao Ast Al))) Al)))) Br) (Ae (N9 nd (Dp Al)) (Ae (N7 Az4 rfl B.b_range (An (El (Cb T B) hr (An (Ap (Ai 0)) (An (Ap Ah) Az))) Az) (G6 nd) (Ae (C6 nd (Ae4 (Ap (Ai 1)) (El (Cb T B) hr (An (Ap (Ai 0)) (An (Ap (Ed B.b_len (Ao (Ai 1) Al))) Az))))) (Am (Cs (Ba (C8 hr) (Ai 5) (A5 3)) (Am (Mq (A5 3) (Ao (Ai 5) Al))) Br)))) (Ae (Abi (Ae3 (Ami (Th (Dj hr) (El (Cb T B) hr (An (Ap (Ai 0)) (An (Ap Ah) Az))) (Ap Ah)) (Ae5 (Ag9 (Ba (C8 hr) (Ai 2) (A5 3)))))) (Am (Mq (A5 3) (Ao (Ai 2) Al))) Br) (Ae (N9 nd (Xo (Dq (Asl (Pv T B) hr B.b_sorted (Ao (A5 3) Al))) (Dq (Dp (Ao Ast Al))))) (Am (A9 (C9 B.b_tuple (Ao (Dq (Cd [3] ["_law_ends","_law_k"] rfl (Awf B.b_range (Ao Ah (Ao (Bq Mm (Ed B.b_len (Ao (A5 3) Al)) Ah) (Ao Ah Al)))) (Ck 1) (fun _ _ _ _ _ _=>(Cq (show (["_law_ends","_law_k"]:List Str).Nodup by decide))) (fun _ _ _ _ _ _=>C7) (fun _ _ _ _ _ _=>(Bo (Ao (Av (A5 0) (Ai 1)) (Ao (Av (A5 0) (Bq B3 (Ai 1) Ah)) Al)))))) Al))))))))))
theorem Aqv:ClI P w K mg base 3 "_law_stock" 1 O9 :=
 N5 ["_law_feed_here","_law_shape","_law_many","_law_names_here","_law_stock_here","_law_k","_law_j","_law_pair"] T.h_z17 Ajy O9 fun _ _ _ _ _ _ _ hr nd=>(Ae (Ja (El (Uv T B) hr (An (Ap (Ai 0)) (An (Ap Ah) Az)))) (Ae (C6 nd (El (Cb T B) hr (An (Ap (Ai 0)) (An (Ap Ah) Az)))) (Ae (C6 nd (Awd (Ag9 (Ba (Akx) (Ai 1) Ah)) (Ap (Av (Dq (Dp (Ao Ah (Ao Ah Al)))) (Ai 1))) (Pz B3 (Ap Ah) (El (Cb T B) hr (An (Ap (Ai 0)) (An (Ap Ah) Az)))))) (Ae (C6 nd (El (Aqu T B) hr (An (Ap (Ai 0)) (An (Ap (Ai 2)) Az)))) (Ae (Hz nd (Dp Al)) (Ae (Cr Az4 rfl (P1 B.b_range (Ao (Ai 2) Al)) (G6 nd) (Ae (Ja (El (Uv T B) hr (An (Ap (Ai 0)) (An (Ap (Bq B3 Ah (Ai 5))) Az)))) (Am (N7 Az4 rfl B.b_range (An (Pz B3 (Ap Ah) (El (Cb T B) hr (An (Ap (Ai 0)) (An (Ap (Aw4 (Ba (Akx) (Ai 1) Ah) (Av (Dq (Dp (Ao Ah (Ao Ah Al)))) (Ai 1)) Ah)) Az)))) Az) (G6 nd) (Ae (C6 nd (J7 (An (Ap (Av (Ai 3) (Ai 5))) (An (El (Aq0 T B) hr (An (Ap (Ai 0)) Az)) Az)))) (Am (Cs (Ba (C8 hr) (Ai 7) (Ai 4)) (Am (Xp (Ai 4) (An (El (Cb T B) hr (An (Ap (Ai 0)) (An (Ap (Bq B3 (Ed B.b_len (Ao (Ai 4) Al)) Ah)) Az))) (An (Ap (Ai 7)) Az)))) Br))))))) (Am (A9 (Bo (Ao (Ai 3) (Ao (Ai 4) Al)))))))))))
theorem Aq2:Cl P w K mg base 1 "_law_pool" 1 Pg :=
 Du ["_law_stock_here","_law_pool_here","_law_name","_law_make_here","_law_behind"] T.h_z29 Aka Pg fun _ _ _ _ _ _ _ hr nd=>(Ae (N9 nd (Dp (Ao (Bo (Ao Ah (Ao Ah (Ao Ah (Ao (Bo (Ao Ah Al)) Al))))) Al))) (Ae (Cr Az4 rfl (Ce (Ai 0)) (Dw rfl (Bb (G6 nd) (Bb (G6 nd) Dv))) (Ae (Cf nd (Bo (Ao (Av (Ai 3) Ah) (Ao (Av (Ai 3) Ah) (Ao (Av (Ai 3) Ah) (Ao (Bq B3 (Av (Ai 3) Ah) (Bo (Ao Ah Al))) Al)))))) (Ae (Cs (Ba (Dj hr) (Av (Ai 3) Ah) (Bo Al)) (Am (Cf nd (Bo (Ao (Av (Ai 3) Ah) (Ao (Av (Ai 3) Ah) (Ao (Bq B3 (Av (Ai 3) Ah) Ah) (Ao (Bo (Ao Ah Al)) Al))))))) Br) (Am (N9 nd (Xo (A5 1) (Dq (Cd [1] ["_law_pool_here","_law_one"] rfl (Ce (Dq (Dp (Ao (Ai 3) (Ao (Ai 4) Al))))) (Ck 1) (fun _ _ _ _ _ _=>(Cq (show (["_law_pool_here","_law_one"]:List Str).Nodup by decide))) (fun _ _ _ _ _ _=>(H4 (Ba (C8 hr) (Ai 1) (A5 0)))) (fun _ _ _ _ _ _=>(Ai 1)))))))))) (Am (A9 (A5 1)))))
theorem Aq3:ClI P w K mg base 5 "_law_needs_of" 5 V0 :=
 N5 ["_law_feed_here","_law_names_here","_law_own","_law_pool_here","_law_most","_law_needs_here","_law_k","_law_name"] T.h_z6 Avi V0 fun _ _ _ _ _ _ _ hr nd=>(Ae (Hz nd (Dp Al)) (Ae (N7 Az4 rfl B.b_range (An (El (Cb T B) hr (An (Ap (Ai 0)) (An (Ap (Ai 4)) Az))) Az) (G6 nd) (Ae (C6 nd (Ae4 (Ap (Dq (Xo (Ai 1) (Dq (Dp (Ao Hj Al)))))) (El (Cb T B) hr (An (Ap (Ai 0)) (An (Pz B3 (Ap (Ed B.b_len (Ao (Ai 1) Al))) (Asr B.b_int (An (Asp (Dj hr) (El (Cb T B) hr (An (Ap (Ai 0)) (An (Ap Ah) Az))) (Ap Ah)) Az))) Az))))) (Am (Cs (D1 (P0 (Ba (Aky hr) (Ai 7) (Ai 2)) (J9 (Ba (C8 hr) (Ai 7) (Dq (Cd [] ["_law_need"] rfl (Ce (Ai 5)) (Ck 0) (fun _ _ _ _ _ _=>(Cq (show (["_law_need"]:List Str).Nodup by decide))) (fun _ _ _ _ _ _=>C7) (fun _ _ _ _ _ _=>(Av (Ai 0) Ah)))))))) (Am (Abg (Ai 5) (An (J7 (An (Ap (Ai 7)) (An (El (Aq1 T B) hr (An (Ap (Ai 0)) (An (Ap (Ai 3)) Az))) Az))) Az))) Br)))) (Am (A9 (C9 B.b_tuple (Ao (Ai 5) Al))))))
theorem Aqw:ClI P w K mg base 6 "_law_shelf" 1 Pa :=
 N5 ["_law_feed_here","_law_names_here","_law_stock_here","_law_pool_here","_law_shelf_here","_law_k","_law_name","_law_make_here"] T.h_z18 Ajz Pa fun _ _ _ _ _ _ _ hr nd=>(Ae (Abh (El (Aqv T B) hr (An (Ap (Ai 0)) Az)) (Dw rfl (Bb (G6 nd) (Bb (G6 nd) Dv)))) (Ae (Cf nd (Dq (Ae0 (Aq2 T B) hr (Ao (Ai 2) Al)))) (Ae (Hz nd (Dp Al)) (Ae (Cr Az4 rfl (P1 B.b_range (Ao (Ed B.b_len (Ao (Ai 2) Al)) Al)) (G6 nd) (Ae (Ja (El (Uv T B) hr (An (Ap (Ai 0)) (An (Ap (Bq B3 Ah (Ai 5))) Az)))) (Ae (Asu (Av (Ai 2) (Ai 5)) (Dw rfl (Bb (G6 nd) (Bb (G6 nd) Dv)))) (Am (Abg (Ai 4) (An (J7 (An (Ap (Ai 6)) (An (Ap (Ai 7)) (An (El (Aq3 T B) hr (An (Ap (Ai 0)) (An (Ap (Ai 1)) (An (Ap (Ai 6)) (An (Ap (Ai 3)) (An (Ap Ah) Az)))))) Az)))) Az)))))) (Am (A9 (Bo (Ao (Ai 1) (Ao (Ai 3) (Ao (C9 B.b_tuple (Ao (Ai 4) Al)) Al))))))))))
theorem Ags:Cl P w K mg base 1 "_law_needs" 3 Jo :=
 Du ["_law_shelf_here","_law_wants","_law_choices","_law_found","_law_by","_law_make_here","_law_name","_law_other","_law_needs_here"] T.h_z19 Aj0 Jo fun _ _ _ _ _ _ _ hr nd=>(Ae (U1 [] ["_law_name","_law_span_here"] nd rfl (Ce (Ai 1)) (Yq 0 1 (by decide)) (fun _ _ _ _ _ _=>(Dw rfl (Bb (Cq (show (["_law_name","_law_span_here"]:List Str).Nodup by decide)) (Bb (Cq (show (["_law_name","_law_span_here"]:List Str).Nodup by decide)) Dv)))) (fun _ _ _ _ _ _=>C7) (fun _ _ _ _ _ _=>(Bo (Ao Hj (Ao (Ai 0) (Ao (Ai 1) Al)))))) (Ae (Cr Az4 rfl (Ce (Ai 2)) (Dw rfl (Bb (Tg nd) (Bb (G6 nd) Dv))) (Am (Cr Az4 rfl (Ce (Ai 0)) (Dw rfl (Bb (G6 nd) (Bb (G6 nd) (Bb (G6 nd) Dv)))) (Am (Cs (D1 (P0 (Ba (Dj hr) (Ai 6) (A5 4)) (J9 (Ba (Dj hr) (Ai 7) (Ai 5))))) (Am (Ahb (Ai 3) (Ao (Dq (Cd [4] ["_law_by","_law_need"] rfl (Ce (Ai 8)) (Ck 1) (fun _ _ _ _ _ _=>(Cq (show (["_law_by","_law_need"]:List Str).Nodup by decide))) (fun _ _ _ _ _ _=>C7) (fun _ _ _ _ _ _=>(Bo (Ao (A5 0) (Ao (Av (Ai 1) Ah) (Ao (Av (Ai 1) Ah) Al))))))) Al))) Br))))) (Am (A9 (Ai 3)))))
theorem Agt:Cl P w K mg base 4 "_law_makes" 2 L9 :=
 Du ["_law_shelf_here","_law_name","_law_makes_here"] T.h_z20 Aj1 L9 fun _ _ _ _ _ _ _ hr nd=>(Ae (Iz [1] ["_law_name","_law_entry"] nd rfl (Ce (Ai 0)) (Ck 1) (fun _ _ _ _ _ _=>(Cq (show (["_law_name","_law_entry"]:List Str).Nodup by decide))) (fun _ _ _ _ _ _=>(H4 (Ba (Dj hr) (Av (Ai 1) Ah) (A5 0)))) (fun _ _ _ _ _ _=>(Av (Ai 1) Ah))) (Am (Ge (Avc rfl B.b_list B.b_reversed (Ao (Dq (Asl (Pv T B) hr B.b_sorted (Ao (Ai 2) Al))) Al)))))
theorem Aqs:Cl P w K mg base 3 "_law_broken" 2 O6 :=
 Du ["_law_need","_law_taken"] T.h_z14 Ajv O6 fun _ _ _ _ _ _ _ hr nd=>(Am (A9 (Asi (Hy Aak (Av (Ai 0) Ah) (Ai 1)) (Ae6 (Awe (q_c (Aqz T B) hr (Ao (Abd (Ai 1) (Av (Ai 0) Ah)) (Ao (Av (Ai 0) Ah) Al))))))))
theorem Aqx:Cl P w K mg base 5 "_law_books" 2 Pb :=
 Du ["_law_shelf_here","_law_names_here","_law_books_here","_law_name","_law_wider","_law_make_here"] T.h_z21 Aj2 Pb fun _ _ _ _ _ _ _ hr nd=>(Ae (Hz nd (Dp (Ao (Bo Al) Al))) (Ae (Cr Az4 rfl (Ce (Ai 1)) (Tg nd) (Ae (Hz nd (Abf B.b_list (Ao (Ai 2) Al))) (Ae (Cr Az4 rfl (Ce (Dq (Ae0 (Agt T B) hr (Ao (Ai 0) (Ao (A5 3) Al))))) (Tg nd) (Am (Hz nd (Xo (Ai 4) (Dq (Cd [3,5] ["_law_name","_law_make_here","_law_book"] rfl (Ce (Ai 2)) (Ck 2) (fun _ _ _ _ _ _=>(Cq (show (["_law_name","_law_make_here","_law_book"]:List Str).Nodup by decide))) (fun _ _ _ _ _ _=>C7) (fun _ _ _ _ _ _=>(Bq B3 (Ai 2) (Bo (Ao (Bo (Ao (A5 0) (Ao (A5 1) Al))) Al)))))))))) (Am (Cf nd (Ai 4)))))) (Am (A9 (Ai 2)))))
theorem Agu:Cl P w K mg base 4 "_law_sound" 3 Jp :=
 Du ["_law_shelf_here","_law_wants","_law_book","_law_taken","_law_need"] T.h_z22 Aj3 Jp fun _ _ _ _ _ _ _ hr nd=>(Ae (Cf nd (U2 hr B.b_dict (Ao (Ai 2) Al))) (Ae (Cr Az4 rfl (Ce (Dq (Ae0 (Ags T B) hr (Ao (Ai 0) (Ao (Ai 1) (Ao (Ai 2) Al)))))) (G6 nd) (Am (Cs (D1 (Abk (Ba Px (Av (Ai 4) Ah) (Ai 3)) (U3 (Ec (Aw3 (Aqs T B) hr (Ao (Ai 4) (Ao (Ai 3) Al))))))) (Am (A9 Abc)) Br))) (Am (A9 Abc))))
theorem Aqp:Cl P w K mg base 2 "_law_reached" 3 L8 :=
 Du ["_law_shelf_here","_law_wants","_law_book","_law_known","_law_turn","_law_need"] T.h_z11 Ajs L8 fun _ _ _ _ _ _ _ hr nd=>(Ae (Ae7 nd (Cd [] ["_law_name","_law_span_here"] rfl (Ce (Ai 1)) (Yq 0 1 (by decide)) (fun _ _ _ _ _ _=>(Dw rfl (Bb (Cq (show (["_law_name","_law_span_here"]:List Str).Nodup by decide)) (Bb (Cq (show (["_law_name","_law_span_here"]:List Str).Nodup by decide)) Dv)))) (fun _ _ _ _ _ _=>C7) (fun _ _ _ _ _ _=>(Ai 0)))) (Ae (Cr Az4 rfl (P1 B.b_range (Ao (Ed B.b_len (Ao (Ai 2) Al)) Al)) (G6 nd) (Am (Cr Az4 rfl (Ce (Dq (Ae0 (Ags T B) hr (Ao (Ai 0) (Ao (Bo Al) (Ao (Ai 2) Al)))))) (G6 nd) (Am (Cs (D1 (P0 (Ba (Akw hr) (Av (Ai 5) Ah) (A5 3)) (J9 (Ba (C8 hr) (Av (Ai 5) Ah) (A5 3))))) (Am (Mq (A5 3) (Ao (Av (Ai 5) Ah) Al))) Br))))) (Am (A9 (Hy (Dj hr) (Dq (Cd [3] ["_law_known","_law_name","_law_make_here"] rfl (Ce (Ai 2)) (Yq 1 2 (by decide)) (fun _ _ _ _ _ _=>(Dw rfl (Bb (Cq (show (["_law_known","_law_name","_law_make_here"]:List Str).Nodup by decide)) (Bb (Cq (show (["_law_known","_law_name","_law_make_here"]:List Str).Nodup by decide)) Dv)))) (fun _ _ _ _ _ _=>(H4 (Ba (C8 hr) (Ai 1) (A5 0)))) (fun _ _ _ _ _ _=>(Ai 1)))) (Dq (Dp Al)))))))
theorem Avu:Cl P w K mg base 5 "_law_none_newer" 4 Y8 :=
 Du ["_law_shelf_here","_law_sounds","_law_ahead","_law_pair","_law_makes_here","_law_make_here","_law_book"] T.h_z4 Avg Y8 fun _ _ _ _ _ _ _ hr nd=>(Ae (Cf nd (Dq (Ae0 (Agt T B) hr (Ao (Ai 0) (Ao (Av (Ai 3) Ah) Al))))) (Ae (Cr Az4 rfl (Ce (Dq (Amj (Ai 4) J8 (D2 (Abe hr (Ai 4) (Ao (Av (Ai 3) Ah) Al)))))) (G6 nd) (Am (Cr Az4 rfl (Ce (Ai 1)) (Tg nd) (Am (Cs (Ba (Dj hr) (Dq (Cd [6] ["_law_book","_law_one"] rfl (Ce (Dq (Xo (Ai 2) (Dq (Dp (Ao (Bo (Ao (Av (Ai 3) Ah) (Ao (Ai 5) Al))) Al)))))) (Ck 1) (fun _ _ _ _ _ _=>(Cq (show (["_law_book","_law_one"]:List Str).Nodup by decide))) (fun _ _ _ _ _ _=>(H4 (Ba (C8 hr) (Ai 1) (A5 0)))) (fun _ _ _ _ _ _=>(Ai 1)))) (Dq (Dp Al))) (Am (A9 Abc)) Br))))) (Am (A9 Abc))))
include hB in
theorem Aqn {a:Addr}{fd:FuncData} (F:Fun K "law" "law" Rc a fd):FnOk P w K mg base CX0 67 a fd ["_law_script"] (spT (tabs p_z1) K 1 L7) :=
 Awb F sc_law Ajq L7 rfl rfl fun A outer s H E hT hr=>(Ae (C6 sc_law.nd (El (Aqy T B) hr (An (Ap (Ai 0)) Az))) (Ae (Abh (El (Aqw T B) hr (An (Ap (Ai 1)) Az)) (Dw rfl (Bb (Tg sc_law.nd) (Bb (G6 sc_law.nd) (Bb (Tg sc_law.nd) Dv))))) (Ae (Cs (Ba Akv (Ed B.b_len (Ao (A5 2) Al)) Ah) (Ae (Oa sc_law.nd (Dq (Amj (A5 2) J8 (D2 Ah)))) (Am (Oa sc_law.nd (C9 B.b_tuple (Ao (Dq (Cd [2] ["_law_names_here","_law_entry"] rfl (Ce (A5 4)) (Ck 1) (fun _ _ _ _ _ _=>(Cq (show (["_law_names_here","_law_entry"]:List Str).Nodup by decide))) (fun _ _ _ _ _ _=>(H4 (Ba (Akw hr) (Av (Ai 1) Ah) (A5 0)))) (fun _ _ _ _ _ _=>(Ai 1)))) Al))))) Br) (Ae (Ja (El (Uv T B) hr (An (Ap (Ai 1)) (An (Ap Ah) Az)))) (Ae (G1 sc_law.nd (El (Aq3 T B) hr (An (Ap (Ai 1)) (An (Ap (A5 2)) (An (Ap Hj) (An (Ap (Ai 3)) (An (Ap Ah) Az))))))) (Ae (Iz [4,5] ["_law_shelf_here","_law_wants","_law_book"] sc_law.nd rfl (Ce (Dq (Ae0 (Aqx T B) hr (Ao (A5 4) (Ao (A5 2) Al))))) (Ck 2) (fun _ _ _ _ _ _=>(Cq (show (["_law_shelf_here","_law_wants","_law_book"]:List Str).Nodup by decide))) (fun _ _ _ _ _ _=>(H4 (Ec (q_c (Agu T B) hr (Ao (A5 0) (Ao (A5 1) (Ao (Ai 2) Al))))))) (fun _ _ _ _ _ _=>(Ai 2))) (Ae (C6 sc_law.nd (Ae1 hT (Aqt T B hB) hr (An (Ap (A5 4)) (An (Ap (A5 5)) Az)))) (Ae (Cs (Ba (Dj hr) (Ai 6) (Dq (Dp Al))) (Am (A9 (Hy (Dj hr) (Av (Ai 7) Ah) Hj))) Br) (Ae (Cs (D1 (Abk (Ba (Aky hr) (Av (Ai 7) Ah) Hj) (Abk (Mp (Ec (q_c (Agu T B) hr (Ao (A5 4) (Ao (A5 5) (Ao (Av (Ai 7) Ah) Al)))))) (U3 (Mp (Ec (q_c (Aqp T B) hr (Ao (A5 4) (Ao (A5 5) (Ao (Av (Ai 7) Ah) Al)))))))))) (Am (A9 Abc)) Br) (Ae (Iz [] ["_law_step"] sc_law.nd rfl (Ce (Av (Ai 7) Ah)) (Ck 0) (fun _ _ _ _ _ _=>(Cq (show (["_law_step"]:List Str).Nodup by decide))) (fun _ _ _ _ _ _=>C7) (fun _ _ _ _ _ _=>(Atx (Ai 0) J8 (D2 Ah)))) (Ae (Cs (D1 (Abk (Ba (Aky hr) (Dq (N6 hr B.b_sorted (Ao (Ai 8) Al))) (Dq (Abf B.b_list (Ao (Av (Ai 7) Ah) Al)))) (U3 (Ba (C8 hr) (Av (Ai 7) Ah) (Dq (Cd [] ["_law_book"] rfl (Ce (Ai 6)) (Ck 0) (fun _ _ _ _ _ _=>(Cq (show (["_law_book"]:List Str).Nodup by decide))) (fun _ _ _ _ _ _=>C7) (fun _ _ _ _ _ _=>(C9 B.b_tuple (Ao (Dq (N6 hr B.b_sorted (Ao (Ai 0) Al))) Al))))))))) (Am (A9 Abc)) Br) (Ae (Cr Az4 rfl (P1 B.b_range (Ao (Ed B.b_len (Ao (Ai 8) Al)) Al)) (G6 sc_law.nd) (Am (Cs (Mp (Ec (q_c (Avu T B) hr (Ao (A5 4) (Ao (Ai 6) (Ao (Dq (Amj (Ai 8) J8 (D2 (Ai 9)))) (Ao (Av (Ai 8) (Ai 9)) Al))))))) (Am (A9 Abc)) Br))) (Am (A9 Abc))))))))))))))
end
end
end K61a
end S_K61a
section S_GA
namespace K61a
open PySem L2 L2.ML
set_option hygiene false in
local macro_rules|`(tactic| simp_arith[$a,*])=>`(tactic| ((try dsimp only[mp1,mp2,mp3,ln1,ln2,ln3,List.replicate,Nat.reduceAdd,Nat.reduceSub]);simp only[↓Au9,↓Au8,↓Ajk,↓Ajj,↓B8,↓Amt,↓Amu,↓Amr,↓Ams,↓Aoq,↓Aoo,↓Aop,↓Aiw,↓T5,↓Rk,↓Auu,↓Axx,↓Axw,↓Axv,↓An6,↓Aip,↓Aii,↓Acn,↓Aug,↓An0,↓An4,↓Acr,↓Rn,↓Aua,↓Afw,↓Aou,↓Aow,↓Aov,↓Anv,↓Aui,↓An1,↓Aig,↓An2,↓Aim,↓Auf,↓Auj,↓Auh,↓Ain,↓Aub,↓Aoi,↓Af4,↓An3,↓Awj,↓Awk,↓Anw,↓Anz,↓Afx,↓Aij,↓Jd,↓G7,↓Anp,↓Anq,↓Anr,↓Aot,↓Aof,↓Anu,↓Af2,↓Aoj,↓Aut,↓Auk,↓Axu,↓Ax4,↓Aur,↓Gm,↓Aup,↓Auo,↓Auq,↓Aod,↓Af0,↓Aoc,↓Af1,↓At9,↓Af5,↓Aun,↓Aum,↓X9,↓Vn,↓Vm,↓Ai0,↓Ai3,↓Ai1,↓Auw,↓Aux,↓Vk,↓Vl,↓Au0,↓Au2,↓Ao2,↓Ao1,↓Ao0,↓Azb,↓Ay9,↓Aza,↓Ai4,↓Awi,↓Aol,↓Afj,↓Afi,↓Afh,↓Afk,↓Vv,↓Ayc,↓Axk,↓Ayd,↓Ax5,↓Axz,↓Axl,↓Aye,↓Ax6,↓Ax0,↓Axm,↓Ayf,↓Ax7,↓Ax1,↓Axn,↓Ayg,↓Ax8,↓Ax2,↓Axo,↓Ayh,↓Ax9,↓Ax3,↓Axp,↓Ayi,↓Aya,↓Axq,↓Ayj,↓Axr,↓Ayk,↓Ayb,↓Axs,↓Ayl,↓Axt,Bool.not_true,Bool.not_false,T5,Rk,↓Auv,↓Aos,↓Af6,↓As2,↓Ac1,↓Aon,↓Aqb,↓Aoh,↓Oi,↓Acy,↓Air,↓Aok,↓Afv,↓Aie,↓Ant,↓Aus,↓Ai2,↓Aor,Azo,Bbo,Azr,Bb6,Bar,Azm,Bbb,List.replicate,List.set_cons_zero,List.set_cons_succ,Nat.reduceAdd,Nat.reduceSub,Nat.zero_add,true_and,Bs,B9,Agb,B5,Ei,decide_true,decide_false,Ac8,Ym,List.getElem?_cons_zero,Baz,Azv,_root_.id,Aor,Au1,Aiz,Pp,C3,Be,A2,Bn,Ak,Bool.and_self,Bool.and_true,Bool.true_and,Mk.pure,Mark.pure,R8,Co,↓Vh,↓Vi,↓Aib,↓Ans,Ayq,↓Ady,↓Adx,↓Adw,↓Adz,Int.reduceEq,Int.reduceLT,Int.reduceLE,Int.reduceAdd,Int.reduceSub,Int.reduceMul,Int.reduceToNat,Int.reducePow,Int.reduceNeg,Int.reduceMod,Int.reduceDiv,Nat.reduceLeDiff,Nat.reduceMul,Nat.reduceEqDiff,Nat.reducePow,Nat.reduceLT,and_true,and_self,true_or,or_true,Azn,Int.le_refl,Az5,Au5,↓Adu,↓Adt,↓Ads,↓Adv,Amk,Baf,Bool.true_eq_false,Z1,Ap5,Ajc,Mark.deq,Mk.deq,Int.zero_add,↓Ap6,↓Ap7,↓Ap8,↓Ap9,Ba0,List.any_nil,Ban,List.all_nil,Bool.false_or,Bool.true_or,Bool.or_false,Bool.false_and,↓Aic,↓Ad2,↓Ad1,↓Ad0,↓Ad3,↓Ai5,↓Asx,Ap1,Aae,Aap,Iy,↓Arh,↓Ari,↓Arj,↓Aqi,Option.isNone_none,Option.isNone_some,Option.isSome_none,Bca,Pq,Ai9,bne_self_eq_false,↓Au4,↓An9,↓Axy,↓Aue,↓Aud,↓Aiq,↓Acv,↓Aio,↓Aik,↓Acs,↓Acp,↓Anx,↓Aih,↓Aiy,↓Aix,↓Acz,↓Aom,↓Ait,↓Yd,Aby,↓Aiv,↓Ail,↓Aco,↓Ac0,↓Acq,↓Aid,↓Acm,↓Ajo,↓Aiu,↓Aks,Aji,Ajh,List.set_cons_zero,List.set_cons_succ,↓Auc,↓Aoy,↓Aox,↓Auz,↓Auy,↓Aul,↓Aog,↓An7,$a,*]))
set_option hygiene false in
local macro_rules|`(tactic| array_get_dec)=>`(tactic| try simp_arith[true_and])
abbrev fdL (ns:List Int) (c o g:Int):MObj:=.lst [.kl (ns.map .int),.int c,.int o,.int g]
theorem Afy {Q:Nat->Prop}:W (ixN 4 1) Q=Q 1:=Ab
theorem Afz {Q:Nat->Prop}:W (ixN 4 3) Q=Q 3:=Ab
theorem Bj (ns:List Int) (c o g:Int) (r:MH) (n:Int) (h0:0 < n) (h1:n < 1000) (hc:0<=c) (hc1:c < 1000000):W (Bu [.ref 0,.int n] (fdL ns c o g::r)) fun x=>∃ k g':Int,x=(.int k,fdL ns (c+1) o g'::r)/\0<=k/\k < n:=by
 unfold Bu Aj6
 rw[D6]
 simp_arith[Afy,Afz,Azo,Bbo]
 refine cK.dec (fun _=>⟨h0,⟨h0,by lia⟩,_,_,rfl,Int.emod_nonneg _ (by lia),Int.emod_lt_of_pos _ h0⟩) fun _=>⟨.inr ⟨by lia,by lia⟩,.inl ⟨by lia,by lia⟩,h0,_,_,rfl,Int.emod_nonneg _ (by lia),Int.emod_lt_of_pos _ h0⟩
theorem Ajg (ns:List Int):W (Pd [.kl (ns.map .int)] []) fun x=>∃ o:Int,x=(.ref 0,[fdL ns 0 o 0]):=by
 unfold Pd Aj4
 rw[D6]
 array_get_dec
 refine cK.dec (fun h=>?_) fun _=>⟨_,rfl⟩
 have hl:0 < ns.length:=by lia
 have:=M8 (f:=D.int) (xs:=ns) (k:=0) hl (Q:=fun x=>W (Xi x (.int 2) []) fun d=>∃ o,(D.ref 0,[MObj.lst [D.kl (ns.map .int),D.int 0,d,D.int 0]])=(D.ref 0,[fdL ns 0 o 0]))
 rw[show ((0:Nat):Int)=0 from rfl] at this
 rw[this,Af2]
 exact⟨by decide,_,rfl⟩
theorem Nx (ns:List Int) (hl:ns.length<=63) (c o g:Int) (r:MH) (k:Int) (h0:0<=k) (h1:k < 1000):W (Hs [.ref 0,.int k] (fdL ns c o g::r)) fun x=>∃ g':Int,x=(.non,fdL ns (100 * k) o g'::r):=by
 unfold Hs Aj5
 rw[D6]
 simp_arith[Afy,Afz,Azo,Bbo]
 refine cK.dec (fun h=>⟨h,?_⟩) fun _=>⟨_,rfl⟩
 refine Vj (Int.emod_nonneg _ (by lia)) (by rw[Azr];exact Int.emod_lt_of_pos _ h) fun d _ hd=>?_
 obtain⟨i,_,rfl⟩:=List.mem_map.mp hd
 exact⟨_,rfl⟩
theorem sqC {M r:MH}{a:List D}{x:MObj}{Q:List D->Prop}:W (sq (x::(M++.lst a::r)) (.ref (M.length+1))) Q=Q a:=by
 have e:(x::(M++MObj.lst a::r))[M.length+1]?=some (.lst a):=by simp
 have e2:sq (x::(M++MObj.lst a::r)) (.ref (M.length+1))=some a:=by unfold sq;simp only[e]
 rw[e2,Ab]
theorem At0 {M r:MH}{x y z:MObj}:(z::(M++x::r)).set (M.length+1) y=z::(M++y::r):=by simp
theorem Aoa {k:Int} (h0:0<=k) (h1:k < 3) {Q:Nat->Prop} (q:∀ j:Nat,j < 3->Q j):W (ixN 3 k) Q:=by
 have:k=0\/k=1\/k=2:=by lia
 rcases this with rfl|rfl|rfl
 ·exact⟨0,rfl,q 0 (by decide)⟩
 ·exact⟨1,rfl,q 1 (by decide)⟩
 ·exact⟨2,rfl,q 2 (by decide)⟩
theorem Ako (ns:List Int) (c o g:Int) (r:MH) (hc:0<=c) (hc1:c < 900000):W (Ma [.ref 0] (fdL ns c o g::r)) fun x=>∃ (mk:Mk) (c' g':Int) (t:MH),x=(mk.d,fdL ns c' o g'::(r++t))/\mk.ms.length<=2/\0<=c'/\c'<=c+9:=by
 unfold Ma Aj8
 rw[D6]
 array_get_dec
 refine⟨fun _=>trivial,?_⟩
 refine (Bj ns c o g r 3 (by decide) (by decide) hc (by lia)).imp fun x ⟨k1,g1,e,a1,b1⟩=>?_
 subst e
 refine (Bj ns _ o g1 r 3 (by decide) (by decide) (by lia) (by lia)).imp fun x ⟨k2,g2,e,a2,b2⟩=>?_
 subst e
 refine (Bj ns _ o g2 r 3 (by decide) (by decide) (by lia) (by lia)).imp fun x ⟨k3,g3,e,a3,b3⟩=>?_
 subst e
 simp only[Bar]
 refine (Bj ns _ o g3 _ 3 (by decide) (by decide) (by lia) (by lia)).imp fun x ⟨k4,g4,e,a4,b4⟩=>?_
 subst e
 refine (Bj ns _ o g4 _ 2 (by decide) (by decide) (by lia) (by lia)).imp fun x ⟨k5,g5,e,a5,b5⟩=>?_
 subst e
 refine (Bj ns _ o g5 _ 8 (by decide) (by decide) (by lia) (by lia)).imp fun x ⟨k6,g6,e,a6,b6⟩=>?_
 subst e
 array_get_dec
 refine Vj a6 (by simpa using b6) fun q _ hq=>?_
 obtain⟨ms,rfl,hms⟩:∃ ms:List Mark,q=.tup (ms.map Mark.d)/\ms.length<=2:=by
  simp only[Bba,Bap,or_false] at hq
  rcases hq with rfl|rfl|rfl|rfl|rfl|rfl|rfl|rfl
  ·exact⟨[],rfl,by decide⟩
  ·exact⟨[],rfl,by decide⟩
  ·exact⟨[],rfl,by decide⟩
  ·exact⟨[.n k4],rfl,by simp⟩
  ·exact⟨[.s (Str.ofString "a")],rfl,by simp⟩
  ·exact⟨[.s (Str.ofString "ab"),.n k5],rfl,by simp⟩
  ·exact⟨[.n 0,.s (Str.ofString "b")],rfl,by simp⟩
  ·exact⟨[.s (Str.ofString "a"),.n 0],rfl,by simp⟩
 refine (Bj ns _ o g6 _ 16 (by decide) (by decide) (by lia) (by lia)).imp fun x ⟨k7,g7,e,a7,b7⟩=>?_
 subst e
 simp_arith[Azo]
 refine cK.dec (fun _=>?_) fun _=>?_
 ·refine (Bj ns _ o g7 _ 2 (by decide) (by decide) (by lia) (by lia)).imp fun x ⟨k8,g8,e,a8,b8⟩=>?_
  subst e
  array_get_dec
  refine (Bj ns _ o g8 _ 3 (by decide) (by decide) (by lia) (by lia)).imp fun x ⟨k9,g9,e,a9,b9⟩=>?_
  subst e
  simp only
  rw[Aby,sqC]
  refine Aoa a9 b9 fun j hj=>?_
  rw[At0]
  obtain⟨p1,p2,p3,e⟩:∃ p1 p2 p3:Int,[D.int k1,D.int k2,D.int k3].set j (.int (999999999998 - k8))=[.int p1,.int p2,.int p3]:=by
   have:j=0\/j=1\/j=2:=by lia
   rcases this with rfl|rfl|rfl
   ·exact⟨_,_,_,rfl⟩
   ·exact⟨_,_,_,rfl⟩
   ·exact⟨_,_,_,rfl⟩
  rw[e]
  simp_arith[sqC]
  exact⟨⟨p1,p2,p3,ms⟩,_,_,_,rfl,hms,by lia,by lia⟩
 ·simp_arith[sqC]
  exact⟨⟨k1,k2,k3,ms⟩,_,_,_,rfl,hms,by lia,by lia⟩
theorem Abp {n:Nat}:(C4 0 n).length=n:=by unfold C4;simp
abbrev Ltr:Str:=Str.ofString "abcdefghijklmnopqrstuvwxyz"
theorem Akn {q:Nat} (h:q∈Ltr.cps.toList):PyData.strOk ⟨#[q]⟩=true:=by
 have h1:PyData.strOk Ltr=true:=E2 _
 unfold PyData.strOk at h1 ⊢
 rw[Array.all_eq_true'] at h1
 have:=h1 q (by simpa using h)
 simpa using this
abbrev wrds:List Str:=[Str.ofString "part",Str.ofString "need",Str.ofString "wants",Str.ofString "broken",Str.ofString "open",Str.ofString "shelf"]
noncomputable def nm0 (b k:Nat):Str:=wrds.getD ((b+k) % 6) (Str.ofString "")
noncomputable def nm1 (b k:Nat):Str:=Txt.slice (Str.ofString "abcdefghijklmnopqrstuvwxyz"++Str.ofString "abcdefghijklmnopqrstuvwxyz") (some (b:Int)) (some ((b:Int)+1+(k:Int)))
noncomputable def lt2 (b k:Nat):Nat:=Ltr.cps.toList.getD ((b+7 * k) % 26) 0
theorem Aqe:∀ b,b < 26->((List.range 6).map (nm0 b)).Nodup:=by decide +kernel
theorem Aqf:∀ b,b < 26->((List.range 6).map (nm1 b)).Nodup:=by decide +kernel
theorem Ap2:∀ b,b < 26->((List.range 6).map (lt2 b)).Nodup:=by decide +kernel
theorem Y4 {α:Type}{f:Nat->α} (h:((List.range 6).map f).Nodup) {n:Nat} (hn:n<=6):((List.range n).map f).Nodup:=h.sublist ((List.range_sublist.mpr hn).map f)
theorem Am5 {A B:Str}{x y:Nat} (h:A++(⟨#[x]⟩:Str)++B=A++(⟨#[y]⟩:Str)++B):x=y:=by
 have h2:(A.cps++#[x]++B.cps).toList=(A.cps++#[y]++B.cps).toList:=Ba4 (fun s:Str=>s.cps.toList) h
 simp only[Array.toList_append] at h2
 have h3:=List.append_cancel_left (List.append_cancel_right h2)
 simpa using h3
theorem Ap4 {A B:Str}{f:Nat->Nat}{n:Nat} (h:((List.range n).map f).Nodup):((List.range n).map fun k=>A++(⟨#[f k]⟩:Str)++B).Nodup:=by
 unfold List.Nodup at h ⊢
 rw[List.pairwise_map] at h ⊢
 exact h.imp fun h z=>h (Am5 z)
theorem Ad5 (ns:List Int) (c o g:Int) (r:MH) (n:Int) (h0:1<=n) (h1:n<=6) (hc:0<=c) (hc1:c < 900000):W (O8 [.ref 0,.int n] (fdL ns c o g::r)) fun x=>∃ (ts:List Str) (c' g':Int),x=(.ref (r.length+1),fdL ns c' o g'::(r++[.lst (ts.map .str)]))/\ts.length=n.toNat/\ts.Nodup/\0<=c'/\c'<=c+5:=by
 unfold O8 Ajx
 rw[D6]
 array_get_dec
 refine (Bj ns c o g r 3 (by decide) (by decide) hc (by lia)).imp fun x ⟨k1,g1,e,a1,b1⟩=>?_
 subst e
 refine (Bj ns _ o g1 r 26 (by decide) (by decide) (by lia) (by lia)).imp fun x ⟨k2,g2,e,a2,b2⟩=>?_
 subst e
 array_get_dec
 have hn:(C4 0 n.toNat).length<=1000000:=by rw[Abp];lia
 have hn6:n.toNat<=6:=by lia
 obtain⟨b,rfl⟩:∃ b:Nat,k2=(b:Int):=⟨k2.toNat,by lia⟩
 have hb:b < 26:=by lia
 have er:C4 0 n.toNat=(List.range n.toNat).map fun k:Nat=>D.int (0+(k:Int)):=rfl
 rw[er] at hn ⊢
 have fin:∀ (f:Nat->Str) (C G:Int),((List.range n.toNat).map f).Nodup->0<=C->C<=c+5->∃ (ts:List Str) (c' g':Int),(D.ref (r.length+1),fdL ns C o G::(r++[MObj.lst ((List.range n.toNat).map fun k=>D.str (f k))]))=(D.ref (r.length+1),fdL ns c' o g'::(r++[MObj.lst (ts.map .str)]))/\ts.length=n.toNat/\ts.Nodup/\0<=c'/\c'<=c+5:=fun f C G h h3 h4=>⟨(List.range n.toNat).map f,C,G,by rw[Bbh];rfl,by simp,h,h3,h4⟩
 refine cK.dec (fun _=>⟨⟨by lia,by lia⟩,hn,Bl (fun k=>.str (nm0 b k)) (fun k hk=>?_) (fin _ _ _ (Y4 (Aqe b hb) hn6) (by lia) (by lia))⟩) fun _=>cK.dec (fun _=>⟨⟨by lia,by lia⟩,hn,Bl (fun k=>.str (nm1 b k)) (fun k hk=>?_) (fin _ _ _ (Y4 (Aqf b hb) hn6) (by lia) (by lia))⟩) fun _=>?_
 ·array_get_dec
  rw[show ((b:Int)+(k:Int)) % 6=(((b+k) % 6:Nat):Int) by lia,show [D.str (Str.ofString "part"),D.str (Str.ofString "need"),D.str (Str.ofString "wants"),D.str (Str.ofString "broken"),D.str (Str.ofString "open"),D.str (Str.ofString "shelf")]=wrds.map D.str from rfl]
  have hk6:(b+k) % 6 < wrds.length:=Nat.mod_lt _ (by decide)
  rw[M8 hk6]
  unfold nm0
  rw[Azk,Azl hk6];rfl
 ·array_get_dec
  exact⟨by decide +kernel,by decide +kernel,rfl⟩
 ·refine (Bj ns _ o g2 r 8 (by decide) (by decide) (by lia) (by lia)).imp fun x ⟨k3,g3,e,a3,b3⟩=>?_
  subst e
  array_get_dec
  refine (Bj ns _ o g3 r (1+k3) (by lia) (by lia) (by lia) (by lia)).imp fun x ⟨k4,g4,e,a4,b4⟩=>?_
  subst e
  refine (Bj ns _ o g4 r 26 (by decide) (by decide) (by lia) (by lia)).imp fun x ⟨k5,g5,e,a5,b5⟩=>?_
  subst e
  array_get_dec
  refine⟨by decide +kernel,Vj a5 (show k5 < ((Ltr.cps.toList.length:Nat):Int) by rw[show Ltr.cps.toList.length=26 by decide +kernel];lia) fun q _ hq=>⟨⟨by lia,by lia⟩,by simp;lia,Bl (fun k=>.str (U4 ⟨#[q]⟩ k4++(⟨#[lt2 b k]⟩:Str)++U4 ⟨#[q]⟩ (1+k3 - 1 - k4))) (fun k hk=>?_) (fin _ _ _ (Ap4 (Y4 (Ap2 b hb) hn6)) (by lia) (by lia))⟩⟩
  have hq1:=Akn hq
  have l1:=Ob (x:=⟨#[q]⟩) (n:=k4) a4
  have l2:=Ob (x:=⟨#[q]⟩) (n:=1+k3 - 1 - k4) (by lia)
  have lq:(⟨#[q]⟩:Str).length=1:=rfl
  rw[lq] at l1 l2
  simp_arith[Af3 (x:=⟨#[q]⟩) (n:=k4) a4 (by lia) (by rw[lq];decide) hq1,Af3 (x:=⟨#[q]⟩) (n:=1+k3 - 1 - k4) (by lia) (by lia) (by rw[lq];decide) hq1]
  have hk26:(b+7 * k) % 26 < Ltr.cps.toList.length:=by rw[show Ltr.cps.toList.length=26 by decide +kernel];exact Nat.mod_lt _ (by decide)
  rw[show ((b:Int)+7 * (k:Int)) % 26=(((b+7 * k) % 26:Nat):Int) by lia]
  refine⟨by decide +kernel,?_⟩
  have el:Ltr.cps.toList[(b+7 * k) % 26]=lt2 b k:=by
   unfold lt2
   rw[Azk,Azl hk26];rfl
  refine Vj (by lia) (show (((b+7 * k) % 26:Nat):Int) < ((Ltr.cps.toList.length:Nat):Int) from Int.ofNat_lt.mpr hk26) fun z hz _=>?_
  rw[Int.toNat_natCast,Azl hk26] at hz
  have ez:lt2 b k=z:=el.symm.trans (Bag hz)
  have lz:(⟨#[z]⟩:Str).length=1:=rfl
  refine⟨by rw[lz];lia,by rw[strLen_append,lz];lia,by rw[ez]⟩
abbrev Pr:=Str×Mk
def prD (x:Pr):D:=.tup [.str x.1,x.2.d]
theorem N4 (x:Pr):Bg (prD x)=true:=by
 unfold prD
 rw[A2,Ak,Ak,Bn,Be,x.2.pure];rfl
theorem sqE {M:MH}{a:List D}{Q:List D->Prop}:W (sq (M++[.lst a]) (.ref M.length)) Q=Q a:=by
 have e:(M++[MObj.lst a])[M.length]?=some (.lst a):=by simp
 have e2:sq (M++[MObj.lst a]) (.ref M.length)=some a:=by unfold sq;simp only[e]
 rw[e2,Ab]
theorem xpE {M:MH}{a:List D} (h:Bf a=true) {Q:D->Prop}:W (Cg (M++[.lst a]) (.ref M.length)) Q=Q (.lst a):=by
 have e:(M++[MObj.lst a])[M.length]?=some (.lst a):=by simp
 have e2:Cg (M++[MObj.lst a]) (.ref M.length)=some (.lst a):=by rw[Cg];simp only[e,h,Bbc]
 rw[e2,Ab]
theorem Awt {M:MH}{a:List D} (h:Bf a=true):B7 (M++[.lst a]) (.ref M.length)=some (.lst a):=by
 have e:(M++[MObj.lst a])[M.length]?=some (.lst a):=by simp
 unfold B7;simp only[e,Ay h,Bbc]
theorem Ats {M:MH}{ms:List Mk}{x:Mk}{Q:D->Prop}:W (Bz x.d (.ref M.length) (M++[.lst (ms.map Mk.d)])) Q=Q (.bl (!decide (x∈ms))):=by
 have e:inO (M++[.lst (ms.map Mk.d)]) x.d (.ref M.length)=some (decide (x∈ms)):=by
  unfold inO
  simp only[By x.pure,Awt (Co ms),Azv]
  rw[show sq [] (D.lst (ms.map Mk.d))=some (ms.map Mk.d) from rfl,Azv]
  have:=x.dep
  rw[Azp (by lia)]
  congr 1
  rw[Ba3,List.any_eq_true,Bat]
  constructor
  ·rintro ⟨d,hd,h⟩
   obtain⟨y,hy,rfl⟩:=List.mem_map.mp hd
   rw[Mk.deq] at h
   rw[<- Baa h];exact hy
  ·exact fun h=>⟨x.d,List.mem_map.mpr ⟨x,h,rfl⟩,by rw[Mk.deq];simp⟩
 unfold Bz
 rw[e,Azv,Ab]
theorem Alv (st:List Pr) (hl:st.length<=40) (hm:∀ x∈st,x.2.ms.length<=2):W (Pg [.lst (st.map prD)]) fun d=>∃ ms:List Mk,d=.lst (ms.map Mk.d)/\0 < ms.length/\ms.length<=1+2 * st.length/\∀ x∈ms,x.ms.length<=3:=by
 unfold Pg Aka
 rw[B8]
 array_get_dec
 refine Ct (fun rest e m=>(∀ x∈rest,x∈st)/\∃ (M:MH) (ms:List Mk) (u v w:Option D),m=M++[.lst (ms.map Mk.d)]/\0 < ms.length/\ms.length+2 * rest.length<=1+2 * st.length/\(∀ x∈ms,x.ms.length<=3)/\e=[some (.lst (st.map prD)),some (.ref M.length),u,v,w]) ?_ ?_ ⟨fun _ h=>h,[],[⟨0,0,0,[.n 0]⟩],none,none,none,rfl,by decide,by simp,fun x hx=>by rw[List.mem_singleton.mp hx];decide,rfl⟩
 ·rintro ⟨t,x⟩ rest e m ⟨hs,M,ms,u,v,w,rfl,h1,h2,h3,rfl⟩
  refine⟨trivial,?_⟩
  have hx:=hm _ (hs _ (Azg ..))
  have ex:prD (t,x)=.tup [.str t,.tup [.int x.a,.int x.b,.int x.c,.tup (x.ms.map Mark.d)]]:=rfl
  have fin:∀ (as:List Mk) (d4:D),as.length<=2->(∀ y∈as,y.ms.length<=3)->(∀ x∈rest,x∈st)/\∃ (M':MH) (ms':List Mk) (u v w:Option D),M++[MObj.lst (ms.map Mk.d)]++[MObj.lst (ms.map Mk.d++as.map Mk.d)]=M'++[.lst (ms'.map Mk.d)]/\0 < ms'.length/\ms'.length+2 * rest.length<=1+2 * st.length/\(∀ x∈ms',x.ms.length<=3)/\[some (D.lst (st.map prD)),some (D.ref (M++[MObj.lst (ms.map Mk.d)]).length),some (D.str t),some (D.tup [.int x.a,.int x.b,.int x.c,.tup (x.ms.map Mark.d)]),some d4]=[some (D.lst (st.map prD)),some (.ref M'.length),u,v,w]:=fun as d4 ha hb=>by
   refine⟨fun y hy=>hs y (Azf _ hy),M++[MObj.lst (ms.map Mk.d)],ms++as,_,_,_,by rw[Bav],by simp;lia,?_,fun y hy=>?_,rfl⟩
   ·simp only[Azo,Azx] at h2 ⊢;lia
   ·rcases List.mem_append.mp hy with hy|hy
    ·exact h3 y hy
    ·exact hb y hy
  have hlen:ms.length<=100:=by simp only[Azo] at h2;lia
  have n1:=@Ats M ms x
  have n2:=@Ats M ms ⟨x.a,x.b,x.c+1,[.n 0]⟩
  have n3:=@Ats M ms ⟨x.a,x.b,x.c,x.ms++[.n 0]⟩
  have e3:(Mk.mk x.a x.b x.c (x.ms++[.n 0])).d=.tup [.int x.a,.int x.b,.int x.c,.tup (x.ms.map Mark.d++[.int 0])]:=by unfold Mk.d;rw[Bav];rfl
  rw[e3] at n3
  change ∀ {Q:D->Prop},W (Bz (.tup [.int x.a,.int x.b,.int x.c,.tup (x.ms.map Mark.d)]) (.ref M.length) (M++[.lst (ms.map Mk.d)])) Q=_ at n1
  change ∀ {Q:D->Prop},W (Bz (.tup [.int x.a,.int x.b,.int (x.c+1),.tup [.int 0]]) (.ref M.length) (M++[.lst (ms.map Mk.d)])) Q=_ at n2
  simp_arith[ex,n1,n2,n3,sqE]
  have hx:x.ms.length<=2:=hx
  have hy1:∀ y∈[x,⟨x.a,x.b,x.c+1,[.n 0]⟩],y.ms.length<=3:=fun y hy=>by
   rcases List.mem_cons.mp hy with rfl|hy
   ·lia
   ·rw[List.mem_singleton.mp hy];simp
  have hy2:∀ y∈[x,⟨x.a,x.b,x.c,x.ms++[.n 0]⟩],y.ms.length<=3:=fun y hy=>by
   rcases List.mem_cons.mp hy with rfl|hy
   ·lia
   ·rw[List.mem_singleton.mp hy,Azx];simp;lia
  have f1:=fun d4=>fin [x,⟨x.a,x.b,x.c,x.ms++[.n 0]⟩] d4 (by simp) hy2
  have f2:=fun d4=>fin [⟨x.a,x.b,x.c,x.ms++[.n 0]⟩] d4 (by simp) fun y hy=>hy2 y (Azf _ hy)
  simp only[Azm,Bbb,e3] at f1 f2
  have f3:=fun d4=>fin [] d4 (by decide) fun y hy=>nomatch hy
  refine⟨by lia,cK.mk (fun _=>?_) fun _=>?_⟩
  ·exact cK.mk (fun _=>cK.mk (fun _=>⟨by lia,fin [x,⟨x.a,x.b,x.c+1,[.n 0]⟩] _ (by simp) hy1⟩) fun _=>⟨by lia,fin [x] _ (by simp) fun y hy=>by rw[List.mem_singleton.mp hy];lia⟩) fun _=>cK.mk (fun _=>⟨by lia,fin [⟨x.a,x.b,x.c+1,[.n 0]⟩] _ (by simp) fun y hy=>by rw[List.mem_singleton.mp hy];simp⟩) fun _=>⟨by lia,f3 _⟩
  ·exact cK.mk (fun _=>cK.mk (fun _=>⟨by lia,f1 _⟩) fun _=>⟨by lia,fin [x] _ (by simp) fun y hy=>by rw[List.mem_singleton.mp hy];lia⟩) fun _=>cK.mk (fun _=>⟨by lia,f2 _⟩) fun _=>⟨by lia,f3 _⟩
 ·rintro e m ⟨hs,M,ms,u,v,w,rfl,h1,h2,h3,rfl⟩
  refine⟨trivial,?_⟩
  simp_arith[xpE (Co ms)]
  exact⟨ms,rfl,h1,by simpa using h2,h3⟩
theorem Hv (m:Mark) {Q:D->Prop}:W (Y9 [m.d]) Q=Q m.rk:=W.eq <| by
 unfold Y9 Avh
 rw[B8]
 cases m<;>simp only[Mark.d]<;>array_get_dec<;>rfl
theorem Tj (x:Mk) (h:x.ms.length<=1000) {Q:D->Prop}:W (Ht [x.d]) Q=Q x.rk:=W.eq <| by
 unfold Ht Akb
 rw[B8]
 unfold Mk.d
 array_get_dec
 refine cK.mk (fun h1=>⟨by lia,Bl Mark.rk (fun m hm=>?_) ?_⟩) fun h1=>⟨by lia,Bl Mark.rk (fun m hm=>?_) ?_⟩
 ·simp_arith[Hv]
 ·simp_arith[Af Mark.rk_pure]
  unfold Mk.rk
  rw[Azs]
  intro h;rw[h] at h1;simp at h1
 ·simp_arith[Hv]
 ·simp_arith[Af Mark.rk_pure]
  unfold Mk.rk
  rw[Azp]
  simpa using h1
theorem Js (x y:Mk) (hx:x.ms.length<=1000) (hy:y.ms.length<=1000) {Q:D->Prop}:W (V2 [x.d,y.d]) Q=Q (.bl (x.older y)):=W.eq <| by
 unfold V2 Avj
 rw[B8]
 have d1:=Mk.rk_dep x
 have d2:=Mk.rk_dep y
 simp_arith[Tj x hx,Tj y hy,Mk.rk_pure,Mk.rk_lt,Ab]
 lia
def small (p:Pc):Prop:=p.1.ms.length<=1000/\∀ h,p.2=some h->h.ms.length<=1000
def T2 (ps:List Pc):Prop:=ps.Pairwise fun p q=>p.1.older q.1=true/\∃ h,p.2=some h/\h.older q.1=true
structure Sp (ps:List Pc):Prop where
 ok:T2 ps
 sm:∀ p∈ps,small p
 len:ps.length<=60
theorem Ul {m l:Mk}:inP m (l,none)=!m.older l:=by simp[inP]
theorem Um {m l h:Mk}:inP m (l,some h)=(!m.older l&&m.older h):=by simp[inP]
theorem Ac2 {m:Mk}{ps:List Pc} (h:∀ (i:Nat) (p:Pc),ps[i]?=some p->m.older p.1=true):ps.any (inP m)=false:=by
 rw[List.any_eq_false]
 intro p hp
 obtain⟨i,hi⟩:=Bbp hp
 unfold inP
 rw[h i p hi];simp
theorem Ao3 {m:Mk}{ps:List Pc}{n:Nat} (hn:n < ps.length) (ho:T2 ps) (h1:m.older ps[n].1=false) (h2:∀ (i:Nat) (p:Pc),n < i->ps[i]?=some p->m.older p.1=true):ps.any (inP m)=inP m ps[n]:=by
 rw[Ba3,List.any_eq_true]
 constructor
 ·rintro ⟨p,hp,h⟩
  obtain⟨i,hi⟩:=Bbp hp
  obtain⟨hl,he⟩:=List.getElem?_eq_some_iff.mp hi
  rcases Nat.lt_trichotomy i n with h3|h3|h3
  ·obtain⟨_,z,hz,h4⟩:=List.pairwise_iff_getElem.mp ho i n hl hn h3
   rw[he] at hz
   unfold inP at h
   rw[hz,Az0] at h
   have h5:=Cc h.2 h4
   rw[h1] at h5;cases h5
  ·subst h3;rw[he];exact h
  ·unfold inP at h
   rw[h2 i p h3 hi] at h;simp at h
 ·exact fun h=>⟨_,Baq hn,h⟩
theorem Akk (m:Mk) (ps:List Pc) (hm:m.ms.length<=1000) (hp:∀ p∈ps,small p) (hl:ps.length<=900) (ho:T2 ps) {Q:D->Prop}:W (O4 [m.d,.tup (ps.map pD)]) Q=Q (.bl (ps.any (inP m))):=W.eq <| by
 unfold O4 Ajt
 rw[B8]
 array_get_dec
 refine Ro (fun k e w=>∃ (f b:Nat) (u v:Option D),k=b - f/\f<=b/\b<=ps.length/\w=[]/\e=[some m.d,some (.tup (ps.map pD)),some (.int f),some (.int b),u,v]/\(∀ (i:Nat) (p:Pc),i < f->ps[i]?=some p->m.older p.1=false)/\∀ (i:Nat) (p:Pc),b<=i->ps[i]?=some p->m.older p.1=true) ?_ (k:=ps.length) (by lia) ⟨0,ps.length,_,_,rfl,Az5 _,Azn _,rfl,rfl,fun i p h=>absurd h (Bb5 _),fun i p h e=>by rw[Bab h] at e;cases e⟩
 rintro k e w ⟨f,b,u,v,rfl,hfb,hbl,rfl,rfl,h1,h2⟩
 array_get_dec
 refine cK.dec (fun h3=>?_) fun h3=>?_
 ·have h3:f < b:=by lia
  have hmid:(f+b) / 2 < ps.length:=by lia
  have e2:((f:Int)+b) / 2=(((f+b) / 2:Nat):Int):=by lia
  have hs:=hp _ (Baq hmid)
  simp_arith[e2,M8 hmid,Js m ps[(f+b) / 2].1 hm hs.1]
  refine cK.mk (fun h4=>⟨_,?_,f,(f+b) / 2,_,_,rfl,by lia,by lia,rfl,h1,fun i p hi hq=>?_⟩) fun h4=>⟨_,?_,(f+b) / 2+1,b,_,_,rfl,by lia,hbl,rfl,fun i p hi hq=>?_,h2⟩
  ·lia
  ·obtain⟨hl',he⟩:=List.getElem?_eq_some_iff.mp hq
   rcases Nat.eq_or_lt_of_le hi with h5|h5
   ·subst h5;rw[<- he];exact h4
   ·have h6:=(List.pairwise_iff_getElem.mp ho _ i hmid hl' h5).1
    rw[he] at h6
    exact Cc h4 h6
  ·lia
  ·obtain⟨hl',he⟩:=List.getElem?_eq_some_iff.mp hq
   rcases Nat.lt_succ_iff_lt_or_eq.mp hi with h5|h5
   ·have h6:=(List.pairwise_iff_getElem.mp ho i _ hl' hmid h5).1
    rw[he] at h6
    cases h7:m.older p.1 with
    |false=>rfl
    |true=>have h8:=Cc h7 h6;rw[h4] at h8;cases h8
   ·subst h5;rw[<- he];exact h4
 ·have hfe:f=b:=by lia
  subst hfe
  array_get_dec
  refine cK.dec (fun h5=>?_) fun h5=>?_
  ·have h5:f=0:=by lia
   subst h5
   rw[Ac2 fun i p hq=>h2 i p (Az5 _) hq]
  ·have hf:f - 1 < ps.length:=by lia
   have e3:(f:Int) - 1=((f - 1:Nat):Int):=by lia
   have h6:m.older ps[f - 1].1=false:=h1 (f - 1) _ (by lia) (Azl hf)
   have h7:=Ao3 hf ho h6 fun i p hi hq=>h2 i p (by lia) hq
   have hs:=hp _ (Baq hf)
   simp_arith[e3,M8 hf]
   rw[h7]
   generalize ps[f - 1]=q at h6 hs
   obtain⟨l,h⟩:=q
   cases h with
   |none =>
    simp_arith[Ul,h6]
   |some h =>
    have e2:=@Js m h hm (hs.2 h rfl)
    simp_arith[Um,h6]
    simp only[oD]
    simp_arith[e2]
def rk2 (x:Mk):D:=.tup [.int x.a,.int x.b,.int x.c,.int (if x.ms=[] then 1 else 0),.lst (x.ms.map Mark.rk)]
theorem Abs (x y:Mk):ltD (rk2 x) (rk2 y)=some (x.older y):=by
 have h1:deq (.lst (x.ms.map Mark.rk)) (.lst (y.ms.map Mark.rk))=deq (.tup (x.ms.map Mark.rk)) (.tup (y.ms.map Mark.rk)):=by rw[Im Mark.rk_deq,Nh Mark.rk_deq]
 have h2:ltD (.lst (x.ms.map Mark.rk)) (.lst (y.ms.map Mark.rk))=ltD (.tup (x.ms.map Mark.rk)) (.tup (y.ms.map Mark.rk)):=by rw[ltD,ltD]
 rw[<- Mk.rk_lt]
 unfold rk2 Mk.rk
 rw[Hd,Hd]
 simp only[Dr,h1,h2]
theorem Au3 {ds:List D}{m:MH}{Q:D->Prop}:W (Cg m (.tup ds)) Q=W (Dx m ds) fun es=>Q (.tup es):=by
 rw[Cg,W_bind];congr 1;funext es;exact Ab
theorem Lw (x:Mk) (hx:x.ms.length<=1000) {Q:D->Prop}:W (D8 [x.d]) Q=Q (rk2 x):=W.eq <| by
 unfold D8 Akc
 rw[B8]
 array_get_dec
 refine Ct (fun rest e m=>∃ dn v,dn++rest=x.ms/\m=[.lst (dn.map Mark.rk)]/\e=[some x.d,some (.ref 0),v]) ?_ ?_ ⟨[],_,rfl,rfl,rfl⟩
 ·rintro w rest e m ⟨dn,v,hd,rfl,rfl⟩
  refine⟨trivial,?_⟩
  have ld:dn.length < x.ms.length:=by rw[<- hd];simp
  cases w with
  |n i =>
   simp only[Mark.d]
   array_get_dec
   exact⟨by lia,dn++[.n i],_,by rw[<- hd];simp,by simp[Mark.rk],rfl⟩
  |s t =>
   simp only[Mark.d]
   array_get_dec
   exact⟨by lia,dn++[.s t],_,by rw[<- hd];simp,by simp[Mark.rk],rfl⟩
 ·rintro e m ⟨dn,v,hd,rfl,rfl⟩
  refine⟨trivial,?_⟩
  rw[Az2] at hd
  subst hd
  array_get_dec
  rw[Au3]
  simp_arith[Af Mark.rk_pure]
  unfold rk2
  by_cases h:x.ms=[]<;>simp[h]
theorem Abt (x:Mk):Bt (rk2 x)=true:=by
 unfold rk2
 have:A1 (x.ms.map Mark.rk)=true:=Ay (Af Mark.rk_pure)
 simp[Bt,A1,this]
theorem To (x:Mk):dep (rk2 x)<=3:=by
 unfold rk2
 rw[C5]
 have h1:Cz (x.ms.map Mark.rk)<=1:=B0 fun d hd=>by
  obtain⟨m,_,rfl⟩:=List.mem_map.mp hd
  exact Mark.rk_dep m
 have:Cz [D.int x.a,D.int x.b,D.int x.c,D.int (if x.ms=[] then 1 else 0),D.lst (x.ms.map Mark.rk)]<=2:=B0 fun d hd=>by
  simp only[Bba,Bap,or_false] at hd
  rcases hd with rfl|rfl|rfl|rfl|rfl
  ·rw[B5];lia
  ·rw[B5];lia
  ·rw[B5];lia
  ·rw[B5];lia
  ·rw[dep];lia
 lia
theorem Ais {x:Mk}{m:MH}{Q:D->Prop}:W (B7 m (rk2 x)) Q=Q (rk2 x):=by
 have e:B7 m (rk2 x)=some (rk2 x):=by
  have h:=Abt x
  unfold rk2 at h ⊢
  unfold B7
  simp only
  rw[Azp h]
 rw[e,Ab]
theorem Aob {x y:D}{m:MH}{Q:D->Prop}:W (Atu x y m) Q=W (B7 m x) fun x'=>W (B7 m y) fun y'=>(dep x'<=30/\dep y'<=30)/\W (leD x' y') fun k=>Q (.bl k):=by
 unfold Atu
 rw[W_bind];congr 1;funext x'
 rw[W_bind];congr 1;funext y'
 rw[An8]
 congr 1
 rw[W_bind];congr 1;funext k;exact Ab
theorem Akp (x y:Mark):leD x.rk y.rk=(ltD y.rk x.rk).map (!·):=by
 have e:=Mark.rk_deq x y
 have e':=Mark.rk_deq y x
 cases x with
 |n i =>
  cases y with
  |n j =>
   simp only[Mark.rk,leD,Md,ltD,Dr,Bs,B9]
   by_cases h:i=j
   ·subst h;simp
   ·have h':¬ j=i:=fun z=>h z.symm
    by_cases h2:i<=j
    ·have:¬ j < i:=by lia
     simp[h,h',h2,this]
    ·have:j < i:=by lia
     simp[h,h',h2,this]
  |s t =>
   simp only[Mark.rk,leD,Md,ltD,Dr,Bs,B9]
   simp
 |s t =>
  cases y with
  |n j =>
   simp only[Mark.rk,leD,Md,ltD,Dr,Bs,B9]
   simp
  |s u =>
   simp only[Mark.rk,leD,Md,ltD,Dr,Bs,B9]
   by_cases h:t=u
   ·subst h;simp
   ·have h':¬ u=t:=fun z=>h z.symm
    simp[h,h']
theorem Ut:∀ xs ys:List Mark,Md (xs.map Mark.rk) (ys.map Mark.rk)=(Dr (ys.map Mark.rk) (xs.map Mark.rk)).map (!·)
 |[],[]=>by simp[Md,Dr]
 |[],_::_=>by simp[Md,Dr]
 |_::_,[]=>by simp[Md,Dr]
 |x::xs,y::ys=>by
  simp only[Azm,Md,Dr,Mark.rk_deq]
  by_cases h:x=y
  ·subst h;simp[Ut xs ys]
  ·have h':¬ y=x:=fun z=>h z.symm
   simp[h,h',Akp x y]
theorem Uo (i j:Int):leD (.int i) (.int j)=(ltD (.int j) (.int i)).map (!·):=by
 simp only[leD,ltD,Option.map_some]
 by_cases h:i<=j
 ·have:¬ j < i:=by lia
  simp[h,this]
 ·have:j < i:=by lia
  simp[h,this]
theorem Jt {c:Prop} [Decidable c] {a b a' b':Option Bool} (h1:a=a'.map (!·)) (h2:b=b'.map (!·)):(if c then a else b)=(if c then a' else b').map (!·):=by
 by_cases h:c
 ·rw[Azp h,Azp h];exact h1
 ·rw[Azs h,Azs h];exact h2
theorem Ahc (x y:Mk):leD (rk2 x) (rk2 y)=some (!y.older x):=by
 have h:leD (rk2 x) (rk2 y)=(ltD (rk2 y) (rk2 x)).map (!·):=by
  have c:∀ i j:Int,deq (.int i) (.int j)=deq (.int j) (.int i):=fun i j=>by
   rw[Bs,Bs]
   by_cases h:i=j
   ·subst h;rfl
   ·have h':¬ j=i:=fun z=>h z.symm
    simp[h,h']
  have cl:deq (.lst (x.ms.map Mark.rk)) (.lst (y.ms.map Mark.rk))=deq (.lst (y.ms.map Mark.rk)) (.lst (x.ms.map Mark.rk)):=by
   rw[Im Mark.rk_deq,Im Mark.rk_deq]
   by_cases h:x.ms=y.ms
   ·rw[h]
   ·have h':¬ y.ms=x.ms:=fun z=>h z.symm
    simp[h,h']
  unfold rk2
  rw[show ∀ as bs,leD (.tup as) (.tup bs)=Md as bs from fun _ _=>by rw[leD],Hd]
  simp only[Md,Dr]
  rw[c y.a x.a,c y.b x.b,c y.c x.c,c (if y.ms=[] then 1 else 0),<- cl,Uo,Uo,Uo,Uo]
  have hl:leD (.lst (x.ms.map Mark.rk)) (.lst (y.ms.map Mark.rk))=(ltD (.lst (y.ms.map Mark.rk)) (.lst (x.ms.map Mark.rk))).map (!·):=by
   rw[show ∀ as bs,leD (.lst as) (.lst bs)=Md as bs from fun _ _=>by rw[leD],show ∀ as bs,ltD (.lst as) (.lst bs)=Dr as bs from fun _ _=>by rw[ltD]]
   exact Ut _ _
  rw[hl]
  exact Jt (Jt (Jt (Jt (Jt rfl rfl) rfl) rfl) rfl) rfl
 rw[h,Abs];rfl
theorem Adr (m:Mk) (ps:List Pc) (hm:m.ms.length<=1000) (hp:∀ p∈ps,small p) {Q:D->Prop}:W (Pe [m.d,.tup (ps.map pD)]) Q=Q (.bl (ps.any (inP m))):=W.eq <| by
 unfold Pe Aj7
 rw[B8]
 simp_arith[Lw m hm]
 refine Ct (fun rest e w=>w=[]/\(∀ p∈rest,small p)/\rest.any (inP m)=ps.any (inP m)/\∃ v w,e=[some m.d,some (.tup (ps.map pD)),some (rk2 m),v,w]) ?_ ?_ ⟨rfl,hp,rfl,_,_,rfl⟩
 ·rintro ⟨l,h⟩ rest e w ⟨rfl,hs,ha,v,w,rfl⟩
  refine⟨trivial,?_⟩
  have s1:=hs _ (Azg ..)
  have s2:∀ p∈rest,small p:=fun p hp=>hs p (Azf _ hp)
  rw[Ba0] at ha
  have d1:=To m
  have d2:=To l
  have yes:inP m (l,h)=true->D.bl true=D.bl (ps.any (inP m)):=fun z=>by rw[<- ha,z];rfl
  have no:inP m (l,h)=false->rest.any (inP m)=ps.any (inP m):=fun z=>by rw[<- ha,z];rfl
  cases h with
  |none =>
   simp_arith[Lw l s1.1,Aob,Ais,Ahc,Ab]
   rw[Ul] at yes no
   refine⟨by lia,?_⟩
   exact cK.mk (fun z=>yes z) fun z=>⟨s2,no z,_,_,rfl⟩
  |some h =>
   have d3:=To h
   simp_arith[Lw l s1.1,Aob,Ais,Ahc,Ab]
   simp only[oD]
   simp_arith[Lw h (s1.2 h rfl),Ais,Abs,Ab]
   rw[Um] at yes no
   refine⟨by lia,cK.mk (fun z=>⟨by lia,cK.mk (fun z'=>yes (by rw[z,z'];rfl)) fun z'=>⟨s2,no (by rw[z,z'];rfl),_,_,rfl⟩⟩) fun z=>⟨s2,no (by rw[z];rfl),_,_,rfl⟩⟩
 ·rintro e w ⟨rfl,hs,ha,v,w,rfl⟩
  refine⟨trivial,?_⟩
  array_get_dec
  rw[<- ha];rfl
instance:Inhabited Mk:=⟨⟨0,0,0,[]⟩⟩
theorem J2 (a b c:Mk) (h:a.older c=true):a.older b=true\/b.older c=true:=by
 by_cases e:a=b
 ·subst e;exact .inr h
 ·cases q:a.older b with
  |true=>exact .inl rfl
  |false =>
   have:=J3 e
   rw[q] at this
   have h2:b.older a=true:=by cases z:b.older a with
    |true=>rfl
    |false=>rw[z] at this;cases this
   exact .inr (Cc h2 h)
theorem Iw (a b:Mk) (h1:a.older b=false) (h2:b.older a=false):a=b:=by
 by_cases e:a=b
 ·exact e
 ·have:=J3 e
  rw[h1,h2] at this
  cases this
theorem Tc:∀ {xs ys:List Mk},xs.Perm ys->xs.Pairwise (fun x y=>x.older y=false)->ys.Pairwise (fun x y=>x.older y=false)->xs=ys
 |[],ys,h,_,_=>h.nil_eq
 |x::xs,[],h,_,_=>by have:=h.length_eq;simp at this
 |x::xs,y::ys,h,hx,hy=>by
  obtain⟨hx1,hx2⟩:=List.pairwise_cons.mp hx
  obtain⟨hy1,hy2⟩:=List.pairwise_cons.mp hy
  have e:x=y:=by
   by_cases e:x=y
   ·exact e
   ·have m1:x∈ys:=by
     rcases List.mem_cons.mp (h.mem_iff.mp (Azg ..)) with z|z
     ·exact absurd z e
     ·exact z
    have m2:y∈xs:=by
     rcases List.mem_cons.mp (h.mem_iff.mpr (Azg ..)) with z|z
     ·exact absurd z.symm e
     ·exact z
    exact Iw x y (hx1 y m2) (hy1 x m1)
  subst e
  rw[Tc ((List.perm_cons x).mp h) hx2 hy2]
theorem Zm {fn:List D->Option D}{m:MH}:∀ {xs:List Mk},(∀ x∈xs,fn [x.d]=some x.rk)->Ef fn m (xs.map Mk.d)=some (xs.map Mk.rk)
 |[],_=>rfl
 |x::xs,h=>by
  have e:Ci 1 fn [x.d] m=some x.rk:=by
   unfold Ci
   rw[Cw,By x.pure]
   exact h x (Azg ..)
  rw[Azm,Ef,e,Azm]
  show (Ef fn m (xs.map Mk.d)).bind _=_
  rw[Zm fun y hy=>h y (Azf _ hy)]
  rfl
theorem Afc {fn:List D->Option D}{m:MH}{xs:List Mk} (h:∀ x∈xs,fn [x.d]=some x.rk) (hl:xs.length < 64):∃ ys:List Mk,ys.Perm xs/\ys.Pairwise (fun x y=>x.older y=false)/\Cp fn true [.lst (xs.map Mk.d)] m=some (ys.map Mk.d):=by
 have hk:=Zm (m:=m) h
 have c1:(xs.map Mk.rk).all Agj=true:=by
  rw[Bch]
  intro d hd
  obtain⟨x,_,rfl⟩:=List.mem_map.mp hd
  rfl
 have c2:A1 (xs.map Mk.rk)=true:=Ay (Af Mk.rk_pure)
 have c3:Cz (xs.map Mk.rk)<=20:=B0 fun d hd=>by
  obtain⟨x,_,rfl⟩:=List.mem_map.mp hd
  have:=Mk.rk_dep x
  lia
 have go:∀ ys:List Mk,ys.Perm xs->ys.Pairwise (fun x y=>x.older y=false)->Ex true (xs.map Mk.d) (xs.map Mk.rk)=some (ys.map Mk.d)->∃ ys:List Mk,ys.Perm xs/\ys.Pairwise (fun x y=>x.older y=false)/\Cp fn true [.lst (xs.map Mk.d)] m=some (ys.map Mk.d):=fun ys h1 h2 h3=>by
  refine⟨ys,h1,h2,?_⟩
  unfold Cp
  simp only
  rw[show sqL m (D.lst (xs.map Mk.d))=some (xs.map Mk.d) from rfl,Azv,hk,Azv,h3,Azv]
  rw[Azp ⟨by simpa using hl,c1,c2,c3,by rw[Azr,h1.length_eq];exact hl⟩]
 by_cases h2:xs.length < 2
 ·refine go xs (List.Perm.refl _) ?_ ?_
  ·match xs,h2 with
   |[],_=>exact .nil
   |[x],_=>exact Bbi ..
  ·unfold Ex
   rw[Azp (by simpa using h2)]
 ·obtain⟨p,e,hp,hs,hi⟩:=Le (blt:=Mk.older) (zs:=xs.reverse) Es (fun a b c=>Cc) J2 Iw (c:=fun i j=>ltD ((W.katRev true (xs.map Mk.rk)).getD i .non) ((W.katRev true (xs.map Mk.rk)).getD j .non)) (fun i j hi hj=>by
   have g:∀ i (hi:i < xs.reverse.length),(W.katRev true (xs.map Mk.rk)).getD i .non=(xs.reverse[i]).rk:=fun i hi=>by
    show (xs.map Mk.rk).reverse.getD i .non=_
    rw[<- List.map_reverse,Azk,Az3,Azl hi]
    rfl
   show ltD _ _=_
   rw[g i hi,g j hj,Mk.rk_lt]) (by simp;lia)
  refine go (p.toList.map fun i=>xs.reverse.getD i default).reverse ((List.reverse_perm _).trans (hp.trans (List.reverse_perm _))) (List.pairwise_reverse.mpr hs) ?_
  unfold Ex
  rw[Azs (by simpa using h2),Azr,<- List.length_reverse,e]
  show some (W.katRev true _)=_
  congr 1
  show (p.toList.map fun i=>(xs.map Mk.d).reverse.getD i .non).reverse=_
  rw[List.map_reverse,Bbh]
  congr 1
  refine List.map_congr_left fun i hi'=>?_
  have hlt:=hi i hi'
  rw[<- List.map_reverse,Azk,Az3,Azl hlt]
  show xs.reverse[i].d=(xs.reverse.getD i default).d
  rw[Azk,Azl hlt]
  rfl
theorem Z8 (xs:List Mk) (hx:∀ x∈xs,x.ms.length<=1000) (hl:xs.length < 64):W (Y7 [.lst (xs.map Mk.d)]) fun d=>∃ ys:List Mk,d=.lst (ys.map Mk.d)/\ys.Perm xs/\ys.Pairwise (fun x y=>x.older y=false):=by
 unfold Y7 Avf
 rw[B8]
 obtain⟨ys,h1,h2,e⟩:=Afc (fn:=Ht) (m:=[]) (fun x h=>W.out (by rw[Tj x (hx x h)])) hl
 array_get_dec
 rw[e,Ab]
 array_get_dec
 exact⟨ys,rfl,h1,h2⟩
theorem Vb {fn:List D->Option D}{m:MH}{xs:List Mk} (h:∀ x∈xs,fn [x.d]=some (rk2 x)) (hl:xs.length < 64):∃ ys:List Mk,ys.Perm xs/\ys.Pairwise (fun x y=>y.older x=false)/\Cp fn false [.lst (xs.map Mk.d)] m=some (ys.map Mk.d):=by
 have hk:Ef fn m (xs.map Mk.d)=some (xs.map rk2):=by
  clear hl
  induction xs with
  |nil=>rfl
  |cons x xs ih =>
   have e:Ci 1 fn [x.d] m=some (rk2 x):=by
    unfold Ci
    rw[Cw,By x.pure]
    exact h x (Azg ..)
   rw[Azm,Ef,e,Azm]
   show (Ef fn m (xs.map Mk.d)).bind _=_
   rw[ih fun y hy=>h y (Azf _ hy)]
   rfl
 have c1:(xs.map rk2).all Agj=true:=by
  rw[Bch]
  intro d hd
  obtain⟨x,_,rfl⟩:=List.mem_map.mp hd
  rfl
 have r1:∀ x:Mk,Bt (rk2 x)=true:=fun x=>by
  unfold rk2
  have:A1 (x.ms.map Mark.rk)=true:=Ay (Af Mark.rk_pure)
  simp[Bt,A1,this]
 have c2:A1 (xs.map rk2)=true:=by
  induction xs with
  |nil=>rfl
  |cons x xs ih=>rw[Azm,A1,r1,ih (fun y hy=>h y (Azf _ hy)) (by simp at hl;lia) (by
    rw[Azm,Ef] at hk
    obtain⟨k1,e1,e2⟩:=bind_some hk
    obtain⟨k2,e3,e4⟩:=bind_some e2
    rw[e3]
    rw[Azm] at e4
    injection e4 with e4
    injection e4 with e5 e6
    rw[e6]) (by rw[Azm,Ban,Az0] at c1;exact c1.2)];rfl
 have c3:Cz (xs.map rk2)<=20:=B0 fun d hd=>by
  obtain⟨x,_,rfl⟩:=List.mem_map.mp hd
  unfold rk2
  rw[C5]
  have h1:Cz (x.ms.map Mark.rk)<=1:=B0 fun d hd=>by
   obtain⟨m,_,rfl⟩:=List.mem_map.mp hd
   exact Mark.rk_dep m
  have:Cz [D.int x.a,D.int x.b,D.int x.c,D.int (if x.ms=[] then 1 else 0),D.lst (x.ms.map Mark.rk)]<=2:=B0 fun d hd=>by
   simp only[Bba,Bap,or_false] at hd
   rcases hd with rfl|rfl|rfl|rfl|rfl
   ·rw[B5];lia
   ·rw[B5];lia
   ·rw[B5];lia
   ·rw[B5];lia
   ·rw[dep];lia
  lia
 have go:∀ ys:List Mk,ys.Perm xs->ys.Pairwise (fun x y=>y.older x=false)->Ex false (xs.map Mk.d) (xs.map rk2)=some (ys.map Mk.d)->∃ ys:List Mk,ys.Perm xs/\ys.Pairwise (fun x y=>y.older x=false)/\Cp fn false [.lst (xs.map Mk.d)] m=some (ys.map Mk.d):=fun ys h1 h2 h3=>by
  refine⟨ys,h1,h2,?_⟩
  unfold Cp
  simp only
  rw[show sqL m (D.lst (xs.map Mk.d))=some (xs.map Mk.d) from rfl,Azv,hk,Azv,h3,Azv]
  rw[Azp ⟨by simpa using hl,c1,c2,c3,by rw[Azr,h1.length_eq];exact hl⟩]
 by_cases h2:xs.length < 2
 ·refine go xs (List.Perm.refl _) ?_ ?_
  ·match xs,h2 with
   |[],_=>exact .nil
   |[x],_=>exact Bbi ..
  ·unfold Ex
   rw[Azp (by simpa using h2)]
 ·obtain⟨p,e,hp,hs,hi⟩:=Le (blt:=Mk.older) (zs:=xs) Es (fun a b c=>Cc) J2 Iw (c:=fun i j=>ltD ((W.katRev false (xs.map rk2)).getD i .non) ((W.katRev false (xs.map rk2)).getD j .non)) (fun i j hi hj=>by
   have g:∀ i (hi:i < xs.length),(W.katRev false (xs.map rk2)).getD i .non=rk2 xs[i]:=fun i hi=>by
    show (xs.map rk2).getD i .non=_
    rw[Azk,Az3,Azl hi]
    rfl
   show ltD _ _=_
   rw[g i hi,g j hj,Abs]) (by lia)
  refine go (p.toList.map fun i=>xs.getD i default) hp hs ?_
  unfold Ex
  rw[Azs (by simpa using h2),Azr,e]
  show some (W.katRev false _)=_
  congr 1
  show (p.toList.map fun i=>(xs.map Mk.d).getD i .non)=_
  rw[Bbh]
  refine List.map_congr_left fun i hi'=>?_
  have hlt:=hi i hi'
  rw[Azk,Az3,Azl hlt]
  show xs[i].d=(xs.getD i default).d
  rw[Azk,Azl hlt]
  rfl
theorem P4:∀ {ys:List Mk},ys.Pairwise (fun x y=>x.older y=true)->T2 (Dt ys)
 |[],_=>.nil
 |[x],_=>Bbi ..
 |x::y::r,h=>by
  obtain⟨h1,h2⟩:=List.pairwise_cons.mp h
  obtain⟨h3,h4⟩:=List.pairwise_cons.mp h2
  rw[Dt]
  refine List.pairwise_cons.mpr ⟨fun q hq=>?_,P4 h4⟩
  have hm:=(Hi hq).1
  exact⟨h1 _ (Azf _ hm),y,rfl,h3 _ hm⟩
theorem Ab2 {ys:List Mk} (hn:ys.Nodup) (hp:ys.Pairwise fun x y=>y.older x=false):ys.Pairwise fun x y=>x.older y=true:=by
 refine (hn.and hp).imp fun {x y} ⟨h1,h2⟩=>?_
 rw[J3 h1,h2];rfl
theorem Awz {z:MObj}{r:MH}{ms:List Mk}{x:Mk}{Q:D->Prop}:W (Bz x.d (.ref (r.length+1)) (z::(r++[.lst (ms.map Mk.d)]))) Q=Q (.bl (!decide (x∈ms))):=Ats (M:=z::r)
theorem Aec (R:List Mk):(List.range ((R.length+1) / 2)).map (fun q:Nat=>D.tup [(R.getD (2 * q) default).d,oD R[2 * q+1]?])=(Dt R).map pD:=by
 refine List.ext_getElem? fun i=>?_
 by_cases hi:i < (R.length+1) / 2
 ·have h2:2 * i < R.length:=by lia
  rw[Az3,Az3,Mn R i h2,List.getElem?_range hi]
  simp[pD,h2]
 ·rw[Bab (by simpa using hi),Bab (by rw[Azr,Hh];lia)]
theorem Axc {M:MH}{x y:MObj}:(M++[x]).set M.length y=M++[y]:=by simp
theorem Xt {fn:List D->Option D}{m:MH}{n:Nat}{ds:List D} (h:sqL m (.ref n)=some ds):Cp fn false [.ref n] m=Cp fn false [.lst ds] m:=by
 unfold Cp
 simp only[h]
 rfl
theorem Ay0 {z:MObj}{r t:MH}{a:List D}:sqL (z::(r++.lst a::t)) (.ref (r.length+1))=some a:=by
 have e:(z::(r++MObj.lst a::t))[r.length+1]?=some (.lst a):=by simp
 unfold sqL sq;simp only[e]
abbrev oldM:Mk:=⟨0,0,0,[.n 0]⟩
theorem Amz (ns:List Int) (c o g:Int) (r:MH) (ms:List Mk) (h0:0 < ms.length) (h1:ms.length<=200) (hm:∀ x∈ms,x.ms.length<=3) (hc:0<=c) (hc1:c < 900000):W (Pf [.ref 0,.lst (ms.map Mk.d)] (fdL ns c o g::r)) fun x=>∃ (ps:List Pc) (c' g':Int) (t:MH),x=(.tup (ps.map pD),fdL ns c' o g'::(r++t))/\Sp ps/\0<=c'/\c'<=c+8:=by
 unfold Pf Aj9
 rw[D6]
 array_get_dec
 refine (Bj ns c o g r 3 (by decide) (by decide) hc (by lia)).imp fun x ⟨k1,g1,e,a1,b1⟩=>?_
 subst e
 array_get_dec
 refine cK.dec (fun _=>⟨[(oldM,none)],_,_,[],by rw[Az2];rfl,⟨Bbi ..,fun p hp=>by rw[List.mem_singleton.mp hp];exact⟨by simp,fun h e=>nomatch e⟩,by simp⟩,by lia,by lia⟩) fun _=>?_
 refine (Bj ns _ o g1 _ 5 (by decide) (by decide) (by lia) (by lia)).imp fun x ⟨k2,g2,e,a2,b2⟩=>?_
 subst e
 array_get_dec
 refine⟨⟨by lia,by lia⟩,Je (fun k e m=>∃ (es:List Mk) (c2 g2:Int) (u v:Option D),m=fdL ns c2 o g2::(r++[.lst (es.map Mk.d)])/\e=[some (.ref 0),some (.lst (ms.map Mk.d)),some oldM.d,some (.ref (r.length+1)),u,v]/\es.Nodup/\(∀ x∈es,x.ms.length<=3)/\es.length<=k/\0<=c2/\c2<=c+2+k) ?_ ?_ ⟨[],_,_,_,_,rfl,rfl,Bbe,(fun _ h=>nomatch h),Azn _,by lia,by lia⟩⟩
 ·rintro k e m hk ⟨es,c2,g3,u,v,rfl,rfl,hn,hs,hle,hc2,hc3⟩
  refine⟨trivial,?_⟩
  array_get_dec
  refine (Bj ns _ o g3 _ ms.length (by lia) (by lia) (by lia) (by lia)).imp fun x ⟨k3,g4,e,a3,b3⟩=>?_
  subst e
  array_get_dec
  refine Vj a3 (by simpa using b3) fun d _ hd=>?_
  obtain⟨x,hx,rfl⟩:=List.mem_map.mp hd
  simp_arith[Awz,sqC,At0]
  refine cK.mk (fun h=>?_) fun _=>⟨es,_,_,_,_,rfl,rfl,hn,hs,by lia,by lia,by lia⟩
  have hx':x∉es:=by simpa using h
  refine⟨by lia,es++[x],c2+1,g4,_,_,by simp,rfl,List.nodup_append.mpr ⟨hn,by simp,fun a ha b hb=>?_⟩,fun y hy=>?_,by simp;lia,by lia,by lia⟩
  ·rw[List.mem_singleton.mp hb];exact fun z=>hx' (z ▸ ha)
  ·rcases List.mem_append.mp hy with hy|hy
   ·exact hs y hy
   ·rw[List.mem_singleton.mp hy];exact hm x hx
 ·rintro e m ⟨es,c2,g3,u,v,rfl,rfl,hn,hs,hle,hc2,hc3⟩
  refine⟨trivial,?_⟩
  array_get_dec
  refine (Bj ns _ o g3 _ 2 (by decide) (by decide) (by lia) (by lia)).imp fun x ⟨k3,g4,e,a3,b3⟩=>?_
  subst e
  have fin:∀ (es:List Mk),es.Nodup->(∀ x∈es,x.ms.length<=3)->es.length<=6->W (Cp D8 false [D.ref (List.length r+1)] (fdL ns (c2+1) o g4::(r++[MObj.lst (es.map Mk.d)]))) fun ds=>ds.length<=999999/\(0<=((ds++[D.non]).length:Int) - 1/\((ds++[D.non]).length:Int) - 1 < 1000000000)/\(List.range (Tp 0 (((ds++[D.non]).length:Int) - 1) 2)).length<=1000000/\W (Gr (Au 1) Lq (C1 (Aa (f2 oIx (Ac 0) (Ac 1)) (Aa (f2 oIx (Ac 0) (f2 Ew (Ac 1) (fC (D.int 1)))) Aj))) (fdL ns (c2+1) o g4::((r++[MObj.lst (es.map Mk.d)])++[MObj.lst (ds++[D.non])])) [some (D.ref ((r++[MObj.lst (es.map Mk.d)]).length+1)),none] (List.map (fun q:Nat=>D.int ((q:Int) * 2)) (List.range (Tp 0 (((ds++[D.non]).length:Int) - 1) 2)))) fun ds_1=>∃ (ps:List Pc) (c' g':Int) (t:MH),(D.tup ds_1,fdL ns (c2+1) o g4::((r++[MObj.lst (es.map Mk.d)])++[MObj.lst (ds++[D.non])]))=(D.tup (List.map pD ps),fdL ns c' o g'::(r++t))/\Sp ps/\0<=c'/\c'<=c+8:=fun es hn hs hle=>by
   obtain⟨ys,hp,hpw,eo⟩:=Vb (fn:=D8) (m:=fdL ns (c2+1) o g4::(r++[MObj.lst (es.map Mk.d)])) (xs:=es) (fun x hx=>W.out (by rw[Lw x (by have:=hs x hx;lia)])) (by lia)
   rw[Xt Ay0,eo,Ab]
   have hly:=hp.length_eq
   have hyn:ys.Nodup:=hp.nodup_iff.mpr hn
   have hys:∀ x∈ys,x.ms.length<=3:=fun x hx=>hs x (hp.mem_iff.mp hx)
   have hrl:Tp 0 (((ys.map Mk.d++[D.non]).length:Int) - 1) 2=(ys.length+1) / 2:=by
    simp only[Azx,Azr,Azo,Bbo]
    unfold Tp
    split<;>lia
   rw[hrl]
   refine⟨by simp;lia,⟨by simp,by simp;lia⟩,by simp;lia,Bl (fun q:Nat=>D.tup [(ys.getD (2 * q) default).d,oD ys[2 * q+1]?]) (fun q hq=>?_) ?_⟩
   ·have hq:2 * q < ys.length:=by have:=List.mem_range.mp hq;lia
    have ee:ys.map Mk.d++[D.non]=(ys.map some++[none]).map oD:=by
     rw[Bav,Bbh];rfl
    have e1:∀ {Q:D->Prop},W (atI (ys.map Mk.d++[D.non]) ((q:Int) * 2)) Q=Q (ys.getD (2 * q) default).d:=fun {Q}=>by
     have hl:2 * q < (ys.map some++[none]).length:=by simp;lia
     rw[ee,show ((q:Int) * 2)=((2 * q:Nat):Int) by lia,M8 hl,List.getElem_append_left (by simpa using hq)]
     simp[hq]
     rfl
    have e2:∀ {Q:D->Prop},W (atI (ys.map Mk.d++[D.non]) ((q:Int) * 2+1)) Q=Q (oD ys[2 * q+1]?):=fun {Q}=>by
     have hl:2 * q+1 < (ys.map some++[none]).length:=by simp;lia
     rw[ee,show ((q:Int) * 2+1)=((2 * q+1:Nat):Int) by lia,M8 hl]
     congr 2
     by_cases h:2 * q+1 < ys.length
     ·rw[List.getElem_append_left (by simpa using h)];simp[h]
     ·rw[List.getElem_append_right (by simpa using h)];simp;lia
    simp_arith[sqC,e1,e2]
   ·rw[Aec ys]
    refine⟨Dt ys,_,_,[_,_],by rw[List.append_assoc];rfl,⟨P4 (Ab2 hyn hpw),fun p hp=>?_,by rw[Hh];lia⟩,by lia,by lia⟩
    obtain⟨m1,m2⟩:=Hi hp
    have z1:=hys _ m1
    exact⟨by lia,fun h e=>by have:=hys _ (m2 h e);lia⟩
  have em:es.map Mk.d++[oldM.d]=(es++[oldM]).map Mk.d:=by simp
  have f1:=fin es hn hs (by lia)
  simp_arith[Awz (x:=oldM),sqC,Axc]
  rw[em]
  refine cK.dec (fun _=>cK.mk (fun h=>⟨by lia,fin (es++[oldM]) (List.nodup_append.mpr ⟨hn,by simp,fun a ha b hb=>?_⟩) (fun y hy=>?_) (by simp;lia)⟩) fun _=>f1) fun _=>f1
  ·have hx':oldM∉es:=by simpa using h
   rw[List.mem_singleton.mp hb];exact fun z=>hx' (z ▸ ha)
  ·rcases List.mem_append.mp hy with hy|hy
   ·exact hs y hy
   ·rw[List.mem_singleton.mp hy];simp
abbrev Nd:=Str×List Pc
def nD (n:Nd):D:=.tup [.str n.1,.tup (n.2.map pD)]
theorem He (n:Nd):Bg (nD n)=true:=by
 unfold nD
 rw[A2,Ak,Ak,Bn,Be,A2,Iy];rfl
theorem T3 {x:D} (hx:Bg x=true) (hd:dep x<=50) {z:List D} (hz:A1 z=true) {m:MH}{Q:D->Prop}:W (Bz x (.lst z) m) Q=Q (.bl !(z.any fun d=>deq d x)):=by
 have e1:B7 m x=some x:=By hx
 have e2:B7 m (.lst z)=some (.lst z):=by
  unfold B7
  simp only
  rw[Azp (by rw[Bt];exact hz)]
 have e:Bz x (.lst z) m=some (.bl !(z.any fun d=>deq d x)):=by
  unfold Bz inO
  simp only[e1,e2,Azv]
  rw[show sq [] (D.lst z)=some z from rfl]
  simp only[Azv]
  rw[Azp hd]
  rfl
 rw[e,Ab]
theorem Acx {t:Str}{z:List D} (hz:A1 z=true) {m:MH}{Q:D->Prop}:W (Bz (.str t) (.lst z) m) Q=Q (.bl !(z.any fun d=>deq d (.str t))):=T3 Be (by rw[Ei];lia) hz
structure En where
 nm:Str
 mv:Mk
 nd:List Nd
structure EnOk (e:En):Prop where
 ms:e.mv.ms.length<=2
 sp:∀ n∈e.nd,Sp n.2
 len:e.nd.length<=4
def kD (e:En):D:=.tup [.str e.nm,e.mv.d]
def eD (e:En):D:=.tup [.str e.nm,e.mv.d,.tup (e.nd.map nD)]
theorem Akg (e:En):Bg (kD e)=true:=by
 unfold kD
 rw[A2,Ak,Ak,Bn,Be,e.mv.pure];rfl
theorem Df (e:En):Bg (eD e)=true:=by
 unfold eD
 rw[A2,Ak,Ak,Ak,Bn,Be,e.mv.pure,A2,Af He];rfl
theorem Apt (e:En):dep (kD e)<=3:=by
 unfold kD
 rw[C5]
 have:Cz [D.str e.nm,e.mv.d]<=2:=B0 fun d hd=>by
  simp only[Bba,Bap,or_false] at hd
  rcases hd with rfl|rfl
  ·rw[Ei];lia
  ·exact e.mv.dep
 lia
theorem Apu (a b:En):deq (kD a) (kD b)=decide (a.nm=b.nm/\a.mv=b.mv):=by
 unfold kD
 rw[Cm,Cm,Ej,B9,Mk.deq]
 by_cases h1:a.nm=b.nm<;>by_cases h2:a.mv=b.mv<;>simp[h1,h2]
theorem Ayp {α:Type}{x y z:α}:Ln [x,y,z] none (some 2)=[x,y]:=rfl
def Dst (a b:En):Prop:=¬ (a.nm=b.nm/\a.mv=b.mv)
structure Sh (es:List En):Prop where
 ok:∀ e∈es,EnOk e
 len:es.length<=40
 dst:es.Pairwise Dst
theorem Ava {e:En}{Q:D->Prop}:W (oSl (eD e) none (some 2)) Q=Q (kD e):=by
 unfold eD kD
 rw[Af4,Ayp]
theorem sqN {z:MObj}{r t:MH}{j:Nat}{a:List D} (h:r[j]?=some (.lst a)) {Q:List D->Prop}:W (sq (z::(r++t)) (.ref (j+1))) Q=Q a:=by
 have hj:j < r.length:=(List.getElem?_eq_some_iff.mp h).1
 have e:(z::(r++t))[j+1]?=some (.lst a):=by rw[Baz,Azz hj];exact h
 have e2:sq (z::(r++t)) (.ref (j+1))=some a:=by unfold sq;simp only[e]
 rw[e2,Ab]
abbrev qq:Str:=Str.ofString "qqqqqqqq"
theorem Aab {r:MH}{j:Nat}{a:List Str} (h:r[j]?=some (.lst (a.map .str))):(∀ (z:MObj) (t:MH) (Q:List D->Prop),W (sqL (z::(r++t)) (.ref (j+1))) Q=Q (a.map .str))/\∀ (z:MObj) (t:MH) (Q:D->Prop),W (J0 [.ref (j+1)] (z::(r++t))) Q=Q (.int a.length) :=
 ⟨fun z t Q=>by rw[Af6,sqN h],fun z t Q=>by rw[Af1,sqN h,Azr]⟩
theorem nm_lst {r:MH}{a:List Str}:(∀ (z:MObj) (t:MH) (Q:List D->Prop),W (sqL (z::(r++t)) (.lst (a.map .str))) Q=Q (a.map .str))/\∀ (z:MObj) (t:MH) (Q:D->Prop),W (J0 [.lst (a.map .str)] (z::(r++t))) Q=Q (.int a.length) :=
 ⟨fun z t Q=>by rw[Af5],fun z t Q=>by rw[Af0,Azr]⟩
theorem Jy (ns:List Int) (c o g:Int) (r:MH) (dn:D) (ts:List Str) (hS:∀ (z:MObj) (t:MH) (Q:List D->Prop),W (sqL (z::(r++t)) dn) Q=Q (ts.map .str)) (hL:∀ (z:MObj) (t:MH) (Q:D->Prop),W (J0 [dn] (z::(r++t))) Q=Q (.int ts.length)) (ht:1<=ts.length) (ht2:ts.length<=6) (ow:Str) (ms:List Mk) (h0:0 < ms.length) (h1:ms.length<=200) (hm:∀ x∈ms,x.ms.length<=3) (mo:Int) (m1:1<=mo) (m2:mo<=5) (hc:0<=c) (hc1:c < 800000):W (V0 [.ref 0,dn,.str ow,.lst (ms.map Mk.d),.int mo] (fdL ns c o g::r)) fun x=>∃ (nds:List Nd) (c' g':Int) (t:MH),x=(.tup (nds.map nD),fdL ns c' o g'::(r++t))/\(∀ n∈nds,Sp n.2/\n.1∈ts++[qq])/\nds.length < mo.toNat/\0<=c'/\c'<=c+100:=by
 unfold V0 Avi
 rw[D6]
 array_get_dec
 refine (Bj ns c o g _ mo (by lia) (by lia) hc (by lia)).imp fun x ⟨k1,g1,e,a1,b1⟩=>?_
 subst e
 array_get_dec
 refine⟨⟨by lia,by lia⟩,Je (fun k e m=>∃ (nds:List Nd) (c2 g2:Int) (t:MH) (u v:Option D),m=fdL ns c2 o g2::(r++.lst (nds.map nD)::t)/\e=[some (.ref 0),some dn,some (.str ow),some (.lst (ms.map Mk.d)),some (.int mo),some (.ref (r.length+1)),u,v]/\(∀ n∈nds,Sp n.2/\n.1∈ts++[qq])/\nds.length<=k/\0<=c2/\c2<=c+1+10 * k) ?_ ?_ ⟨[],_,_,[],_,_,rfl,rfl,(fun _ h=>nomatch h),Azn _,by lia,by lia⟩⟩
 ·rintro k e m hk ⟨nds,c2,g2,t,u,v,rfl,rfl,hn,hle,hc2,hc3⟩
  refine⟨trivial,?_⟩
  simp_arith[hS,hL]
  refine⟨by lia,(Bj ns _ o g2 _ 6 (by decide) (by decide) (by lia) (by lia)).imp fun x ⟨k2,g3,e,a2,b2⟩=>?_⟩
  subst e
  array_get_dec
  have hq:∀ b:Bool,(ts.length:Int)+(if b=true then 1 else 0)<=(ts++[qq]).length/\1<=(ts.length:Int)+(if b=true then 1 else 0):=fun b=>by cases b<;>simp<;>lia
  obtain⟨q1,q2⟩:=hq (decide (k2=0))
  generalize hN:(ts.length:Int)+(if decide (k2=0)=true then 1 else 0)=N at q1 q2
  have q1':N<=7:=by simp at q1;lia
  refine (Bj ns _ o g3 _ N (by lia) (by lia) (by lia) (by lia)).imp fun x ⟨k3,g4,e,a3,b3⟩=>?_
  subst e
  have eq:ts.map D.str++[D.str (Str.ofString "qqqqqqqq")]=(ts++[qq]).map D.str:=by simp
  simp_arith[eq]
  refine Vj a3 (by rw[Azr];lia) fun d _ hd=>?_
  obtain⟨nm,hnm,rfl⟩:=List.mem_map.mp hd
  array_get_dec
  have stay:∀ (u v:Option D),∃ (nds':List Nd) (c2' g2':Int) (t':MH) (u' v':Option D),fdL ns (c2+1+1) o g4::(r++MObj.lst (nds.map nD)::t)=fdL ns c2' o g2'::(r++MObj.lst (nds'.map nD)::t')/\[some (D.ref 0),some (dn),some (D.str ow),some (D.lst (ms.map Mk.d)),some (D.int mo),some (D.ref (List.length r+1)),u,v]=[some (D.ref 0),some (dn),some (D.str ow),some (D.lst (ms.map Mk.d)),some (D.int mo),some (D.ref (List.length r+1)),u',v']/\(∀ n∈nds',Sp n.2/\n.1∈ts++[qq])/\nds'.length<=k+1/\0<=c2'/\c2'<=c+1+10 * ((k+1:Nat):Int):=fun u v=>⟨nds,_,_,t,u,v,rfl,rfl,hn,by lia,by lia,by lia⟩
  refine cK.mk (fun _=>?_) fun _=>stay _ _
  rw[sqC]
  refine⟨⟨by simp,by simp;lia⟩,Bl (fun n=>.str n.1) (fun n hn=>?_) ?_⟩
  ·unfold nD
   array_get_dec
  rw[Acx (Ay (Af fun _=>Be))]
  simp_arith[sqC]
  refine cK.mk (fun _=>?_) fun _=>stay _ _
  refine (Amz ns _ o g4 _ ms h0 h1 hm (by lia) (by lia)).imp fun x ⟨ps,c5,g5,t5,e,hsp,hc5,hc6⟩=>?_
  subst e
  simp only[List.append_assoc,Bar]
  rw[sqC,At0]
  refine⟨by simp;lia,nds++[(nm,ps)],c5,g5,t++t5,_,_,by simp[nD],rfl,fun n hn'=>?_,by simp;lia,by lia,by lia⟩
  rcases List.mem_append.mp hn' with h|h
  ·exact hn n h
  ·rw[List.mem_singleton.mp h];exact⟨hsp,hnm⟩
 ·rintro e m ⟨nds,c2,g2,t,u,v,rfl,rfl,hn,hle,hc2,hc3⟩
  refine⟨trivial,?_⟩
  simp_arith[sqC]
  exact⟨nds,c2,g2,_,rfl,hn,by lia,hc2,by lia⟩
theorem Td (a b:Pr):deq (prD a) (prD b)=decide (a=b):=by
 unfold prD
 rw[Cm,Cm,Ej,B9,Mk.deq]
 obtain⟨a1,a2⟩:=a
 obtain⟨b1,b2⟩:=b
 by_cases h1:a1=b1<;>by_cases h2:a2=b2<;>simp[h1,h2]
theorem Alw (x:Pr):dep (prD x)<=3:=by
 unfold prD
 rw[C5]
 have:Cz [D.str x.1,x.2.d]<=2:=B0 fun d hd=>by
  simp only[Bba,Bap,or_false] at hd
  rcases hd with rfl|rfl
  ·rw[Ei];lia
  ·exact x.2.dep
 lia
theorem Ayw {z:MObj}{M t:MH}{st:List Pr}{a:Str}{x:Mk}{Q:D->Prop}:W (Bz (.tup [.str a,x.d]) (.ref (M.length+1)) (z::(M++.lst (st.map prD)::t))) Q=Q (.bl (!decide ((a,x)∈st))):=by
 have e0:(z::(M++MObj.lst (st.map prD)::t))[M.length+1]?=some (.lst (st.map prD)):=by simp
 have e1:B7 (z::(M++MObj.lst (st.map prD)::t)) (.ref (M.length+1))=some (.lst (st.map prD)):=by
  unfold B7;simp only[e0,Ay (Af N4),Bbc]
 have e:inO (z::(M++.lst (st.map prD)::t)) (prD (a,x)) (.ref (M.length+1))=some (decide ((a,x)∈st)):=by
  unfold inO
  simp only[By (N4 (a,x)),e1,Azv]
  rw[show sq [] (D.lst (st.map prD))=some (st.map prD) from rfl,Azv]
  have:=Alw (a,x)
  rw[Azp (by lia)]
  congr 1
  rw[Ba3,List.any_eq_true,Bat]
  constructor
  ·rintro ⟨d,hd,h⟩
   obtain⟨y,hy,rfl⟩:=List.mem_map.mp hd
   rw[Td] at h
   rw[<- Baa h];exact hy
  ·exact fun h=>⟨prD (a,x),List.mem_map.mpr ⟨_,h,rfl⟩,by rw[Td];simp⟩
 unfold Bz
 have e':inO (z::(M++.lst (st.map prD)::t)) (.tup [.str a,x.d]) (.ref (M.length+1))=some (decide ((a,x)∈st)):=e
 rw[e',Azv,Ab]
theorem Zh {α:Type} (ys:List α) (p:Nat) (x:α):(insD ys p x).Perm (x::ys):=by
 unfold insD
 refine List.perm_middle.trans ?_
 rw[List.take_append_drop]
theorem U8 {k:Int} (h0:0<=k) (h1:k < 2) {a b:Int}{Q:D->Prop} (qa:Q (.int a)) (qb:Q (.int b)):W (atI [D.int a,.int b] k) Q:=by
 have:k=0\/k=1:=by lia
 rcases this with rfl|rfl
 ·exact⟨_,rfl,qa⟩
 ·exact⟨_,rfl,qb⟩
noncomputable abbrev inB:FS:=Bh (Dh 7 (Ii (Ag (fM (f2 oIx (Ac 3) (Ac 5))) (Ag (A4 1 Ma (Ag (fM (Ac 0)) A8)) A8)))) (sIf (Bm (f2 Bz (Ac 7) (Ac 4))) (Oc Hg (Ac 4) (Ag (A4 2 Bu (Ag (fM (Ac 0)) (Ag (fM (f2 Ew (A7 J0 (Aa (Ac 4) Aj)) (fC (.int 1)))) A8))) (Ag (fM (Ac 7)) A8))) Eu)
theorem Adj (ns:List Int) (o:Int) (sh mn:Int) (ts:List Str) (M:MH) (j k:Nat) (hj:M[j]?=some (.lst (ts.map .str))) (hk:k < ts.length) (ht:ts.length<=6) (n:Nat) (h4:n<=4) (c g:Int) (hc:0<=c) (hc1:c < 800000) (st:List Pr) (t:MH) (v w:Option D) (hn:st.Nodup) (hs:∀ x∈st,x.2.ms.length<=2/\x.1∈ts) (hle:st.length<=4 * k) (Q:Out->Prop)
  (q:∀ (st:List Pr) (c2 g2:Int) (t:MH) (v w:Option D),st.Nodup->(∀ x∈st,x.2.ms.length<=2/\x.1∈ts)->st.length<=4 * (k+1)->Q (.nx [some (.ref 0),some (.int sh),some (.int mn),some (.ref (j+1)),some (.ref (M.length+1)),some (.int k),v,w] (fdL ns c2 o g2::(M++.lst (st.map prD)::t)))) :
  W (Hu Bv (Au 6) inB (C4 0 n) [some (.ref 0),some (.int sh),some (.int mn),some (.ref (j+1)),some (.ref (M.length+1)),some (.int k),v,w] (fdL ns c o g::(M++.lst (st.map prD)::t))) Q:=by
 refine Je (fun i e m=>∃ (st:List Pr) (c2 g2:Int) (t:MH) (v w:Option D),m=fdL ns c2 o g2::(M++.lst (st.map prD)::t)/\e=[some (.ref 0),some (.int sh),some (.int mn),some (.ref (j+1)),some (.ref (M.length+1)),some (.int k),v,w]/\st.Nodup/\(∀ x∈st,x.2.ms.length<=2/\x.1∈ts)/\st.length<=4 * k+i/\0<=c2/\c2<=c+10 * i) ?_ ?_ ⟨st,c,g,t,v,w,rfl,rfl,hn,hs,hle,hc,by lia⟩
 ·rintro i e m hi ⟨st,c2,g2,t,v,w,rfl,rfl,hn,hs,hle,hc2,hc3⟩
  refine⟨trivial,?_⟩
  simp_arith[sqN hj,M8 hk]
  refine (Ako ns c2 o g2 _ hc2 (by lia)).imp fun x ⟨mk,c4,g4,t4,e,hms,hc4,hc5⟩=>?_
  subst e
  simp only[List.append_assoc,Bar]
  simp_arith[Ayw,sqC]
  refine cK.mk (fun h=>?_) fun _=>⟨st,c4,g4,_,_,_,rfl,rfl,hn,hs,by lia,by lia,by lia⟩
  have hx':(ts[k],mk)∉st:=by simpa using h
  refine (Bj ns _ o g4 _ (st.length+1) (by lia) (by lia) (by lia) (by lia)).imp fun x ⟨k3,g5,e,a3,b3⟩=>?_
  subst e
  simp_arith[sqC,Oi]
  have hp:=Zh st k3.toNat (ts[k],mk)
  refine⟨⟨by lia,by lia,by lia⟩,insD st k3.toNat (ts[k],mk),c4+1,g5,t++t4,_,_,?_,rfl,hp.nodup_iff.mpr (List.nodup_cons.mpr ⟨hx',hn⟩),fun x hx=>?_,by rw[Adl];lia,by lia,by lia⟩
  ·rw[<- Adm]
   congr 1
   simp[prD]
  ·rcases List.mem_cons.mp (hp.mem_iff.mp hx) with rfl|hx
   ·exact⟨hms,Baq hk⟩
   ·exact hs x hx
 ·rintro e m ⟨st,c2,g2,t,v,w,rfl,rfl,hn,hs,hle,hc2,hc3⟩
  exact⟨trivial,q st c2 g2 t v w hn hs (by lia)⟩
theorem Hl (ns:List Int) (hl:ns.length<=63) (c o g:Int) (r:MH) (sh mn:Int) (a1:0<=sh) (h1:1<=mn) (h2:mn<=6) (hc:0<=c) (hc1:c < 800000):W (Hm [some (.ref 0),some (.int sh),some (.int mn),none,none,none,none,none] (fdL ns c o g::r)) (Atn fun x=>∃ (ts:List Str) (st:List Pr) (c' g':Int) (M t:MH) (j:Nat),x=(.tup [.ref (j+1),.ref (M.length+1)],fdL ns c' o g'::(M++.lst (st.map prD)::t))/\M[j]?=some (.lst (ts.map .str))/\1<=ts.length/\ts.length<=6/\ts.Nodup/\st.length<=24/\st.Nodup/\(∀ x∈st,x.2.ms.length<=2/\x.1∈ts)):=by
 unfold Hm
 array_get_dec
 refine (Ad5 ns c o g r mn h1 h2 hc (by lia)).imp fun x ⟨ts,c1,g1,e,hts,hnd,hc2,hc3⟩=>?_
 subst e
 array_get_dec
 generalize hM:r++[MObj.lst (ts.map D.str)]=M
 have hj:M[r.length]?=some (.lst (ts.map D.str)):=by rw[<- hM];simp
 have hj2:=hj
 generalize r.length=j at hj hj2
 refine⟨⟨by lia,by lia⟩,Je (fun k e m=>∃ (st:List Pr) (c2 g2:Int) (t:MH) (u v w:Option D),m=fdL ns c2 o g2::(M++.lst (st.map prD)::t)/\e=[some (.ref 0),some (.int sh),some (.int mn),some (.ref (j+1)),some (.ref (M.length+1)),u,v,w]/\st.Nodup/\(∀ x∈st,x.2.ms.length<=2/\x.1∈ts)/\st.length<=4 * k) ?_ ?_ ⟨[],_,_,[],_,_,_,rfl,rfl,Bbe,(fun _ h=>nomatch h),Azn _⟩⟩
 ·rintro k e m hk ⟨st,c2,g2,t,u,v,w,rfl,rfl,hn,hs,hle⟩
  refine⟨trivial,?_⟩
  array_get_dec
  refine (Nx ns hl c2 o g2 _ (2+k) (by lia) (by lia)).imp fun x ⟨g3,e⟩=>?_
  subst e
  array_get_dec
  have hk':k < ts.length:=by lia
  refine cK.dec (fun h2=>U8 a1 h2 ?_ ?_) fun h2=>?_
  all_goals
   refine (Bj ns _ o g3 _ _ (by decide) (by decide) (by lia) (by lia)).imp fun x ⟨k3,g4,e,a3,b3⟩=>?_
   subst e
   array_get_dec
   exact⟨⟨by lia,by lia⟩,Adj ns o sh mn ts M j k hj hk' (by lia) _ (by lia) _ _ (by lia) (by lia) st t v w hn hs hle _ fun st c2 g2 t v w h1 h2 h3=>⟨st,c2,g2,t,_,v,w,rfl,rfl,h1,h2,h3⟩⟩
 ·rintro e m ⟨st,c2,g2,t,u,v,w,rfl,rfl,hn,hs,hle⟩
  refine⟨trivial,?_⟩
  array_get_dec
  exact⟨ts,st,c2,g2,M,t,j,rfl,hj,by lia,by lia,hnd,by lia,hn,hs⟩
theorem Afl (ns:List Int) (hl:ns.length<=63) (c o g:Int) (r:MH):W (O9 [.ref 0] (fdL ns c o g::r)) fun x=>∃ (ts:List Str) (st:List Pr) (c' g':Int) (M t:MH) (j:Nat),x=(.tup [.ref (j+1),.ref (M.length+1)],fdL ns c' o g'::(M++.lst (st.map prD)::t))/\M[j]?=some (.lst (ts.map .str))/\1<=ts.length/\ts.length<=6/\ts.Nodup/\st.length<=24/\st.Nodup/\(∀ x∈st,x.2.ms.length<=2/\x.1∈ts):=by
 unfold O9 Ajy
 rw[D6]
 array_get_dec
 refine (Nx ns hl c o g r 1 (by decide) (by decide)).imp fun x ⟨g1,e⟩=>?_
 subst e
 refine (Bj ns _ o g1 r 16 (by decide) (by decide) (by lia) (by lia)).imp fun x ⟨sh,g2,e,a1,b1⟩=>?_
 subst e
 array_get_dec
 refine cK.dec (fun h2=>U8 a1 h2 (Hl ns hl _ o _ r sh 6 a1 (by decide) (by decide) (by decide) (by decide)) (Hl ns hl _ o _ r sh 3 a1 (by decide) (by decide) (by decide) (by decide))) fun h2=>(Bj ns _ o g2 r 4 (by decide) (by decide) (by lia) (by lia)).imp fun x ⟨k3,g3,e,a3,b3⟩=>?_
 subst e
 array_get_dec
 exact Hl ns hl _ o _ r sh _ a1 (by lia) (by lia) (by lia) (by lia)
theorem Api {es:List En} (h:(es.map fun e=>(e.nm,e.mv)).Nodup):es.Pairwise Dst:=by
 unfold List.Nodup at h
 rw[List.pairwise_map] at h
 exact h.imp fun {a b} h z=>h (by rw[z.1,z.2])
theorem Afa (ns:List Int) (hl:ns.length<=63) (c o g:Int) (r:MH):W (Pa [.ref 0] (fdL ns c o g::r)) fun x=>∃ (ts:List Str) (ms:List Mk) (es:List En) (c' g':Int) (M:MH) (j:Nat),x=(.tup [.ref (j+1),.lst (ms.map Mk.d),.tup (es.map eD)],fdL ns c' o g'::M)/\M[j]?=some (.lst (ts.map .str))/\1<=ts.length/\ts.length<=6/\ts.Nodup/\0 < ms.length/\ms.length<=200/\(∀ x∈ms,x.ms.length<=3)/\Sh es/\es.length<=24/\(∀ e∈es,e.nm∈ts)/\∀ e∈es,∀ n∈e.nd,n.1∈ts++[qq]:=by
 unfold Pa Ajz
 rw[D6]
 array_get_dec
 refine (Afl ns hl c o g r).imp fun x ⟨ts,st,c1,g1,M,t,j,e,hj,ht1,ht2,htn,hsl,hsn,hsm⟩=>?_
 subst e
 simp_arith[sqC]
 refine⟨Ay (Af N4),(Alv st (by lia) fun x hx=>(hsm x hx).1).imp fun d ⟨ms,e,hm1,hm2,hm3⟩=>?_⟩
 subst e
 simp_arith[Co]
 generalize hM:M++MObj.lst (st.map prD)::t=M1
 have hj1:M1[j]?=some (.lst (ts.map .str)):=by
  have:=(List.getElem?_eq_some_iff.mp hj).1
  rw[<- hM,Azz this];exact hj
 have hs1:M1[M.length]?=some (.lst (st.map prD)):=by rw[<- hM];simp
 simp_arith[sqN hs1]
 refine⟨⟨by lia,by lia⟩,Je (fun k e m=>∃ (es:List En) (c2 g2:Int) (t:MH) (u v w:Option D),m=fdL ns c2 o g2::(M1++.lst (es.map eD)::t)/\e=[some (.ref 0),some (.ref (j+1)),some (.ref (M.length+1)),some (.lst (ms.map Mk.d)),some (.ref (M1.length+1)),u,v,w]/\(∀ e∈es,EnOk e)/\(∀ e∈es,∀ n∈e.nd,n.1∈ts++[qq])/\(es.map fun e=>(e.nm,e.mv))=st.take k) ?_ ?_ ⟨[],_,_,[],_,_,_,rfl,rfl,(fun _ h=>nomatch h),(fun _ h=>nomatch h),rfl⟩⟩
 ·rintro k e m hk ⟨es,c2,g2,t,u,v,w,rfl,rfl,h1,h2,h3⟩
  refine⟨trivial,?_⟩
  have hk':k < st.length:=by simpa using hk
  array_get_dec
  refine (Nx ns hl c2 o g2 _ (10+k) (by lia) (by lia)).imp fun x ⟨g3,e⟩=>?_
  subst e
  simp_arith[sqN hs1,M8 hk']
  have ep:prD st[k]=.tup [.str st[k].1,st[k].2.d]:=rfl
  simp_arith[ep]
  rw[sqC]
  have hlk:es.length=k:=by
   have:=Ba4 List.length h3
   rw[Azr,Ba7] at this
   lia
  have hj2:(M1++.lst (es.map eD)::t)[j]?=some (.lst (ts.map .str)):=by
   have:=(List.getElem?_eq_some_iff.mp hj1).1
   rw[Azz this];exact hj1
  refine (Jy ns _ o g3 _ _ ts (Aab hj2).1 (Aab hj2).2 ht1 ht2 st[k].1 ms hm1 (by lia) hm3 4 (by decide) (by decide) (by lia) (by lia)).imp fun x ⟨nds,c4,g4,t4,e,hn,hnl,hc4,hc5⟩=>?_
  subst e
  simp only[List.append_assoc,Bar]
  rw[sqC,At0]
  have hsk:=hsm _ (Baq hk')
  refine⟨by simp;lia,es++[⟨st[k].1,st[k].2,nds⟩],c4,g4,t++t4,_,_,_,by simp[eD],rfl,fun e he=>?_,fun e he=>?_,?_⟩
  ·rcases List.mem_append.mp he with he|he
   ·exact h1 e he
   ·rw[List.mem_singleton.mp he];exact⟨hsk.1,fun n h=>(hn n h).1,by have:(4:Int).toNat=4:=rfl;show nds.length<=4;lia⟩
  ·rcases List.mem_append.mp he with he|he
   ·exact h2 e he
   ·rw[List.mem_singleton.mp he];exact fun n h=>(hn n h).2
  ·rw[Bav,h3,List.take_add_one,Azl hk'];rfl
 ·rintro e m ⟨es,c2,g2,t,u,v,w,rfl,rfl,h1,h2,h3⟩
  refine⟨trivial,?_⟩
  simp_arith[sqC]
  have h3:(es.map fun e=>(e.nm,e.mv))=st:=by rw[h3,Bbx (by simp)]
  refine⟨ts,ms,es,c2,g2,_,j,rfl,?_,ht1,ht2,htn,hm1,by lia,hm3,⟨h1,?_,Api (by rw[h3];exact hsn)⟩,?_,fun e he=>?_,h2⟩
  ·have:=(List.getElem?_eq_some_iff.mp hj1).1
   rw[Azz this];exact hj1
  ·have:=Ba4 List.length h3
   rw[Azr] at this
   lia
  ·have:=Ba4 List.length h3
   rw[Azr] at this
   lia
  ·have:(e.nm,e.mv)∈st:=by rw[<- h3];exact List.mem_map.mpr ⟨e,he,rfl⟩
   exact (hsm _ this).2
theorem Cy {α:Type}{g:FG}{t:FB}{fe:FE}{m:MH}{env:Bc}{h:α->D} (p:α->Bool) (F:α->D):∀ {xs:List α}{Q:List D->Prop},(∀ x∈xs,W (g (h x) env) fun e1=>W (t e1 m) fun ok=>ok=p x/\(ok=true->W (fe e1 m) fun y=>y=F x))->Q ((xs.filter p).map F)->W (Gr g t fe m env (xs.map h)) Q
 |[],Q,_,q=>by rw[Bbb,Jd];exact q
 |x::xs,Q,k,q=>by
  rw[Azm,G7]
  refine (k x (Azg ..)).imp fun e1 h1=>h1.imp fun ok h2=>?_
  obtain⟨h2,h3⟩:=h2
  have ih:=fun {Q:List D->Prop}=>Cy (g:=g) (t:=t) (fe:=fe) (m:=m) (env:=env) (h:=h) p F (xs:=xs) (Q:=Q) fun e he=>k e (Azf _ he)
  constructor
  ·intro hk
   refine (h3 hk).imp fun y hy=>?_
   subst hy
   refine ih ?_
   rw[List.filter_cons,Azp (h2 ▸ hk),Azm] at q
   exact q
  ·intro hk
   refine ih ?_
   rw[List.filter_cons,Azs (by rw[<- h2,hk];decide)] at q
   exact q
theorem Yv {e:En}{m:MH}{Q:D->Prop}:W (oIx (eD e) (.int 0) m) Q=Q (.str e.nm):=by unfold eD;rw[Gm,Vh]
theorem Agd {e:En}{m:MH}{Q:D->Prop}:W (oIx (eD e) (.int 1) m) Q=Q e.mv.d:=by unfold eD;rw[Gm,Vi]
theorem Apj {e:En}{m:MH}{Q:D->Prop}:W (oIx (eD e) (.int 2) m) Q=Q (.tup (e.nd.map nD)):=by unfold eD;rw[Gm,Aib]
theorem Ape (e:En) (t:Str) (x:Mk):deq (kD e) (.tup [.str t,x.d])=decide (e.nm=t/\e.mv=x):=Apu e ⟨t,x,[]⟩
noncomputable def isE (t:Str) (x:Mk) (e:En):Bool:=decide (e.nm=t/\e.mv=x)
def Xf (es:List En) (t:Str) (x:Mk):List Nd:=((es.find? (isE t x)).map En.nd).getD []
theorem R7 (es:List En) (t:Str) (x:Mk) {Q:D->Prop}:W (Zb [.tup (es.map eD),.str t,x.d]) Q=Q (.tup ((Xf es t x).map nD)):=W.eq <| by
 unfold Zb Avl
 rw[B8]
 array_get_dec
 refine Ct (fun rest e m=>m=[]/\rest.find? (isE t x)=es.find? (isE t x)/\∃ v,e=[some (.tup (es.map eD)),some (.str t),some x.d,v]) ?_ ?_ ⟨rfl,rfl,_,rfl⟩
 ·rintro r rest e m ⟨rfl,h1,v,rfl⟩
  refine⟨trivial,?_⟩
  simp_arith[Ava,Apj,Akg,Ape]
  rw[Ba2] at h1
  refine⟨by have:=Apt r;lia,cK.dec (fun h=>?_) fun h=>?_⟩
  ·have hb:isE t x r=true:=Bbd h
   rw[hb] at h1
   simp_arith[Af He]
   unfold Xf
   rw[<- h1];rfl
  ·have hb:isE t x r=false:=Az6 h
   rw[hb] at h1
   exact⟨h1,_,rfl⟩
 ·rintro e m ⟨rfl,h1,v,rfl⟩
  refine⟨trivial,?_⟩
  array_get_dec
  unfold Xf
  rw[<- h1];rfl
abbrev Bk:=Str×Mk
def bD (b:Bk):D:=.tup [.str b.1,b.2.d]
theorem Cj (b:Bk):Bg (bD b)=true:=by unfold bD;rw[A2,Ak,Ak,Bn,Be,b.2.pure];rfl
abbrev Wn:=Str×Nd
def wD (n:Wn):D:=.tup [.str n.1,.str n.2.1,.tup (n.2.2.map pD)]
theorem Gi (n:Wn):Bg (wD n)=true:=by
 unfold wD
 rw[A2,Ak,Ak,Ak,Bn,Be,Be,A2,Iy];rfl
def atw (es:List En) (ws:List Nd) (bk:List Bk):List Wn:=ws.map (fun n=>(Str.ofString "",n))++bk.flatMap fun b=>(Xf es b.1 b.2).map fun n=>(b.1,n)
theorem Nu (es:List En) (h:Sh es) (t:Str) (x:Mk):(Xf es t x).length<=4:=by
 unfold Xf
 cases e:es.find? (isE t x) with
 |none=>simp
 |some r=>exact (h.ok r (List.mem_of_find?_eq_some e)).len
theorem Jf (es:List En) (h:Sh es) (ws:List Nd) (hw:ws.length<=4) (bk:List Bk):(atw es ws bk).length<=4+4 * bk.length:=by
 unfold atw
 rw[Azx,Azr]
 have:(bk.flatMap fun b=>(Xf es b.1 b.2).map fun n=>(b.1,n)).length<=4 * bk.length:=by
  induction bk with
  |nil=>simp
  |cons b bk ih=>rw[Bbz,Azx,Azr,Azo];have:=Nu es h b.1 b.2;lia
 lia
theorem Yb {ds zs:List D}{Q:List D->Prop}:W (Akt ds [.lst zs]) Q=(ds.length+zs.length<=1000000/\Q (ds++zs)):=G8
theorem Vs (es:List En) (h:Sh es) (ws:List Nd) (hw:ws.length<=4) (bk:List Bk) (hb:bk.length<=40) {Q:D->Prop}:W (Y5 [.tup (es.map eD),.tup (ws.map nD),.tup (bk.map bD)]) Q=Q (.lst ((atw es ws bk).map wD)):=W.eq <| by
 unfold Y5 Ave
 rw[B8]
 array_get_dec
 refine⟨by lia,Bl (fun n=>wD (Str.ofString "",n)) (fun n hn=>?_) ?_⟩
 ·unfold nD
  array_get_dec
  rfl
 array_get_dec
 have hat:=Jf es h ws hw bk
 refine Ct (fun rest e m=>∃ (dn:List Bk) (u v:Option D),dn++rest=bk/\m=[.lst ((atw es ws dn).map wD)]/\e=[some (.tup (es.map eD)),some (.tup (ws.map nD)),some (.tup (bk.map bD)),some (.ref 0),u,v]) ?_ ?_ ⟨[],none,none,rfl,by simp[atw],rfl⟩
 ·rintro ⟨t,x⟩ rest e m ⟨dn,u,v,hd,rfl,rfl⟩
  refine⟨trivial,?_⟩
  unfold bD
  have hl:=Nu es h t x
  have hd2:=Jf es h ws hw dn
  have ld:dn.length<=bk.length:=by rw[<- hd];simp
  simp_arith[Af Df,R7,Yb]
  refine⟨by lia,Bl (fun n=>wD (t,n)) (fun n hn=>?_) ?_⟩
  ·unfold nD
   array_get_dec
   rfl
  simp_arith[Yb]
  refine⟨by lia,dn++[(t,x)],_,_,by rw[<- hd];simp,?_,rfl⟩
  simp[atw,List.flatMap_append]
 ·rintro e m ⟨dn,u,v,hd,rfl,rfl⟩
  rw[Az2] at hd
  subst hd
  refine⟨trivial,?_⟩
  simp_arith[Af Gi]
noncomputable def tkn (bk:List Bk) (t:Str):Option Mk:=(bk.find? fun b=>b.1=t).map (·.2)
def kept (bk:List Bk) (n:Nd):Bool:=match tkn bk n.1 with
 |some x=>n.2.any (inP x)
 |none=>false
structure BkOk (bk:List Bk):Prop where
 nd:(bk.map (·.1)).Nodup
 sm:∀ b∈bk,b.2.ms.length<=1000
 len:bk.length<=40
theorem Ab7 {bk:List Bk}{t:Str}{x:Mk} (h:tkn bk t=some x):(t,x)∈bk:=by
 unfold tkn at h
 cases e:bk.find? fun b=>b.1=t with
 |none=>rw[e] at h;cases h
 |some b =>
  rw[e] at h
  cases h
  have h1:=List.mem_of_find?_eq_some e
  have h2:=List.find?_some e
  have h2:b.1=t:=by simpa using h2
  rw[<- h2];exact h1
theorem Pt (bk:List Bk):A1 (bk.map fun b=>b.2.d)=true:=Ay (Af fun b=>b.2.pure)
theorem V7 (bk:List Bk) (hb:BkOk bk) (n:Wn) (hn:Sp n.2.2) {Q:D->Prop}:W (O5 [wD n,.dks (bk.map (·.1)) (bk.map fun b=>b.2.d)]) Q=Q (.bl (kept bk n.2)):=W.eq <| by
 unfold O5 Aju wD
 rw[B8]
 have e1:decide (n.2.1∈bk.map (·.1))=(bk.find? fun b=>b.1=n.2.1).isSome:=Nq (fun b:Bk=>b.1) bk n.2.1
 have e2:Adh (bk.map (·.1)) (bk.map fun b=>b.2.d) n.2.1=(bk.find? fun b=>b.1=n.2.1).map fun b=>b.2.d:=Uk (fun b:Bk=>b.1) (fun b=>b.2.d) bk n.2.1
 simp_arith[e1,e2]
 cases q:bk.find? fun b=>b.1=n.2.1 with
 |none =>
  have k:kept bk n.2=false:=by unfold kept tkn;rw[q];rfl
  simp only[Option.isSome_none,Option.map_none]
  simp_arith[k]
 |some b =>
  have hm:b∈bk:=List.mem_of_find?_eq_some q
  have k:kept bk n.2=n.2.2.any (inP b.2):=by unfold kept tkn;rw[q];rfl
  simp only[Bca,Option.map_some]
  have hl:=hn.len
  simp_arith[Ab,Akk b.2 n.2.2 (hb.sm b hm) hn.sm (by lia) hn.ok,k]
theorem Af7 {es:List En} (h:Sh es) {ws:List Nd} (hw:∀ n∈ws,Sp n.2) {bk:List Bk}{n:Wn} (hn:n∈atw es ws bk):Sp n.2.2:=by
 unfold atw at hn
 rcases List.mem_append.mp hn with hn|hn
 ·obtain⟨z,hz,rfl⟩:=List.mem_map.mp hn
  exact hw z hz
 ·obtain⟨b,_,hn⟩:=List.mem_flatMap.mp hn
  obtain⟨z,hz,rfl⟩:=List.mem_map.mp hn
  unfold Xf at hz
  cases e:es.find? (isE b.1 b.2) with
  |none=>rw[e] at hz;simp at hz
  |some r =>
   rw[e] at hz
   exact (h.ok r (List.mem_of_find?_eq_some e)).sp z hz
structure WtOk (ws:List Nd):Prop where
 sp:∀ n∈ws,Sp n.2
 len:ws.length<=4
theorem Ya {bk:List Bk} (hb:(bk.map (·.1)).Nodup) {m:MH}{Q:D->Prop}:W (Mi [.tup (bk.map bD)] m) Q=Q (.dks (bk.map (·.1)) (bk.map fun b=>b.2.d)):=by
 have e:Hx (bk.map bD)=some (bk.map fun b=>(b.1,b.2.d)):=Xl (fun b:Bk=>b.1) (fun b:Bk=>b.2.d) bk
 rw[Aif,e,Ab,Ade (fun b:Bk=>b.1) (fun b:Bk=>b.2.d) hb]
theorem Aoz {n:Wn}{m:MH}{Q:D->Prop}:W (Of m (wD n)) Q=Q (wD n):=by
 have e:Of m (wD n)=some (wD n):=by show B7 m (wD n)=_;exact By (Gi n)
 rw[e,Ab]
noncomputable def sel (es:List En) (t:Str):List Mk:=(es.filter fun e=>decide (e.nm=t)).map En.mv
theorem Abw {es:List En}{t:Str}{x:Mk} (h:x∈sel es t):∃ e∈es,e.nm=t/\e.mv=x:=by
 unfold sel at h
 obtain⟨e,he,rfl⟩:=List.mem_map.mp h
 have:=List.mem_filter.mp he
 exact⟨e,this.1,by simpa using this.2,rfl⟩
theorem Tq (es:List En) (t:Str):(sel es t).length<=es.length:=by
 unfold sel
 rw[Azr]
 exact List.length_filter_le ..
def mks (es:List En) (t:Str):List Mk:=(sel es t).mergeSort fun x y=>!x.older y
theorem Gx (es:List En) (t:Str):(mks es t).Perm (sel es t):=List.mergeSort_perm _ _
theorem Agm (es:List En) (t:Str):(mks es t).Pairwise fun x y=>x.older y=false:=by
 have:=List.pairwise_mergeSort (le:=fun x y:Mk=>!x.older y) (fun a b c h1 h2=>by
  have h1:=Bool.not_eq_true' _ |>.mp h1
  have h2:=Bool.not_eq_true' _ |>.mp h2
  rw[Bool.not_eq_true']
  cases e:a.older c with
  |false=>rfl
  |true =>
   rcases J2 a b c e with z|z
   ·rw[h1] at z;cases z
   ·rw[h2] at z;cases z) (fun a b=>by
  cases e:a.older b with
  |false=>rfl
  |true=>rw[J1 e];rfl) (sel es t)
 exact this.imp fun h=>Bool.not_eq_true' _ |>.mp h
theorem Ahf {es:List En} (h:Sh es) {t:Str}{x:Mk} (hx:x∈sel es t):x.ms.length<=2:=by
 obtain⟨e,he,_,rfl⟩:=Abw hx
 exact (h.ok e he).ms
theorem mks_mem {es:List En}{t:Str}{x:Mk}:x∈mks es t ↔ ∃ e∈es,e.nm=t/\e.mv=x:=by
 rw[(Gx es t).mem_iff]
 refine⟨Abw,fun⟨e,he,h1,h2⟩=>?_⟩
 unfold sel
 exact List.mem_map.mpr ⟨e,List.mem_filter.mpr ⟨he,by simpa using h1⟩,h2⟩
theorem Jx (es:List En) (t:Str):(mks es t).length<=es.length:=by rw[(Gx es t).length_eq];exact Tq es t
theorem R6 (es:List En) (h:Sh es) (t:Str) {Q:D->Prop}:W (Za [.tup (es.map eD),.str t]) Q=Q (.lst ((mks es t).map Mk.d)):=W.eq <| by
 unfold Za Avk
 rw[B8]
 have hs:=Tq es t
 have h40:=h.len
 array_get_dec
 refine⟨by lia,Cy (fun e=>decide (e.nm=t)) (fun e=>e.mv.d) (fun e he=>?_) ?_⟩
 ·simp_arith[Yv,Agd]
  exact fun _=>trivial
 rw[show ((es.filter fun e=>decide (e.nm=t)).map fun e=>e.mv.d)=(sel es t).map Mk.d by unfold sel;rw[Bbh];rfl]
 array_get_dec
 refine (Z8 (sel es t) (fun x hx=>by have:=Ahf h hx;lia) (by lia)).imp fun d ⟨ys,e,h3,h4⟩=>?_
 subst e
 array_get_dec
 rw[Tc (h3.trans (Gx es t).symm) h4 (Agm es t)]
theorem Pl (es:List En) (h:Sh es) (t:Str) {Q:D->Prop}:W (L9 [.tup (es.map eD),.str t]) Q=Q (.lst ((mks es t).map Mk.d)):=W.eq <| by
 unfold L9 Aj1
 rw[B8]
 have hs:=Tq es t
 have h40:=h.len
 array_get_dec
 refine⟨by lia,Cy (fun e=>decide (e.nm=t)) (fun e=>e.mv.d) (fun e he=>?_) ?_⟩
 ·simp_arith[Yv,Agd]
  exact fun _=>trivial
 rw[show ((es.filter fun e=>decide (e.nm=t)).map fun e=>e.mv.d)=(sel es t).map Mk.d by unfold sel;rw[Bbh];rfl]
 obtain⟨ys,hp,hpw,eo⟩:=Vb (fn:=D8) (m:=[]) (xs:=sel es t) (fun x hx=>W.out (by rw[Lw x (by have:=Ahf h hx;lia)])) (by lia)
 array_get_dec
 rw[eo,Ab]
 rw[show Ad9 [D.lst (ys.map Mk.d)] []=some (ys.map Mk.d).reverse from rfl,Ab,<- List.map_reverse]
 simp_arith[Co]
 rw[Tc ((List.reverse_perm ys).trans (hp.trans (Gx es t).symm)) (List.pairwise_reverse.mpr hpw) (Agm es t)]
theorem sqA {M r:MH}{a:List D}{Q:List D->Prop}:W (sq (M++.lst a::r) (.ref M.length)) Q=Q a:=by
 have e:(M++MObj.lst a::r)[M.length]?=some (.lst a):=by simp
 have e2:sq (M++MObj.lst a::r) (.ref M.length)=some a:=by unfold sq;simp only[e]
 rw[e2,Ab]
theorem xpA {M:MH}{a:List D} (h:Bf a=true) {Q:D->Prop}:W (Cg (M++[.lst a]) (.ref M.length)) Q=Q (.lst a):=by
 have e:(M++[MObj.lst a])[M.length]?=some (.lst a):=by simp
 have e2:Cg (M++[MObj.lst a]) (.ref M.length)=some (.lst a):=by rw[Cg];simp only[e,h,Bbc]
 rw[e2,Ab]
theorem Aqc {n:Nd}{m:MH}{Q:D->Prop}:W (oIx (nD n) (.int 0) m) Q=Q (.str n.1):=by unfold nD;rw[Gm,Vh]
theorem Aqd {n:Nd}{m:MH}{Q:D->Prop}:W (oIx (nD n) (.int 1) m) Q=Q (.tup (n.2.map pD)):=by unfold nD;rw[Gm,Vi]
theorem Aan {es:List En} (hd:es.Pairwise Dst) (t:Str) (x:Mk):(es.filter (isE t x)).flatMap (fun e=>e.nd.map fun n=>(t,n))=(Xf es t x).map fun n=>(t,n):=by
 induction es with
 |nil=>rfl
 |cons e es ih =>
  obtain⟨h1,h2⟩:=List.pairwise_cons.mp hd
  rw[List.filter_cons]
  unfold Xf
  rw[Ba2]
  cases q:isE t x e with
  |false=>exact ih h2
  |true =>
   have he:e.nm=t/\e.mv=x:=Baa q
   have:es.filter (isE t x)=[]:=List.filter_eq_nil_iff.mpr fun r hr hq=>by
    have hr':r.nm=t/\r.mv=x:=Baa hq
    exact h1 r hr ⟨he.1.trans hr'.1.symm,he.2.trans hr'.2.symm⟩
   simp[this]
theorem Ug {t:Str}{x:Mk}:∀ {pre:List En},(∀ e∈pre,e.nd.length<=4)->((pre.filter (isE t x)).flatMap fun e=>e.nd.map fun n=>(t,n)).length<=4 * pre.length
 |[],_=>by simp
 |e::pre,h=>by
  have ih:=Ug (t:=t) (x:=x) (pre:=pre) fun r hr=>h r (Azf _ hr)
  have he:=h e (Azg ..)
  rw[List.filter_cons,Azo]
  split
  ·rw[Bbz,Azx,Azr];lia
  ·lia
theorem Pm (es:List En) (h:Sh es) (ws:List Nd) (hw:ws.length<=4) (bk:List Bk) (hb:bk.length<=40) {Q:D->Prop}:W (Jo [.tup (es.map eD),.tup (ws.map nD),.tup (bk.map bD)]) Q=Q (.lst ((atw es ws bk).map wD)):=W.eq <| by
 unfold Jo Aj0
 rw[B8]
 have h40:=h.len
 array_get_dec
 refine⟨by lia,Bl (fun n=>wD (Str.ofString "",n)) (fun n hn=>?_) ?_⟩
 ·unfold nD
  array_get_dec
  rfl
 array_get_dec
 refine Ct (fun rest e m=>∃ (M:MH) (dn:List Bk) (u v w w2 w3:Option D),dn++rest=bk/\m=M++[.lst ((atw es ws dn).map wD)]/\e=[some (.tup (es.map eD)),some (.tup (ws.map nD)),some (.tup (bk.map bD)),some (.ref M.length),u,v,w,w2,w3]) ?_ ?_ ⟨[],[],none,none,none,none,none,rfl,by simp[atw],rfl⟩
 ·rintro ⟨t,x⟩ rest e m ⟨M,dn,u,v,w,w2,w3,hd,rfl,rfl⟩
  refine⟨trivial,?_⟩
  have eb:bD (t,x)=.tup [.str t,x.d]:=rfl
  have hl:=Nu es h t x
  have hd2:=Jf es h ws hw dn
  have ld:dn.length<=bk.length:=by rw[<- hd];simp
  simp_arith[eb]
  refine Ct (fun rest' e m=>∃ (M:MH) (pre:List En) (w w2 w3:Option D),pre++rest'=es/\m=M++[.lst ((atw es ws dn++(pre.filter (isE t x)).flatMap fun e=>e.nd.map fun n=>(t,n)).map wD)]/\e=[some (.tup (es.map eD)),some (.tup (ws.map nD)),some (.tup (bk.map bD)),some (.ref M.length),some (.str t),some x.d,w,w2,w3]) ?_ ?_ ⟨M,[],_,_,_,rfl,by simp,rfl⟩
  ·rintro r rest' e m ⟨M,pre,w,w2,w3,hp,rfl,rfl⟩
   refine⟨trivial,?_⟩
   have hr:r∈es:=by rw[<- hp];simp
   have hrl:=(h.ok r hr).len
   have er:eD r=.tup [.str r.nm,r.mv.d,.tup (r.nd.map nD)]:=rfl
   have stay:¬ (r.nm=t/\r.mv=x)->(∃ (M':MH) (pre':List En) (w w2 w3:Option D),pre'++rest'=es/\M++[MObj.lst ((atw es ws dn++(pre.filter (isE t x)).flatMap fun e=>e.nd.map fun n=>(t,n)).map wD)]=M'++[.lst ((atw es ws dn++(pre'.filter (isE t x)).flatMap fun e=>e.nd.map fun n=>(t,n)).map wD)]/\[some (D.tup (es.map eD)),some (D.tup (ws.map nD)),some (D.tup (bk.map bD)),some (D.ref M.length),some (D.str t),some x.d,some (D.str r.nm),some r.mv.d,some (D.tup (r.nd.map nD))]=[some (D.tup (es.map eD)),some (D.tup (ws.map nD)),some (D.tup (bk.map bD)),some (D.ref M'.length),some (D.str t),some x.d,w,w2,w3]):=fun hq=>by
    refine⟨M,pre++[r],_,_,_,by rw[<- hp];simp,?_,rfl⟩
    have hf:isE t x r=false:=Az6 hq
    simp[List.filter_append,hf]
   simp_arith[er,sqA]
   refine cK.dec (fun hq1=>?_) fun hq=>stay fun z=>hq z.1
   refine cK.dec (fun hq2=>?_) fun hq=>stay fun z=>hq z.2
   refine⟨by lia,Bl (fun n=>wD (t,n)) (fun n hn=>?_) ?_⟩
   ·simp_arith[Aqc,Aqd]
    rfl
   rw[Yb,Axc]
   have hpl:((pre.filter (isE t x)).flatMap fun e=>e.nd.map fun n=>(t,n)).length<=4 * pre.length:=Ug fun e he=>(h.ok e (by rw[<- hp];exact Azw _ he)).len
   have hpe:pre.length<=es.length:=by rw[<- hp];simp
   refine⟨by simp only[Azr,Azx];lia,M,pre++[r],_,_,_,by rw[<- hp];simp,?_,rfl⟩
   have hf:isE t x r=true:=Bbd ⟨hq1,hq2⟩
   simp[List.filter_append,hf]
  ·rintro e m ⟨M,pre,w,w2,w3,hp,rfl,rfl⟩
   rw[Az2] at hp
   subst hp
   refine⟨trivial,?_⟩
   array_get_dec
   refine⟨M,dn++[(t,x)],_,_,_,_,_,by rw[<- hd];simp,?_,rfl⟩
   rw[Aan h.dst]
   simp[atw,List.flatMap_append]
 ·rintro e m ⟨M,dn,u,v,w,w2,w3,hd,rfl,rfl⟩
  rw[Az2] at hd
  subst hd
  refine⟨trivial,?_⟩
  simp_arith[xpA (Af Gi)]
def Rj (bk:List Bk) (n:Nd):Bool:=match tkn bk n.1 with
 |some x=>!n.2.any (inP x)
 |none=>false
theorem Xb (bk:List Bk) (hb:BkOk bk) (n:Wn) (hn:Sp n.2.2) {Q:D->Prop}:W (O6 [wD n,.dks (bk.map (·.1)) (bk.map fun b=>b.2.d)]) Q=Q (.bl (Rj bk n.2)):=W.eq <| by
 unfold O6 Ajv wD
 rw[B8]
 have e1:decide (n.2.1∈bk.map (·.1))=(bk.find? fun b=>b.1=n.2.1).isSome:=Nq (fun b:Bk=>b.1) bk n.2.1
 have e2:Adh (bk.map (·.1)) (bk.map fun b=>b.2.d) n.2.1=(bk.find? fun b=>b.1=n.2.1).map fun b=>b.2.d:=Uk (fun b:Bk=>b.1) (fun b=>b.2.d) bk n.2.1
 simp_arith[e1,e2]
 cases q:bk.find? fun b=>b.1=n.2.1 with
 |none =>
  have k:Rj bk n.2=false:=by unfold Rj tkn;rw[q];rfl
  simp only[Option.isSome_none,Option.map_none]
  simp_arith[k]
 |some b =>
  have hm:b∈bk:=List.mem_of_find?_eq_some q
  have k:Rj bk n.2=!n.2.2.any (inP b.2):=by unfold Rj tkn;rw[q];rfl
  simp only[Bca,Option.map_some]
  have hl:=hn.len
  simp_arith[Ab,Adr b.2 n.2.2 (hb.sm b hm) hn.sm,k]
def Zs (es:List En) (ws:List Nd):Seek.Shelf Str Mk (List Pc):=⟨Str.ofString "",ws,Xf es,fun m sp=>sp.any (inP m),mks es⟩
abbrev Pap:=Seek.Paper Str Mk (List Pc)
theorem Ath {ch:List Bk}{n:Str}:tkn ch n=Seek.tk ch n:=rfl
theorem Ai7 {es:List En}{ws:List Nd}{ch:List Bk}{x:Wn}:Rj ch x.2=Seek.isB (Zs es ws) ch x:=by
 unfold Rj Seek.isB
 rw[Ath]
 cases Seek.tk ch x.2.1<;>rfl
mutual
def paD:Pap->D
 |.brk x=>.tup [.str (Str.ofString "broken"),.str x.1,.str x.2.1,.tup (x.2.2.map pD)]
 |.opn n b rows=>.tup [.str (Str.ofString "open"),.str n,.str b,.tup (Hk rows)]
def Hk:List (Mk×Pap)->List D
 |[]=>[]
 |r::rs=>.tup [r.1.d,paD r.2]::Hk rs
end
mutual
def ht:Pap->Nat
 |.brk _=>1
 |.opn _ _ rows=>htL rows+1
def htL:List (Mk×Pap)->Nat
 |[]=>0
 |r::rs=>max (ht r.2) (htL rs)
end
theorem Zf:∀ {rows:List (Mk×Pap)}{r:Mk×Pap},r∈rows->ht r.2<=htL rows
 |x::xs,r,h=>by
  rw[htL]
  rcases List.mem_cons.mp h with rfl|h
  ·lia
  ·have:=Zf h;lia
theorem Em:∀ rows:List (Mk×Pap),Hk rows=rows.map fun r=>.tup [r.1.d,paD r.2]
 |[]=>rfl
 |r::rs=>by rw[Hk,Azm,Em rs]
theorem Mr (n:Str):∀ rows:List (Mk×Pap),Seek.restsL rows n=rows.any fun r=>Seek.rests r.2 n
 |[]=>by rw[Seek.restsL];rfl
 |r::rs=>by rw[Seek.restsL,Ba0,Mr n rs]
mutual
theorem Nz:∀ p:Pap,Bg (paD p)=true
 |.brk x=>by
  rw[paD,A2,Ak,Ak,Ak,Ak,Bn,Be,Be,Be,A2,Iy];rfl
 |.opn n b rows=>by
  rw[paD,A2,Ak,Ak,Ak,Ak,Bn,Be,Be,Be,A2,Ms rows];rfl
theorem Ms:∀ rows:List (Mk×Pap),Bf (Hk rows)=true
 |[]=>by rw[Hk];rfl
 |r::rs=>by
  rw[Hk,Ak,A2,Ak,Ak,Bn,r.1.pure,Nz r.2,Ms rs];rfl
end
theorem Afr {es:List En}{ws:List Nd}{U:List Str} (hU:∀ ch x,x∈Seek.needs (Zs es ws) ch->x.2.1∈U) {ch:List Bk}{p:Pap} (h:Seek.Valid (Zs es ws) ch p):Seek.Way (Zs es ws) U ch->ht p+ch.length<=U.length+1:=by
 refine Seek.Valid.rec (motive_1:=fun ch p _=>Seek.Way (Zs es ws) U ch->ht p+ch.length<=U.length+1) (motive_2:=fun ch n ms rs _=>Seek.Way (Zs es ws) U ch->Seek.tk ch n=none->n∈U->(∀ m∈ms,m∈(Zs es ws).mks n)->htL rs+ch.length<=U.length) ?_ ?_ ?_ ?_ h
 ·intro ch x _ _ hw
  have:=hw.len
  rw[ht];lia
 ·intro ch n b s rows h1 h2 _ ih hw
  have:=ih hw h1 (hU _ _ h2) fun _ h=>h
  rw[ht];lia
 ·intro ch n hw _ _ _
  have:=hw.len
  rw[htL];lia
 ·intro ch n m ms p rs _ _ ih1 ih2 hw hn hu hm
  have a:=ih1 (hw.snoc hn (hm m (Azg ..)) hu)
  have b:=ih2 hw hn hu fun m' h=>hm m' (Azf _ h)
  rw[Azx] at a
  simp only[Azo,Bbo] at a
  show max (ht p) (htL rs)+_<=_
  lia
mutual
def Ah4:Pap->Prop
 |.brk _=>True
 |.opn _ _ rows=>rows.length<=40/\Tz rows
def Tz:List (Mk×Pap)->Prop
 |[]=>True
 |r::rs=>Ah4 r.2/\Tz rs
end
theorem Rg:∀ {rows:List (Mk×Pap)}{r:Mk×Pap},Tz rows->r∈rows->Ah4 r.2
 |x::xs,r,h,hr=>by
  rw[Tz] at h
  rcases List.mem_cons.mp hr with rfl|hr
  ·exact h.1
  ·exact Rg h.2 hr
theorem X5 {es:List En} (hs:Sh es) {ws:List Nd}{ch:List Bk}{p:Pap} (h:Seek.Valid (Zs es ws) ch p):Ah4 p:=by
 refine Seek.Valid.rec (motive_1:=fun ch p _=>Ah4 p) (motive_2:=fun ch n ms rs _=>Tz rs/\rs.length=ms.length) ?_ ?_ ?_ ?_ h
 ·intro ch x _ _
  rw[Ah4];trivial
 ·intro ch n b s rows h1 h2 _ ih
  rw[Ah4]
  refine⟨?_,ih.1⟩
  have:=Jx es n
  have h40:=hs.len
  have e:rows.length=(mks es n).length:=ih.2
  lia
 ·intro ch n
  rw[Tz];exact⟨trivial,rfl⟩
 ·intro ch n m ms p rs _ _ ih1 ih2
  rw[Tz]
  exact⟨⟨ih1,ih2.1⟩,by rw[Azo,Azo,ih2.2]⟩
theorem ob:(Str.ofString "open"=Str.ofString "broken")=False:=eq_false (by decide +kernel)
theorem Ye {d:D} (h:Bg d=true) {m:MH}{Q:D->Prop}:W (B7 m d) Q=Q d:=by rw[By h,Ab]
theorem Ow {α:Type} (F:α->Bool):∀ xs:List α,Rt (xs.map fun x=>D.bl (F x))=some (xs.map F)
 |[]=>rfl
 |x::xs=>by rw[Azm,Rt,Ow F xs];rfl
theorem U5 (n:Str):∀ (f:Nat) (p:Pap),ht p<=f->Ah4 p->Jq f [paD p,.str n]=some (.bl (Seek.rests p n))
 |0,p,h,_=>by cases p<;>simp[ht] at h
 |f+1,.brk x,h,_=>W.out <| by
  show W (Gj 2 (V4 (Jq f)) _) _
  rw[B8,paD]
  unfold V4
  array_get_dec
  rw[show Ln [D.str (Str.ofString "broken"),D.str x.1,D.str x.2.1,D.tup (x.2.2.map pD)] (some 1) (some 3)=[D.str x.1,D.str x.2.1] from rfl]
  array_get_dec
  rw[Seek.rests]
  simp[B9,eq_comm]
 |f+1,.opn m b rows,h,ht'=>W.out <| by
  show W (Gj 2 (V4 (Jq f)) _) _
  rw[B8,paD]
  unfold V4
  rw[ht] at h
  rw[Ah4] at ht'
  have hl:=ht'.1
  simp_arith[ob,decide_false]
  rw[Em,Seek.rests,Mr]
  refine cK.dec (fun hb=>by simp[hb]) fun hb=>⟨by rw[Azr];lia,Bl (fun r=>.bl (Seek.rests r.2 n)) (fun r hr=>?_) ?_⟩
  ·have e:=U5 n f r.2 (by have:=Zf hr;lia) (Rg ht'.2 hr)
   simp_arith[Nz r.2]
   rw[e,Ab]
  ·rw[Ow (fun r:Mk×Pap=>Seek.rests r.2 n),Ab]
   simp[hb,List.any_map]
   rfl
def pk:Wn->List Wn->Wn
 |b,[]=>b
 |b,x::xs=>if ltT x.2.1 b.2.1=true then pk x xs else pk b xs
def Dg:List Wn->Option Wn
 |[]=>none
 |x::xs=>some (pk x xs)
theorem Aax:∀ (xs:List Wn) (b:Wn),pk b xs∈b::xs
 |[],b=>Azg ..
 |x::xs,b=>by
  rw[pk]
  split
  ·exact Azf _ (Aax xs x)
  ·rcases List.mem_cons.mp (Aax xs b) with h|h
   ·rw[h];exact Azg ..
   ·exact Azf _ (Azf _ h)
theorem Adq (a:Str):TX.leT a a=true:=by
 have:=TX.leT_total a a
 simpa using this
theorem Dz (l:List Wn) (x:Wn) (h:Dg l=some x):x∈l:=by
 cases l with
 |nil=>cases h
 |cons y ys=>cases h;exact Aax ys y
theorem Gz (l:List Wn) (h:Dg l=none):l=[]:=by
 cases l with
 |nil=>rfl
 |cons y ys=>cases h
mutual
theorem Uc:∀ {d:D},Bg d=true->deq d d=true
 |.non,_=>Apg
 |.bl b,_=>by rw[Agb];simp
 |.int b,_=>by rw[Bs];simp
 |.str b,_=>by rw[B9];simp
 |.tup ds,h=>by rw[A2] at h;exact Jm h
 |.lst _,h=>by simp[Bg] at h
 |.kl _,h=>by simp[Bg] at h
 |.ref _,h=>by simp[Bg] at h
 |.dic _ _,h=>by simp[Bg] at h
 |.fn _ _,h=>by simp[Bg] at h
 |.dks _ _,h=>by simp[Bg] at h
 |.fz _ _ _ _,h=>by simp[Bg] at h
theorem Jm:∀ {ds:List D},Bf ds=true->deq (.tup ds) (.tup ds)=true
 |[],_=>Ej
 |d::ds,h=>by
  rw[Ak,Az0] at h
  rw[Cm,Uc h.1,Jm h.2];rfl
end
theorem Ys {ds:List D} (h:Bf ds=true):deq (.lst ds) (.lst ds)=true:=Jm h
theorem Io {ds:List D}:deq (.lst ds) (.lst [])=ds.isEmpty:=by cases ds<;>rfl
theorem Mz:∀ ts:List Str,E4 (ts.map .str)=some ts
 |[]=>rfl
 |t::ts=>by rw[Azm,E4,Mz ts];rfl
theorem Iv (ts:List Str):A1 (ts.map .str)=true:=Ay (Af fun _=>Be)
theorem Rw (ch:List Bk) (n:Str):(!decide (n∈ch.map (·.1)))=(tkn ch n).isNone:=by
 have e1:decide (n∈ch.map (·.1))=(ch.find? fun b=>b.1=n).isSome:=Nq (fun b:Bk=>b.1) ch n
 rw[e1]
 unfold tkn
 cases ch.find? fun b=>decide (b.1=n)<;>rfl
structure Gd (es:List En) (ws:List Nd) (U:List Str):Prop where
 sh:Sh es
 wt:WtOk ws
 un:∀ ch x,x∈Seek.needs (Zs es ws) ch->x.2.1∈U
 ul:U.length<=7
abbrev Vo (es:List En) (ws:List Nd) (U:List Str) (ch:List Bk):Prop:=Seek.Way (Zs es ws) U ch
theorem Aia {es:List En}{ws:List Nd}{U:List Str} (G:Gd es ws U) {ch:List Bk} (hw:Vo es ws U ch):BkOk ch where
 nd:=hw.nd
 sm:=fun b hb=>by
  obtain⟨e,he,_,h2⟩:=mks_mem.mp (hw.of b hb)
  have:=(G.sh.ok e he).ms
  rw[<- h2];lia
 len:=by have:=hw.len;have:=G.ul;lia
theorem M0 {n:Wn}{m:MH}{Q:D->Prop}:W (oIx (wD n) (.int 1) m) Q=Q (.str n.2.1):=by unfold wD;rw[Gm,Vi]
theorem Ah9 {n:Wn}{m:MH}{Q:D->Prop}:W (oIx (wD n) (.int 0) m) Q=Q (.str n.1):=by unfold wD;rw[Gm,Vh]
theorem Us (a b:Str):ltT a b=!TX.leT b a:=by
 unfold ltT TX.leT
 rw[Bool.not_not]
theorem Ad4 (a:Str):ltT a a=false:=by rw[Us,Adq];rfl
theorem Akl {a b:Str} (h:ltT a b=true):TX.leT a b=true:=by
 have ht:=TX.leT_total a b
 rw[Us] at h
 cases e:TX.leT a b with
 |true=>rfl
 |false=>rw[e] at ht;simp at ht;rw[ht] at h;cases h
theorem Zz {a b c:Str} (h1:ltT a b=true) (h2:ltT b c=true):ltT a c=true:=by
 cases e:ltT a c with
 |true=>rfl
 |false =>
  rw[Us] at e h2
  have e:TX.leT c a=true:=by simpa using e
  rw[TX.leT_trans _ _ _ e (Akl h1)] at h2
  cases h2
theorem Akm {a b:Str} (h1:ltT a b=false) (h2:ltT b a=false):a=b:=by
 rw[Us] at h1 h2
 exact TX.leT_anti (by simpa using h2) (by simpa using h1)
def Jg (a b:Bk):Bool:=ltT a.1 b.1||(decide (a.1=b.1)&&a.2.older b.2)
theorem Ou (a:Bk):Jg a a=false:=by unfold Jg;rw[Ad4,Es];simp
theorem bltB_iff {a b:Bk}:Jg a b=true ↔ ltT a.1 b.1=true\/(a.1=b.1/\a.2.older b.2=true):=by
 unfold Jg
 rw[Bool.or_eq_true,Az0,Bat]
theorem Lx (a b c:Bk) (h1:Jg a b=true) (h2:Jg b c=true):Jg a c=true:=by
 rw[bltB_iff] at *
 rcases h1 with h1|⟨h1,h1'⟩<;>rcases h2 with h2|⟨h2,h2'⟩
 ·exact .inl (Zz h1 h2)
 ·exact .inl (h2 ▸ h1)
 ·exact .inl (h1 ▸ h2)
 ·exact .inr ⟨h1.trans h2,Cc h1' h2'⟩
theorem Na (a b:Bk) (h1:Jg a b=false) (h2:Jg b a=false):a=b:=by
 have h1:=fun z=>Bool.eq_false_iff.mp h1 (bltB_iff.mpr z)
 have h2:=fun z=>Bool.eq_false_iff.mp h2 (bltB_iff.mpr z)
 have e1:a.1=b.1:=Akm (Bool.eq_false_iff.mpr fun z=>h1 (.inl z)) (Bool.eq_false_iff.mpr fun z=>h2 (.inl z))
 have e2:a.2=b.2:=Iw _ _ (Bool.eq_false_iff.mpr fun z=>h1 (.inr ⟨e1,z⟩)) (Bool.eq_false_iff.mpr fun z=>h2 (.inr ⟨e1.symm,z⟩))
 exact Prod.ext e1 e2
theorem Ac4 (a b c:Bk) (h:Jg a c=true):Jg a b=true\/Jg b c=true:=by
 by_cases e:a=b
 ·subst e;exact .inr h
 ·cases q:Jg a b with
  |true=>exact .inl rfl
  |false =>
   right
   refine Lx b a c ?_ h
   cases q2:Jg b a with
   |true=>rfl
   |false=>exact absurd (Na a b q q2) e
instance:Inhabited Bk:=⟨(Str.ofString "",default)⟩
theorem Au6 {a b:Bk} (h:a.1=b.1->a=b):ltD (bD a) (bD b)=some (Jg a b):=by
 unfold bD
 rw[Hd]
 simp only[Dr,B9,Mk.deq]
 by_cases e:a.1=b.1
 ·have e2:=h e
  subst e2
  simp[Ou]
 ·have:(decide (a.1=b.1))=false:=Az6 e
  simp only[this,Baf,Bbn]
  rw[ltD]
  congr 1
  unfold Jg
  rw[this]
  simp[ltT]
theorem T4 (b:Bk):dep (bD b)<=3:=by
 unfold bD
 rw[C5]
 have:Cz [D.str b.1,b.2.d]<=2:=B0 fun d hd=>by
  simp only[Bba,Bap,or_false] at hd
  rcases hd with rfl|rfl
  ·rw[Ei];lia
  ·exact b.2.dep
 lia
theorem Amy (r:List Bk) (hn:(r.map (·.1)).Nodup) (hl:r.length < 64):∃ ys:List Bk,ys.Perm r/\ys.Pairwise (fun x y=>Jg y x=false)/\∀ m:MH,D9 [.tup (r.map bD)] m=some (ys.map bD):=by
 have inj:∀ i j (hi:i < r.length) (hj:j < r.length),r[i].1=r[j].1->r[i]=r[j]:=fun i j hi hj e=>by
  have:i=j:=(List.getElem_inj (h₀:=by simpa using hi) (h₁:=by simpa using hj) hn).mp (by simpa using e)
  subst this;rfl
 have c1:(r.map bD).all Anh=true:=by
  rw[Bch]
  intro d hd
  obtain⟨x,_,rfl⟩:=List.mem_map.mp hd
  rfl
 have c2:A1 (r.map bD)=true:=Ay (Af Cj)
 have c3:Cz (r.map bD)<=20:=B0 fun d hd=>by
  obtain⟨x,_,rfl⟩:=List.mem_map.mp hd
  have:=T4 x
  lia
 have go:∀ ys:List Bk,ys.Perm r->ys.Pairwise (fun x y=>Jg y x=false)->Ex false (r.map bD) (r.map bD)=some (ys.map bD)->∃ ys:List Bk,ys.Perm r/\ys.Pairwise (fun x y=>Jg y x=false)/\∀ m:MH,D9 [.tup (r.map bD)] m=some (ys.map bD):=fun ys h1 h9 h3=>by
  refine⟨ys,h1,h9,fun m=>?_⟩
  unfold D9 Axb
  simp only[Azv]
  rw[h3,Azv]
  rw[Azp ⟨by simpa using hl,c1,c2,c3,by rw[Azr,h1.length_eq];exact hl⟩]
 by_cases h2:r.length < 2
 ·refine go r (List.Perm.refl _) (by
   match r,h2 with
   |[],_=>exact .nil
   |[x],_=>exact Bbi ..) ?_
  unfold Ex
  rw[Azp (by simpa using h2)]
 ·obtain⟨p,e,hp,hs,hi⟩:=Le (blt:=Jg) (zs:=r) Ou Lx Ac4 Na (c:=fun i j=>ltD ((W.katRev false (r.map bD)).getD i .non) ((W.katRev false (r.map bD)).getD j .non)) (fun i j hi hj=>by
   have g:∀ i (hi:i < r.length),(W.katRev false (r.map bD)).getD i .non=bD r[i]:=fun i hi=>by
    show (r.map bD).getD i .non=_
    rw[Azk,Az3,Azl hi]
    rfl
   show ltD _ _=_
   rw[g i hi,g j hj,Au6 (inj i j hi hj)]) (by lia)
  refine go (p.toList.map fun i=>r.getD i default) hp hs ?_
  unfold Ex
  rw[Azs (by simpa using h2),Azr,e]
  show some (W.katRev false _)=_
  congr 1
  show (p.toList.map fun i=>(r.map bD).getD i .non)=_
  rw[Bbh]
  refine List.map_congr_left fun i hi'=>?_
  have hlt:=hi i hi'
  rw[Azk,Az3,Azl hlt]
  show bD r[i]=bD (r.getD i default)
  rw[Azk,Azl hlt]
  rfl
noncomputable def srt (r:List Bk):List Bk:=open Classical in if h:∃ ys:List Bk,ys.Perm r/\ys.Pairwise (fun x y=>Jg y x=false)/\∀ m:MH,D9 [.tup (r.map bD)] m=some (ys.map bD) then h.choose else []
theorem Ra (r:List Bk) (hn:(r.map (·.1)).Nodup) (hl:r.length < 64):(srt r).Perm r/\(srt r).Pairwise (fun x y=>Jg y x=false)/\∀ m:MH,D9 [.tup (r.map bD)] m=some ((srt r).map bD):=by
 have h:=Amy r hn hl
 unfold srt
 rw[dif_pos h]
 exact h.choose_spec
theorem As4 {a b:List Bk} (hp:a.Perm b) (ha:(a.map (·.1)).Nodup) (hl:a.length < 64):srt a=srt b:=by
 obtain⟨p1,w1,_⟩:=Ra a ha hl
 obtain⟨p2,w2,_⟩:=Ra b ((hp.map _).nodup_iff.mp ha) (by rw[<- hp.length_eq];exact hl)
 exact List.Perm.eq_of_pairwise (le:=fun x y:Bk=>Jg y x=false) (fun a b _ _ h1 h2=>Na _ _ h2 h1) w1 w2 (p1.trans (hp.trans p2.symm))
theorem U6 {es:List En}{ws:List Nd}{ch:List Bk}{n:Str}:∀ {ms:List Mk}{rs:List (Mk×Pap)},Seek.Rows (Zs es ws) ch n ms rs->rs.map (·.1)=ms/\∀ r∈rs,Seek.Valid (Zs es ws) (ch++[(n,r.1)]) r.2
 |_,_,.nil=>⟨rfl,fun _ h=>nomatch h⟩
 |_,_,.cons a b=>by
  obtain⟨h1,h2⟩:=U6 b
  refine⟨by rw[Azm,h1],fun r hr=>?_⟩
  rcases List.mem_cons.mp hr with rfl|hr
  ·exact a
  ·exact h2 r hr
theorem Awx {x:Mk}:∀ {l:List Mk},x∈l->(l.map Mk.d).findIdx? (fun d=>deq d x.d)=some (l.findIdx fun y=>decide (y=x))
 |[],h=>nomatch h
 |y::l,h=>by
  rw[Azm,List.findIdx?_cons,List.findIdx_cons,Mk.deq]
  by_cases e:y=x
  ·simp[e]
  ·have:=Awx (l:=l) ((List.mem_cons.mp h).resolve_left (fun z=>e z.symm))
   simp[e,this]
theorem Acw {l:List Mk}{x:Mk} (h:x∈l) (hl:l.length<=1000) {m:MH}{Q:D->Prop}:W (Hf (.lst (l.map Mk.d)) [x.d] m) Q=Q (.int (l.findIdx fun y=>decide (y=x):Nat)):=by
 have e1:B7 m x.d=some x.d:=By x.pure
 have e2:B7 m (.lst (l.map Mk.d))=some (.lst (l.map Mk.d)):=by
  unfold B7
  simp only
  rw[Azp (by rw[Bt];exact Pq l)]
 have e:Hf (.lst (l.map Mk.d)) [x.d] m=some (.int (l.findIdx fun y=>decide (y=x):Nat)):=by
  unfold Hf
  simp only[e1,e2,Azv]
  rw[show sqL [] (D.lst (l.map Mk.d))=some (l.map Mk.d) from rfl]
  simp only[Azv]
  have:=x.dep
  rw[Azp ⟨by lia,by simp;lia⟩,Awx h]
  rfl
 rw[e,Ab]
theorem Nc {α:Type}{xs:List α}{j:Nat} (h:j<=xs.length):Ln xs none (some ((j:Nat):Int))=xs.take j:=by
 unfold Ln
 have e1:HT.sIx xs.length 0 none=0:=rfl
 have e2:HT.sIx xs.length xs.length (some (j:Int))=j:=by
  rw[HT.sIx_nat];exact Nat.min_eq_left h
 rw[e1,e2,List.drop_zero,Nat.sub_zero]
abbrev Stp:=Str×Mk×List (Mk×Pap)
def stD (s:Stp):D:=.tup [.str s.1,s.2.1.d,.tup (Hk s.2.2)]
theorem Abx {es:List En} (h:es.Pairwise Dst) (t:Str):(sel es t).Nodup:=by
 unfold sel List.Nodup
 rw[List.pairwise_map]
 refine (h.filter _).imp_of_mem fun {a b} ha hb hab e=>?_
 have h1:a.nm=t:=by simpa using (List.mem_filter.mp ha).2
 have h2:b.nm=t:=by simpa using (List.mem_filter.mp hb).2
 exact hab ⟨h1.trans h2.symm,e⟩
theorem Z3 {es:List En} (h:Sh es) (t:Str):(mks es t).Nodup:=(Gx es t).nodup_iff.mpr (Abx h.dst t)
theorem Apr {ms0 ms:List Mk}{m:Mk} (h:(ms0++m::ms).Nodup):((ms0++m::ms).findIdx fun y=>decide (y=m))=ms0.length:=by
 have h1:∀ y∈ms0,decide (y=m)=false:=fun y hy=>Az6 fun z=>by
  subst z
  exact (List.nodup_append.mp h).2.2 y hy y (Azg ..) rfl
 rw[List.findIdx_append]
 have h2:ms0.findIdx (fun y=>decide (y=m))=ms0.length:=List.findIdx_eq_length.mpr fun y hy=>h1 y hy
 rw[h2,Azs (Az9 _),List.findIdx_cons,Bbd rfl]
 simp
abbrev pr2 (s:Stp):Bk:=(s.1,s.2.1)
theorem Rf {es:List En}{ws:List Nd}:∀ {ch:List Bk}{st:List Stp},Seek.Steps (Zs es ws) ch st->∀ (k:Nat) (h:k < st.length),∃ ms0 ms,Seek.Rows (Zs es ws) (ch++(st.take k).map pr2) st[k].1 ms0 st[k].2.2/\mks es st[k].1=ms0++st[k].2.1::ms
 |_,_,.nil,k,h=>absurd h (Bb5 _)
 |ch,_,.cons (n:=n) (m:=m) (st:=st) a b c,0,h=>⟨_,_,by simpa using a,b⟩
 |ch,_,.cons (n:=n) (m:=m) (st:=st) a b c,k+1,h=>by
  obtain⟨ms0,ms,h1,h2⟩:=Rf c k (by simpa using h)
  refine⟨ms0,ms,?_,h2⟩
  simpa using h1
abbrev Anc:=Seek.Res Str Mk (List Pc)
def Acl (m:MH):Anc->D×MH->Prop
 |.book r st,x=>∃ (t:MH) (k:Nat),x=(.tup [.str (Str.ofString "book"),.tup ((srt r).map bD),.ref k],m++t)/\(m++t)[k]?=some (.lst (st.map stD))
 |.stuck p,x=>∃ t:MH,x=(.tup [.str (Str.ofString "stuck"),paD p],m++t)
theorem Ayz {M r:MH}{x y:MObj}:(M++x::r).set M.length y=M++y::r:=by simp
theorem sqK {M:MH}{k:Nat}{a:List D} (h:M[k]?=some (.lst a)) {Q:List D->Prop}:W (sq M (.ref k)) Q=Q a:=by
 have e2:sq M (.ref k)=some a:=by unfold sq;simp only[h]
 rw[e2,Ab]
theorem sbk:(Str.ofString "stuck"=Str.ofString "book")=False:=eq_false (by decide +kernel)
theorem Jn {es:List En}{ws:List Nd}{U:List Str} (G:Gd es ws U):∀ (f:Nat) {ch r:List Bk},Vo es ws U ch->Seek.first (Zs es ws) Dg f ch=some (some r)->Vo es ws U r
 |0,ch,r,_,h=>by rw[Seek.first] at h;cases h
 |f+1,ch,r,hw,h=>by
  rw[Seek.first] at h
  split at h
  ·cases h
  ·cases e:Dg (Seek.free (Zs es ws) ch) with
   |none =>
    rw[e] at h
    cases h
    exact hw
   |some x =>
    rw[e] at h
    obtain⟨h1,h2⟩:=Seek.free_mem (Dz _ _ e)
    have:∀ ms:List Mk,(∀ m∈ms,m∈mks es x.2.1)->Seek.firstL (Zs es ws) Dg f ch x.2.1 ms=some (some r)->Vo es ws U r:=by
     intro ms
     induction ms with
     |nil=>intro _ h;rw[Seek.firstL] at h;cases h
     |cons m ms ih =>
      intro hm h
      rw[Seek.firstL] at h
      split at h
      ·cases h
      ·rename_i r' e'
       cases h
       exact Jn G f (hw.snoc h2 (hm m (Azg ..)) (G.un _ _ h1)) e'
      ·exact ih (fun m hm'=>hm m (Azf _ hm')) h
    exact this _ (fun _ h=>h) h
theorem Ab8 {es:List En}{ws:List Nd}{U:List Str} (G:Gd es ws U) {f:Nat}{ch:List Bk}{res:Anc} (hw:Vo es ws U ch) (hf:U.length+1<=f+ch.length) (h:Seek.sb (Zs es ws) Dg f ch=some res):Seek.Told f (Zs es ws) Dg ch res:=Seek.sb_told Dz Gz G.un f hw hf h
theorem Ahg {es:List En}{ws:List Nd}{U:List Str} (G:Gd es ws U) {f:Nat}{ch r:List Bk}{st:List Stp} (hw:Vo es ws U ch) (h:Seek.Told f (Zs es ws) Dg ch (.book r st)):st.length<=7:=by
 obtain⟨h1,h2,_⟩:=h
 have:=(Jn G f hw h1).len
 have hul:=G.ul
 rw[h2,Azx,Azr] at this
 lia
theorem Am9 {es:List En}{ws:List Nd}{U:List Str} (G:Gd es ws U) {f:Nat} (beh:∀ {ch:List Bk}{m:MH}{res:Anc},Vo es ws U ch->U.length+1<=f+ch.length->Seek.sb (Zs es ws) Dg f ch=some res->W ((Ee (2 * f)).1 [.tup (es.map eD),.tup (ws.map nD),.tup (ch.map bD)] m) (Acl m res))
  {ch:List Bk} (hw:Vo es ws U ch) (hf:U.length<=f+ch.length) {x:Wn} (hx:x∈Seek.needs (Zs es ws) ch) (hn:Seek.tk ch x.2.1=none) {res:Anc} (h:Seek.sw (Zs es ws) Dg f ch x (mks es x.2.1) []=some res) (m:MH) :
  W ((Ee (2 * f+1)).2 [.tup (es.map eD),.tup (ws.map nD),.tup (ch.map bD),wD x] m) (Acl m res):=by
 show W (Lu 8 (Ato (Ee (2 * f)).1 (Ee (2 * f)).2) _ _) _
 rw[D6]
 unfold Ato
 simp_arith[M0,Af Df,R6 es G.sh x.2.1,Co]
 refine Ct (fun rest e mm=>∃ (ps:List (Mk×Pap)) (t:MH) (u v:Option D),mm=m++.lst (Hk ps)::t/\(∀ y∈rest,y∈mks es x.2.1)/\Seek.sw (Zs es ws) Dg f ch x rest ps=some res/\ps.length+rest.length<=40/\e=[some (.tup (es.map eD)),some (.tup (ws.map nD)),some (.tup (ch.map bD)),some (wD x),some (.str x.2.1),some (.ref m.length),u,v]) ?_ ?_ ⟨[],[],_,_,rfl,fun _ h=>h,h,by have:=Jx es x.2.1;have:=G.sh.len;simp;lia,rfl⟩
 ·rintro y rest e mm ⟨ps,t,u,v,rfl,hm,hs,hl,rfl⟩
  refine⟨trivial,?_⟩
  have ea:ch.map bD++[.tup [.str x.2.1,y.d]]=(ch++[(x.2.1,y)]).map bD:=by simp[bD]
  have hw':Vo es ws U (ch++[(x.2.1,y)]):=hw.snoc hn (hm y (Azg ..)) (G.un _ _ hx)
  have hl':=hw'.len
  have hul:=G.ul
  rw[Seek.sw] at hs
  simp_arith[ea]
  rw[Azx] at hl'
  simp only[Azo,Bbo] at hl'
  refine⟨by lia,?_⟩
  have hf':U.length+1<=f+(ch++[(x.2.1,y)]).length:=by simp;lia
  cases eb:Seek.sb (Zs es ws) Dg f (ch++[(x.2.1,y)]) with
  |none=>rw[eb] at hs;cases hs
  |some q =>
   rw[eb] at hs
   have ht:=Ab8 G hw' hf' eb
   have hb:=beh (m:=m++.lst (Hk ps)::t) hw' hf' eb
   refine hb.imp fun z hz=>?_
   cases q with
   |book r st =>
    have hsl:=Ahg G hw' ht
    cases hs
    obtain⟨t2,k,rfl,hk⟩:=hz
    simp only[List.append_assoc,Bar] at hk ⊢
    simp_arith[sqA,sqK hk]
    refine⟨by lia,(.lst (Hk ps)::(t++t2))++[.lst (stD (x.2.1,y,ps)::st.map stD)],(m++.lst (Hk ps)::(t++t2)).length,by rw[<- List.append_assoc];rfl,?_⟩
    rw[<- List.append_assoc]
    simp
   |stuck p =>
    have hv:Seek.Valid (Zs es ws) (ch++[(x.2.1,y)]) p:=ht
    have hht:=Afr G.un hv hw'
    obtain⟨t2,rfl⟩:=hz
    simp only[List.append_assoc,Bar]
    have hr:Y6 [paD p,.str x.2.1]=_:=U5 x.2.1 24 p (by lia) (X5 G.sh hv)
    simp_arith[sbk,decide_false,Nz p]
    rw[hr,Ab]
    simp_arith[sqA,Ayz]
    have hrl:(Hk ps).length=ps.length:=by rw[Em,Azr]
    by_cases hrs:Seek.rests p x.2.1=true
    ·simp only[hrs,Bbc] at hs
     rw[hrs,show (!true)=false from rfl,Rk]
     rw[Azo] at hl
     exact⟨by lia,ps++[(y,p)],t++t2,_,_,by rw[Em,Em,Bav];rfl,fun z hz=>hm z (Azf _ hz),hs,by simp;lia,rfl⟩
    ·simp only[hrs,Baf,Bbn] at hs
     cases hs
     rw[Bool.eq_false_iff.mpr hrs,show (!false)=true from rfl,T5]
     exact⟨_,rfl⟩
 ·rintro e mm ⟨ps,t,u,v,rfl,hm,hs,hl,rfl⟩
  refine⟨trivial,?_⟩
  rw[Seek.sw] at hs
  cases hs
  simp_arith[Ah9,sqA]
  exact⟨_,by rw[paD]⟩
theorem Apm (n:Wn):Hr [wD n]=some (.str n.2.1):=by
 unfold Hr fnE App
 have:(f2 oIx (Ac 0) (fC (D.int 1))) ([wD n].map some) []=some (.str n.2.1):=W.out (by
  simp only[Azm,Bbb]
  simp_arith[M0])
 rw[this];rfl
theorem Ur (m:MH):∀ xs:List Wn,Ef Hr m (xs.map wD)=some ((xs.map fun n=>n.2.1).map .str)
 |[]=>rfl
 |n::xs=>by
  have e:Ci 1 Hr [wD n] m=some (.str n.2.1):=by
   unfold Ci
   rw[Cw,By (Gi n)]
   exact Apm n
  rw[Azm,Ef,e,Azv,Ur m xs];rfl
theorem Nr:∀ (xs:List Wn) (b:Wn),Ls (wD b) b.2.1 (xs.map wD) (xs.map fun n=>n.2.1)=wD (pk b xs)
 |[],b=>by rw[Bbb,Bbb,Ls,pk];intros;contradiction
 |x::xs,b=>by
  rw[Azm,Azm,Ls,pk]
  split
  ·exact Nr xs x
  ·exact Nr xs b
theorem Aoe {l:List Wn}{x:Wn} (h:Dg l=some x) {m:MH}{Q:D->Prop}:W (Xh Hr [.lst (l.map wD)] m) Q=Q (wD x):=by
 have e:Xh Hr [.lst (l.map wD)] m=some (wD x):=by
  unfold Xh
  simp only
  rw[show sqL m (D.lst (l.map wD))=some (l.map wD) from rfl,Azv,Ur,Azv,Mz,Azv]
  cases l with
  |nil=>cases h
  |cons y ys =>
   cases h
   rw[Azm,Azm,Avq,Nr]
 rw[e,Ab]
theorem On {es:List En}{ws:List Nd}{U:List Str} (G:Gd es ws U):∀ (f:Nat) {ch:List Bk}{m:MH}{res:Anc},Vo es ws U ch->U.length+1<=f+ch.length->Seek.sb (Zs es ws) Dg f ch=some res->W ((Ee (2 * f)).1 [.tup (es.map eD),.tup (ws.map nD),.tup (ch.map bD)] m) (Acl m res)
 |0,ch,m,res,_,_,h=>by rw[Seek.sb] at h;cases h
 |f+1,ch,m,res,hw,hf,h=>by
  show W (Lu 7 (Ajr (Ee (2 * f+1)).1 (Ee (2 * f+1)).2) _ _) _
  rw[D6]
  unfold Ajr
  have hb:=Aia G hw
  have hl:=Jf es G.sh ws G.wt.len ch
  have hbl:=hb.len
  simp_arith[Ya hb.nd,Af Df,Af He,Af Cj,Vs es G.sh ws G.wt.len ch hbl,Af Gi]
  rw[Seek.sb] at h
  refine Ct (fun rest e mm=>mm=m/\(∀ n∈rest,n∈atw es ws ch)/\rest.find? (Seek.isB (Zs es ws) ch)=(Seek.needs (Zs es ws) ch).find? (Seek.isB (Zs es ws) ch)/\∃ u,e=[some (.tup (es.map eD)),some (.tup (ws.map nD)),some (.tup (ch.map bD)),some (.lst ((atw es ws ch).map wD)),some (.dks (ch.map (·.1)) (ch.map fun b=>b.2.d)),u,none]) ?_ ?_ ⟨rfl,fun _ h=>h,rfl,_,rfl⟩
  ·rintro n rest e mm ⟨rfl,hm,hq,u,rfl⟩
   refine⟨trivial,?_⟩
   have hn:=hm n (Azg ..)
   have hsp:=Af7 G.sh G.wt.sp hn
   have hfr:=Rw ch n.2.1
   rw[Ba2,<- Ai7] at hq
   have stay:Rj ch n.2=false->((∀ n∈rest,n∈atw es ws ch)/\rest.find? (Seek.isB (Zs es ws) ch)=(Seek.needs (Zs es ws) ch).find? (Seek.isB (Zs es ws) ch)/\∃ u,[some (D.tup (es.map eD)),some (D.tup (ws.map nD)),some (D.tup (ch.map bD)),some (D.lst ((atw es ws ch).map wD)),some (D.dks (ch.map (·.1)) (ch.map fun b=>b.2.d)),some (wD n),none]=[some (D.tup (es.map eD)),some (D.tup (ws.map nD)),some (D.tup (ch.map bD)),some (D.lst ((atw es ws ch).map wD)),some (D.dks (ch.map (·.1)) (ch.map fun b=>b.2.d)),u,none]):=fun z=>by
    rw[z] at hq
    exact⟨fun n h=>hm n (Azf _ h),hq,_,rfl⟩
   simp_arith[M0,Aoz,Pt,V7 ch hb n hsp]
   cases q:tkn ch n.2.1 with
   |none =>
    rw[q] at hfr
    have:decide (n.2.1∈ch.map (·.1))=false:=by simpa using hfr
    rw[this,Rk]
    exact stay (by unfold Rj;rw[q])
   |some y =>
    rw[q] at hfr
    have:decide (n.2.1∈ch.map (·.1))=true:=by simpa using hfr
    rw[this,T5]
    have hk:kept ch n.2=n.2.2.any (inP y):=by unfold kept;rw[q]
    have hbk:Rj ch n.2=!n.2.2.any (inP y):=by unfold Rj;rw[q]
    rw[hk]
    cases z:n.2.2.any (inP y) with
    |true =>
     rw[show (!true)=false from rfl,Rk]
     exact stay (by rw[hbk,z];rfl)
    |false =>
     rw[show (!false)=true from rfl,T5]
     rw[hbk,z] at hq
     have hq:some n=(Seek.needs (Zs es ws) ch).find? (Seek.isB (Zs es ws) ch):=hq
     rw[<- hq] at h
     cases h
     unfold wD
     array_get_dec
     exact⟨[],by rw[Az2,paD]⟩
  ·rintro e mm ⟨rfl,hm,hq,u,rfl⟩
   refine⟨trivial,?_⟩
   rw[List.find?_nil] at hq
   rw[<- hq] at h
   array_get_dec
   refine⟨by lia,Cy (fun n=>(tkn ch n.2.1).isNone) wD (fun n hn=>?_) ?_⟩
   ·simp_arith[M0]
    exact⟨Rw ch n.2.1,fun _=>trivial⟩
   have ef:(atw es ws ch).filter (fun n=>(tkn ch n.2.1).isNone)=Seek.free (Zs es ws) ch:=rfl
   rw[ef]
   have hwl:=hw.len
   have hul:=G.ul
   array_get_dec
   rw[Bool.not_not,List.isEmpty_map]
   cases ep:Dg (Seek.free (Zs es ws) ch) with
   |none =>
    rw[ep] at h
    cases h
    rw[Gz _ ep,show ([]:List Wn).isEmpty=true from rfl,T5,(Ra ch hw.nd (by lia)).2.2,Ab]
    exact⟨[.lst []],mm.length,rfl,by simp⟩
   |some x =>
    rw[ep] at h
    obtain⟨h1,h2⟩:=Seek.free_mem (Dz _ _ ep)
    have hne:(Seek.free (Zs es ws) ch).isEmpty=false:=by
     cases e:Seek.free (Zs es ws) ch with
     |nil=>rw[e] at ep;cases ep
     |cons _ _=>rfl
    rw[hne,Rk,Aoe ep]
    exact Am9 G (fun a b c=>On G f a b c) hw (by lia) h1 h2 h mm
theorem Ab0 {es:List En}{ws:List Nd}{U:List Str} (G:Gd es ws U) {res:Anc} (h:Seek.sb (Zs es ws) Dg 12 []=some res) (m:MH):W (O7 [.tup (es.map eD),.tup (ws.map nD)] m) (Acl m res):=by
 unfold O7 Ajw
 rw[D6]
 array_get_dec
 have hw:Vo es ws U []:=⟨Bbe,(fun _ h=>nomatch h),(fun _ h=>nomatch h)⟩
 have hul:=G.ul
 exact On G 12 hw (by simp;lia) h
def Re (es:List En) (acc:List (List Bk)) (n:Str):List (List Bk):=acc++(mks es n).flatMap fun m=>acc.map fun b=>b++[(n,m)]
def Cu (es:List En) (ns:List Str):List (List Bk):=ns.foldl (Re es) [[]]
inductive Sub (es:List En):List Str->List Bk->Prop
 |nil:Sub es [] []
 |skip {n:Str}{ns:List Str}{s:List Bk}:Sub es ns s->Sub es (n::ns) s
 |take {n:Str}{m:Mk}{ns:List Str}{s:List Bk}:m∈mks es n->Sub es ns s->Sub es (n::ns) ((n,m)::s)
theorem Ov {es:List En}:∀ {ns:List Str}{acc:List (List Bk)}{b:List Bk},b∈ns.foldl (Re es) acc ↔ ∃ b0∈acc,∃ s,Sub es ns s/\b=b0++s
 |[],acc,b=>by
  constructor
  ·exact fun h=>⟨b,h,[],.nil,by simp⟩
  ·rintro ⟨b0,h,s,hs,rfl⟩
   cases hs
   rw[Az2];exact h
 |n::ns,acc,b=>by
  rw[List.foldl_cons,Ov (ns:=ns)]
  constructor
  ·rintro ⟨b0,h,s,hs,rfl⟩
   rcases List.mem_append.mp h with h|h
   ·exact⟨b0,h,s,.skip hs,rfl⟩
   ·obtain⟨m,hm,h⟩:=List.mem_flatMap.mp h
    obtain⟨b1,h1,rfl⟩:=List.mem_map.mp h
    exact⟨b1,h1,_,.take hm hs,by simp⟩
  ·rintro ⟨b0,h,s,hs,rfl⟩
   cases hs with
   |skip hs=>exact⟨b0,Azw _ h,s,hs,rfl⟩
   |@take _ m _ s hm hs=>exact⟨b0++[(n,m)],Azd _ (List.mem_flatMap.mpr ⟨m,hm,List.mem_map.mpr ⟨b0,h,rfl⟩⟩),s,hs,by simp⟩
theorem books_sub {es:List En}{ns:List Str}{b:List Bk}:b∈Cu es ns ↔ Sub es ns b:=by
 unfold Cu
 rw[Ov]
 constructor
 ·rintro ⟨b0,h,s,hs,rfl⟩
  rw[List.mem_singleton.mp h];exact hs
 ·exact fun h=>⟨[],List.mem_singleton.mpr rfl,b,h,rfl⟩
theorem Sub.of {es:List En}{ns:List Str}{s:List Bk} (h:Sub es ns s):∀ c∈s,c.1∈ns/\c.2∈mks es c.1:=by
 induction h with
 |nil=>exact fun _ h=>nomatch h
 |skip _ ih=>exact fun c hc=>⟨Azf _ (ih c hc).1,(ih c hc).2⟩
 |take hm _ ih =>
  intro c hc
  rcases List.mem_cons.mp hc with rfl|hc
  ·exact⟨Azg ..,hm⟩
  ·exact⟨Azf _ (ih c hc).1,(ih c hc).2⟩
theorem Sub.nd {es:List En}{ns:List Str}{s:List Bk} (h:Sub es ns s) (hn:ns.Nodup):(s.map (·.1)).Nodup:=by
 induction h with
 |nil=>exact Bbe
 |skip _ ih=>exact ih (List.nodup_cons.mp hn).2
 |take hm hs ih =>
  obtain⟨h1,h2⟩:=List.nodup_cons.mp hn
  rw[Azm,Bck]
  refine⟨fun z=>?_,ih h2⟩
  obtain⟨c,hc,e⟩:=List.mem_map.mp z
  have e:c.1=_:=e
  have:=(hs.of c hc).1
  rw[e] at this
  exact h1 this
theorem Sub.len {es:List En}{ns:List Str}{s:List Bk} (h:Sub es ns s):s.length<=ns.length:=by
 induction h with
 |nil=>exact Azn _
 |skip _ ih=>rw[Azo];lia
 |take _ _ ih=>rw[Azo,Azo];lia
def Oj (r:List Bk) (ns:List Str):List Bk:=ns.filterMap fun n=>(tkn r n).map fun m=>(n,m)
theorem Yf {r:List Bk}{ns:List Str}{c:Bk}:c∈Oj r ns ↔ c.1∈ns/\tkn r c.1=some c.2:=by
 unfold Oj
 rw[List.mem_filterMap]
 constructor
 ·rintro ⟨n,hn,e⟩
  obtain⟨m,h1,rfl⟩:=Option.map_eq_some_iff.mp e
  exact⟨hn,h1⟩
 ·exact fun⟨h1,h2⟩=>⟨c.1,h1,by rw[h2];rfl⟩
theorem Gn {es:List En}{r:List Bk} (ho:∀ c∈r,c.2∈mks es c.1):∀ ns:List Str,Sub es ns (Oj r ns)
 |[]=>.nil
 |n::ns=>by
  unfold Oj
  rw[List.filterMap_cons]
  cases e:tkn r n with
  |none=>exact .skip (Gn ho ns)
  |some m=>exact .take (ho _ (Ab7 e)) (Gn ho ns)
theorem Hw {r:List Bk} (h:(r.map (·.1)).Nodup):r.Nodup:=by
 unfold List.Nodup at h ⊢
 rw[List.pairwise_map] at h
 exact h.imp fun h z=>h (by rw[z])
theorem Vq {es:List En}{r:List Bk} (hn:(r.map (·.1)).Nodup) (ho:∀ c∈r,c.2∈mks es c.1) {ns:List Str} (hs:ns.Nodup) (hr:∀ c∈r,c.1∈ns):(Oj r ns).Perm r:=by
 refine (List.perm_ext_iff_of_nodup (Hw ((Gn ho ns).nd hs)) (Hw hn)).mpr fun c=>?_
 rw[Yf]
 constructor
 ·exact fun h=>Ab7 h.2
 ·exact fun h=>⟨hr c h,Seek.tk_of hn h⟩
def tb (b:List Bk):D:=.tup (b.map bD)
theorem D5 (b:List Bk):Bg (tb b)=true:=by unfold tb;rw[A2];exact Af Cj
theorem Ah3 (b:List Bk):dep (tb b)<=4:=by
 unfold tb
 rw[C5]
 have:Cz (b.map bD)<=3:=B0 fun d hd=>by
  obtain⟨x,_,rfl⟩:=List.mem_map.mp hd
  exact T4 x
 lia
theorem xpK {m:MH}{k:Nat}{a:List D} (h:m[k]?=some (.lst a)) (ha:Bf a=true) {Q:D->Prop}:W (Cg m (.ref k)) Q=Q (.lst a):=by
 have e2:Cg m (.ref k)=some (.lst a):=by rw[Cg];simp only[h,ha,Bbc]
 rw[e2,Ab]
theorem Rr {m t:MH}{k:Nat}{x:MObj} (h:m[k]?=some x):(m++t)[k]?=some x:=by
 rw[Azz (List.getElem?_eq_some_iff.mp h).1];exact h
theorem O2 {acc:List (List Bk)}{n:Str}:∀ ms:List Mk,(ms.flatMap fun m=>acc.map fun b=>b++[(n,m)]).length=ms.length * acc.length
 |[]=>by simp
 |m::ms=>by rw[Bbz,Azx,O2 ms,Azr,Azo,Nat.succ_mul,Nat.add_comm]
theorem Lf (es:List En) (acc:List (List Bk)) (n:Str):(Re es acc n).length=acc.length+(mks es n).length * acc.length:=by
 unfold Re
 rw[Azx,O2]
theorem Ac6 (es:List En) (h:Sh es) (h24:es.length<=24) (ns:List Str) (hn:ns.length<=4) {Q:D->Prop}:W (Pb [.tup (es.map eD),.lst (ns.map .str)]) Q=Q (.lst ((Cu es ns).map tb)):=W.eq <| by
 unfold Pb Aj2
 rw[B8]
 array_get_dec
 refine Ct (fun rest e m=>∃ (acc:List (List Bk)) (i:Nat) (u v w:Option D),m[i]?=some (.lst (acc.map tb))/\rest.foldl (Re es) acc=Cu es ns/\acc.length * 25 ^ rest.length<=390625/\(∀ b∈acc,b.length+rest.length<=ns.length)/\e=[some (.tup (es.map eD)),some (.lst (ns.map .str)),some (.ref i),u,v,w]) ?_ ?_ ⟨[[]],0,_,_,_,rfl,rfl,?_,fun b hb=>by rw[List.mem_singleton.mp hb];simp,rfl⟩
 ·rintro n rest e m ⟨acc,i,u,v,w,hi,hf,hl,hbl,rfl⟩
  refine⟨trivial,?_⟩
  have ml:=Jx es n
  have hl1:acc.length * 25<=390625:=by
   rw[Azo,Nat.pow_succ,Nat.mul_comm _ 25,<- Nat.mul_assoc] at hl
   exact Azy (Nat.le_mul_of_pos_right _ (Nat.pow_pos (by decide))) hl
  have hml:(mks es n).length * acc.length<=24 * acc.length:=Nat.mul_le_mul_right _ (by lia)
  simp_arith[sqK hi]
  rw[Ye (by rw[A2];exact Af Df),Pl es h n]
  simp_arith[Co]
  refine Ct (fun rest' e mm=>∃ (wid:List (List Bk)) (k:Nat) (w:Option D),mm[i]?=some (.lst (acc.map tb))/\mm[k]?=some (.lst (wid.map tb))/\wid++rest'.flatMap (fun m=>acc.map fun b=>b++[(n,m)])=Re es acc n/\e=[some (.tup (es.map eD)),some (.lst (ns.map .str)),some (.ref i),some (.str n),some (.ref k),w]) ?_ ?_ ⟨acc,m.length,_,Rr hi,by simp,rfl,rfl⟩
  ·rintro y rest' e mm ⟨wid,k,w,hi',hk',hst,rfl⟩
   refine⟨trivial,?_⟩
   have hwl:wid.length+(acc.length+(rest'.flatMap fun m=>acc.map fun b=>b++[(n,m)]).length)=acc.length+(mks es n).length * acc.length:=by
    rw[<- Lf,<- hst,Azx,Bbz,Azx,Azr]
   simp_arith[sqK hk',sqK hi']
   refine⟨⟨hi',by lia⟩,Bl (fun b=>tb (b++[(n,y)])) (fun b hb=>?_) ?_⟩
   ·unfold tb
    have:=hbl b hb
    array_get_dec
    exact⟨by lia,by simp[bD]⟩
   ·exact⟨by rw[Azr];lia,wid++acc.map (fun b=>b++[(n,y)]),mm.length,_,Rr hi',by simp[Bbh,Function.comp_def],by rw[<- hst,Bbz,List.append_assoc],rfl⟩
  ·rintro e mm ⟨wid,k,w,hi',hk',hst,rfl⟩
   refine⟨trivial,?_⟩
   array_get_dec
   rw[List.flatMap_nil,Az2] at hst
   subst hst
   refine⟨Re es acc n,k,_,_,_,hk',hf,?_,fun b hb=>?_,rfl⟩
   rotate_left
   ·rcases List.mem_append.mp hb with hb|hb
    ·have:=hbl b hb
     rw[Azo] at this;lia
    ·obtain⟨m,_,hb⟩:=List.mem_flatMap.mp hb
     obtain⟨b1,h1,rfl⟩:=List.mem_map.mp hb
     have:=hbl b1 h1
     rw[Azo] at this
     simp;lia
   rw[Azo,Nat.pow_succ,Nat.mul_comm _ 25,<- Nat.mul_assoc] at hl
   rw[Lf]
   refine Azy (Nat.mul_le_mul_right _ ?_) hl
   lia
 ·rintro e m ⟨acc,i,u,v,w,hi,hf,hl,hbl,rfl⟩
  refine⟨trivial,?_⟩
  have hf:acc=Cu es ns:=hf
  subst hf
  simp_arith[xpK hi (Af D5)]
 ·have:25 ^ ns.length<=25 ^ 4:=Nat.pow_le_pow_right (by decide) hn
  have e4:25 ^ 4=390625:=by decide
  simp;lia
def U9 (es:List En) (ws:List Nd) (b:List Bk):Bool:=(atw es ws b).all fun n=>(tkn b n.2.1).isSome&&!Rj b n.2
theorem Tr {es:List En}{ws:List Nd}{b:List Bk} (hn:(b.map (·.1)).Nodup) (ho:∀ c∈b,c.2∈mks es c.1):U9 es ws b=true ↔ Seek.Sol (Zs es ws) b:=by
 unfold U9
 rw[Bch]
 constructor
 ·intro h
  refine⟨hn,ho,fun x hx=>?_⟩
  have:=h x hx
  rw[Az0] at this
  obtain⟨m,hm⟩:=Option.isSome_iff_exists.mp this.1
  refine⟨m,hm,?_⟩
  have h2:=this.2
  unfold Rj at h2
  rw[hm] at h2
  have:(!!x.2.2.any (inP m))=true:=h2
  rwa [Bool.not_not] at this
 ·intro h x hx
  obtain⟨m,hm,hl⟩:=h.ok x hx
  have hm:tkn b x.2.1=some m:=hm
  have hl:x.2.2.any (inP m)=true:=hl
  unfold Rj
  rw[hm]
  show (true&&!!x.2.2.any (inP m))=true
  rw[hl];rfl
theorem Va {es:List En}{ws:List Nd}{b r:List Bk} (hp:b.Perm r) (h:Seek.Sol (Zs es ws) r):Seek.Sol (Zs es ws) b where
 nd:=(hp.map _).nodup_iff.mpr h.nd
 of:=fun c hc=>h.of c (hp.mem_iff.mp hc)
 ok:=fun x hx=>by
  obtain⟨m,hm,hl⟩:=h.ok x (Seek.needs_sub (fun c hc=>hp.mem_iff.mp hc) hx)
  exact⟨m,Seek.tk_of ((hp.map _).nodup_iff.mpr h.nd) (hp.mem_iff.mpr (Seek.tk_mem hm)),hl⟩
theorem My (b:List Bk):tb b=.tup (b.map bD):=rfl
theorem Vc (es:List En) (h:Sh es) (ws:List Nd) (hw:WtOk ws) (b:List Bk) (hb:BkOk b) {Q:D->Prop}:W (Jp [.tup (es.map eD),.tup (ws.map nD),tb b]) Q=Q (.bl (U9 es ws b)):=W.eq <| by
 unfold Jp Aj3
 rw[B8,My]
 have hbl:=hb.len
 simp_arith[Ya hb.nd,Af Df,Af He,Af Cj,Pm es h ws hw.len b hbl,Af Gi]
 refine Ct (fun rest e m=>m=[]/\(∀ n∈rest,n∈atw es ws b)/\(rest.all fun n=>(tkn b n.2.1).isSome&&!Rj b n.2)=U9 es ws b/\∃ u,e=[some (.tup (es.map eD)),some (.tup (ws.map nD)),some (.tup (b.map bD)),some (.dks (b.map (·.1)) (b.map fun b=>b.2.d)),u]) ?_ ?_ ⟨rfl,fun _ h=>h,rfl,_,rfl⟩
 ·rintro n rest e m ⟨rfl,hm,hq,u,rfl⟩
  refine⟨trivial,?_⟩
  have hn:=hm n (Azg ..)
  have hsp:=Af7 h hw.sp hn
  have hfr:=Rw b n.2.1
  rw[Ban] at hq
  simp_arith[M0,Aoz,Pt,Xb b hb n hsp]
  rw[hfr]
  cases q:tkn b n.2.1 with
  |none =>
   rw[q] at hq
   rw[show (none:Option Mk).isNone=true from rfl,T5]
   rw[<- hq];rfl
  |some y =>
   rw[q] at hq
   rw[show (some y).isNone=false from rfl,Rk]
   cases z:Rj b n.2 with
   |true =>
    rw[z] at hq
    rw[T5,<- hq];rfl
   |false =>
    rw[z] at hq
    rw[Rk]
    exact⟨fun n h=>hm n (Azf _ h),hq,_,rfl⟩
 ·rintro e m ⟨rfl,hm,hq,u,rfl⟩
  refine⟨trivial,?_⟩
  array_get_dec
  rw[<- hq];rfl
theorem inT {K:List Str}{t:Str}{Q:D->Prop}:W (oIn (.str t) (.ref 0) [.lst (K.map .str)]) Q=Q (.bl (decide (t∈K))):=by
 have e:inO [.lst (K.map .str)] (.str t) (.ref 0)=some (decide (t∈K)):=by
  unfold inO
  have e1:B7 [.lst (K.map .str)] (.ref 0)=some (.lst (K.map .str)):=by unfold B7;simp only[List.getElem?_cons_zero,Iv,Bbc]
  simp only[By (show Bg (.str t)=true from Be),e1,Azv]
  rw[show sq [] (D.lst (K.map .str))=some (K.map .str) from rfl,Azv,Azp (by rw[Ei];lia)]
  congr 1
  rw[Ba3,List.any_eq_true,Bat]
  constructor
  ·rintro ⟨d,hd,h⟩
   obtain⟨y,hy,rfl⟩:=List.mem_map.mp hd
   rw[B9] at h
   rw[<- Baa h];exact hy
  ·exact fun h=>⟨.str t,List.mem_map.mpr ⟨t,h,rfl⟩,by rw[B9];simp⟩
 unfold oIn
 rw[e,Azv,Ab]
theorem Aw0 {K:List Str}{t:Str}{Q:D->Prop}:W (Bz (.str t) (.ref 0) [.lst (K.map .str)]) Q=Q (.bl (!decide (t∈K))):=by
 have e:=@inT K t (fun d=>d=.bl (decide (t∈K)))
 have e:oIn (.str t) (.ref 0) [.lst (K.map .str)]=some (.bl (decide (t∈K))):=W.out (by rw[e])
 unfold oIn at e
 obtain⟨b,h1,h2⟩:=bind_some e
 cases h2
 unfold Bz
 rw[h1,Azv,Ab]
theorem O1 {es:List En}{ws:List Nd}{U:List Str} (G:Gd es ws U):∀ (f:Nat) {ch r:List Bk},Seek.first (Zs es ws) Dg f ch=some (some r)->(∃ s,r=ch++s)/\∀ i (h:i < r.length),ch.length<=i->∃ x∈atw es ws (r.take i),x.2.1=r[i].1
 |0,ch,r,h=>by rw[Seek.first] at h;cases h
 |f+1,ch,r,h=>by
  rw[Seek.first] at h
  split at h
  ·cases h
  ·cases e:Dg (Seek.free (Zs es ws) ch) with
   |none =>
    rw[e] at h
    cases h
    exact⟨⟨[],by simp⟩,fun i h h2=>absurd h (by lia)⟩
   |some x =>
    rw[e] at h
    obtain⟨h1,h2⟩:=Seek.free_mem (Dz _ _ e)
    have:∀ ms:List Mk,Seek.firstL (Zs es ws) Dg f ch x.2.1 ms=some (some r)->(∃ s,r=ch++s)/\∀ i (h:i < r.length),ch.length<=i->∃ x∈atw es ws (r.take i),x.2.1=r[i].1:=by
     intro ms
     induction ms with
     |nil=>intro h;rw[Seek.firstL] at h;cases h
     |cons m ms ih =>
      intro h
      rw[Seek.firstL] at h
      split at h
      ·cases h
      ·rename_i r' e'
       cases h
       obtain⟨⟨s,hs⟩,hi⟩:=O1 G f e'
       refine⟨⟨(x.2.1,m)::s,by rw[hs];simp⟩,fun i hl hc=>?_⟩
       by_cases q:i=ch.length
       ·subst q
        refine⟨x,?_,?_⟩
        ·rw[hs,List.append_assoc,List.take_left];exact h1
        ·simp[hs]
       ·exact hi i hl (by rw[Azx];simp;lia)
      ·exact ih h
    exact this _ h
theorem Xq {es:List En}{ws:List Nd}{U:List Str} (G:Gd es ws U) {r b:List Bk} (hw:Vo es ws U r) (hp:b.Perm r) (hs:∀ i (h:i < r.length),∃ x∈atw es ws (r.take i),x.2.1=r[i].1):L8 [.tup (es.map eD),.tup (ws.map nD),tb b]=some (.bl true):=W.out <| by
 unfold L8 Ajs
 rw[B8,My]
 have hl:=hw.len
 have hul:=G.ul
 have hbl:=hp.length_eq
 have hwl:=G.wt.len
 have hal:=Jf es G.sh [] (by simp) b
 array_get_dec
 refine⟨by lia,Bl (fun n=>.str n.1) (fun n hn=>?_) ?_⟩
 ·unfold nD
  array_get_dec
 rw[show (ws.map fun n=>D.str n.1)=(ws.map fun n=>n.1).map D.str by rw[Bbh];rfl]
 array_get_dec
 refine⟨⟨by lia,by lia⟩,Je (fun k e m=>∃ (K:List Str) (u v:Option D),m=[.lst (K.map .str)]/\e=[some (.tup (es.map eD)),some (.tup (ws.map nD)),some (.tup (b.map bD)),some (.ref 0),u,v]/\K.length<=4+40 * k/\(∀ n∈ws,n.1∈K)/\∀ i (h:i < r.length),i<=k->r[i].1∈K) ?_ ?_ ⟨ws.map fun n=>n.1,_,_,rfl,rfl,by simp;lia,fun n hn=>List.mem_map.mpr ⟨n,hn,rfl⟩,fun i h hi=>?_⟩⟩
 ·rintro k e m hk ⟨K,u,v,rfl,rfl,hKl,hK1,hK2⟩
  refine⟨trivial,?_⟩
  simp_arith[Af Df,Af Cj]
  have hk2:k < r.length:=by
   have:k < b.length:=by simpa using hk
   lia
  have en:W (Jo [.tup (es.map eD),.tup (([]:List Nd).map nD),.tup (b.map bD)])=fun Q=>Q (.lst ((atw es [] b).map wD)):=funext fun Q=>Pm es G.sh [] (by simp) b (by lia)
  rw[Bbb] at en
  rw[en]
  simp_arith[Af Gi]
  refine Ct (fun rest e m=>∃ (K':List Str) (v:Option D),m=[.lst (K'.map .str)]/\e=[some (.tup (es.map eD)),some (.tup (ws.map nD)),some (.tup (b.map bD)),some (.ref 0),some (.int k),v]/\K'.length+rest.length<=4+40 * k+(atw es [] b).length/\(∀ t∈K,t∈K')/\(∀ x∈rest,x∈atw es [] b)/\∀ x∈atw es [] b,x.1∈K->x∈rest\/x.2.1∈K') ?_ ?_ ⟨K,_,rfl,rfl,by lia,fun _ h=>h,fun _ h=>h,fun x hx _=>.inl hx⟩
  ·rintro x rest e m ⟨K',v,rfl,rfl,hl1,hl2,hl3,hl4⟩
   refine⟨trivial,?_⟩
   rw[Azo] at hl1
   have stay:(x.1∈K->x.2.1∈K')->∃ (K'':List Str) (v:Option D),[MObj.lst (K'.map D.str)]=[.lst (K''.map .str)]/\[some (D.tup (es.map eD)),some (D.tup (ws.map nD)),some (D.tup (b.map bD)),some (D.ref 0),some (D.int k),some (wD x)]=[some (.tup (es.map eD)),some (.tup (ws.map nD)),some (.tup (b.map bD)),some (.ref 0),some (.int k),v]/\K''.length+rest.length<=4+40 * k+(atw es [] b).length/\(∀ t∈K,t∈K'')/\(∀ x∈rest,x∈atw es [] b)/\∀ x∈atw es [] b,x.1∈K->x∈rest\/x.2.1∈K'':=fun hx=>⟨K',_,rfl,rfl,by lia,hl2,fun y hy=>hl3 y (Azf _ hy),fun y hy h=>by
    rcases hl4 y hy h with q|q
    ·rcases List.mem_cons.mp q with rfl|q
     ·exact .inr (hx h)
     ·exact .inl q
    ·exact .inr q⟩
   simp_arith[Ah9,M0,inT,Aw0]
   refine cK.dec (fun h1=>?_) fun h1=>stay fun z=>absurd (hl2 _ z) h1
   cases h2:decide (x.2.1∈K') with
   |true =>
    rw[show (!true)=false from rfl,Rk]
    exact stay fun _=>Baa h2
   |false =>
    rw[show (!false)=true from rfl,T5]
    refine⟨by lia,K'++[x.2.1],_,by simp,rfl,by simp;lia,fun t ht=>Azw _ (hl2 t ht),fun y hy=>hl3 y (Azf _ hy),fun y hy h=>?_⟩
    rcases hl4 y hy h with q|q
    ·rcases List.mem_cons.mp q with rfl|q
     ·exact .inr (Azd _ (List.mem_singleton.mpr rfl))
     ·exact .inl q
    ·exact .inr (Azw _ q)
  ·rintro e m ⟨K',v,rfl,rfl,hl1,hl2,hl3,hl4⟩
   refine⟨trivial,?_⟩
   rw[Bbo] at hl1
   refine⟨K',_,_,rfl,rfl,by lia,fun n hn=>hl2 _ (hK1 n hn),fun i h hi=>?_⟩
   rcases Nat.lt_or_ge i (k+1) with z|z
   ·exact hl2 _ (hK2 i h (by lia))
   ·obtain⟨x,hx,e⟩:=hs i h
    rw[<- e]
    rcases List.mem_append.mp hx with hx|hx
    ·obtain⟨n,hn,rfl⟩:=List.mem_map.mp hx
     exact hl2 _ (hK1 n hn)
    ·obtain⟨c,hc,hx⟩:=List.mem_flatMap.mp hx
     obtain⟨n,hn,rfl⟩:=List.mem_map.mp hx
     obtain⟨j,hj,ej⟩:=List.getElem_of_mem hc
     rw[Ba7] at hj
     rw[List.getElem_take] at ej
     have hcK:c.1∈K:=by rw[<- ej];exact hK2 j (by lia) (by lia)
     have hcb:c∈b:=hp.mem_iff.mpr (List.mem_of_mem_take hc)
     rcases hl4 (c.1,n) (Azd _ (List.mem_flatMap.mpr ⟨c,hcb,List.mem_map.mpr ⟨n,hn,rfl⟩⟩)) hcK with q|q
     ·cases q
     ·exact q
 ·rintro e m ⟨K,u,v,rfl,rfl,hKl,hK1,hK2⟩
  refine⟨trivial,?_⟩
  array_get_dec
  have hall:∀ c∈b,c.1∈K:=fun c hc=>by
   obtain⟨i,hi,e⟩:=List.getElem_of_mem (hp.mem_iff.mp hc)
   rw[<- e]
   exact hK2 i hi (by simp;lia)
  refine⟨by lia,Cy (fun c=>!decide (c.1∈K)) (fun c=>.str c.1) (fun c hc=>?_) ?_⟩
  ·unfold bD
   simp_arith[Aw0]
   exact fun _=>trivial
  ·rw[List.filter_eq_nil_iff.mpr fun c hc=>by simp[hall c hc]]
   rw[Bbb,Io]
   exact⟨rfl,rfl,by decide,rfl⟩
 ·have:i=0:=by lia
  subst this
  obtain⟨x,hx,e⟩:=hs 0 h
  rw[<- e]
  rcases List.mem_append.mp hx with hx|hx
  ·obtain⟨n,hn,rfl⟩:=List.mem_map.mp hx
   exact List.mem_map.mpr ⟨n,hn,rfl⟩
  ·simp at hx
theorem Af8 (a b:Bk):deq (bD a) (bD b)=decide (a=b):=Td a b
theorem Ayv {c:Bk}{b:List Bk}{m:MH}{Q:D->Prop}:W (Bz (bD c) (tb b) m) Q=Q (.bl (!decide (c∈b))):=by
 have e:inO m (bD c) (tb b)=some (decide (c∈b)):=by
  have hv:B7 m (.tup (b.map bD))=some (.tup (b.map bD)):=By (D5 b)
  unfold inO tb
  simp only[By (Cj c),hv,Azv]
  rw[show sq [] (.tup (b.map bD))=some (b.map bD) from rfl,Azv]
  have:=T4 c
  rw[Azp (by lia)]
  congr 1
  rw[Ba3,List.any_eq_true,Bat]
  constructor
  ·rintro ⟨d,hd,h⟩
   obtain⟨y,hy,rfl⟩:=List.mem_map.mp hd
   rw[Af8] at h
   rw[<- Baa h];exact hy
  ·exact fun h=>⟨bD c,List.mem_map.mpr ⟨c,h,rfl⟩,by rw[Af8];simp⟩
 unfold Bz
 rw[e,Azv,Ab]
theorem Apb (xs:List Bk):dep (.lst (xs.map bD))<=60:=by
 have h:Cz (xs.map bD)<=3:=B0 fun d hd=>by
  obtain⟨x,_,rfl⟩:=List.mem_map.mp hd
  exact T4 x
 rw[dep];lia
theorem Nv {es:List En} (h:Sh es) {n:Str}{m:Mk}{ms0 ms:List Mk} (hm:mks es n=ms0++m::ms) (sn:List (List Bk)) (ah:List Bk) (hal:ah.length<=40) (hno:∀ y∈ms0,∀ b∈sn,¬ ∀ c∈ah++[(n,y)],c∈b):Y8 [.tup (es.map eD),.lst (sn.map tb),.lst (ah.map bD),bD (n,m)]=some (.bl true):=W.out <| by
 unfold Y8 Avg
 rw[B8]
 have ml:=Jx es n
 have h40:=h.len
 have hml:ms0.length < (mks es n).length:=by rw[hm];simp
 have hmm:m∈mks es n:=by rw[hm];simp
 have hix:((mks es n).findIdx fun y=>decide (y=m))=ms0.length:=by rw[hm];exact Apr (by rw[<- hm];exact Z3 h n)
 have eb:bD (n,m)=.tup [.str n,m.d]:=rfl
 have hcut:Ln (mks es n) none (some (ms0.length:Int))=ms0:=by rw[Nc (by lia),hm,List.take_left]
 simp_arith[Af Df,eb,Pl es h n,Co,Acw hmm (by lia),hix,hcut]
 refine⟨rfl,Ct (fun rest e mm=>mm=[]/\(∀ y∈rest,y∈ms0)/\∃ u v,e=[some (.tup (es.map eD)),some (.lst (sn.map tb)),some (.lst (ah.map bD)),some (.tup [.str n,m.d]),some (.lst ((mks es n).map Mk.d)),u,v]) ?_ ?_ ⟨rfl,fun _ h=>h,_,_,rfl⟩⟩
 ·rintro y rest e mm ⟨rfl,hr,u,v,rfl⟩
  refine⟨trivial,?_⟩
  array_get_dec
  refine Ct (fun rest' e mm=>mm=[]/\(∀ b∈rest',b∈sn)/\∃ v,e=[some (.tup (es.map eD)),some (.lst (sn.map tb)),some (.lst (ah.map bD)),some (.tup [.str n,m.d]),some (.lst ((mks es n).map Mk.d)),some y.d,v]) ?_ ?_ ⟨rfl,fun _ h=>h,_,rfl⟩
  ·rintro b rest' e mm ⟨rfl,hb,v,rfl⟩
   refine⟨trivial,?_⟩
   have ea:ah.map bD++[.tup [.str n,y.d]]=(ah++[(n,y)]).map bD:=by simp[bD]
   simp_arith[ea]
   refine⟨by lia,by simp;lia,Cy (fun c=>!decide (c∈b)) bD (fun c hc=>?_) ?_⟩
   ·simp_arith[Ayv]
    exact fun _=>trivial
   ·refine⟨Ay (Af Cj),rfl,Apb _,?_⟩
    rw[Io,List.isEmpty_map]
    have:((ah++[(n,y)]).filter fun c=>!decide (c∈b)).isEmpty=false:=by
     rw[Bool.eq_false_iff]
     intro z
     have z:=List.isEmpty_iff.mp z
     refine hno y (hr y (Azg ..)) b (hb b (Azg ..)) fun c hc=>?_
     have:=List.filter_eq_nil_iff.mp z c hc
     simpa using this
    rw[this,Rk]
    exact⟨fun b h=>hb b (Azf _ h),_,rfl⟩
  ·rintro e mm ⟨rfl,hb,v,rfl⟩
   refine⟨trivial,?_⟩
   array_get_dec
   exact⟨fun y h=>hr y (Azf _ h),_,_,rfl⟩
 ·rintro e mm ⟨rfl,hr,u,v,rfl⟩
  refine⟨trivial,?_⟩
  array_get_dec
theorem Hn {es:List En}{ws:List Nd}{U:List Str}:Vo es ws U []:=⟨Bbe,(fun _ h=>nomatch h),(fun _ h=>nomatch h)⟩
theorem Jh {es:List En} (h24:es.length<=24):∀ (ns:List Str) (acc:List (List Bk)),(ns.foldl (Re es) acc).length<=acc.length * 25 ^ ns.length
 |[],acc=>by simp
 |n::ns,acc=>by
  rw[List.foldl_cons]
  refine Azy (Jh h24 ns _) ?_
  rw[Lf,Azo,Nat.pow_succ,Nat.mul_comm _ 25,<- Nat.mul_assoc]
  refine Nat.mul_le_mul_right _ ?_
  have ml:=Jx es n
  have hml:(mks es n).length * acc.length<=24 * acc.length:=Nat.mul_le_mul_right _ (by lia)
  lia
structure Gb (es:List En) (ws:List Nd) (U ts:List Str):Prop where
 g:Gd es ws U
 nd:ts.Nodup
 l4:ts.length<=4
 l24:es.length<=24
 nm:∀ e∈es,e.nm∈ts
abbrev sns (es:List En) (ws:List Nd) (ts:List Str):List (List Bk):=(Cu es ts).filter (U9 es ws)
section
variable {es:List En}{ws:List Nd}{U ts:List Str}
theorem Ate (G:Gb es ws U ts) {b:List Bk} (h:Sub es ts b):BkOk b where
 nd:=h.nd G.nd
 sm:=fun c hc=>by
  obtain⟨e,he,_,h2⟩:=mks_mem.mp (h.of c hc).2
  have:=(G.g.sh.ok e he).ms
  rw[<- h2];lia
 len:=by have:=h.len;have:=G.l4;lia
theorem Ts (G:Gb es ws U ts) {b:List Bk} (h:b∈sns es ws ts):Seek.Sol (Zs es ws) b/\Sub es ts b:=by
 obtain⟨h1,h2⟩:=List.mem_filter.mp h
 have hs:=books_sub.mp h1
 exact⟨(Tr (hs.nd G.nd) fun c hc=>(hs.of c hc).2).mp h2,hs⟩
theorem Abz (G:Gb es ws U ts) {r:List Bk} (h:Seek.Sol (Zs es ws) r):Oj r ts∈sns es ws ts/\(Oj r ts).Perm r:=by
 have hr:∀ c∈r,c.1∈ts:=fun c hc=>by
  obtain⟨e,he,h1,_⟩:=mks_mem.mp (h.of c hc)
  rw[<- h1];exact G.nm e he
 have hp:=Vq h.nd h.of G.nd hr
 have hs:=Gn h.of ts
 refine⟨List.mem_filter.mpr ⟨books_sub.mpr hs,?_⟩,hp⟩
 exact (Tr (hs.nd G.nd) fun c hc=>(hs.of c hc).2).mpr (Va hp h)
theorem Apc (xs:List (List Bk)):dep (.lst (xs.map tb))<=60:=by
 have h:Cz (xs.map tb)<=4:=B0 fun d hd=>by
  obtain⟨x,_,rfl⟩:=List.mem_map.mp hd
  exact Ah3 x
 rw[dep];lia
theorem Afd {ds:List D}{m:MH}:D9 [.lst ds] m=D9 [.tup ds] m:=rfl
theorem Ac5 (G:Gb es ws U ts) {r:List Bk}{st:List Stp} (ht:Seek.Told 12 (Zs es ws) Dg [] (.book r st)) {m:MH}{k:Nat} (hk:m[k]?=some (.lst (st.map stD))) (a b c d:Option D):W (Tx [a,b,c,d,some (.tup (es.map eD)),some (.tup (ws.map nD)),some (.lst ((sns es ws ts).map tb)),some (.tup [.str (Str.ofString "book"),.tup ((srt r).map bD),.ref k]),none,none] m) (Ang fun x=>x=.bl true):=by
 obtain⟨h1,h2,h3⟩:=ht
 have hw:=Jn G.g 12 Hn h1
 obtain⟨hsol,_⟩:=Seek.first_sol Dz Gz G.g.un 12 (Hn (es:=es) (ws:=ws) (U:=U)) h1
 have hl:=hw.len
 have hul:=G.g.ul
 obtain⟨s1,s3,s2⟩:=Ra r hw.nd (by lia)
 have hr:r=st.map pr2:=h2
 have hb:=Aia G.g hw
 have hsb:BkOk (srt r):=⟨(s1.map _).nodup_iff.mpr hb.nd,fun c hc=>hb.sm c (s1.mem_iff.mp hc),by rw[s1.length_eq];exact hb.len⟩
 have hsn:U9 es ws (srt r)=true:=(Tr hsb.nd fun c hc=>hw.of c (s1.mem_iff.mp hc)).mpr (Va s1 hsol)
 have hre:L8 [.tup (es.map eD),.tup (ws.map nD),tb (srt r)]=_:=Xq G.g hw s1 fun i h=>(O1 G.g 12 h1).2 i h (Az5 _)
 have hso:W (Jp [.tup (es.map eD),.tup (ws.map nD),tb (srt r)])=fun Q=>Q (.bl (U9 es ws (srt r))):=funext fun Q=>Vc es G.g.sh ws G.g.wt (srt r) hsb
 rw[My] at hre hso
 unfold Tx
 simp_arith[Af Df,Af He,Af Cj]
 rw[hso,hsn]
 array_get_dec
 rw[hre,Ab]
 array_get_dec
 unfold Ab5
 simp_arith[sqK hk]
 have hsl:=Ahg G.g Hn ⟨h1,h2,h3⟩
 refine⟨⟨hk,by lia⟩,Bl (fun s=>bD (pr2 s)) (fun s hs=>?_) ?_⟩
 ·unfold stD
  array_get_dec
  rfl
 rw[show (st.map fun s=>bD (pr2 s))=r.map bD by rw[hr,Bbh];rfl]
 have hrl:r.length=st.length:=by rw[hr,Azr]
 unfold Vf
 array_get_dec
 rw[Afd,s2,Ab]
 array_get_dec
 refine⟨Ay (Af Cj),Ay (Af Cj),Apb _,?_⟩
 rw[Ys (Af Cj),show (!true)=false from rfl,Rk]
 obtain⟨hal,hap⟩:=Abz G hsol
 have hsnl:(sns es ws ts).length<=390625:=by
  refine Azy (List.length_filter_le ..) (Azy (Jh G.l24 ts [[]]) ?_)
  have:25 ^ ts.length<=25 ^ 4:=Nat.pow_le_pow_right (by decide) G.l4
  have e4:25 ^ 4=390625:=by decide
  simp;lia
 refine⟨by lia,Bl (fun b=>tb (srt b)) (fun b hbm=>?_) ?_⟩
 ·have hs:=(Ts G hbm).2
  have hbl:=hs.len
  have h4:=G.l4
  obtain⟨_,_,q⟩:=Ra b (hs.nd G.nd) (by lia)
  rw[My,My]
  array_get_dec
  rw[q,Ab]
  array_get_dec
 have hin:(((sns es ws ts).map fun b=>tb (srt b)).any fun d=>deq d (tb (srt r)))=true:=List.any_eq_true.mpr ⟨tb (srt r),List.mem_map.mpr ⟨_,hal,by rw[As4 hap ((hap.map _).nodup_iff.mpr hw.nd) (by rw[hap.length_eq];lia)]⟩,Uc (D5 _)⟩
 rw[<- My,T3 (D5 _) (by have:=Ah3 (srt r);lia) (Ay (Af fun b=>D5 _)),hin]
 array_get_dec
 refine⟨⟨by lia,by lia⟩,Je (fun i e mm=>mm=m/\∃ u,e=[a,b,c,d,some (.tup (es.map eD)),some (.tup (ws.map nD)),some (.lst ((sns es ws ts).map tb)),some (.tup [.str (Str.ofString "book"),tb (srt r),.ref k]),some (.lst (r.map bD)),u]) ?_ ?_ ⟨rfl,_,rfl⟩⟩
 ·rintro i e mm hi ⟨rfl,u,rfl⟩
  refine⟨trivial,?_⟩
  have hi1:i < r.length:=by simpa using hi
  have hi2:i < st.length:=by lia
  obtain⟨ms0,ms,q1,q2⟩:=Rf h3 i hi2
  have er:r[i]=(st[i].1,st[i].2.1):=by simp[hr]
  have et:[]++(st.take i).map pr2=r.take i:=by rw[hr,Bb6,List.map_take]
  rw[et] at q1
  obtain⟨r1,r2⟩:=U6 q1
  have hno:∀ y∈ms0,∀ b∈sns es ws ts,¬ ∀ c∈r.take i++[(st[i].1,y)],c∈b:=fun y hy b hb hall=>by
   rw[<- r1] at hy
   obtain⟨w,hw1,rfl⟩:=List.mem_map.mp hy
   exact (r2 w hw1).noSol (Ts G hb).1 hall
  have hp:=Nv G.g.sh q2 (sns es ws ts) (r.take i) (by rw[Ba7];lia) hno
  have hct:Ln (r.map bD) none (some (i:Int))=(r.take i).map bD:=by rw[Nc (by simp;lia),List.map_take]
  simp_arith[M8 hi1,er,hct,Af Df,Af Cj]
  refine⟨Ay (Af D5),Ay (Af Cj),?_⟩
  rw[Ye (Cj _),hp,Ab]
  array_get_dec
  exact⟨_,rfl⟩
 ·rintro e mm ⟨rfl,u,rfl⟩
  refine⟨trivial,?_⟩
  array_get_dec
theorem Vt (G:Gb es ws U ts) (m:MH) (dn:D) (hV:B7 m dn=some (.lst (ts.map .str))) (a b d:Option D):W (Tw [a,b,some dn,d,some (.tup (es.map eD)),some (.tup (ws.map nD)),none,none,none,none] m) (Ang fun x=>x=.bl true):=by
 unfold Tw
 have hul:=G.g.ul
 have hbl:(Cu es ts).length<=390625:=by
  refine Azy (Jh G.l24 ts [[]]) ?_
  have:25 ^ ts.length<=25 ^ 4:=Nat.pow_le_pow_right (by decide) G.l4
  have e4:25 ^ 4=390625:=by decide
  simp;lia
 simp_arith[hV,Af Df,Ab,Ac6 es G.g.sh G.l24 ts G.l4,Af D5]
 refine⟨by lia,Cy (U9 es ws) tb (fun b hb=>?_) ?_⟩
 ·have hs:=books_sub.mp hb
  have hso:=@Vc es G.g.sh ws G.g.wt b (Ate G hs)
  simp_arith[Af Df,Af He,D5 b,hso]
  exact fun _=>trivial
 unfold Ab3
 array_get_dec
 cases eb:Seek.sb (Zs es ws) Dg 12 [] with
 |none=>exact absurd eb (Seek.sb_ne Dz Gz G.g.un 12 Hn (by simp;lia))
 |some q =>
  have ht:=Ab8 G.g Hn (by simp;lia) eb
  refine (Ab0 G.g eb m).imp fun x hx=>?_
  unfold Ab4
  cases q with
  |stuck p =>
   have hv:Seek.Valid (Zs es ws) [] p:=ht
   obtain⟨t,rfl⟩:=hx
   have he:(Cu es ts).filter (U9 es ws)=[]:=by
    cases e:(Cu es ts).filter (U9 es ws) with
    |nil=>rfl
    |cons b bs =>
     have hb:b∈sns es ws ts:=by show b∈(Cu es ts).filter (U9 es ws);rw[e];exact Azg ..
     exact (hv.noSol (Ts G hb).1 fun _ h=>nomatch h).elim
   rw[he]
   array_get_dec
   rw[Io]
   exact⟨rfl,rfl,by decide,cK.mk (fun _=>trivial) fun z=>absurd z (by decide)⟩
  |book r st =>
   obtain⟨t,k,rfl,hk⟩:=hx
   have hbk:=Ac5 G ht hk a b (some dn) d
   obtain⟨h1,h2,h3⟩:=ht
   obtain⟨hsol,_⟩:=Seek.first_sol Dz Gz G.g.un 12 (Hn (es:=es) (ws:=ws) (U:=U)) h1
   have hne:((Cu es ts).filter (U9 es ws)).isEmpty=false:=by
    have:=(Abz G hsol).1
    cases e:(Cu es ts).filter (U9 es ws) with
    |nil =>
     have:Oj r ts∈(Cu es ts).filter (U9 es ws):=this
     rw[e] at this;cases this
    |cons _ _=>rfl
   array_get_dec
   refine⟨Ay (Af D5),rfl,Apc _,?_⟩
   rw[Io,List.isEmpty_map,hne,Rk]
   exact hbk
end
theorem Atg (ns:List Int) (hl:ns.length<=63) (c o g:Int) (M:MH) (dn:D) (ts U:List Str) (hS:∀ (z:MObj) (t:MH) (Q:List D->Prop),W (sqL (z::(M++t)) dn) Q=Q (ts.map .str)) (hL:∀ (z:MObj) (t:MH) (Q:D->Prop),W (J0 [dn] (z::(M++t))) Q=Q (.int ts.length)) (hV:∀ (z:MObj) (t:MH),B7 (z::(M++t)) dn=some (.lst (ts.map .str)))
  (ht:1<=ts.length) (ht2:ts.length<=4) (htn:ts.Nodup) (hsu:∀ t∈ts,t∈U) (hq:qq∈U) (hU:U.length<=7) (ms:List Mk) (h0:0 < ms.length) (h1:ms.length<=200) (hm:∀ x∈ms,x.ms.length<=3) (es:List En) (hsh:Sh es) (h24:es.length<=24) (hnm:∀ e∈es,e.nm∈ts) (hnd:∀ e∈es,∀ n∈e.nd,n.1∈U) (a:Option D) :
  W (Tv [a,some (.ref 0),some dn,some (.lst (ms.map Mk.d)),some (.tup (es.map eD)),none,none,none,none,none] (fdL ns c o g::M)) (Ang fun x=>x=.bl true):=by
 unfold Tv
 array_get_dec
 refine (Nx ns hl c o g M 40 (by decide) (by decide)).imp fun x ⟨g2,e⟩=>?_
 subst e
 refine (Jy ns _ o g2 M dn ts hS hL ht (by lia) (Str.ofString "") ms h0 h1 hm 5 (by decide) (by decide) (by decide) (by decide)).imp fun x ⟨ws,c3,g3,t3,e,hws,hwl,_,_⟩=>?_
 subst e
 have hw1:∀ n∈ws,n.1∈U:=fun n hn=>by
  rcases List.mem_append.mp (hws n hn).2 with z|z
  ·exact hsu _ z
  ·rw[List.mem_singleton.mp z];exact hq
 have G:Gd es ws U:=⟨hsh,⟨fun n hn=>(hws n hn).1,by have:(5:Int).toNat=5:=rfl;lia⟩,fun ch x hx=>by
  rcases List.mem_append.mp hx with h|h
  ·obtain⟨n,hn,rfl⟩:=List.mem_map.mp h
   exact hw1 n hn
  ·obtain⟨c,_,h⟩:=List.mem_flatMap.mp h
   obtain⟨n,hn,rfl⟩:=List.mem_map.mp h
   have hn:n∈Xf es c.1 c.2:=hn
   unfold Xf at hn
   cases e:es.find? (isE c.1 c.2) with
   |none=>rw[e] at hn;cases hn
   |some r =>
    rw[e] at hn
    exact hnd r (List.mem_of_find?_eq_some e) n hn,hU⟩
 exact Vt ⟨G,htn,ht2,h24,hnm⟩ _ dn (hV _ _) _ _ _
theorem law_true (ns:List Int) (hl:ns.length<=63):L7 [.kl (ns.map .int)]=some (.bl true):=W.out <| by
 unfold L7 Ajq
 rw[B8]
 array_get_dec
 refine (Ajg ns).imp fun x ⟨o,e⟩=>?_
 subst e
 array_get_dec
 refine (Afa ns hl 0 o 0 []).imp fun x ⟨ts,ms,es,c1,g1,M,j,e,hj,t1,t2,tn,m1,m2,m3,hsh,h24,hnt,hnm⟩=>?_
 subst e
 obtain⟨hS,hL⟩:=Aab hj
 have hsq:∀ {Q:List D->Prop},W (sq (fdL ns c1 o g1::M) (.ref (j+1))) Q=Q (ts.map .str):=fun {Q}=>by
  have:=@sqN (fdL ns c1 o g1) M [] j _ hj Q
  rwa [Az2] at this
 have hU:(ts++[qq]).length<=7:=by simp;lia
 simp_arith[hsq]
 refine cK.dec (fun h5=>?_) fun h5=>?_
 ·have hct:Ln ts none (some 3)=ts.take 3:=Nc (xs:=ts) (j:=3) (by lia)
  have h40:=hsh.len
  rw[hct]
  refine⟨by lia,Cy (fun e=>decide (e.nm∈ts.take 3)) eD (fun e he=>?_) ?_⟩
  ·simp_arith[Yv]
   refine⟨Iv _,?_,fun _=>trivial⟩
   rw[Ba3,List.any_eq_true,Bat]
   constructor
   ·rintro ⟨d,hd,h⟩
    obtain⟨y,hy,rfl⟩:=List.mem_map.mp hd
    rw[B9] at h
    rw[<- Baa h];exact hy
   ·exact fun h=>⟨.str e.nm,List.mem_map.mpr ⟨_,h,rfl⟩,by rw[B9];simp⟩
  have sub:∀ e∈es.filter (fun e=>decide (e.nm∈ts.take 3)),e∈es:=fun e he=>(List.mem_filter.mp he).1
  have hfl:(es.filter fun e=>decide (e.nm∈ts.take 3)).length<=es.length:=List.length_filter_le ..
  exact Atg ns hl c1 o g1 M _ (ts.take 3) (ts++[qq]) nm_lst.1 nm_lst.2 (fun z t=>by unfold B7;simp only[Bt,Iv,Bbc]) (by rw[Ba7];lia) (by rw[Ba7];lia) (tn.sublist (List.take_sublist ..)) (fun t ht=>Azw _ (List.mem_of_mem_take ht)) (by simp) hU ms m1 m2 m3 _ ⟨fun e he=>hsh.ok e (sub e he),by lia,hsh.dst.filter _⟩ (by lia) (fun e he=>Baa (List.mem_filter.mp he).2) (fun e he=>hnm e (sub e he)) _
 ·refine Atg ns hl c1 o g1 M _ ts (ts++[qq]) hS hL (fun z t=>?_) t1 (by lia) tn (fun t ht=>Azw _ ht) (by simp) hU ms m1 m2 m3 es hsh h24 hnt hnm _
  have e:(z::(M++t))[j+1]?=some (.lst (ts.map .str)):=by rw[Baz];exact Rr hj
  unfold B7
  simp only[e,Iv,Bbc]
end K61a
end S_GA
section S_K61h
namespace K61a
open PySem L2 L2.ML
noncomputable section
noncomputable def Awr (o:Obj):Option Addr:=match o.data with
 |.fields vs=>(match (vs[11]?:Option Value) with|some (.ref P)=>some P|_=>none)
 |_=>none
theorem all_mk {ts:List Addr}{l:W.OpenLaw}{w:World}{K:W.Frag}{h:Heap}{mg:Str->Option Value}{fa:Addr} (X:K.In h) (G:h.Ns mainGlobals mg) (hfa:mg "law"=some (.ref fa))
  (f0:FM K "mark_rank" As9)
  (f1:FM K "rank" Ah1)
  (f2:FM K "is_older" Atb)
  (f3:FM K "newest_first" As6)
  (f4:FM K "lies_in" Ahj)
  (f5:FM K "makes_of" Atc)
  (f6:FM K "needs_of" Atd)
  (f7:FM K "needs_at_work" As5)
  (f8:FM K "is_kept" Ahk)
  (f9:FM K "rests_on" Ahh)
  (f10:FM K "sought_with" As7)
  {a_z1:Addr}{oc_z1 kV_z1 dc_z1 pm_z1 cd_z1 ct_z1:Value}{od_z1 an_z1:Option Addr}{sl_z1:Array (Option Value)} (n_z1:W.nsIn K mainGlobals "sought_behind"=some (some (.ref a_z1))) (l_z1:K.lookup a_z1=some ⟨oc_z1,od_z1,.func (W.fnOf "sought_behind" "sought_behind" (Dy Xv) (Bw Xv) (Aq Xv) .none kV_z1 dc_z1 pm_z1 an_z1 cd_z1 ct_z1),sl_z1⟩) (c_z1:W.codeIn K cd_z1 "sought_behind"=true) (k_z1:W.keepIn K (.ref a_z1)=true)
  (f12:FM K "sought" Ahm)
  (f13:FM K "_law_feed" Ahu)
  (f14:FM K "_law_open" Ahv)
  (f15:FM K "_law_draw" Ahw)
  (f16:FM K "_law_age" Ah2)
  (f17:FM K "_law_lies" Ahx)
  (f18:FM K "_law_names" Ahn)
  (f19:FM K "_law_make" Ahy)
  (f20:FM K "_law_span" Ahz)
  (f21:FM K "_law_stock" Aho)
  (f22:FM K "_law_pool" Ah0)
  (f23:FM K "_law_needs_of" Ata)
  (f24:FM K "_law_shelf" Ahp)
  (f25:FM K "_law_needs" Ahq)
  (f26:FM K "_law_makes" Ahr)
  (f27:FM K "_law_broken" Ahl)
  (f28:FM K "_law_books" Ahs)
  (f29:FM K "_law_sound" Aht)
  (f30:FM K "_law_reached" Ahi)
  (f31:FM K "_law_none_newer" As8)
  {a_law:Addr}{oc_law kV_law dc_law pm_law cd_law ct_law:Value}{od_law an_law:Option Addr}{sl_law:Array (Option Value)} (n_law:W.nsIn K mainGlobals "law"=some (some (.ref a_law))) (l_law:K.lookup a_law=some ⟨oc_law,od_law,.func (W.fnOf "law" "law" (Dy Rc) (Bw Rc) (Aq Rc) .none kV_law dc_law pm_law an_law cd_law ct_law),sl_law⟩) (c_law:W.codeIn K cd_law "law"=true) (k_law:W.keepIn K (.ref a_law)=true)
  (z_any:W.nsIn K mainGlobals "any"=some none)
  (z_dict:W.nsIn K mainGlobals "dict"=some none)
  (z_int:W.nsIn K mainGlobals "int"=some none)
  (z_isinstance:W.nsIn K mainGlobals "isinstance"=some none)
  (z_len:W.nsIn K mainGlobals "len"=some none)
  (z_list:W.nsIn K mainGlobals "list"=some none)
  (z_min:W.nsIn K mainGlobals "min"=some none)
  (z_range:W.nsIn K mainGlobals "range"=some none)
  (z_reversed:W.nsIn K mainGlobals "reversed"=some none)
  (z_sorted:W.nsIn K mainGlobals "sorted"=some none)
  (z_str:W.nsIn K mainGlobals "str"=some none)
  (z_tuple:W.nsIn K mainGlobals "tuple"=some none)
  {cc_z1 pp_z1:Addr}{ob_z1:Obj} (e_z1:cd_z1=.ref cc_z1) (Ajr:K.lookup cc_z1=some ob_z1) (p_z1:Awr ob_z1=some pp_z1) (h_z1:W.codeHdIn K cc_z1 pp_z1=true) (m_z1:pp_z1∈ts) (hnd:[pp_z1].Nodup) :
  ∃ (fd:FuncData) (tabs:List (Addr×Str)),(∀ (s:Shared) (v:Value),BindsTo s fd ⟨[v],[]⟩ [("_law_script",v)])/\(∀ q∈tabs,q.1∈ts/\isCodeTable h q.1)/\(tabs.map (·.1)).Nodup/\∀ base:Heap,K.In base->base.Ns mainGlobals mg->M5 mg base->FnOk l.prog w K mg base CX0 67 fa fd ["_law_script"] (spT tabs K 1 L7):=by
 have e:=hfa.symm.trans (W.mg_of X G n_law)
 cases e
 have T:Txt K mg _:=⟨f0.fd1 X G,f1.fd1 X G,f2.fd2 X G,f3.fd1 X G,f4.fd2 X G,f5.fd2 X G,f6.fd3 X G,f7.fd3 X G,f8.fd2 X G,f9.fd2 X G,f10.fd4 X G,⟨_,_,_,W.mg_of X G n_z1,Uj l_z1 c_z1 k_z1,(Uj (st:=Xv) l_z1 c_z1 k_z1).binds3,e_z1,h_z1⟩,f12.fd2 X G,f13.fd1 X G,f14.fd2 X G,f15.fd2 X G,f16.fd1 X G,f17.fd2 X G,f18.fd2 X G,f19.fd1 X G,f20.fd2 X G,f21.fd1 X G,f22.fd1 X G,f23.fd5 X G,f24.fd1 X G,f25.fd3 X G,f26.fd2 X G,f27.fd2 X G,f28.fd2 X G,f29.fd3 X G,f30.fd3 X G,f31.fd4 X G⟩
 have B:Blt mg:=⟨W.mg_none_of X G z_any,W.mg_none_of X G z_dict,W.mg_none_of X G z_int,W.mg_none_of X G z_isinstance,W.mg_none_of X G z_len,W.mg_none_of X G z_list,W.mg_none_of X G z_min,W.mg_none_of X G z_range,W.mg_none_of X G z_reversed,W.mg_none_of X G z_sorted,W.mg_none_of X G z_str,W.mg_none_of X G z_tuple⟩
 refine⟨_,tabs pp_z1,fun s v=>.of_eq rfl,fun q hq=>?_,hnd,fun base _ _ hB=>Aqn T B hB (Uj l_law c_law k_law)⟩
 simp only[Bba,Bap,or_false] at hq
 rcases hq with rfl
 ·exact⟨m_z1,Afm X h_z1⟩
theorem P3 {K:W.Frag}{H:Hp}{μ:List Addr}{B:Addr->Prop}:∀ ns:List Int,Reps K H μ B (ns.map D.int) (ns.map V.int)
 |[]=>.nil
 |n::ns=>.cons (.int n) (P3 ns)
theorem walk {l:W.OpenLaw}{q:Program}{loose:List Str}{XP:(Str->Option Value)->Heap->Prop}{YP:World->Heap->Prop}{d:DefRec}{K:Params->W.Frag}{ts:List Addr} (hn:l.most=some 63) (hdf:d.params.defaults=[])
  (hY:∀ (w:World) (h:Heap),YP w h->(K w.params).In h/\∀ P∈ts,h.get? P=some (W.tabObj #[])) (hNT:∀ w:World,W.noTabs (K w.params)=true)
  (F:∀ (w:World) (mg:Str->Option Value) (fa:Addr) (h:Heap),(K w.params).In h->h.Ns mainGlobals mg->mg d.name=some (.ref fa) ->
   ∃ (fd:FuncData) (tabs:List (Addr×Str)),(∀ (s:Shared) (u:Value),BindsTo s fd ⟨[u],[]⟩ [("_law_script",u)])/\(∀ q∈tabs,q.1∈ts/\isCodeTable h q.1)/\(tabs.map (·.1)).Nodup/\∀ base:Heap,(K w.params).In base->base.Ns mainGlobals mg->M5 mg base->FnOk l.prog w (K w.params) mg base CX0 67 fa fd ["_law_script"] (spT tabs (K w.params) 1 L7)) :
  W.WalkO q loose XP YP l.row.toRowW d [] (fun f vs=>PySem.call f vs) :=
 Aft (n:=63) (k:=67) (x:="_law_script") hn (by decide) hdf ⟨rfl,by decide,by decide⟩ hY hNT F (fun ns hl=>law_true ns hl) fun w H ns=>P3 ns
end
end K61a
namespace PySem.W.Fast
def tw1011164175112813265:=()
def tw10226756419899272970:=()
def tw10251952419918901767:=()
def tw10274187085669309961:=()
def tw1037252441972475760:=()
def tw10424965455921900335:=()
def tw10496222433901252363:=()
def tw10542810348999933878:=()
def tw10653770728130765737:=()
def tw10727475591772547854:=()
def tw10747539617527699018:=()
def tw10839625334059880528:=()
def tw10902976811102056734:=()
def tw11005136511751097570:=()
def tw11020953605290094804:=()
def tw11059320641418137903:=()
def tw11184500974437503486:=()
def tw11747174637943871019:=()
def tw11877263891910207623:=()
def tw11968323596202906675:=()
def tw12033086436891778706:=()
def tw1203964796575689166:=()
def tw12091550250674457508:=()
def tw12376448265823718922:=()
def tw12478250670174189521:=()
def tw12703904808351003261:=()
def tw12738083782583437602:=()
def tw1283107064208340439:=()
def tw1294022050963278674:=()
def tw13026338309450891238:=()
def tw13302242134371771000:=()
def tw13320838135593781281:=()
def tw13340281830546752651:=()
def tw13595598814269488204:=()
def tw13835675677580824744:=()
def tw13981742518014384763:=()
def tw14012673277558858877:=()
def tw14072814317397013236:=()
def tw14101431366873196213:=()
def tw1412734376680720424:=()
def tw14259242667718774068:=()
def tw14306856535798289267:=()
def tw14315743982061293182:=()
def tw14382377222565671078:=()
def tw14391515800199370221:=()
def tw14432449201174856228:=()
def tw1468642628437252388:=()
def tw14693237764507931610:=()
def tw1472849228776333080:=()
def tw14881319436396356376:=()
def tw1489135395795668972:=()
def tw14913167875401385291:=()
def tw14928662488342877349:=()
def tw14988275304736454778:=()
def tw15097335304018630698:=()
def tw15115768734257731248:=()
def tw1513216336029051441:=()
def tw15144720530348478381:=()
def tw15230102603300363411:=()
def tw15277169787891429701:=()
def tw15345902904969892241:=()
def tw15525411894608183122:=()
def tw15682214292659426156:=()
def tw15791270663289776113:=()
def tw15852622222239140381:=()
def tw15904587864369264883:=()
def tw15911216531086909570:=()
def tw1606150710818093937:=()
def tw16218349895264055173:=()
def tw16341315023804496427:=()
def tw16368493188873635698:=()
def tw1641508314044199358:=()
def tw16483777289486928410:=()
def tw16516941098641486976:=()
def tw16783102661783268841:=()
def tw16835435396566668259:=()
def tw16852526538260765095:=()
def tw17017418483149652018:=()
def tw17019761298203101240:=()
def tw1707934695339939828:=()
def tw17191102101085415746:=()
def tw17225791964327508521:=()
def tw17294237478296943922:=()
def tw17332831721310536089:=()
def tw17556134048795326735:=()
def tw17973500592339451975:=()
def tw18028258759298937705:=()
def tw18174581236513520393:=()
def tw18176600440950013327:=()
def tw18179859204508050729:=()
def tw18226156677508678239:=()
def tw18231140260715442836:=()
def tw18264145412267480508:=()
def tw1870691256135300891:=()
def tw1921134551459400277:=()
def tw2058618383257977869:=()
def tw2079636817449467091:=()
def tw2136859866029815006:=()
def tw2148097695825047225:=()
def tw21789214003766228:=()
def tw2522999754086699857:=()
def tw2543086108267163568:=()
def tw2562917885666381240:=()
def tw2601055372729678305:=()
def tw2641600118795928140:=()
def tw2674735725322671310:=()
def tw2789372544052979544:=()
def tw2879478376829878911:=()
def tw2884727076350173924:=()
def tw2906910411512215743:=()
def tw293289266691807746:=()
def tw2933063178988634663:=()
def tw3046996094558537039:=()
def tw3060883147890399023:=()
def tw3292218932474033937:=()
def tw3315392269444263181:=()
def tw3407518550024403319:=()
def tw3420317946188765385:=()
def tw3656873819661290013:=()
def tw3716333770948891354:=()
def tw3737609347247834112:=()
def tw380579195135529052:=()
def tw3896436268750013543:=()
def tw3926358607823038966:=()
def tw4126805963569503611:=()
def tw4130656528062385112:=()
def tw4209044286363631436:=()
def tw4244874906747018768:=()
def tw4336538044220508194:=()
def tw4412146393296489488:=()
def tw4477771610504840895:=()
def tw4520585042039459702:=()
def tw4599573284599287368:=()
def tw4967154852062654948:=()
def tw5031773934167272539:=()
def tw5083187192535852936:=()
def tw5097648621646910324:=()
def tw5107892875066494281:=()
def tw5306178089758758553:=()
def tw5454286412281220974:=()
def tw5479141092642520288:=()
def tw5707897666317149722:=()
def tw5864889956613028929:=()
def tw5866211412382837649:=()
def tw6025714720946084852:=()
def tw6035067208106176727:=()
def tw6207773160000008691:=()
def tw637325263958885601:=()
def tw6495413118192071743:=()
def tw6554771287857791401:=()
def tw6615967882073676591:=()
def tw6717949767225522087:=()
def tw7260543467974333150:=()
def tw7272864937447219330:=()
def tw7303609563943453925:=()
def tw7440892007428544434:=()
def tw7452668393845714186:=()
def tw7596099540635929106:=()
def tw7704095217689637128:=()
def tw772058607230142067:=()
def tw7734572683502441866:=()
def tw7745990124071370441:=()
def tw7949988200325682299:=()
def tw8099613331823101645:=()
def tw8267151264013623348:=()
def tw8267612612654374710:=()
def tw8288001101585119615:=()
def tw8344964178633619183:=()
def tw8433460351993478590:=()
def tw8482265611140502332:=()
def tw8517361043282141436:=()
def tw874897426031037516:=()
def tw8845981289050814947:=()
def tw8859728167580867591:=()
def tw8861178325048085930:=()
def tw888385530249602939:=()
def tw8933448369799226357:=()
def tw8979160493821674346:=()
def tw9185908247403664996:=()
def tw9247633627964079910:=()
def tw931624351622762464:=()
def tw9365047930007882300:=()
def tw9452531281737956395:=()
def tw9566328934790122771:=()
def tw987198746396996087:=()
def tw9991748262042233133:=()
end PySem.W.Fast
open PySem PySem.W PyProof.Rows
set_option maxRecDepth 100000 in
set_option maxHeartbeats 0 in
theorem PySem.Challenge.cw_stretchbook_k61_whole_no_book_ahead_holds : PySem.Challenge.rw_stretchbook_k61_whole_no_book_ahead.Holds := by
 w_on;o_law;k_head;(case hw=>w_witness2)
 k_fill
 refine K61a.walk (l:=PySem.Challenge.rw_stretchbook_k61_whole_no_book_ahead) rfl rfl (fun w h Y=>⟨W.km_in_of Y,W.km_tabs_of Y⟩) (fun w=>by kernel_rfl) ?F
 case F =>
  intro w mg fa h KX G hmg
  refine' K61a.all_mk KX G hmg (L2.ML.fm_mk ?n0 ?l0 ?c0 ?k0) (L2.ML.fm_mk ?n1 ?l1 ?c1 ?k1) (L2.ML.fm_mk ?n2 ?l2 ?c2 ?k2) (L2.ML.fm_mk ?n3 ?l3 ?c3 ?k3) (L2.ML.fm_mk ?n4 ?l4 ?c4 ?k4) (L2.ML.fm_mk ?n5 ?l5 ?c5 ?k5) (L2.ML.fm_mk ?n6 ?l6 ?c6 ?k6) (L2.ML.fm_mk ?n7 ?l7 ?c7 ?k7) (L2.ML.fm_mk ?n8 ?l8 ?c8 ?k8) (L2.ML.fm_mk ?n9 ?l9 ?c9 ?k9) (L2.ML.fm_mk ?n10 ?l10 ?c10 ?k10) ?n11 ?l11 ?c11 ?k11 (L2.ML.fm_mk ?n12 ?l12 ?c12 ?k12) (L2.ML.fm_mk ?n13 ?l13 ?c13 ?k13) (L2.ML.fm_mk ?n14 ?l14 ?c14 ?k14) (L2.ML.fm_mk ?n15 ?l15 ?c15 ?k15) (L2.ML.fm_mk ?n16 ?l16 ?c16 ?k16) (L2.ML.fm_mk ?n17 ?l17 ?c17 ?k17) (L2.ML.fm_mk ?n18 ?l18 ?c18 ?k18) (L2.ML.fm_mk ?n19 ?l19 ?c19 ?k19) (L2.ML.fm_mk ?n20 ?l20 ?c20 ?k20) (L2.ML.fm_mk ?n21 ?l21 ?c21 ?k21) (L2.ML.fm_mk ?n22 ?l22 ?c22 ?k22) (L2.ML.fm_mk ?n23 ?l23 ?c23 ?k23) (L2.ML.fm_mk ?n24 ?l24 ?c24 ?k24) (L2.ML.fm_mk ?n25 ?l25 ?c25 ?k25) (L2.ML.fm_mk ?n26 ?l26 ?c26 ?k26) (L2.ML.fm_mk ?n27 ?l27 ?c27 ?k27) (L2.ML.fm_mk ?n28 ?l28 ?c28 ?k28) (L2.ML.fm_mk ?n29 ?l29 ?c29 ?k29) (L2.ML.fm_mk ?n30 ?l30 ?c30 ?k30) (L2.ML.fm_mk ?n31 ?l31 ?c31 ?k31) ?n32 ?l32 ?c32 ?k32 ?z_any ?z_dict ?z_int ?z_isinstance ?z_len ?z_list ?z_min ?z_range ?z_reversed ?z_sorted ?z_str ?z_tuple ?e_z1 ?Ajr ?p_z1 ?h_z1 ?m_z1 ?hnd
  case n0|l0|c0|k0|n1|l1|c1|k1|n2|l2|c2|k2|n3|l3|c3|k3|n4|l4|c4|k4|n5|l5|c5|k5|n6|l6|c6|k6|n7|l7|c7|k7|n8|l8|c8|k8|n9|l9|c9|k9|n10|l10|c10|k10|n11|l11|c11|k11|n12|l12|c12|k12|n13|l13|c13|k13|n14|l14|c14|k14|n15|l15|c15|k15|n16|l16|c16|k16|n17|l17|c17|k17|n18|l18|c18|k18|n19|l19|c19|k19|n20|l20|c20|k20|n21|l21|c21|k21|n22|l22|c22|k22|n23|l23|c23|k23|n24|l24|c24|k24|n25|l25|c25|k25|n26|l26|c26|k26|n27|l27|c27|k27|n28|l28|c28|k28|n29|l29|c29|k29|n30|l30|c30|k30|n31|l31|c31|k31|n32|l32|c32|k32|z_any|z_dict|z_int|z_isinstance|z_len|z_list|z_min|z_range|z_reversed|z_sorted|z_str|z_tuple=>k_is
  (case e_z1=>exact rfl)
  (case Ajr=>k_is)
  (case p_z1=>exact rfl)
  (case h_z1=>first|k_is|kernel_rfl)
  (case m_z1=>decide)
  (case hnd=>decide)
end S_K61h
