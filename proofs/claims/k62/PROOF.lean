import PyProof.Rows.All
import Wide.All
import OpenK.AllK
import Wide.FinOn
import PyProof.P3Eq
import PyProof.TupleKey
import PyProof.DictRoadsH
import PyProof.Rows.RowHeap
import Lean
import PyProof.EqAt
import PyProof.EqKinds
import PyProof.TupleCall
import KE.KDflt
import PyProof.NeData
import PyProof.ConsumeWalk
import PyProof.CompFree
import PyProof.StrWalks
import PyProof.Rows.ListMul
import PyProof.MinMaxWalk
import PyProof.WalkInts
import PyProof.SeqI3
import PyProof.WalksMore
import PyProof.Rows.Range3
import PyProof.Rows.TupTab
import KE.KRevIter
import PyProof.ListRange
import KE.KSortTup
import PyProof.Rows.StrNews2
import PyProof.Rows.StrJoin2
import KE.KNestM
import KE.KDictSum
import PyProof.Rows.EnumRows
import PyProof.ZipIter
import KE.KSortAsk
import PyProof.Rows.SetFrom
import PyProof.Rows.SortStr
import PyProof.SetRoads
import KE.KDictOf
import PyProof.AttrMissHeap
import OpenK.KRaise
import KE.KTryMore
import PyProof.Rows.Catch
import PyProof.NsDelKeeps
import KE.KIsAll
import PyProof.ExcArgsOwn
import OpenK.KOwn
import PyProof.ExcClass3
import PyProof.ExcBaseAll.ValueError
import PyProof.Rows.FStr
import PyProof.StrOps2
import PyProof.FString5
import KE.KMinKey
import PyProof.TupleOfSeq
import PyProof.TupleOfStr
import KE.IntTextLaws
import PyProof.Rows.StrFirst
import PyProof.Rows.StrJoinMade
import PyProof.Rows.StrWeight2
import PyProof.Rows.CatFin
import PySem.Challenge.RW_stretchbook_k62_papers_looked_over
set_option Elab.async false
set_option compiler.extract_closed false
set_option linter.all false
set_option maxRecDepth 100000
set_option maxHeartbeats 4000000
abbrev Axh:=@PySem.wpAny_bind
abbrev Axi:=@PySem.Heap.get?_push_of_some
abbrev Axj:=@List.mem_append_right
abbrev Axk:=@List.size_toArray
abbrev Axl:=@List.mem_cons_of_mem
abbrev Axm:=@PySem.Heap.lt_size
abbrev Axn:=@List.mem_cons_self
abbrev Axo:=@PySem.wpAny_pure
abbrev Axp:=@List.getD_eq_getElem?_getD
abbrev Axq:=@List.length_map
abbrev Axr:=@List.getElem?_append_left
abbrev Axs:=@List.map_cons
abbrev Axt:=@List.length_append
abbrev Axu:=@Nat.le_refl
abbrev Axv:=@if_pos
abbrev Axw:=@PySem.Heap.get?_push_size
abbrev Axx:=@List.append_nil
abbrev Axy:=@if_neg
abbrev Axz:=@List.getElem?_eq_getElem
abbrev Ax0:=@Nat.lt_of_lt_of_le
abbrev Ax1:=@List.length_cons
abbrev Ax2:=@PySem.Heap.get?_update_other
abbrev Ax3:=@decide_eq_false
abbrev Ax4:=@Bool.and_eq_true
abbrev Ax5:=@Nat.ne_of_lt
abbrev Ax6:=@List.getElem?_map
abbrev Ax7:=@Nat.le_trans
abbrev Ax8:=@Bool.false_ne_true
abbrev Ax9:=@Nat.zero_le
abbrev Aya:=@List.mem_of_getElem?
abbrev Ayb:=@PySem.PassesOwn.never
abbrev Ayc:=@List.map_append
abbrev Ayd:=@Nat.lt_irrefl
abbrev Aye:=@List.mem_append_left
abbrev Ayf:=@Option.bind_some
abbrev Ayg:=@PySem.mem_of_lookup
abbrev Ayh:=@PySem.wpAny_ite_split
abbrev Ayi:=@List.getElem?_eq_none
abbrev Ayj:=@PySem.wpAny_Call_Name_kw
abbrev Ayk:=@Option.some.inj
abbrev Ayl:=@decide_eq_true
abbrev Aym:=@List.getElem_mem
abbrev Ayn:=@of_decide_eq_true
abbrev Ayo:=@PySem.builtinLookup_eq_fast
abbrev Ayp:=@List.getElem?_append_right
abbrev Ayq:=@PySem.wpAny_newObj_type
abbrev Ayr:=@PySem.MeetsSeq3.plain_eq_loop
abbrev Ays:=@List.not_mem_nil
abbrev Ayt:=@List.all_cons
abbrev Ayu:=@Nat.ne_of_gt
abbrev Ayv:=@List.drop_eq_getElem_cons
abbrev Ayw:=@Ne.symm
abbrev Ayx:=@Bool.false_eq_true
abbrev Ayy:=@PySem.wpAny_specialOf
abbrev Ayz:=@PySem.Heap.get?_update_self
abbrev Ay0:=@List.mem_cons
abbrev Ay1:=@List.getElem?_cons_succ
abbrev Ay2:=@PySem.wpAny_mono
abbrev Ay3:=@PySem.sizeLine_eq
abbrev Ay4:=@decide_eq_true_eq
abbrev Ay5:=@PySem.wpAny_holding
abbrev Ay6:=@List.lookup_cons
abbrev Ay7:=@List.cons_append
abbrev Ay8:=@PySem.typeLookup_type
abbrev Ay9:=@congrArg
abbrev Aza:=@PySem.wpAny_call_entry
abbrev Azb:=@Nat.lt_succ_of_lt
abbrev Azc:=@Bool.eq_iff_iff
abbrev Azd:=@List.getElem?_replicate
abbrev Aze:=@PySem.wpAny_truthy_bool
abbrev Azf:=@List.length_take
abbrev Azg:=@List.take_of_length_le
abbrev Azh:=@List.getElem?_set_self
abbrev Azi:=@Nat.le_of_lt
abbrev Azj:=@List.map_map
abbrev Azk:=@List.any_cons
abbrev Azl:=@PySem.wpAny_typeOf
abbrev Azm:=@PySem.wpAny_passesOwn
abbrev Azn:=@PySem.wpAny_field
abbrev Azo:=@Array.length_toList
abbrev Azp:=@Or.inl
abbrev Azq:=@List.map_nil
abbrev Azr:=@Nat.not_lt_zero
abbrev Azs:=@List.pairwise_singleton
abbrev Azt:=@List.find?_cons
abbrev Azu:=@PySem.Heap.size_push
abbrev Azv:=@List.drop_eq_nil_of_le
abbrev Azw:=@Nat.le_succ
abbrev Azx:=@List.nodup_nil
abbrev Azy:=@PySem.wpAny_getItem_str_slice
abbrev Azz:=@PySem.wpAny_callSpecial?_slot
abbrev Az0:=@List.length_singleton
abbrev Az1:=@List.length_drop
abbrev Az2:=@List.getElem?_set_ne
abbrev Az3:=@List.getElem?_of_mem
abbrev Az4:=@PySem.wpAny_of_eq
abbrev Az5:=@PySem.wpAny_seqItems
abbrev Az6:=@PySem.isSubtype_type
abbrev Az7:=@propext
abbrev Az8:=@List.length_nil
abbrev Az9:=@PyProof.Rows.KeyOrd.kle_refl
abbrev Baa:=@PySem.wpAny_isInstance
abbrev Bab:=@Option.isSome_some
abbrev Bac:=@Classical.byContradiction
abbrev Bad:=@Array.getElem?_eq_getElem
abbrev Bae:=@PySem.wpAny_updateSeq
abbrev Baf:=@List.reverse_cons
abbrev Bag:=@if_true
abbrev Bah:=@if_false
abbrev Bai:=@Bool.true_and
abbrev Baj:=@Bool.not_true
abbrev Bak:=@decide_eq_decide
abbrev Bal:=@PySem.Obj.data_mapFields
abbrev Bam:=@Nat.lt_succ_self
abbrev Ban:=@List.sizeOf_lt_of_mem
abbrev Bao:=@List.nil_append
noncomputable section
set_option tactic.hygienic false
section S_KTree
namespace L2
open PySem PySem.Spec
noncomputable instance pdDec:DecidableEq PyData:=fun _ _=>Classical.propDecidable _
mutual
def kOk:PyData->Bool
 |.int _=>true
 |.str x=>PyData.strOk x
 |.tuple ds=>Vt ds
 |_=>false
def Vt:List PyData->Bool
 |[]=>true
 |d::ds=>kOk d&&Vt ds
def Ry (w:World):PyData->Int
 |.int i=>hashInt i
 |.str x=>hashStr w x
 |.tuple ds=>reduceHash (Builtin.Tuple.tupleHashOf (Cc w ds))
 |_=>0
def Cc (w:World):List PyData->List Int
 |[]=>[]
 |d::ds=>Ry w d::Cc w ds
def J5:PyData->Nat
 |.tuple ds=>Cz ds+1
 |_=>1
def Cz:List PyData->Nat
 |[]=>0
 |d::ds=>J5 d+Cz ds
def Abf:PyData->Nat
 |.tuple ds=>Vs ds+1
 |_=>0
def Vs:List PyData->Nat
 |[]=>0
 |d::ds=>max (Abf d) (Vs ds)
end
mutual
theorem Nu:∀ {d:PyData},kOk d=true->d.canLay0=true
 |.int _,_=>by simp[PyData.canLay0]
 |.str x,h=>by rw[kOk] at h;simp[PyData.canLay0,h]
 |.tuple ds,h=>by rw[kOk] at h;rw[PyData.canLay0];exact Ud h
 |.none,h=>by simp[kOk] at h
 |.bool _,h=>by simp[kOk] at h
 |.list _,h=>by simp[kOk] at h
 |.dict _,h=>by simp[kOk] at h
theorem Ud:∀ {ds:List PyData},Vt ds=true->PyData.canLayAll0 ds=true
 |[],_=>by simp[PyData.canLayAll0]
 |d::ds,h=>by
  rw[Vt,Ax4] at h
  simp[PyData.canLayAll0,Nu h.1,Ud h.2]
end
set_option tactic.hygienic true in
mutual
theorem An7:∀ {d e:PyData},kOk d=true->kOk e=true->PyData.eqv d e=decide (d=e)
 |.int i,e,h,h'=>by
  cases e<;>first|(simp[kOk] at h';done)|(simp[PyData.eqv];done)|(rename_i j;simp[PyData.eqv];by_cases q:i=j<;>simp[q])
 |.str x,e,h,h'=>by
  cases e<;>first|(simp[kOk] at h';done)|(simp[PyData.eqv];done)|(rename_i j;simp[PyData.eqv];by_cases q:x=j<;>simp[q])
 |.tuple ds,e,h,h'=>by
  cases e<;>first|(simp[kOk] at h';done)|(simp[PyData.eqv];done)|skip
  rename_i es
  rw[kOk] at h h'
  rw[PyData.eqv,Ae3 h h',Bak]
  constructor
  ·intro e;rw[e]
  ·intro e;injection e
 |.none,_,h,_=>by simp[kOk] at h
 |.bool _,_,h,_=>by simp[kOk] at h
 |.list _,_,h,_=>by simp[kOk] at h
 |.dict _,_,h,_=>by simp[kOk] at h
theorem Ae3:∀ {ds es:List PyData},Vt ds=true->Vt es=true->PyData.eqvAll ds es=decide (ds=es)
 |[],[],_,_=>by simp[PyData.eqvAll]
 |[],e::es,_,_=>by simp[PyData.eqvAll]
 |d::ds,[],_,_=>by simp[PyData.eqvAll]
 |d::ds,e::es,h,h'=>by
  rw[Vt,Ax4] at h h'
  rw[PyData.eqvAll,An7 h.1 h'.1,Ae3 h.2 h'.2]
  by_cases q1:d=e<;>by_cases q2:ds=es<;>simp[q1,q2]
end
section
variable {prog:Program}{w:World}
structure HashK (prog:Program) (w:World) (d:PyData):Prop where
 out:∀ {A:Around}{E:Value->Shared->Prop}{s:Shared}{v:Value}{as:List Addr}{Q:Int->Shared->Prop},kOk d=true->A.units+Abf d < cLine->Reads s.heap v d as->Q (Ry w d) { s with toks:=s.toks+J5 d }->wpAny (model prog w) A (pyHash v) Q E s
theorem Nt {d:PyData}:∀ {ds:List PyData},d∈ds->Abf d<=Vs ds
 |e::ds,h=>by
  rw[Vs]
  rcases List.mem_cons.mp h with rfl|h
  ·lia
  ·have:=Nt h;lia
theorem Nv {d:PyData}:∀ {ds:List PyData},Vt ds=true->d∈ds->kOk d=true
 |e::ds,h,hm=>by
  rw[Vt,Ax4] at h
  rcases List.mem_cons.mp hm with rfl|hm
  ·exact h.1
  ·exact Nv h.2 hm
theorem Gg:∀ (xs ys:List PyData),Cc w (xs++ys)=Cc w xs++Cc w ys
 |[],ys=>by rw[Cc];rfl
 |x::xs,ys=>by rw[Ay7,Cc,Cc,Gg xs ys];rfl
theorem Gf:∀ (xs ys:List PyData),Cz (xs++ys)=Cz xs+Cz ys
 |[],ys=>by simp[Cz]
 |x::xs,ys=>by rw[Ay7,Cz,Cz,Gf xs ys];lia
theorem Vo (ih:∀ d∈ds,HashK prog w d):HashK prog w (.tuple ds):=by
 constructor
 intro A E s v as Q hk hu r q
 rw[kOk] at hk
 rw[Abf] at hu
 rw[Ry,J5] at q
 cases r with
 |@tuple a o vs n xs as ho hc hd ra =>
 have hT:s.TypeIs (.ref a) "tuple":=⟨o,ho,hc⟩
 unfold pyHash
 first|unfold pyHashByItsType|skip
 first|refine Axh (wpAny_cRoomFor_or (.inr (by lia)) ?_)|skip
 refine Axh (Ayy hT F.slot_tuple_hash.lookup ?_)
 show wpAny _ _ (if (some (Value.builtin "tuple.__hash__") == some Value.none)=true then _ else _) Q E s
 rw[Axy (by rw[beq_builtin_none];exact Ax8)]
 refine Axh (Ayy hT F.slot_tuple_hash.lookup ?_)
 show wpAny _ _ (callSpecialIfBoundUnlessNone? (.ref a) "__hash__" _ >>= _) Q E s
 refine Axh (wpAny_callSpecialIfBoundUnlessNone?_slot hT F.slot_tuple_hash (Aza F.slot_tuple_hash hT F.entry_tuple_hash ?_ (F.args_tuple_hash_1 _)))
 show wpAny _ _ (Builtin.Tuple.tupleItemsOf (.ref a) >>= _) _ _ s
 refine Axh (wpAny_tupleItemsOf ho hd ?_)
 refine Axh ?_
 rw[<- Array.forIn_toList]
 refine wpAny_forIn_list _
  (fun rest (b:Array Int) s'=>∃ done left bs,ds=done++left/\ReadsAll s.heap rest left bs/\b.toList=Cc w done/\s'={ s with toks:=s.toks+Cz done })
  _ ?_ ?_ _ _ ⟨[],ds,as,rfl,ra,by simp[Cc],by simp[Cz]⟩
 ·rintro x rest b s' ⟨done,left,bs,rfl,hl,hb,rfl⟩
  cases hl with
  |@cons _ _ d ds' as1 bs1 h1 hl' =>
   have hm:d∈done++d::ds':=by simp
   have hdp:=Nt hm
   refine Axh ((ih d hm).out (Nv hk hm) (by show A.units+1+_ < _;lia) h1 ?_)
   have e1:b.toList++[Ry w d]=Cc w (done++[d]):=by rw[Gg,hb,Cc,Cc]
   have e2:s.toks+Cz done+J5 d=s.toks+Cz (done++[d]):=by rw[Gf,Cz,Cz];lia
   first
    |exact Axo ⟨done++[d],ds',bs1,by simp,hl',by rw[<- e1];simp,by rw[<- e2]⟩
    |exact Axh (Axo (Axo ⟨done++[d],ds',bs1,by simp,hl',by rw[<- e1];simp,by rw[<- e2]⟩))
 ·rintro b s' ⟨done,left,bs,rfl,hl,hb,rfl⟩
  cases hl
  rw[Axx] at q
  show wpAny _ _ (retInt (Builtin.Tuple.tupleHashOf b.toList)) _ _ _
  rw[hb]
  refine wpAny_ret_mkInt ?_
  show wpAny _ _ (if (decide (-(2:Int) ^ 63<=Builtin.Tuple.tupleHashOf (Cc w done))&&decide (Builtin.Tuple.tupleHashOf (Cc w done) < 2 ^ 63))=true then _ else _) Q E _
  unfold reduceHash at q
  by_cases hr:(decide (-(2:Int) ^ 63<=Builtin.Tuple.tupleHashOf (Cc w done))&&decide (Builtin.Tuple.tupleHashOf (Cc w done) < 2 ^ 63))=true
  ·rw[Axv hr]
   rw[Axv hr] at q
   exact Axo (by simpa [Nat.add_assoc] using q)
  ·rw[Axy hr]
   rw[Axy hr] at q
   exact Axh (wpAny_rule (Axo (by simpa [Nat.add_assoc] using q)))
theorem Afa (d:PyData):HashK prog w d:=by
 match d with
 |.int i =>
  constructor
  intro A E s v as Q _ _ r q
  cases r with
  |int i t=>simp only[Ry,J5] at q;exact wpAny_pyHash_int q
 |.str x =>
  constructor
  intro A E s v as Q _ _ r q
  cases r with
  |str x t=>simp only[Ry,J5] at q;exact wpAny_pyHash_str q
 |.tuple ds=>exact Vo fun d hd=>Afa d
 |.none=>constructor;intro A E s v as Q h;simp[kOk] at h
 |.bool _=>constructor;intro A E s v as Q h;simp[kOk] at h
 |.list _=>constructor;intro A E s v as Q h;simp[kOk] at h
 |.dict _=>constructor;intro A E s v as Q h;simp[kOk] at h
termination_by sizeOf d
decreasing_by
 have:=Ban hd
 simp;lia
structure QuietK (prog:Program) (w:World) (d:PyData):Prop where
 out:∀ {n:Nat}{A:Around}{E:Value->Shared->Prop}{s:Shared}{v:Value}{as:List Addr}{Q:Bool->Shared->Prop},kOk d=true->Abf d<=n->Reads s.heap v d as->Q true s->wpAny (model prog w) A (eqIsQuiet n v) Q E s
theorem Te (ih:∀ d∈ds,QuietK prog w d):QuietK prog w (.tuple ds):=by
 constructor
 intro n A E s v as Q hk hn r q
 rw[kOk] at hk
 rw[Abf] at hn
 cases r with
 |@tuple a o vs m xs as ho hc hd ra =>
 have hT:s.TypeIs (.ref a) "tuple":=⟨o,ho,hc⟩
 obtain⟨n,rfl⟩:∃ n',n=n'+1:=⟨n - 1,by lia⟩
 unfold eqIsQuiet
 refine Axh (Ayy hT F.slot_tuple_eq.lookup ?_)
 show wpAny _ _ (isInstance (.ref a) (.type "tuple") >>= _) _ _ s
 refine Axh (Baa hT isSubtype_tuple_tuple ?_)
 simp only[Baj,Ayx,Bah]
 refine Axh (Az5 ho hd ?_)
 refine Axh ?_
 show wpAny _ _ (forIn vs _ _) _ _ s
 rw[<- Array.forIn_toList]
 refine wpAny_forIn_list _ (fun rest r s'=>r.1=none/\s'=s/\∃ left bs,ReadsAll s.heap rest left bs/\∀ d∈left,d∈ds) _ ?_ ?_ _ _ ⟨rfl,rfl,ds,as,ra,fun _ h=>h⟩
 ·rintro v rest r s' ⟨hr,rfl,left,bs,hl,hall⟩
  cases hl with
  |@cons _ _ d ds' as1 bs1 h1 hl' =>
   have hm:=hall d (Axn ..)
   refine Axh ((ih d hm).out (Nv hk hm) (by have:=Nt hm;lia) h1 ?_)
   simp only[Baj,Ayx,Bah]
   exact Axo ⟨rfl,rfl,ds',bs1,hl',fun e he=>hall e (Axl _ he)⟩
 ·rintro ⟨r1,r2⟩ s' ⟨hr,rfl,_⟩
  simp only at hr
  subst hr
  exact Axo q
theorem Aam (d:PyData):QuietK prog w d:=by
 match d with
 |.int i =>
  constructor
  intro n A E s v as Q _ _ r q
  cases r with
  |int i t=>rw[eqIsQuiet_byValue _ rfl];exact Axo q
 |.str x =>
  constructor
  intro n A E s v as Q _ _ r q
  cases r with
  |str x t=>rw[eqIsQuiet_byValue _ rfl];exact Axo q
 |.tuple ds=>exact Te fun d hd=>Aam d
 |.none=>constructor;intro n A E s v as Q h;simp[kOk] at h
 |.bool _=>constructor;intro n A E s v as Q h;simp[kOk] at h
 |.list _=>constructor;intro n A E s v as Q h;simp[kOk] at h
 |.dict _=>constructor;intro n A E s v as Q h;simp[kOk] at h
termination_by sizeOf d
decreasing_by
 have:=Ban hd
 simp;lia
mutual
theorem P7 {es ep} (ho₀:h.get? d₀=some o₀) (hd₀:o₀.data=.dict es ep) (hs:Heap.SameBut d₀ h h') {d:PyData}{v:Value}{as:List Addr} (hk:kOk d=true) (r:Reads h v d as):Reads h' v d as:=by
 cases r with
 |int i t=>exact .int i t
 |str i t=>exact .str i t
 |@tuple a o _ _ _ _ ho hc hd ra =>
  refine .tuple ((hs.2 a ?_).trans ho) hc hd (Io ho₀ hd₀ hs (by rw[kOk] at hk;exact hk) ra)
  rintro rfl
  cases ho.symm.trans ho₀
  cases hd₀.symm.trans hd
 |_=>simp[kOk] at hk
theorem Io {es ep} (ho₀:h.get? d₀=some o₀) (hd₀:o₀.data=.dict es ep) (hs:Heap.SameBut d₀ h h') {ds:List PyData}{vs:List Value}{as:List Addr} (hk:Vt ds=true) (r:ReadsAll h vs ds as):ReadsAll h' vs ds as:=by
 cases r with
 |nil=>exact .nil
 |cons r rs =>
  rw[Vt,Ax4] at hk
  exact .cons (P7 ho₀ hd₀ hs hk.1 r) (Io ho₀ hd₀ hs hk.2 rs)
end
mutual
theorem Rt:∀ {d:PyData},kOk d=true->d.depth<=Abf d+1
 |.int _,_=>by simp[PyData.depth]
 |.str _,_=>by simp[PyData.depth]
 |.tuple ds,h=>by rw[kOk] at h;rw[Abf];have:=Tx h;simp[PyData.depth];lia
 |.none,h=>by simp[kOk] at h
 |.bool _,h=>by simp[kOk] at h
 |.list _,h=>by simp[kOk] at h
 |.dict _,h=>by simp[kOk] at h
theorem Tx:∀ {ds:List PyData},Vt ds=true->PyData.depthAll ds<=Vs ds+1
 |[],_=>by simp[PyData.depthAll]
 |d::ds,h=>by
  rw[Vt,Ax4] at h
  have h1:=Rt h.1
  have h2:=Tx h.2
  rw[Vs];simp[PyData.depthAll];lia
end
def Asa (h:Heap) (d:PyData) (a:Addr):Prop:=kOk d=true/\Abf d<=6/\(∃ ds,d=.tuple ds)/\∃ as,Reads h (.ref a) d as
noncomputable def Aeh (prog:Program) (w:World):HeapKind prog w PyData where
 is:=Asa
 hash:=Ry w
 draws:=J5
 room:=fun A=>A.units+10 < cLine
 inj:=fun hx hy=>by
  obtain⟨k1,_,_,as,r⟩:=hx
  obtain⟨_,_,_,bs,r'⟩:=hy
  exact SeqAt.Reads.unique _ _ _ _ _ (Nu k1) r r'
 keeps:=fun x ho hd hs=>by
  obtain⟨h1,h2,h3,as,r⟩:=x
  exact⟨h1,h2,h3,as,P7 ho hd hs h1 r⟩
 pyHash:=fun hu hk h=>by
  obtain⟨h1,h2,_,as,r⟩:=hk
  exact (Afa _).out h1 (by lia) r h
 eqBool:=fun hu hx hy h=>by
  obtain⟨h1,h2,_,as,r⟩:=hx
  obtain⟨h3,h4,_,bs,r'⟩:=hy
  refine SeqAt.eqBoolOverData _ _ _ _ _ _ _ _ _ _ _ _ r r' (Nu h1) (Nu h3) ?_ ?_
  ·have d1:=Rt h1
   have d2:=Rt h3
   lia
  ·rw[An7 h1 h3];exact h
 quiet:=fun hk h=>by
  obtain⟨h1,h2,_,as,r⟩:=hk
  exact (Aam _).out h1 (by lia) r h
end
end L2
end S_KTree
section S_LayL
namespace L2
open PySem PySem.Spec PyProof.Rows
abbrev Key:=Sum Int Str
noncomputable def Ack:Key->Value->Bool
 |.inl k,v=>Value.isInt k v
 |.inr x,v=>Value.isStrOf x v
noncomputable def Aw1 (w:World):Key->Int
 |.inl k=>hashInt k
 |.inr x=>hashStr w x
theorem B5:∀ {k:Key}{v:Value},Ack k v=true->(∃ i t,k=Sum.inl i/\v=Value.int i t)\/(∃ x t,k=Sum.inr x/\v=Value.str x t)
 |.inl i,v,h=>by
  obtain⟨t,e⟩:=Value.isInt_shape (k:=i) (v:=v) h
  exact .inl ⟨i,t,rfl,e⟩
 |.inr x,v,h=>by
  obtain⟨t,e⟩:=Value.isStrOf_shape (x:=x) (v:=v) h
  exact .inr ⟨x,t,rfl,e⟩
theorem G8 (x:Str) (t:Tok):Ack (.inr x) (.str x t)=true:=by simp[Ack,Value.isStrOf]
theorem Aog (a b:Int):decide ((Sum.inl a:Key)=Sum.inl b)=(a == b):=by
 by_cases e:a=b
 ·subst e;simp
 ·have h:¬ (Sum.inl a:Key)=Sum.inl b:=fun q=>e (Sum.inl.inj q)
  rw[Ax3 h]
  exact (beq_eq_false_iff_ne.mpr e).symm
theorem Aoj (a b:Str):decide ((Sum.inr a:Key)=Sum.inr b)=decide (a=b):=by
 by_cases e:a=b
 ·subst e;simp
 ·have h:¬ (Sum.inr a:Key)=Sum.inr b:=fun q=>e (Sum.inr.inj q)
  rw[Ax3 h,Ax3 e]
theorem Aoh (a:Int) (b:Str):decide ((Sum.inl a:Key)=Sum.inr b)=false:=Ax3 (fun q=>nomatch q)
theorem Aoi (a:Str) (b:Int):decide ((Sum.inr a:Key)=Sum.inl b)=false:=Ax3 (fun q=>nomatch q)
def Gr (prog:Program) (w:World):PySem.KeyKind prog w Key where
 is:=Ack
 hash:=Aw1 w
 inj:=fun v a b ha hb=>by
  rcases B5 ha with ⟨i,t,rfl,rfl⟩|⟨x,t,rfl,rfl⟩
  ·rcases B5 hb with ⟨j,u,rfl,e⟩|⟨y,u,rfl,e⟩
   ·injection e with e1 _;rw[e1]
   ·exact nomatch e
  ·rcases B5 hb with ⟨j,u,rfl,e⟩|⟨y,u,rfl,e⟩
   ·exact nomatch e
   ·injection e with e1 _;rw[e1]
 byValue:=fun k v h=>by
  rcases B5 h with ⟨i,t,rfl,rfl⟩|⟨x,t,rfl,rfl⟩<;>rfl
 pyHash:=fun hv h=>by
  rcases B5 hv with ⟨i,t,rfl,rfl⟩|⟨x,t,rfl,rfl⟩
  ·exact wpAny_pyHash_int h
  ·exact wpAny_pyHash_str h
 eqBool:=fun hu hv h=>by
  rcases B5 hu with ⟨i,t,rfl,rfl⟩|⟨x,t,rfl,rfl⟩
  ·rcases B5 hv with ⟨j,u,rfl,rfl⟩|⟨y,u,rfl,rfl⟩
   ·rw[Aog] at h;exact wpAny_eqBool_int h
   ·rw[Aoh] at h;exact SeqAt.EqAt.int_str i t y u _ _ _ _ h
  ·rcases B5 hv with ⟨j,u,rfl,rfl⟩|⟨y,u,rfl,rfl⟩
   ·rw[Aoi] at h;exact SeqAt.EqAt.str_int x t j u _ _ _ _ h
   ·rw[Aoj] at h;exact wpAny_eqBool_str h
 «strs»:=fun k x t v h=>by
  rcases B5 h with ⟨i,u,rfl,e⟩|⟨y,u,rfl,e⟩
  ·exact nomatch e
  ·injection e with e1 _
   subst e1
   cases v<;>rfl
inductive V where
 |non|bl (b:Bool)|int (i:Int)|str (x:Str)|byt (b:Array UInt8)|flt (b:UInt64)|ref (a:Addr)|ty (n:String)
 deriving DecidableEq
noncomputable def RelV:V->Value->Prop
 |.non,u=>u=Value.none
 |.bl b,u=>u=Value.bool b
 |.int i,u=>∃ t,u=Value.int i t
 |.str x,u=>∃ t,u=Value.str x t
 |.byt b,u=>∃ t,u=Value.bytes b t
 |.flt b,u=>∃ t,u=Value.float b t
 |.ref a,u=>u=Value.ref a
 |.ty n,u=>u=Value.type n
abbrev Vals:List V->List Value->Prop:=Paired RelV
theorem Vals.length {xs:List V}{us:List Value} (r:Vals xs us):xs.length=us.length:=Paired.length r
theorem Vals.get:∀ {xs:List V}{us:List Value}{i:Nat}{x:V},Vals xs us->xs[i]?=some x->∃ u,us[i]?=some u/\RelV x u
 |_,_,_,_,.nil,e=>by simp at e
 |_,_,0,_,.cons r _,e=>by simp at e;subst e;exact⟨_,rfl,r⟩
 |_,_,i+1,x,.cons _ t,e=>by
  obtain⟨u,h1,h2⟩:=Vals.get (i:=i) (x:=x) t (by simpa using e)
  exact⟨u,by simpa using h1,h2⟩
theorem Vals.set {x:V}{u:Value} (r:RelV x u):∀ {xs:List V}{us:List Value} (i:Nat),Vals xs us->Vals (xs.set i x) (us.set i u)
 |_,_,_,.nil=>.nil
 |_,_,0,.cons _ t=>.cons r t
 |_,_,i+1,.cons q t=>.cons q (Vals.set r i t)
theorem Vals.append:∀ {xs ys:List V}{us ws:List Value},Vals xs us->Vals ys ws->Vals (xs++ys) (us++ws)
 |_,_,_,_,.nil,s=>s
 |_,_,_,_,.cons r t,s=>.cons r (Vals.append t s)
theorem Vals.take:∀ {xs:List V}{us:List Value} (n:Nat),Vals xs us->Vals (xs.take n) (us.take n)
 |_,_,0,_=>.nil
 |_,_,_+1,.nil=>.nil
 |_,_,n+1,.cons r t=>.cons r (Vals.take n t)
theorem Vals.drop:∀ {xs:List V}{us:List Value} (n:Nat),Vals xs us->Vals (xs.drop n) (us.drop n)
 |_,_,0,r=>r
 |_,_,_+1,.nil=>.nil
 |_,_,n+1,.cons _ t=>Vals.drop n t
def Al2:Option V->Option Value->Prop
 |some v,some u=>RelV v u
 |none,none=>True
 |_,_=>False
def KV {κ:Type}:List (κ×V)->List (κ×Value)->Prop:=Paired fun (p:κ×V) (q:κ×Value)=>p.1=q.1/\RelV p.2 q.2
inductive HO where
 /-- a list -/
 |lst (xs:List V)
 /-- a tuple (never changes) -/
 |tup (xs:List V)
 /-- a dict whose keys are ints and texts;one whose keys are tuples of ints and texts (the empty one is both) -/
 |dK (kvs:List (Key×V))|dT (kvs:List (PyData×V))
 /-- a set of ints: its members,its size -/
 |set (S:Int->Bool) (n:Nat)
 /-- an instance of the class at C,its dict at dx,its attributes -/
 |ins (C dx:Addr) (fs:List (Str×V))
 /-- the dict of the instance at x -/
 |own (x:Addr)
 /-- the dict of an exception -/
 |xd (fs:List (Str×V))
 /-- a bound method,f of x -/
 |met (f x:Addr)
 /-- a range object lo,lo+1,.. below hi -/
 |rng (lo hi:Int)
 /-- a thing that is known to the object (the script;a dict while a loop Art it): read,never written while it is so -/
 |frz (o:Obj) (u:HO)
 /-- a code object's table -/
 |tbl (ps:Array Value)
 /-- any other thing,by what is true of its one object (a def of one's own: SetO a S n:=HO.ext fun h=>..) -/
 |ext (φ:World->Heap->Prop)
abbrev Hp:=Addr->Option HO
noncomputable def upd (H:Hp) (a:Addr) (o:HO):Hp:=fun b=>if b=a then some o else H b
theorem Bn {H:Hp}{a:Addr}{o:HO}:upd H a o a=some o:=by unfold upd;rw[Axv rfl]
theorem Bb {H:Hp}{a b:Addr}{o:HO} (h:b≠a):upd H a o b=H b:=by unfold upd;rw[Axy h]
theorem Az {H:Hp}{a b:Addr}{o:HO} (h:H a=some o) (h':H b=none):a≠b:=by
 intro e;subst e;rw[h] at h';cases h'
def TupD (h:Heap) (a:Addr) (items:Array Value):Prop:=∃ o,h.get? a=some o/\o.cls=.type "tuple"/\∃ n,o.data=.seq items n/\o.dict=none
theorem TupD.is {h:Heap}{a:Addr}{items:Array Value} (x:TupD h a items):IsTup h a items:=let ⟨o,h1,h2,n,h3,_⟩:=x;⟨o,h1,h2,n,h3⟩
theorem TupD.new (h:Heap) (items:Array Value):TupD (h.push { cls:=.type "tuple",data:=.seq items }) h.objs.size items:=⟨_,Axw _ rfl,rfl,_,rfl,rfl⟩
theorem TupD.lt {h:Heap}{a:Addr}{items:Array Value} (x:TupD h a items):a < h.objs.size:=let ⟨_,h1,_⟩:=x;Axm h1
def Rd (H:Hp) (a:Addr) (u:HO):Prop:=H a=some u\/∃ o,H a=some (.frz o u)
def SqT (K:W.Frag) (H:Hp) (a:Addr) (xs:List V):Prop :=
 Rd H a (.tup xs) \/
  ∃ (o:Obj) (its:Array Value) (n:Nat),K.lookup a=some o/\o.cls=.type "tuple"/\o.data=.seq its n/\its.size<=sizeLine/\Vals xs its.toList/\o.dict=none
inductive KeyH (K:W.Frag) (H:Hp):PyData->V->Prop where
 |int (i:Int):KeyH K H (.int i) (.int i)
 |str (x:Str):KeyH K H (.str x) (.str x)
 |tup {ds:List PyData}{a:Addr}{vs:List V}:SqT K H a vs->Paired (KeyH K H) ds vs->KeyH K H (.tuple ds) (.ref a)
def KeyT (K:W.Frag) (H:Hp) (d:PyData) (b:Addr):Prop:=kOk d=true/\Abf d<=6/\(∃ ds,d=.tuple ds)/\KeyH K H d (.ref b)
def Aem (oc:Obj) (q:Str):Prop:=∃ (vs:Array Value) (t:Nat),oc.data=.fields vs/\vs[1]?=some (.str q t)
def Ase (H:Hp) (h:Heap) (a:Addr) (qs:Array Value):Prop:=∃ ps:Array Value,h.get? a=some (W.tabObj ps)/\TriplesOk ps.toList /\
 ∀ (pos:Pos) (cv:Value),codeAmong pos ps.toList=some cv->∃ (c:Addr) (oc:Obj) (u:HO) (q:Str) (t:Nat),qs[0]?=some (.str q t)/\cv=.ref c/\H c=some (.frz oc u)/\Aem oc q
section
variable (P:Program) (w:World) (K:W.Frag)
def ObjOk (H:Hp) (h:Heap) (a:Addr):HO->Prop
 |.lst xs=>xs.length<=sizeLine/\∃ (its:List Value) (n:Nat),Vals xs its/\h.get? a=some { cls:=.type "list",data:=.seq its.toArray n }
 |.tup xs=>xs.length<=sizeLine/\∃ its:List Value,Vals xs its/\TupD h a its.toArray
 |.dK kvs=>kvs.length<=sizeLine/\(a == sysModules)=false/\∃ vs,KV kvs vs/\h.DictOf (Gr P w) a vs
 |.dT kvs=>kvs.length<=sizeLine/\(a == sysModules)=false/\∃ xs:List (PyData×Addr×Value),
   Paired (fun (p:PyData×V) (q:PyData×Addr×Value)=>p.1=q.1/\KeyT K H q.1 q.2.1/\RelV p.2 q.2.2) kvs xs /\
   ∃ o es ep,h.get? a=some o/\o.ExactDict/\o.data=.dict es ep/\es.toList=xs.map (entryOfKey (Aeh P w))/\(xs.map (·.1)).Nodup
 |.set S n=>h.SetOf (intKind P w) a S n
 |.ins C dx fs=>H dx=some (.own a)/\fs.length<=1000/\dx≠a/\h.get? a=some (W.instObj C dx) /\
   ∃ mA,h.Ns1 dx mA/\(∀ f,Al2 (fs.lookup f) (mA f))/\PySem.Within mA (fs.map (·.1))
 |.own _=>∃ o,h.get? a=some o
 |.xd fs=>∃ mA,h.Ns1 a mA/\∀ f,Al2 (fs.lookup f) (mA f)
 |.rng lo hi=>∃ t u v,h.get? a=some { cls:=.type "range",data:=.fields #[.int lo t,.int hi u,.int 1 v] }
 |.frz o u=>h.get? a=some o/\ObjOk H h a u
 |.tbl ps=>Ase H h a ps
 |.met f x=>h.get? a=some (W.methodObj (.ref f) (.ref x))
 |.ext φ=>φ w h/\(∃ o,h.get? a=some o)/\∀ h1 h2:Heap,φ w h1->(∀ o,h1.get? a=some o->h2.get? a=some o)->φ w h2
def HOk (H:Hp) (h:Heap):Prop:=∀ a o,H a=some o->ObjOk P w K H h a o
end
section
variable {P:Program}{w:World}{K:W.Frag}{H H':Hp}{h h':Heap}{a:Addr}{o:HO}
theorem ObjOk.lt (x:ObjOk P w K H h a o):a < h.objs.size:=by
 cases o with
 |lst xs=>obtain⟨_,_,_,_,e⟩:=x;exact Axm e
 |tup xs=>obtain⟨_,_,_,p⟩:=x;exact p.lt
 |dK kvs=>obtain⟨_,_,_,_,o,_,_,e,_⟩:=x;exact Axm e
 |dT kvs=>obtain⟨_,_,_,_,o,_,_,e,_⟩:=x;exact Axm e
 |set S n=>obtain⟨o,_,_,_,e,_⟩:=x;exact Axm e
 |ins C dx fs=>obtain⟨_,_,_,e,_⟩:=x;exact Axm e
 |own y=>obtain⟨_,e⟩:=x;exact Axm e
 |xd fs=>obtain⟨_,⟨_,_,_,e,_⟩,_⟩:=x;exact Axm e
 |rng lo hi=>obtain⟨_,_,_,e⟩:=x;exact Axm e
 |frz ob u=>obtain⟨e,_⟩:=x;exact Axm e
 |tbl ps=>obtain⟨_,e,_⟩:=x;exact Axm e
 |met f y=>exact Axm (show h.get? a=some _ from x)
 |ext φ=>obtain⟨_,⟨_,e⟩,_⟩:=x;exact Axm e
theorem Paired.mapP {α β:Type}{F G:α->β->Prop}:∀ {l₁:List α}{l₂:List β},Paired F l₁ l₂->(∀ a b,F a b->G a b)->Paired G l₁ l₂
 |_,_,.nil,_=>.nil
 |_,_,.cons r t,f=>.cons (f _ _ r) (Paired.mapP t f)
theorem SqT.upR {K:W.Frag}{H H':Hp} (ht:∀ b xs,Rd H b (.tup xs)->Rd H' b (.tup xs)) {a:Addr}{xs:List V} (h:SqT K H a xs):SqT K H' a xs:=h.elim (fun z=>.inl (ht _ _ z)) .inr
theorem KeyH.up {K:W.Frag}{H H':Hp} (ht:∀ b xs,Rd H b (.tup xs)->Rd H' b (.tup xs)) (d:PyData):∀ {v:V},KeyH K H d v->KeyH K H' d v:=by
 match d with
 |.int i=>intro v h;cases h;exact .int _
 |.str x=>intro v h;cases h;exact .str _
 |.tuple ds =>
  intro v h
  cases h with
  |@tup _ a vs hs hp =>
  refine .tup (SqT.upR ht hs) ?_
  have go:∀ (es:List PyData) (us:List V),(∀ e∈es,e∈ds)->Paired (KeyH K H) es us->Paired (KeyH K H') es us:=by
   intro es us hm q
   induction q with
   |nil=>exact .nil
   |@cons e u es us h1 h2 ih=>exact .cons (KeyH.up ht e h1) (ih fun x hx=>hm x (Axl _ hx))
  exact go ds vs (fun _ h=>h) hp
 |.none=>intro v h;cases h
 |.bool _=>intro v h;cases h
 |.list _=>intro v h;cases h
 |.dict _=>intro v h;cases h
termination_by sizeOf d
decreasing_by
 have:=Ban (hm e (Axn ..))
 simp;lia
theorem KeyT.up {K:W.Frag}{H H':Hp} (ht:∀ b xs,Rd H b (.tup xs)->Rd H' b (.tup xs)) {d:PyData}{b:Addr} (h:KeyT K H d b):KeyT K H' d b:=⟨h.1,h.2.1,h.2.2.1,h.2.2.2.up ht⟩
theorem Rd.upd_none {H:Hp}{p:Addr}{o u:HO} (hn:H p=none) {c:Addr} (q:Rd H c u):Rd (upd H p o) c u:=by
 rcases q with q|⟨x,q⟩
 ·exact .inl (by rw[Bb (Az q hn)];exact q)
 ·exact .inr ⟨x,by rw[Bb (Az q hn)];exact q⟩
theorem ObjOk.stay (x:ObjOk P w K H h a o) (k:∀ b u,(b=a\/H b=some (.own a))->h.get? b=some u->h'.get? b=some u)
  (ho:∀ b,H b=some (.own a)->H' b=some (.own a)) (ht:∀ b xs,Rd H b (.tup xs)->Rd H' b (.tup xs)) (hf:∀ b x u,H b=some (.frz x u)->H' b=some (.frz x u)):ObjOk P w K H' h' a o:=by
 induction o with
 |lst xs=>obtain⟨z,its,n,r,e⟩:=x;exact⟨z,its,n,r,k _ _ (.inl rfl) e⟩
 |tup xs=>obtain⟨z,its,r,ob,e,c⟩:=x;exact⟨z,its,r,ob,k _ _ (.inl rfl) e,c⟩
 |dK kvs=>obtain⟨z,y,vs,r,ob,es,ep,e,c⟩:=x;exact⟨z,y,vs,r,ob,es,ep,k _ _ (.inl rfl) e,c⟩
 |dT kvs =>
  obtain⟨z,y,xs,r,ob,es,ep,e,c⟩:=x
  exact⟨z,y,xs,Paired.mapP r fun p q z=>⟨z.1,z.2.1.up ht,z.2.2⟩,ob,es,ep,k _ _ (.inl rfl) e,c⟩
 |set S n=>obtain⟨ob,es,ep,t,e,c⟩:=x;exact⟨ob,es,ep,t,k _ _ (.inl rfl) e,c⟩
 |ins C dx fs =>
  obtain⟨d,z,ne,e,mA,⟨od,es,ep,e2,c⟩,r⟩:=x
  exact⟨ho _ d,z,ne,k _ _ (.inl rfl) e,mA,⟨od,es,ep,k _ _ (.inr d) e2,c⟩,r⟩
 |own y=>obtain⟨ob,e⟩:=x;exact⟨ob,k _ _ (.inl rfl) e⟩
 |xd fs=>obtain⟨mA,⟨od,es,ep,e,c⟩,r⟩:=x;exact⟨mA,⟨od,es,ep,k _ _ (.inl rfl) e,c⟩,r⟩
 |rng lo hi=>obtain⟨t,u,v,e⟩:=x;exact⟨t,u,v,k _ _ (.inl rfl) e⟩
 |frz ob u ih=>obtain⟨e,q⟩:=x;exact⟨k _ _ (.inl rfl) e,ih q⟩
 |tbl ps =>
  obtain⟨qs,e,t,c⟩:=x
  exact⟨qs,k _ _ (.inl rfl) e,t,fun pos cv z=>let ⟨c',oc,u,q,t',z1,z2,z3,z4⟩:=c pos cv z;⟨c',oc,u,q,t',z1,z2,hf _ _ _ z3,z4⟩⟩
 |met f y =>
  have e:h.get? a=some (W.methodObj (.ref f) (.ref y)):=x
  show h'.get? a=some (W.methodObj (.ref f) (.ref y))
  exact k a _ (.inl rfl) e
 |ext φ=>obtain⟨p,⟨o,e⟩,st⟩:=x;exact⟨st _ _ p fun o q=>k _ _ (.inl rfl) q,⟨o,k _ _ (.inl rfl) e⟩,st⟩
theorem HOk.lt (x:HOk P w K H h) (e:H a=some o):a < h.objs.size:=(x a o e).lt
theorem HOk.fresh (x:HOk P w K H h) (e:h.objs.size<=a):H a=none:=by
 cases q:H a with
 |none=>rfl
 |some u=>exact absurd (Ax0 (x.lt q) e) (Ayd _)
theorem HOk.kept (x:HOk P w K H h) (k:∀ b u,h.get? b=some u->h'.get? b=some u):HOk P w K H h':=fun a o e =>
 (x a o e).stay (fun b u _ q=>k b u q) (fun _ q=>q) (fun _ _ q=>q) fun _ _ _ q=>q
theorem HOk.laid (x:HOk P w K H h) (k:∀ b u,h.get? b=some u->h'.get? b=some u) (hp:h.objs.size<=a) (new:ObjOk P w K (upd H a o) h' a o):HOk P w K (upd H a o) h':=fun b u e=>by
 have hn:=x.fresh hp
 by_cases hb:b=a
 ·subst hb;rw[Bn] at e;cases e;exact new
 ·rw[Bb hb] at e
  exact (x b u e).stay (fun c v _ q=>k c v q) (fun c q=>by rw[Bb (Az q hn)];exact q) (fun c xs q=>Rd.upd_none hn q) fun c x u q=>by rw[Bb (Az q hn)];exact q
end
theorem Rd.ok {P:Program}{w:World}{K:W.Frag}{H:Hp}{h:Heap}{a:Addr}{u:HO} (r:Rd H a u) (x:HOk P w K H h):ObjOk P w K H h a u:=by
 rcases r with r|⟨o,r⟩
 ·exact x a u r
 ·obtain⟨_,q⟩:=x a _ r
  exact q
noncomputable def Mut:Option HO->Prop
 |some (.lst _)=>True
 |some (.dK _)=>True
 |some (.dT _)=>True
 |some (.set _ _)=>True
 |some (.ins _ _ _)=>True
 |some (.ext _)=>True
 |_=>False
theorem Rd.upd_mut {H:Hp}{x:Addr}{o:HO} (mu:Mut (H x)) {c:Addr}{xs:List V} (q:Rd H c (.tup xs)):Rd (upd H x o) c (.tup xs):=by
 rcases q with q|⟨y,q⟩
 ·exact .inl (by rw[Bb (fun z=>by subst z;rw[q] at mu;exact mu)];exact q)
 ·exact .inr ⟨y,by rw[Bb (fun z=>by subst z;rw[q] at mu;exact mu)];exact q⟩
section
variable {P:Program}{w:World}{K:W.Frag}{H:Hp}{h h':Heap}{x e:Addr}{o':HO}
theorem HOk.write (ok:HOk P w K H h) (mu:Mut (H x)) (he:e=x\/H e=some (.own x)) (k:∀ b u,b≠e->h.get? b=some u->h'.get? b=some u) (heo:∃ u,h'.get? e=some u)
  (new:ObjOk P w K (upd H x o') h' x o'):HOk P w K (upd H x o') h':=fun b u q=>by
 have nown:∀ c y,H c=some (.own y)->c≠x:=fun c y r z=>by subst z;rw[r] at mu;exact mu
 have ntup:∀ c xs,H c=some (.tup xs)->c≠x:=fun c xs r z=>by subst z;rw[r] at mu;exact mu
 by_cases hb:b=x
 ·subst hb;rw[Bn] at q;cases q;exact new
 ·rw[Bb hb] at q
  by_cases hbe:b=e
  ·have q':H b=some (.own x):=by
    rcases he with z|z
    ·exact absurd (hbe.trans z) hb
    ·rw[hbe];exact z
   rw[q] at q';cases q'
   obtain⟨v,hv⟩:=heo
   exact⟨v,by rw[hbe];exact hv⟩
  ·refine (ok b u q).stay (fun c v hc r=>k c v ?_ r) (fun c r=>by rw[Bb (nown c b r)];exact r) (fun c xs r=>Rd.upd_mut mu r) fun c y u r=>by rw[Bb (fun z=>by subst z;rw[r] at mu;exact mu)];exact r
   rcases hc with rfl|hc
   ·exact hbe
   ·rintro rfl
    rcases he with z|z
    ·exact nown c b hc z
    ·rw[hc] at z;cases z;exact hb rfl
end
structure Un (fs ex:List Addr) (H H':Hp) (h h':Heap):Prop where
 keep:∀ b o,h.get? b=some o->H b=none->b∉fs->b∉ex->h'.get? b=some o
 slot:∀ b o,h.get? b=some o->H b=none->b∈fs->b∉ex->∃ sl,h'.get? b=some { o with slots:=sl }
 free:∀ b o,h.get? b=some o->H b=none->b∉ex->H' b=none
 there:∀ b o,h.get? b=some o->b∉ex->∃ o',h'.get? b=some o'
 tups:∀ b xs,H b=some (.tup xs)->H' b=some (.tup xs)
 frzs:∀ b o u,H b=some (.frz o u)->H' b=some (.frz o u)
 tbls:∀ b ps,H b=some (.tbl ps)->∃ more,H' b=some (.tbl (ps++more))
section
variable {fs fs' ex ex':List Addr}{H H1 H2:Hp}{h h1 h2 h':Heap}{a x e:Addr}{o:HO}
theorem Un.any (u:Un fs ex H H1 h h1) {b:Addr}{ob:Obj} (q:h.get? b=some ob) (n:H b=none) (hx:b∉ex):∃ sl,h1.get? b=some { ob with slots:=sl }:=by
 by_cases hb:b∈fs
 ·exact u.slot b ob q n hb hx
 ·exact⟨ob.slots,u.keep b ob q n hb hx⟩
theorem Un.kept (k:∀ b u,h.get? b=some u->h'.get? b=some u):Un fs ex H H h h' :=
 ⟨fun b ob q _ _ _=>k b ob q,fun b ob q _ _ _=>⟨ob.slots,k b ob q⟩,fun _ _ _ n _=>n,fun b ob q _=>⟨ob,k b ob q⟩,fun _ _ q=>q,fun _ _ _ q=>q,fun _ ps q=>⟨#[],by rw[q];simp⟩⟩
theorem Un.refl:Un fs ex H H h h:=Un.kept fun _ _ q=>q
theorem Un.laid (k:∀ b u,h.get? b=some u->h'.get? b=some u) (hp:h.objs.size<=a) (hn:H a=none):Un fs ex H (upd H a o) h h' where
 keep:=fun b u q _ _ _=>k b u q
 slot:=fun b u q _ _ _=>⟨u.slots,k b u q⟩
 free:=fun b u q n _=>by rw[Bb (Ax5 (Ax0 (Axm q) hp))];exact n
 there:=fun b u q _=>⟨u,k b u q⟩
 tups:=fun b xs q=>by rw[Bb (Az q hn)];exact q
 frzs:=fun b u xs q=>by rw[Bb (Az q hn)];exact q
 tbls:=fun b ps q=>⟨#[],by rw[Bb (Az q hn),q];simp⟩
theorem Un.write (mu:Mut (H x)) (he:e=x\/H e=some (.own x)) (k:∀ b u,b≠e->h.get? b=some u->h'.get? b=some u) (heo:∃ u,h'.get? e=some u):Un fs ex H (upd H x o) h h':=by
 have hx:∀ b,H b=none->b≠x:=fun b n z=>by subst z;rw[n] at mu;exact mu
 have hb:∀ b,H b=none->b≠e:=fun b n z=>by
  subst z
  rcases he with r|r
  ·exact hx b n r
  ·rw[n] at r;cases r
 have hm:∀ b u,H b=some u->¬ Mut (some u)->b≠x:=fun b u q nm z=>by subst z;rw[q] at mu;exact nm mu
 refine⟨fun b u q n _ _=>k b u (hb b n) q,fun b u q n _ _=>⟨u.slots,k b u (hb b n) q⟩,fun b u q n _=>by rw[Bb (hx b n)];exact n,fun b u q _=>?_,
  fun b xs q=>by rw[Bb (hm b _ q fun z=>z)];exact q,fun b u xs q=>by rw[Bb (hm b _ q fun z=>z)];exact q,fun b ps q=>⟨#[],by rw[Bb (hm b _ q fun z=>z),q];simp⟩⟩
 by_cases hbe:b=e
 ·subst hbe;exact heo
 ·exact⟨u,k b u hbe q⟩
end
noncomputable def trk (h:Heap) (H:Hp):List Addr:=(List.range h.objs.size).filter fun a=>(H a).isSome
def Acf (h:Heap) (H:Hp):Heap:=W.hideAll h (trk h H)
theorem Ym (h:Heap) (H:Hp):(Acf h H).objs.size=h.objs.size:=W.hideAll_size _ _
theorem Acg {h:Heap}{H:Hp}{b:Addr}{o:Obj} (e:h.get? b=some o) (n:H b=none):(Acf h H).get? b=some o :=
 W.hideAll_get _ e fun hm=>by
  have q:(H b).isSome=true:=(List.mem_filter.mp hm).2
  rw[n] at q;simp at q
theorem Ajf {h:Heap}{H:Hp}{b:Addr}{o:Obj} (e:(Acf h H).get? b=some o):h.get? b=some o/\H b=none:=by
 have e':h.get? b=some o:=W.of_hideAll (trk h H) e
 refine⟨e',?_⟩
 cases q:H b with
 |none=>rfl
 |some x =>
  have hm:b∈trk h H:=List.mem_filter.mpr ⟨List.mem_range.mpr (Axm e'),by simp[q]⟩
  have z:(Acf h H).get? b=none:=W.hideAll_none (trk h H) hm
  rw[z] at e;cases e
structure Mod (K:W.Frag) (mg:Str->Option Value) (base:Heap):Prop where
 kin:K.In base
 glob:base.Ns mainGlobals mg
 blt:∃ mb,base.Ns builtinsNs mb/\∀ x:Str,x≠"__name__"->mb x=bootBuiltins x
 nolimit:base.NoLimit
structure Cx where
 prog:Program
 w:World
 K:W.Frag
 mg:Str->Option Value
 base:Heap
 A:Around
 N:List Str
 s₀:Shared
 H₀:Hp
 env:Env
 outer:List Env
 stack:List Env
 ex:List Addr
 fn:Str->Bool
 calm:Bool
 pn:List (Addr×Obj)
 xe:Value->Shared->Prop
noncomputable def frs (l:List Env):List Addr:=l.filterMap (·.frame)
abbrev Cx.fs (X:Cx):List Addr:=frs X.outer
def Vis (sc:Scope) (x:Str):Prop:=sc.names.lookup x=some .local\/sc.names.lookup x=some .cell\/sc.names.lookup x=some .free
def Loc (sc:Scope) (x:Str):Prop:=sc.names.lookup x=some .local\/sc.names.lookup x=some .cell
def Avn (env:Env) (h:Heap) (m:Str->Option Value) (x:Str) (u:Value):Prop :=
 (env.kindOf x=some .local/\m x=some u)\/((env.kindOf x=some .cell\/env.kindOf x=some .free)/\∃ c,env.cells.lookup x=some c/\h.IsCell c (some u))
structure Cx.Ok (X:Cx):Prop where
 mod:Mod X.K X.mg X.base
 kind:X.env.scope.kind=.function
 glob:X.env.globals=mainGlobals
 blt:X.env.builtins=builtinsNs
 above:X.s₀.heap.objs.size<=X.env.locals
 inj:∀ x y c,X.env.cells.lookup x=some c->X.env.cells.lookup y=some c->x=y
 has:∀ x,(X.env.kindOf x=some .cell\/X.env.kindOf x=some .free)->∃ c,X.env.cells.lookup x=some c
 cab:∀ x c,X.fn x=true->X.env.cells.lookup x=some c->X.s₀.heap.objs.size<=c
 hd:X.calm=true->X.A.handled=none
 frames:X.A.frames=some X.stack
 stk:X.stack=X.outer\/(X.stack=X.env::X.outer/\X.env.frame=some X.env.locals)
 exf:∀ b∈X.ex,b≠X.env.locals/\∀ x c,X.env.cells.lookup x=some c->c≠b
 bs:∀ b o,X.base.get? b=some o->X.s₀.heap.get? b=some o/\X.H₀ b=none
 bsz:X.base.objs.size<=X.s₀.heap.objs.size
 noex:∀ b o,X.base.get? b=some o->b∉X.ex
 exfs:∀ b∈X.ex,b∉X.fs
 funs:X.s₀.heap.FunFrames X.base X.outer
 frf:∀ b∈X.fs,X.H₀ b=none
structure Inv (X:Cx) (pins:List (Addr×Obj)) (σ:List (Option V)) (H:Hp) (s:Shared):Prop where
 ok:X.Ok
 os:s.os=X.s₀.os
 bare:AllBare s.gens
 base:Un X.fs X.ex X.H₀ H X.s₀.heap s.heap
 loc:∃ m,s.heap.Ns X.env.locals m/\∀ (i:Nat) (x:Str) (v:V),X.N[i]?=some x->σ[i]?=some (some v)->Vis X.env.scope x->∃ u,RelV v u/\Avn X.env s.heap m x u
 cell:∀ x c,X.env.cells.lookup x=some c->∃ v,s.heap.IsCell c v
 free:H X.env.locals=none
 freeC:∀ x c,X.env.cells.lookup x=some c->H c=none
 pin:∀ p∈X.pn++pins,s.heap.get? p.1=some p.2/\H p.1=none/\p.1≠X.env.locals/\p.1∉X.fs/\∀ v,p.2.data≠.cell v
 hok:HOk X.prog X.w X.K H s.heap
 len:σ.length=X.N.length
section
variable {X:Cx}{pins:List (Addr×Obj)}{σ:List (Option V)}{H H':Hp}{s:Shared}{h':Heap}
theorem Cx.Ok.nofr (ok:X.Ok) {b:Addr}{o:Obj} (e:X.base.get? b=some o):b∉X.fs:=fun hb=>by
 have:=(ok.funs.mem hb).1
 rw[e] at this;cases this
theorem Inv.bs (I:Inv X pins σ H s):∀ b o,X.base.get? b=some o->s.heap.get? b=some o/\H b=none:=fun b o e =>
 ⟨I.base.keep b o (I.ok.bs b o e).1 (I.ok.bs b o e).2 (I.ok.nofr e) (I.ok.noex b o e),I.base.free b o (I.ok.bs b o e).1 (I.ok.bs b o e).2 (I.ok.noex b o e)⟩
theorem Inv.bk (I:Inv X pins σ H s):∀ b o,X.base.get? b=some o->s.heap.get? b=some o:=fun b o e=>(I.bs b o e).1
theorem Inv.mod (I:Inv X pins σ H s):Mod X.K X.mg X.base:=I.ok.mod
theorem Inv.kIn (I:Inv X pins σ H s):X.K.In s.heap:=I.ok.mod.kin.keeps I.bk
theorem Inv.lt (I:Inv X pins σ H s):X.env.locals < s.heap.objs.size:=let ⟨_,hn,_⟩:=I.loc;hn.lt
theorem Inv.sz (I:Inv X pins σ H s):X.s₀.heap.objs.size<=s.heap.objs.size:=Ax7 I.ok.above (Azi I.lt)
theorem Inv.nofs (I:Inv X pins σ H s) {a:Addr} (h:s.heap.objs.size<=a):a∉X.fs:=fun hb=>by
 obtain⟨_,o,ho,_⟩:=I.ok.funs.mem hb
 exact absurd (Ax0 (Axm ho) (Ax7 I.sz h)) (Ayd _)
theorem Inv.cne (I:Inv X pins σ H s):∀ x c,X.env.cells.lookup x=some c->c≠X.env.locals:=fun x c e z=>by
 obtain⟨v,o,ho,hd⟩:=I.cell x c e
 obtain⟨m,⟨o',es,ep,ho',hd',_⟩,_⟩:=I.loc
 rw[z,ho'] at ho;cases ho;rw[hd'] at hd;cases hd
theorem Inv.funs (I:Inv X pins σ H s):s.heap.FunFrames X.base X.outer:=by
 have all:∀ (l:List Env),(∀ b∈frs l,b∈X.fs)->X.s₀.heap.FunFrames X.base l->s.heap.FunFrames X.base l:=by
  intro l
  induction l with
  |nil=>intro _ _;trivial
  |cons env r ih =>
   intro hs hl
   obtain⟨hk,⟨L,o,hf,hn,ho,hd⟩,hr⟩:=hl
   have hL:L∈X.fs:=hs L (by unfold frs;rw[List.filterMap_cons,hf];exact Axn)
   obtain⟨sl,e⟩:=I.base.slot L o ho (I.ok.frf L hL) hL fun z=>I.ok.exfs L z hL
   exact⟨hk,⟨L,_,hf,hn,e,hd⟩,ih (fun b hb=>hs b (by unfold frs;rw[List.filterMap_cons,hf];exact Axl _ hb)) hr⟩
 exact all X.outer (fun _ hb=>hb) I.ok.funs
theorem Inv.stack (I:Inv X pins σ H s):s.heap.FunFrames X.base X.stack:=by
 rcases I.ok.stk with e|⟨e,hf⟩
 ·rw[e];exact I.funs
 ·rw[e]
  obtain⟨m,hn,_⟩:=I.loc
  refine .cons (by rw[I.ok.kind];decide) hf hn ?_ I.funs
  exact Heap.get?_none_of_le (Ax7 I.ok.bsz I.ok.above)
theorem Inv.stkSub (I:Inv X pins σ H s):∀ b∈frs X.stack,b∈X.env.locals::X.fs:=fun b hb=>by
 rcases I.ok.stk with e|⟨e,hf⟩
 ·rw[e] at hb;exact Axl _ hb
 ·rw[e] at hb
  unfold frs at hb
  rw[List.filterMap_cons,hf] at hb
  exact hb
theorem Inv.stkFree (I:Inv X pins σ H s):∀ b∈frs X.stack,H b=none:=fun b hb=>by
 rcases List.mem_cons.mp (I.stkSub b hb) with e|hb
 ·rw[e];exact I.free
 ·obtain⟨_,o,ho,_⟩:=I.ok.funs.mem hb
  exact I.base.free b o ho (I.ok.frf b hb) fun z=>I.ok.exfs b z hb
theorem Inv.step {g':Array GenState}{t':Nat}{d':Drawn}{ch:List Addr} (I:Inv X pins σ H s)
  (hch:∀ b∈ch,(b∈X.ex\/X.s₀.heap.objs.size<=b)/\b≠X.env.locals/\(∀ x c,X.env.cells.lookup x=some c->c≠b)/\∀ p∈X.pn++pins,p.1≠b)
  (keep:∀ b o,b≠X.env.locals->b∉X.fs->b∉ch->s.heap.get? b=some o->H b=none->h'.get? b=some o)
  (slot:∀ b o,b≠X.env.locals->b∈X.fs->b∉ch->s.heap.get? b=some o->H b=none->∃ sl,h'.get? b=some { o with slots:=sl }) (free:∀ b o,b∉ch->s.heap.get? b=some o->H b=none->H' b=none)
  (there:∀ b o,b∉ch->s.heap.get? b=some o->∃ o',h'.get? b=some o')
  (tups:∀ b xs,H b=some (.tup xs)->H' b=some (.tup xs)) (frzs:∀ b o u,H b=some (.frz o u)->H' b=some (.frz o u)) (tbls:∀ b ps,H b=some (.tbl ps)->∃ more,H' b=some (.tbl (ps++more)))
  (ns:∀ m,s.heap.Ns X.env.locals m->h'.Ns X.env.locals m) (hok:HOk X.prog X.w X.K H' h') (hg:AllBare g') :
  Inv X pins σ H' { s with heap:=h',gens:=g',drawn:=d',toks:=t' }:=by
 have neL:∀ b o,X.s₀.heap.get? b=some o->b≠X.env.locals:=fun b o e=>Ax5 (Ax0 (Axm e) I.ok.above)
 have neC:∀ b o,X.s₀.heap.get? b=some o->b∉X.ex->b∉ch:=fun b o e hx hb=>by
  rcases (hch b hb).1 with z|z
  ·exact hx z
  ·exact absurd (Ax0 (Axm e) z) (Ayd _)
 have cellK:∀ x c,X.env.cells.lookup x=some c->∀ v,s.heap.IsCell c v->h'.IsCell c v:=fun x c e v ⟨o,ho,hd⟩=>by
  have nch:c∉ch:=fun z=>(hch c z).2.2.1 x c e rfl
  by_cases hc:c∈X.fs
  ·obtain⟨sl,q⟩:=slot c o (I.cne x c e) hc nch ho (I.freeC x c e)
   exact⟨_,q,hd⟩
  ·exact⟨o,keep c o (I.cne x c e) hc nch ho (I.freeC x c e),hd⟩
 refine⟨I.ok,I.os,hg,⟨fun b o e n hb hx=>?_,fun b o e n hb hx=>?_,fun b o e n hx=>?_,fun b o e hx=>?_,fun b xs e=>tups b xs (I.base.tups b xs e),fun b o xs e=>frzs b o xs (I.base.frzs b o xs e),fun b ps e=>?_⟩,?_,fun x c e=>?_,?_,fun x c e=>?_,fun p hp=>?_,hok,I.len⟩
 ·exact keep b o (neL b o e) hb (neC b o e hx) (I.base.keep b o e n hb hx) (I.base.free b o e n hx)
 ·obtain⟨sl,e1⟩:=I.base.slot b o e n hb hx
  obtain⟨sl',e2⟩:=slot b _ (neL b o e) hb (neC b o e hx) e1 (I.base.free b o e n hx)
  exact⟨sl',e2⟩
 ·obtain⟨o',e1⟩:=I.base.there b o e hx
  exact free b o' (neC b o e hx) e1 (I.base.free b o e n hx)
 ·obtain⟨o',e1⟩:=I.base.there b o e hx
  exact there b o' (neC b o e hx) e1
 ·obtain⟨m1,e1⟩:=I.base.tbls b ps e
  obtain⟨m2,e2⟩:=tbls b _ e1
  exact⟨m1++m2,by rw[e2,Array.append_assoc]⟩
 ·obtain⟨m,hn,hl⟩:=I.loc
  refine⟨m,ns m hn,fun i x v e1 e2 e3=>?_⟩
  obtain⟨u,r,l⟩:=hl i x v e1 e2 e3
  refine⟨u,r,?_⟩
  rcases l with l|⟨k,c,e,z⟩
  ·exact .inl l
  ·exact .inr ⟨k,c,e,cellK x c e _ z⟩
 ·obtain⟨v,z⟩:=I.cell x c e
  exact⟨v,cellK x c e v z⟩
 ·obtain⟨m,⟨o,_,_,ho,_⟩,_⟩:=I.loc
  exact free _ o (fun z=>(hch _ z).2.1 rfl) ho I.free
 ·obtain⟨v,o,ho,hd⟩:=I.cell x c e
  exact free c o (fun z=>(hch c z).2.2.1 x c e rfl) ho (I.freeC x c e)
 ·obtain⟨e,n,ne,nf,d⟩:=I.pin p hp
  have nch:p.1∉ch:=fun z=>(hch p.1 z).2.2.2 p hp rfl
  exact⟨keep p.1 p.2 ne nf nch e n,free p.1 p.2 nch e n,ne,nf,d⟩
theorem Inv.un {t':Nat} (I:Inv X pins σ H s) (u:Un X.fs [] H H' s.heap h') (hok:HOk X.prog X.w X.K H' h'):Inv X pins σ H' { s with heap:=h',toks:=t' }:=by
 obtain⟨m,⟨o,es,ep,ho,r⟩,_⟩:=id I.loc
 obtain⟨sl,hL⟩:=u.any ho I.free (by simp)
 exact I.step (g':=s.gens) (d':=s.drawn) (ch:=[]) (fun _ z=>nomatch z) (fun b o _ hb _ e n=>u.keep b o e n hb (by simp)) (fun b o _ hb _ e n=>u.slot b o e n hb (by simp)) (fun b o _ e n=>u.free b o e n (by simp)) (fun b o _ e=>u.there b o e (by simp)) u.tups u.frzs u.tbls (fun m' hm=>by
  obtain⟨o',es',ep',ho',r'⟩:=hm
  rw[ho] at ho';cases ho'
  exact⟨_,es',ep',hL,r'⟩) hok I.bare
theorem Inv.call {g':Array GenState}{t':Nat}{d':Drawn}{ch:List Addr} (I:Inv X pins σ H s) (u:Un (frs X.stack) ch H H' s.heap h') (hok:HOk X.prog X.w X.K H' h') (hg:AllBare g')
  (hch:∀ b∈ch,(b∈X.ex\/X.s₀.heap.objs.size<=b)/\b≠X.env.locals/\(∀ x c,X.env.cells.lookup x=some c->c≠b)/\∀ p∈X.pn++pins,p.1≠b) :
  Inv X pins σ H' { s with heap:=h',gens:=g',drawn:=d',toks:=t' }:=by
 obtain⟨m,⟨o,es,ep,ho,r⟩,_⟩:=id I.loc
 obtain⟨sl,hL⟩:=u.any ho I.free fun z=>(hch _ z).2.1 rfl
 exact I.step (ch:=ch) hch (fun b o hL hb hc e n=>u.keep b o e n (fun z=>(List.mem_cons.mp (I.stkSub b z)).elim hL hb) hc) (fun b o _ _ hc e n=>u.any e n hc) (fun b o hc e n=>u.free b o e n hc) (fun b o hc e=>u.there b o e hc) u.tups u.frzs u.tbls (fun m' hm=>by
  obtain⟨o',es',ep',ho',r'⟩:=hm
  rw[ho] at ho';cases ho'
  exact⟨_,es',ep',hL,r'⟩) hok hg
theorem Inv.turned {t':Nat}{it:Addr} (I:Inv X pins σ H s) (k:∀ b o,b≠it->s.heap.get? b=some o->h'.get? b=some o) (hn:H it=none) (hL:it≠X.env.locals)
  (h1:it∈X.ex\/X.s₀.heap.objs.size<=it) (h2:∀ x c,X.env.cells.lookup x=some c->c≠it) (h3:∀ p∈X.pn++pins,p.1≠it):Inv X pins σ H { s with heap:=h',toks:=t' }:=by
 have nit:∀ b u,H b=some u->b≠it:=fun b u e z=>by rw[z,hn] at e;cases e
 refine I.step (g':=s.gens) (d':=s.drawn) (ch:=[it]) (fun b hb=>?_) (fun b o _ _ hc e _=>k b o (fun z=>hc (by simp[z])) e) (fun b o _ _ hc e _=>⟨o.slots,k b o (fun z=>hc (by simp[z])) e⟩) (fun _ _ _ _ n=>n)
  (fun b o hc e=>⟨o,k b o (fun z=>hc (by simp[z])) e⟩) (fun _ _ e=>e) (fun _ _ _ e=>e) (fun b ps e=>⟨#[],by rw[e];simp⟩) (fun m hm=>?_) (fun b u e=>?_) I.bare
 ·have e:b=it:=by simpa using hb
  subst e
  exact⟨h1,hL,h2,h3⟩
 ·obtain⟨o,es,ep,ho,r⟩:=hm
  exact⟨o,es,ep,k _ o (Ayw hL) ho,r⟩
 ·refine (I.hok b u e).stay (fun c v hc q=>k c v ?_ q) (fun _ q=>q) (fun _ _ q=>q) fun _ _ _ q=>q
  rcases hc with z|z
  ·rw[z];exact nit b u e
  ·exact nit c _ z
theorem Inv.tok (I:Inv X pins σ H s) (t:Nat):Inv X pins σ H { s with toks:=t }:=I.un (h':=s.heap) (t':=t) Un.refl I.hok
theorem Inv.kept {t':Nat} (I:Inv X pins σ H s) (k:∀ b u,s.heap.get? b=some u->h'.get? b=some u):Inv X pins σ H { s with heap:=h',toks:=t' }:=I.un (Un.kept k) (I.hok.kept k)
theorem Inv.laid {a:Addr}{o:HO}{t':Nat} (I:Inv X pins σ H s) (k:∀ b u,s.heap.get? b=some u->h'.get? b=some u) (hp:s.heap.objs.size<=a) (new:ObjOk X.prog X.w X.K (upd H a o) h' a o) :
  Inv X pins σ (upd H a o) { s with heap:=h',toks:=t' }:=I.un (Un.laid k hp (I.hok.fresh hp)) (I.hok.laid k hp new)
theorem Inv.write {x e:Addr}{o:HO}{t':Nat} (I:Inv X pins σ H s) (mu:Mut (H x)) (he:e=x\/H e=some (.own x)) (k:∀ b u,b≠e->s.heap.get? b=some u->h'.get? b=some u) (heo:∃ u,h'.get? e=some u)
  (new:ObjOk X.prog X.w X.K (upd H x o) h' x o):Inv X pins σ (upd H x o) { s with heap:=h',toks:=t' }:=I.un (Un.write mu he k heo) (I.hok.write mu he k heo new)
theorem Inv.pins_of {pins':List (Addr×Obj)} (I:Inv X pins σ H s) (h:∀ p∈pins',s.heap.get? p.1=some p.2/\H p.1=none/\p.1≠X.env.locals/\p.1∉X.fs/\∀ v,p.2.data≠.cell v):Inv X pins' σ H s :=
 ⟨I.ok,I.os,I.bare,I.base,I.loc,I.cell,I.free,I.freeC,fun p hp=>(List.mem_append.mp hp).elim (fun z=>I.pin p (Aye _ z)) (h p),I.hok,I.len⟩
theorem Uh {N:List Str} (hN:N.Nodup) {i j:Nat}{x:Str} (a:N[i]?=some x) (b:N[j]?=some x):i=j:=by
 obtain⟨h1,e1⟩:=List.getElem?_eq_some_iff.mp a
 obtain⟨h2,e2⟩:=List.getElem?_eq_some_iff.mp b
 exact (List.getElem_inj hN).mp (e1.trans e2.symm)
theorem Lr {M:Model}{A:Around}{E:Value->Shared->Prop}{i:Nat}{x:Str}{v:V}{u:Value}{Q:Unit->Shared->Prop} (I:Inv X pins σ H s) (hN:X.N.Nodup) (hi:X.N[i]?=some x) (hx:Loc X.env.scope x) (r:RelV v u)
  (h:∀ s',Inv X pins (σ.set i (some v)) H s'->(∃ a,Heap.SameBut a s.heap s'.heap/\(a=X.env.locals\/X.env.cells.lookup x=some a))->Q () s') (hf:X.fn x=true\/X.env.scope.names.lookup x=some .local:=by first|exact .inl rfl|exact .inr rfl|assumption):wpAny M A (storeName X.env x u) Q E s:=by
 obtain⟨m,hn,hl⟩:=id I.loc
 have hcls:(X.env.scope.kind == .class||(X.env.scope.kind == .module&&X.env.locals != X.env.globals))=false:=by rw[I.ok.kind];rfl
 have hiσ:i < σ.length:=by rw[I.len];exact (List.getElem?_eq_some_iff.mp hi).1
 have cne:=I.cne
 have tracked:∀ {a:Addr}{h':Heap},(∃ o,s.heap.get? a=some o/\H a=none)->Heap.SameBut a s.heap h'->HOk X.prog X.w X.K H h':=fun {a h'} ha hs b ob e=>by
  obtain⟨_,_,hfree⟩:=ha
  refine (I.hok b ob e).stay (fun c w' hc q=>(hs.2 c ?_).trans q) (fun _ q=>q) (fun _ _ q=>q) fun _ _ _ q=>q
  rintro rfl
  rcases hc with rfl|hc
  ·rw[hfree] at e;cases e
  ·rw[hfree] at hc;cases hc
 rcases hx with hk|hk
 ·refine wpAny_storeName_local hk hn (fun h' hn' hs=>?_) hcls
  obtain⟨oL,_,_,hoL,_⟩:=id hn
  refine h _ ⟨I.ok,I.os,I.bare,⟨fun b o e n hb hx=>?_,fun b o e n hb hx=>?_,I.base.free,fun b o e hx=>?_,I.base.tups,I.base.frzs,I.base.tbls⟩,⟨_,hn',fun j y v' e1 e2 e3=>?_⟩,fun y c e=>?_,I.free,I.freeC,fun p hp=>?_,tracked ⟨oL,hoL,I.free⟩ hs,by simpa using I.len⟩ ⟨_,hs,.inl rfl⟩
  ·exact (hs.2 b (Ax5 (Ax0 (Axm e) I.ok.above))).trans (I.base.keep b o e n hb hx)
  ·obtain⟨sl,e1⟩:=I.base.slot b o e n hb hx
   exact⟨sl,(hs.2 b (Ax5 (Ax0 (Axm e) I.ok.above))).trans e1⟩
  ·obtain⟨o',e1⟩:=I.base.there b o e hx
   exact⟨o',(hs.2 b (Ax5 (Ax0 (Axm e) I.ok.above))).trans e1⟩
  ·by_cases hj:j=i
   ·subst hj
    rw[hi] at e1;cases e1
    rw[Azh hiσ] at e2
    cases e2
    exact⟨u,r,.inl ⟨hk,by simp⟩⟩
   ·rw[Az2 (Ayw hj)] at e2
    obtain⟨u',r',q⟩:=hl j y v' e1 e2 e3
    refine⟨u',r',?_⟩
    rcases q with ⟨k,e⟩|⟨k,c,e,z⟩
    ·refine .inl ⟨k,?_⟩
     have:y≠x:=fun e=>hj (Uh hN e1 (e ▸ hi))
     simp[this,e]
    ·exact .inr ⟨k,c,e,z.sameBut hs (cne y c e)⟩
  ·obtain⟨w',z⟩:=I.cell y c e
   exact⟨w',z.sameBut hs (cne y c e)⟩
  ·obtain⟨e,n,ne,nf,d⟩:=I.pin p hp
   exact⟨(hs.2 p.1 ne).trans e,n,ne,nf,d⟩
 ·have hfn:X.fn x=true:=by
   rcases hf with z|z
   ·exact z
   ·rw[z] at hk;cases hk
  obtain⟨c,hc⟩:=I.ok.has x (.inl hk)
  obtain⟨w',z⟩:=I.cell x c hc
  refine wpAny_storeName_cell I.ok.kind hk hc z (fun h' hc' hs=>?_)
  obtain⟨oc,hoc,hocd⟩:=id z
  refine h { s with heap:=h' } ⟨I.ok,I.os,I.bare,⟨fun b o e n hb hx=>?_,fun b o e n hb hx=>?_,I.base.free,fun b o e hx=>?_,I.base.tups,I.base.frzs,I.base.tbls⟩,⟨m,hn.sameBut hs (Ayw (cne x c hc)),fun j y v' e1 e2 e3=>?_⟩,fun y c' e=>?_,I.free,I.freeC,fun p hp=>?_,tracked ⟨oc,hoc,I.freeC x c hc⟩ hs,by simpa using I.len⟩ ⟨c,hs,.inr hc⟩
  ·exact (hs.2 b (Ax5 (Ax0 (Axm e) (I.ok.cab x c hfn hc)))).trans (I.base.keep b o e n hb hx)
  ·obtain⟨sl,e1⟩:=I.base.slot b o e n hb hx
   exact⟨sl,(hs.2 b (Ax5 (Ax0 (Axm e) (I.ok.cab x c hfn hc)))).trans e1⟩
  ·obtain⟨o',e1⟩:=I.base.there b o e hx
   exact⟨o',(hs.2 b (Ax5 (Ax0 (Axm e) (I.ok.cab x c hfn hc)))).trans e1⟩
  ·by_cases hj:j=i
   ·subst hj
    rw[hi] at e1;cases e1
    rw[Azh hiσ] at e2
    cases e2
    exact⟨u,r,.inr ⟨.inl hk,c,hc,hc'⟩⟩
   ·rw[Az2 (Ayw hj)] at e2
    obtain⟨u',r',q⟩:=hl j y v' e1 e2 e3
    refine⟨u',r',?_⟩
    rcases q with q|⟨k,c',e,z'⟩
    ·exact .inl q
    ·refine .inr ⟨k,c',e,z'.sameBut hs ?_⟩
     rintro rfl
     exact hj (Uh hN e1 (I.ok.inj _ _ _ e hc ▸ hi))
  ·by_cases hcc:c'=c
   ·subst hcc;exact⟨_,hc'⟩
   ·obtain⟨w2,z2⟩:=I.cell y c' e
    exact⟨w2,z2.sameBut hs hcc⟩
  ·obtain⟨e,n,ne,nf,d⟩:=I.pin p hp
   refine⟨(hs.2 p.1 ?_).trans e,n,ne,nf,d⟩
   intro q
   rw[q,hoc] at e
   have q':oc=p.2:=Ayk e
   exact d w' (by rw[<- q'];exact hocd)
theorem U2 {M:Model}{A:Around}{E:Value->Shared->Prop}{i:Nat}{x:Str}{v:V}{u:Value}{Q:Unit->Shared->Prop} (I:Inv X pins σ H s) (hN:X.N.Nodup) (hi:X.N[i]?=some x) (hx:Loc X.env.scope x) (r:RelV v u)
  (h:∀ s',Inv X pins (σ.set i (some v)) H s'->Q () s') (hf:X.fn x=true\/X.env.scope.names.lookup x=some .local:=by first|exact .inl rfl|exact .inr rfl|assumption):wpAny M A (storeName X.env x u) Q E s :=
 Lr I hN hi hx r (fun s' I' _=>h s' I') hf
theorem Inv.call' {s':Shared}{ch:List Addr} (I:Inv X pins σ H s) (ho:s'.os=s.os) (u:Un (frs X.stack) ch H H' s.heap s'.heap) (hok:HOk X.prog X.w X.K H' s'.heap) (hg:AllBare s'.gens)
  (hch:∀ b∈ch,(b∈X.ex\/X.s₀.heap.objs.size<=b)/\b≠X.env.locals/\(∀ x c,X.env.cells.lookup x=some c->c≠b)/\∀ p∈X.pn++pins,p.1≠b):Inv X pins σ H' s':=by
 obtain⟨h',g',d',t',o'⟩:=s'
 have e:o'=s.os:=ho
 subst e
 exact I.call (g':=g') (t':=t') (d':=d') u hok hg hch
end
abbrev XK:=Value->Option Addr->Hp->Prop
abbrev St:=List (Option V)
abbrev VK:=V->Hp->Prop
abbrev TE:=St->Hp->VK->Prop
abbrev TT:=St->Hp->(Bool->Hp->Prop)->Prop
abbrev TA:=St->Hp->(List V->Hp->Prop)->Prop
structure Ends where
 nx:St->Hp->Prop
 rt:VK
 bk:St->Hp->Prop:=fun _ _=>False
 ct:St->Hp->Prop:=fun _ _=>False
abbrev TS:=Ends->St->Hp->Prop
def EP (X:Cx) (pins:List (Addr×Obj)) (σ:St) (Q:VK) (u:Value) (s':Shared):Prop:=∃ v H',Inv X pins σ H' s'/\RelV v u/\Q v H'
def TP (X:Cx) (pins:List (Addr×Obj)) (σ:St) (Q:Bool->Hp->Prop) (b:Bool) (s':Shared):Prop:=∃ H',Inv X pins σ H' s'/\Q b H'
def AP (X:Cx) (pins:List (Addr×Obj)) (σ:St) (Q:List V->Hp->Prop) (us:List Value) (s':Shared):Prop:=∃ vs H',Inv X pins σ H' s'/\Vals vs us/\Q vs H'
def SP (X:Cx) (pins:List (Addr×Obj)) (D:Ends) (f:Flow) (s':Shared):Prop :=
 match f with
 |.next=>∃ σ' H',Inv X pins σ' H' s'/\D.nx σ' H'
 |.brk=>∃ σ' H',Inv X pins σ' H' s'/\D.bk σ' H'
 |.cont=>∃ σ' H',Inv X pins σ' H' s'/\D.ct σ' H'
 |.ret u=>∃ v σ' H',Inv X pins σ' H' s'/\RelV v u/\D.rt v H'
def PE (X:Cx) (e:Expr) (t:TE):Prop :=
 ∀ (pins:List (Addr×Obj)) (s:Shared) (σ:St) (H:Hp) (Q:VK),Inv X pins σ H s->t σ H Q->wpAny (model X.prog X.w) X.A (eval e X.env) (EP X pins σ Q) X.xe s
def PT (X:Cx) (e:Expr) (t:TT):Prop :=
 ∀ (pins:List (Addr×Obj)) (s:Shared) (σ:St) (H:Hp) (Q:Bool->Hp->Prop),Inv X pins σ H s->t σ H Q->wpAny (model X.prog X.w) X.A (isTrue e X.env (eval e X.env)) (TP X pins σ Q) X.xe s
def PW (X:Cx) (e:Expr) (t:TT):Prop :=
 ∀ (whole:Sem Value) (pins:List (Addr×Obj)) (s:Shared) (σ:St) (H:Hp) (Q:Bool->Hp->Prop),Inv X pins σ H s->t σ H Q->wpAny (model X.prog X.w) X.A (isTrue e X.env whole) (TP X pins σ Q) X.xe s
theorem PW.pt {X:Cx}{e:Expr}{t:TT} (h:PW X e t):PT X e t:=h _
def PA (X:Cx) (es:List Expr) (t:TA):Prop :=
 ∀ (pos:Pos) (pins:List (Addr×Obj)) (s:Shared) (σ:St) (H:Hp) (Q:List V->Hp->Prop),Inv X pins σ H s->t σ H Q->wpAny (model X.prog X.w) X.A (spliced (backTo pos (starEach es X.env))) (AP X pins σ Q) X.xe s
def PS (X:Cx) (st:Stmt) (t:TS):Prop :=
 ∀ (pins:List (Addr×Obj)) (s:Shared) (σ:St) (H:Hp) (D:Ends),Inv X pins σ H s->t D σ H->wpAny (model X.prog X.w) X.A (exec st X.env) (SP X pins D) X.xe s
def PSs (X:Cx) (st:List Stmt) (t:TS):Prop :=
 ∀ (pins:List (Addr×Obj)) (s:Shared) (σ:St) (H:Hp) (D:Ends),Inv X pins σ H s->t D σ H->wpAny (model X.prog X.w) X.A (execs st X.env) (SP X pins D) X.xe s
theorem thn {α:Type}{t:Sem α}{Q Q':α->Shared->Prop}{M:Model}{A:Around}{E:Value->Shared->Prop}{s:Shared} (h:wpAny M A t Q E s) (hQ:∀ a s,Q a s->Q' a s):wpAny M A t Q' E s:=Ay2 h hQ fun _ _ x=>x
section
variable {X:Cx}
noncomputable def Axd (i:Nat):TE:=fun σ H Q=>∃ v,σ[i]?=some (some v)/\Q v H
noncomputable def tC (v:V):TE:=fun _ H Q=>Q v H
theorem Aql {i:Nat}{x:Str}{pos:Pos} (hN:X.N[i]?=some x) (hv:Vis X.env.scope x) (hd:(x == ("__debug__":Str))=false:=by decide) (hcd:(x == ("__classdict__":Str))=false:=by decide):PE X (.Name x pos) (Axd i):=by
 intro pins s σ H Q I h
 obtain⟨v,e,h⟩:=h
 obtain⟨m,hn,hl⟩:=I.loc
 obtain⟨u,r,l⟩:=hl i x v hN e hv
 have fin:EP X pins σ Q u s:=⟨v,H,I,r,h⟩
 rcases l with ⟨hk,hm⟩|⟨hk,c,hc,hcell⟩
 ·exact wpAny_Name (wpAny_loadName_local I.ok.kind hk hn hm fin) hd
 ·rcases hk with hk|hk
  ·exact wpAny_Name (wpAny_loadName_cell I.ok.kind hk hc hcell fin) hd
  ·exact wpAny_Name (wpAny_loadName_free I.ok.kind hk hc hcell fin hcd) hd
theorem Aqh {i j pos}:PE X (.Constant (.int i) j pos) (tC (.int i)):=fun _ _ _ H _ I h=>wpAny_Constant_int ⟨.int i,H,I.tok _,⟨_,rfl⟩,h⟩
theorem Aum {b j pos}:PE X (.Constant (.bool b) j pos) (tC (.bl b)):=fun _ _ _ H _ I h=>Constant_bool ⟨.bl b,H,I,rfl,h⟩
theorem Zx {j pos}:PE X (.Constant .none j pos) (tC .non):=fun _ _ _ H _ I h=>Constant_none ⟨.non,H,I,rfl,h⟩
theorem Aqk {x j pos}:PE X (.Constant (.str x) j pos) (tC (.str x)):=fun _ _ _ H _ I h=>Calls.Constant_str ⟨.str x,H,I.tok _,⟨_,rfl⟩,h⟩
def Gl (X:Cx) (x:Str):Prop:=X.env.kindOf x=some .globalImplicit
theorem R0 {E:Value->Shared->Prop}{pins:List (Addr×Obj)}{s:Shared}{σ:St}{H:Hp}{x:Str}{u:Value}{pos:Pos}{Q:Value->Shared->Prop} (I:Inv X pins σ H s) (hg:Gl X x) (hm:X.mg x=some u) (h:Q u s)
  (hd:(x == ("__debug__":Str))=false:=by decide):wpAny (model X.prog X.w) X.A (eval (.Name x pos) X.env) Q E s :=
 Calls.Name_function_global I.ok.kind hg (Calls.loadGlobal_global (by rw[I.ok.glob];exact I.mod.glob.keeps I.bk) hm h) hd
theorem Dv {E:Value->Shared->Prop}{pins:List (Addr×Obj)}{s:Shared}{σ:St}{H:Hp}{x:Str}{u:Value}{pos:Pos}{Q:Value->Shared->Prop} (I:Inv X pins σ H s) (hg:Gl X x) (hm:X.mg x=none) (hv:bootBuiltins x=some u) (h:Q u s)
  (hn:x≠"__name__":=by decide) (hd:(x == ("__debug__":Str))=false:=by decide):wpAny (model X.prog X.w) X.A (eval (.Name x pos) X.env) Q E s:=by
 obtain⟨mb,h1,h2⟩:=I.mod.blt
 exact Calls.Name_function_global I.ok.kind hg (Calls.loadGlobal_builtin (by rw[I.ok.glob];exact I.mod.glob.keeps I.bk) hm (by rw[I.ok.blt];exact h1.keeps I.bk) ((h2 x hn).trans hv) h) hd
theorem Aj0 {x:Str}{v:V}{u:Value}{pos:Pos} (hg:Gl X x) (hm:X.mg x=none) (hv:bootBuiltins x=some u) (r:RelV v u) (hn:x≠"__name__":=by decide) (hd:(x == ("__debug__":Str))=false:=by decide):PE X (.Name x pos) (tC v) :=
 fun _ _ _ H _ I h=>Dv I hg hm hv ⟨v,H,I,r,h⟩ hn hd
variable {a b:Expr}{ta tb:TE}{pos:Pos}
variable {tA tB':TT}{rest:List Expr}
noncomputable def Avk (t u:TT):TT:=fun σ H Q=>t σ H fun c H1=>if c=true then u σ H1 Q else Q false H1
noncomputable def tOr (t u:TT):TT:=fun σ H Q=>t σ H fun c H1=>if c=true then Q true H1 else u σ H1 Q
noncomputable def Aw9 (t:TT):TT:=fun σ H Q=>t σ H fun c H1=>Q (!c) H1
theorem Aae (ha:PT X a tA):PW X (.BoolOp .And [a] pos) tA:=by
 intro wh pins s σ H Q I h
 refine isTrue_and (thn (ha pins s σ H Q I h) fun c s1 e=>?_)
 cases c with
 |true=>exact isTrue_and_nil e
 |false=>exact e
theorem Af1 (ha:PT X a tA):PW X (.BoolOp .Or [a] pos) tA:=by
 intro wh pins s σ H Q I h
 refine isTrue_or (thn (ha pins s σ H Q I h) fun c s1 e=>?_)
 cases c with
 |false=>exact isTrue_or_nil e
 |true=>exact e
theorem Af0 (ha:PT X a tA) (hb:PW X (.BoolOp .And (b::rest) pos) tB'):PW X (.BoolOp .And (a::b::rest) pos) (Avk tA tB'):=by
 intro wh pins s σ H Q I h
 refine isTrue_and (thn (ha pins s σ H _ I h) fun c s1 ⟨H1,I1,q1⟩=>?_)
 cases c with
 |true=>exact hb wh pins s1 σ H1 Q I1 q1
 |false=>exact⟨H1,I1,q1⟩
theorem Aqu (ha:PT X a tA) (hb:PW X (.BoolOp .Or (b::rest) pos) tB'):PW X (.BoolOp .Or (a::b::rest) pos) (tOr tA tB'):=by
 intro wh pins s σ H Q I h
 refine isTrue_or (thn (ha pins s σ H _ I h) fun c s1 ⟨H1,I1,q1⟩=>?_)
 cases c with
 |true=>exact⟨H1,I1,q1⟩
 |false=>exact hb wh pins s1 σ H1 Q I1 q1
theorem Afz (ha:PT X a tA):PT X (.UnaryOp .Not a pos) (Aw9 tA):=by
 intro pins s σ H Q I h
 exact isTrue_not (ha pins s σ H (fun c H1=>Q (!c) H1) I h)
noncomputable def Aux (ta tb:TE):TE:=fun σ H Q=>ta σ H fun x H1=>∃ c,x=.bl c/\if c=true then tb σ H1 Q else Q (.bl false) H1
noncomputable def Axa (ta tb:TE):TE:=fun σ H Q=>ta σ H fun x H1=>∃ c,x=.bl c/\if c=true then Q (.bl true) H1 else tb σ H1 Q
theorem Aqj {op}{t:TE} (h:PE X a t):PE X (.BoolOp op [a] pos) t:=fun pins s σ H Q I hw=>BoolOp_one (h pins s σ H Q I hw)
theorem Aqf (ha:PE X a ta) (hb:PE X (.BoolOp .And (b::rest) pos) tb):PE X (.BoolOp .And (a::b::rest) pos) (Aux ta tb):=by
 intro pins s σ H Q I h
 refine BoolOp_and (thn (ha pins s σ H _ I h) fun v s1 ⟨x,H1,I1,r1,q1⟩=>?_)
 obtain⟨c,rfl,q1⟩:=q1
 cases r1
 refine Aze ?_
 cases c with
 |true=>exact hb pins s1 σ H1 Q I1 q1
 |false=>exact⟨.bl false,H1,I1,rfl,q1⟩
theorem Auo (ha:PE X a ta) (hb:PE X (.BoolOp .Or (b::rest) pos) tb):PE X (.BoolOp .Or (a::b::rest) pos) (Axa ta tb):=by
 intro pins s σ H Q I h
 refine BoolOp_or (thn (ha pins s σ H _ I h) fun v s1 ⟨x,H1,I1,r1,q1⟩=>?_)
 obtain⟨c,rfl,q1⟩:=q1
 cases r1
 refine Aze ?_
 cases c with
 |false=>exact hb pins s1 σ H1 Q I1 q1
 |true=>exact⟨.bl true,H1,I1,rfl,q1⟩
noncomputable def tIf (t:TT) (ta tb:TE):TE:=fun σ H Q=>t σ H fun c H1=>if c=true then ta σ H1 Q else tb σ H1 Q
theorem Up {c:Expr} (hc:PT X c tA) (ha:PE X a ta) (hb:PE X b tb):PE X (.IfExp c a b pos) (tIf tA ta tb):=by
 intro pins s σ H Q I h
 refine wpAny_IfExp (thn (hc pins s σ H _ I h) fun d s1 ⟨H1,I1,q1⟩=>?_)
 cases d with
 |true=>exact ha pins s1 σ H1 Q I1 q1
 |false=>exact hb pins s1 σ H1 Q I1 q1
end
def SqL (K:W.Frag) (H:Hp) (a:Addr) (xs:List V):Prop :=
 Rd H a (.lst xs) \/
  ∃ (o:Obj) (its:Array Value) (n:Nat),K.lookup a=some o/\o.cls=.type "list"/\o.dict=none/\o.data=.seq its n/\its.size<=sizeLine/\Vals xs its.toList
noncomputable def Awv:Value->Option V
 |.none=>some .non
 |.bool b=>some (.bl b)
 |.int i _=>some (.int i)
 |.str x _=>some (.str x)
 |.bytes b _=>some (.byt b)
 |.float b _=>some (.flt b)
 |.ref a=>some (.ref a)
 |.type n=>some (.ty n)
 |_=>none
theorem RelV.abs {x:V}{u:Value} (r:RelV x u):Awv u=some x:=by
 cases x with
 |non=>cases r;rfl
 |bl _=>cases r;rfl
 |int _=>obtain⟨t,rfl⟩:=r;rfl
 |str _=>obtain⟨t,rfl⟩:=r;rfl
 |byt _=>obtain⟨t,rfl⟩:=r;rfl
 |flt _=>obtain⟨t,rfl⟩:=r;rfl
 |ref _=>cases r;rfl
 |ty _=>cases r;rfl
theorem RelV.inj {x y:V}{u:Value} (r:RelV x u) (q:RelV y u):x=y:=Ayk (r.abs.symm.trans q.abs)
theorem Vals.inj:∀ {xs ys:List V}{us:List Value},Vals xs us->Vals ys us->xs=ys
 |_,_,_,.nil,.nil=>rfl
 |_,_,_,.cons r t,.cons r' t'=>by rw[r.inj r',Vals.inj t t']
section
variable {X:Cx}{pins:List (Addr×Obj)}{σ:St}{H:Hp}{s:Shared}{a:Addr}{xs ys:List V}
theorem SqL.of {K:W.Frag} (h:H a=some (.lst xs)):SqL K H a xs:=.inl (.inl h)
inductive LstR (h:Heap) (a:Addr) (xs:List V):Prop where
 |mk (its:List Value) (r:Vals xs its) (p:PlainL h a its.toArray) (z:xs.length<=sizeLine)
inductive TupR (h:Heap) (a:Addr) (xs:List V):Prop where
 |mk (its:List Value) (r:Vals xs its) (p:IsTup h a its.toArray) (z:xs.length<=sizeLine)
theorem Inv.list (I:Inv X pins σ H s) (h:SqL X.K H a xs):LstR s.heap a xs:=by
 rcases h with h|⟨o,its,n,hk,hc,hd,hs,hz,r⟩
 ·obtain⟨z,its,n,r,e⟩:=h.ok I.hok
  exact⟨its,r,⟨_,n,e,rfl,rfl,rfl⟩,z⟩
 ·refine⟨its.toList,r,⟨o,n,I.kIn a o hk,hc,hd,by simpa using hs⟩,?_⟩
  have e:=r.length
  simp only[Azo] at e
  lia
theorem Inv.tuple (I:Inv X pins σ H s) (h:SqT X.K H a xs):TupR s.heap a xs:=by
 rcases h with h|⟨o,its,n,hk,hc,hs,hz,r,_⟩
 ·obtain⟨z,its,r,p⟩:=h.ok I.hok
  exact⟨its,r,p.is,z⟩
 ·refine⟨its.toList,r,⟨o,I.kIn a o hk,hc,n,by simpa using hs⟩,?_⟩
  have e:=r.length
  simp only[Azo] at e
  lia
inductive TupRD (h:Heap) (a:Addr) (xs:List V):Prop where
 |mk (its:List Value) (r:Vals xs its) (p:TupD h a its.toArray) (z:xs.length<=sizeLine)
theorem Inv.tupleD (I:Inv X pins σ H s) (h:SqT X.K H a xs):TupRD s.heap a xs:=by
 rcases h with h|⟨o,its,n,hk,hc,hs,hz,r,hd⟩
 ·obtain⟨z,its,r,p⟩:=h.ok I.hok
  exact⟨its,r,p,z⟩
 ·refine⟨its.toList,r,⟨o,I.kIn a o hk,hc,n,by simpa using hs,hd⟩,?_⟩
  have e:=r.length
  simp only[Azo] at e
  lia
theorem Inv.list_inj (I:Inv X pins σ H s) (h:SqL X.K H a xs) (h':SqL X.K H a ys):xs=ys:=by
 obtain⟨its,r,⟨o,n,e,_,_,d⟩,_⟩:=I.list h
 obtain⟨its',r',⟨o',n',e',_,_,d'⟩,_⟩:=I.list h'
 rw[e] at e';cases e'
 rw[d] at d'
 injection d' with d1 _
 have:its=its':=by simpa using Ay9 Array.toList d1
 subst this
 exact r.inj r'
theorem Inv.tuple_inj (I:Inv X pins σ H s) (h:SqT X.K H a xs) (h':SqT X.K H a ys):xs=ys:=by
 obtain⟨its,r,⟨o,e,_,n,d⟩,_⟩:=I.tuple h
 obtain⟨its',r',⟨o',e',_,n',d'⟩,_⟩:=I.tuple h'
 rw[e] at e';cases e'
 rw[d] at d'
 injection d' with d1 _
 have:its=its':=by simpa using Ay9 Array.toList d1
 subst this
 exact r.inj r'
end
abbrev Cx.wish (X:Cx) (E:Value->Shared->Prop):Cx:={ X with xe:=E }
abbrev Cx.nox (X:Cx):Cx:=X.wish fun _ _=>False
theorem Cx.Ok.wish {X:Cx} (ok:X.Ok) (E:Value->Shared->Prop):(X.wish E).Ok :=
 ⟨ok.mod,ok.kind,ok.glob,ok.blt,ok.above,ok.inj,ok.has,ok.cab,ok.hd,ok.frames,ok.stk,ok.exf,ok.bs,ok.bsz,ok.noex,ok.exfs,ok.funs,ok.frf⟩
theorem Cx.Ok.unwish {X:Cx}{E:Value->Shared->Prop} (ok:(X.wish E).Ok):X.Ok :=
 ⟨ok.mod,ok.kind,ok.glob,ok.blt,ok.above,ok.inj,ok.has,ok.cab,ok.hd,ok.frames,ok.stk,ok.exf,ok.bs,ok.bsz,ok.noex,ok.exfs,ok.funs,ok.frf⟩
section
variable {X:Cx}{pins:List (Addr×Obj)}{σ:St}{H:Hp}{s:Shared}{E:Value->Shared->Prop}
theorem Inv.wish (I:Inv X pins σ H s) (E:Value->Shared->Prop):Inv (X.wish E) pins σ H s:=⟨I.ok.wish E,I.os,I.bare,I.base,I.loc,I.cell,I.free,I.freeC,I.pin,I.hok,I.len⟩
theorem Inv.unwish (I:Inv (X.wish E) pins σ H s):Inv X pins σ H s:=⟨I.ok.unwish,I.os,I.bare,I.base,I.loc,I.cell,I.free,I.freeC,I.pin,I.hok,I.len⟩
theorem SP.unwish {D:Ends}{f:Flow}{s':Shared} (h:SP (X.wish E) pins D f s'):SP X pins D f s':=by
 cases f with
 |next=>obtain⟨σ',H',I,q⟩:=h;exact⟨σ',H',I.unwish,q⟩
 |brk=>obtain⟨σ',H',I,q⟩:=h;exact⟨σ',H',I.unwish,q⟩
 |cont=>obtain⟨σ',H',I,q⟩:=h;exact⟨σ',H',I.unwish,q⟩
 |ret u=>obtain⟨v,σ',H',I,r,q⟩:=h;exact⟨v,σ',H',I.unwish,r,q⟩
theorem PSs.nox {st:List Stmt}{t:TS} (h:PSs X.nox st t):PSs X st t:=fun pins s σ H D I hw =>
 Ay2 (h pins s σ H D (I.wish _) hw) (fun _ _ q=>q.unwish) fun _ _ z=>False.elim z
end
section
variable {X:Cx}{st:Stmt}{rest:List Stmt}{t u:TS}{e:Expr}{te:TE}{pos:Pos}
noncomputable def Auz:TS:=fun D σ H=>D.nx σ H
noncomputable def Avm (t u:TS):TS:=fun D σ H=>t { D with nx:=u D } σ H
theorem Akm:PSs X [] Auz:=fun _ _ σ H _ I h=>wpAny_execs_nil ⟨σ,H,I,h⟩
theorem Adz (h1:PS X st t) (h2:PSs X rest u):PSs X (st::rest) (Avm t u):=by
 intro pins s σ H D I h
 refine wpAny_execs_cons (thn (h1 pins s σ H { D with nx:=u D } I h) fun f s1 q=>?_)
 cases f with
 |next =>
  obtain⟨σ',H',I',q⟩:=q
  exact h2 pins s1 σ' H' D I' q
 |ret v=>exact q
 |brk=>exact q
 |cont=>exact q
theorem Akn (h1:PS X st t):PSs X [st] t:=by
 intro pins s σ H D I h
 refine wpAny_execs_cons (thn (h1 pins s σ H D I h) fun f s1 q=>?_)
 cases f with
 |next=>exact wpAny_execs_nil q
 |ret v=>exact q
 |brk=>exact q
 |cont=>exact q
theorem Inv.quiet {pins:List (Addr×Obj)}{σ:St}{H:Hp}{s:Shared} (I:Inv X pins σ H s):interactive X.env=false:=by simp[interactive,I.ok.kind]
noncomputable def Auy (te:TE):TS:=fun D σ H=>te σ H fun _ H1=>D.nx σ H1
theorem Tc (he:PE X e te) (hs:swapsWith e none pos.line X.env=pure false:=by rfl):PS X (.Expr e pos) (Auy te):=by
 intro pins s σ H D I h
 exact wpAny_Expr_any (thn (he pins s σ H _ I h) fun v s1 ⟨x,H1,I1,r1,q1⟩=>⟨σ,H1,I1,q1⟩) I.quiet hs
noncomputable def Axb (te:TE):TS:=fun D σ H=>te σ H D.rt
theorem Z3 (he:PE X e te):PS X (.Return (some e) pos) (Axb te):=by
 intro pins s σ H D I h
 exact wpAny_Return_some (thn (he pins s σ H _ I h) fun v s1 ⟨x,H1,I1,r1,q1⟩=>⟨x,σ,H1,I1,r1,q1⟩)
noncomputable def Aw7 (c:TT) (t u:TS):TS:=fun D σ H=>c σ H fun b H1=>if b=true then t D σ H1 else u D σ H1
theorem Aqq {c:Expr}{a b:List Stmt}{tc:TT} (hc:PT X c tc) (ha:PSs X a t) (hb:PSs X b u):PS X (.If c a b pos) (Aw7 tc t u):=by
 intro pins s σ H D I h
 refine wpAny_If (thn (hc pins s σ H _ I h) fun d s1 ⟨H1,I1,q1⟩=>?_)
 cases d with
 |true=>exact ha pins s1 σ H1 D I1 q1
 |false=>exact hb pins s1 σ H1 D I1 q1
end
abbrev TG:=V->St->Hp->(St->Hp->Prop)->Prop
abbrev TGs:=List V->St->Hp->(St->Hp->Prop)->Prop
def PG (X:Cx) (target:Expr) (t:TG):Prop :=
 ∀ (pins:List (Addr×Obj)) (s:Shared) (σ:St) (H:Hp) (v:V) (u:Value) (Q:St->Hp->Prop),Inv X pins σ H s->RelV v u->t v σ H Q ->
  wpAny (model X.prog X.w) X.A (assign target X.env u) (fun _ s'=>∃ σ' H',Inv X pins σ' H' s'/\Q σ' H') X.xe s
def PGs (X:Cx) (ts:List Expr) (t:TGs):Prop :=
 ∀ (pins:List (Addr×Obj)) (s:Shared) (σ:St) (H:Hp) (vs:List V) (us:List Value) (Q:St->Hp->Prop),Inv X pins σ H s->Vals vs us->t vs σ H Q ->
  wpAny (model X.prog X.w) X.A (assignInOrder ((assignEach ts X.env).map (·.2)) us) (fun _ s'=>∃ σ' H',Inv X pins σ' H' s'/\Q σ' H') X.xe s
abbrev Asd:=V->V->V->Hp->(Hp->Prop)->Prop
def Au6 (X:Cx) (t:Asd):Prop :=
 ∀ (pins:List (Addr×Obj)) (s:Shared) (σ:St) (H:Hp) (o i v:V) (ov iv u:Value) (Q:Hp->Prop),Inv X pins σ H s->RelV o ov->RelV i iv->RelV v u->t o i v H Q ->
  wpAny (model X.prog X.w) X.A (setItem ov iv u) (fun _ s'=>∃ H',Inv X pins σ H' s'/\Q H') X.xe s
section
variable {X:Cx}{pos:Pos}
noncomputable def Vm (i:Nat):TG:=fun v σ H Q=>Q (σ.set i (some v)) H
theorem Aj5 {i:Nat}{x:Str} (hN:X.N.Nodup) (hi:X.N[i]?=some x) (hx:Loc X.env.scope x) (hf:X.fn x=true\/X.env.scope.names.lookup x=some .local:=by first|exact .inl rfl|exact .inr rfl|assumption):PG X (.Name x pos) (Vm i):=by
 intro pins s σ H v u Q I r h
 exact wpAny_assign_Name (U2 I hN hi hx r (fun s' I'=>⟨_,H,I',h⟩) hf)
noncomputable def Awy:TGs:=fun vs σ H Q=>vs=[]/\Q σ H
noncomputable def Atw (t:TG) (u:TGs):TGs:=fun vs σ H Q=>∃ v r,vs=v::r/\t v σ H fun σ' H'=>u r σ' H' Q
theorem Aj7:PGs X [] Awy:=by
 intro pins s σ H vs us Q I r h
 obtain⟨e,h⟩:=h
 subst e
 cases r
 exact assignInOrder_nil ⟨σ,H,I,h⟩
theorem Adl {e:Expr}{es:List Expr}{t:TG}{u:TGs} (h1:PG X e t) (h2:PGs X es u)
  (hs:(assignEach (e::es) X.env).map (·.2)=assign e X.env::(assignEach es X.env).map (·.2):=by rfl):PGs X (e::es) (Atw t u):=by
 intro pins s σ H vs us Q I r h
 obtain⟨v,vr,e1,h⟩:=h
 subst e1
 cases r with
 |cons r rr =>
  rw[hs]
  refine assignInOrder_cons (thn (h1 pins s σ H _ _ _ I r h) fun _ s1 ⟨σ1,H1,I1,q1⟩=>?_)
  exact h2 pins s1 σ1 H1 _ _ Q I1 rr q1
noncomputable def Aw0 (K:W.Frag) (n:Nat) (t:TGs):TG:=fun v σ H Q=>∃ a xs,v=.ref a/\SqT K H a xs/\xs.length=n/\t xs σ H Q
theorem Aqo {es:List Expr}{k:Nat}{t:TGs}{n:Nat} (hc:X.calm=true) (h:PGs X es t)
  (hn:(assignEach es X.env).length=n:=by rfl) (hst:(assignEach es X.env).findIdx? (·.1)=none:=by rfl):PG X (.Tuple es k pos) (Aw0 X.K n t):=by
 intro pins s σ H v u Q I r hw
 obtain⟨a,xs,e1,hq,hl,hw⟩:=hw
 subst e1
 cases r
 obtain⟨its,rv,ht,hz⟩:=I.tuple hq
 refine assign_Tuple_tuple (I.ok.hd hc) ht (by simp[hn,<- hl,rv.length]) hst fun h' hx=>?_
 have I1:Inv X pins σ H { s with heap:=h' }:=I.kept (t':=s.toks) fun b o e=>hx b o (Ax5 (Axm e)) e
 exact h pins _ σ H xs _ Q I1 (by simpa using rv) hw
noncomputable def Awz (to ti:TE) (t:Asd):TG:=fun v σ H Q=>to σ H fun o H1=>ti σ H1 fun i H2=>t o i v H2 fun H3=>Q σ H3
theorem Afx {o i:Expr}{to ti:TE}{t:Asd} (ho:PE X o to) (hi:PE X i ti) (hs:Au6 X t)
  (ha:∀ v,assign (.Subscript o i pos) X.env v=(do
   let ov <- holding [v] (eval o X.env)
   let iv <- holding [v,ov] (eval i X.env)
   standAt pos
   holding [v,ov,iv] (setItem ov iv v)
   release [v,ov,iv] []):=by intro _;rfl):PG X (.Subscript o i pos) (Awz to ti t):=by
 intro pins s σ H v u Q I r h
 rw[ha]
 refine Axh (Ay5 (thn (ho pins s σ H _ I h) fun ov s1 ⟨x,H1,I1,r1,q1⟩=>?_))
 refine Axh (Ay5 (thn (hi pins s1 σ H1 _ I1 q1) fun iv s2 ⟨y,H2,I2,r2,q2⟩=>?_))
 refine Axh (wpAny_standAt (Axh (Ay5 (thn (hs pins s2 σ H2 x y v ov iv u _ I2 r1 r2 r q2) fun _ s3 ⟨H3,I3,q3⟩=>?_))))
 exact wpAny_release ⟨σ,H3,I3,q3⟩
noncomputable def Aly (te:TE) (g:TG):TS:=fun D σ H=>te σ H fun x H1=>g x σ H1 D.nx
theorem Uq {tg e:Expr}{te:TE}{g:TG} (he:PE X e te) (hg:PG X tg g) (hs:swapsWithSole [tg] e pos.line X.env=pure false:=by rfl) (hw:swappedStores [tg] e X.env=pure none:=by rfl)
  (h1:(assignEach [tg] X.env).map (·.2)=[assign tg X.env]:=by rfl):PS X (.Assign [tg] e pos) (Aly te g):=by
 intro pins s σ H D I h
 refine wpAny_Assign_stores (thn (he pins s σ H _ I h) fun v s1 ⟨x,H1,I1,r1,q1⟩=>?_) hs hw
 rw[h1]
 exact thn (hg pins s1 σ H1 x v _ I1 r1 q1) fun _ s2 q=>q
theorem Z4 {i:Nat}{x:Str}{e:Expr}{te:TE}{pos':Pos} (hN:X.N.Nodup) (hi:X.N[i]?=some x) (hx:Loc X.env.scope x) (he:PE X e te) (hs:swapsWith e (some (.Name x pos')) pos.line X.env=pure false:=by rfl) (hf:X.fn x=true\/X.env.scope.names.lookup x=some .local:=by first|exact .inl rfl|exact .inr rfl|assumption) :
  PS X (.Assign [.Name x pos'] e pos) (Aly te (Vm i)):=by
 intro pins s σ H D I h
 refine wpAny_Assign_Name (thn (he pins s σ H _ I h) fun v s1 ⟨y,H1,I1,r1,q1⟩=>?_) hs
 exact U2 I1 hN hi hx r1 (fun s2 I2=>⟨_,H1,I2,q1⟩) hf
end
section
variable {X:Cx}{pos:Pos}
noncomputable def Aro (c:TT) (tb:TS):TS:=fun D σ H=>∃ W:Nat->St->Hp->Prop,(∃ m,W m σ H)/\∀ m σ H,W m σ H ->
 c σ H fun b H1=>if b=true then ∃ N:St->Hp->Prop,(∀ σ' H',N σ' H'->∃ m',m' < m/\W m' σ' H')/\tb { D with nx:=N,ct:=N,bk:=D.nx } σ H1 else D.nx σ H1
theorem Adr {c:Expr}{body:List Stmt}{tc:TT}{tb:TS} (hp:PassesOwn (model X.prog X.w) X.A X.env X.xe) (hc:PT X c tc) (hb:PSs X body tb):PS X (.While c body [] pos) (Aro tc tb):=by
 intro pins s σ H D I h
 obtain⟨W,⟨m0,w0⟩,turn⟩:=h
 refine wpAny_While (codeAny_whileLoop (fun n s'=>∃ σ' H',Inv X pins σ' H' s'/\W n σ' H') ?_ m0 ⟨σ,H,I,w0⟩)
 rintro n s1 ⟨σ1,H1,I1,w1⟩
 refine Azm hp (thn (hc pins s1 σ1 H1 _ I1 (turn n σ1 H1 w1)) fun b s2 ⟨H2,I2,q2⟩=>?_)
 cases b with
 |true =>
  obtain⟨N,hN,q2⟩:=q2
  rw[Axv rfl]
  refine Azm hp (thn (hb pins s2 σ1 H2 _ I2 q2) fun f s3 q3=>?_)
  cases f with
  |next =>
   obtain⟨σ3,H3,I3,n3⟩:=q3
   obtain⟨m',hm,w3⟩:=hN σ3 H3 n3
   exact⟨m',hm,σ3,H3,I3,w3⟩
  |cont =>
   obtain⟨σ3,H3,I3,n3⟩:=q3
   obtain⟨m',hm,w3⟩:=hN σ3 H3 n3
   exact⟨m',hm,σ3,H3,I3,w3⟩
  |brk=>exact q3
  |ret v=>exact q3
 |false =>
  rw[Axy Ax8]
  exact wpAny_execs_nil ⟨σ1,H2,I2,q2⟩
end
structure It where
 go:Nat->Hp->Prop
 yld:Nat->Hp->V->Hp->Prop
 stop:Nat->Hp->Prop
def Abj (X:Cx) (pins:List (Addr×Obj)) (H:Hp) (b:Addr):Prop :=
 H b=none/\b≠X.env.locals/\b∉X.fs/\(b∈X.ex\/X.s₀.heap.objs.size<=b)/\(∀ x c,X.env.cells.lookup x=some c->c≠b)/\∀ p∈X.pn++pins,p.1≠b
theorem Inv.fpOk {X:Cx}{pins:List (Addr×Obj)}{σ:St}{H H':Hp}{s:Shared}{b:Addr} (I:Inv X pins σ H s) (hb:s.heap.objs.size<=b) (hn:H' b=none):Abj X pins H' b:=by
 refine⟨hn,Ayu (Ax0 I.lt hb),I.nofs hb,.inr (Ax7 I.sz hb),fun x c e z=>?_,fun p hp z=>?_⟩
 ·obtain⟨v,q⟩:=I.cell x c e
  exact absurd (Ax0 q.lt (by rw[z];exact hb)) (Ayd _)
 ·exact absurd (Ax0 (Axm (I.pin p hp).1) (by rw[z];exact hb)) (Ayd _)
structure Turn (P:Program) (w:World) (K:W.Frag) (tg:Expr) (J:It) (fp:List Addr) (it:Addr) (tn:Nat->Heap->Prop):Prop where
 mem:it∈fp
 obj:∀ i h,tn i h->∀ b∈fp,∃ o,h.get? b=some o/\∀ v,o.data≠.cell v
 keep:∀ i h h',tn i h->(∀ b∈fp,∀ o,h.get? b=some o->h'.get? b=some o)->tn i h'
 item:∀ (X:Cx),X.prog=P->X.w=w->X.K=K->X.calm=true->∀ (i:Nat) (pins:List (Addr×Obj)) (s:Shared) (σ:St) (H:Hp) (E:Value->Shared->Prop),Inv X pins σ H s->(∀ b∈fp,Abj X pins H b)->tn i s.heap->J.go i H ->
  wpAny (model P w) X.A (pyNext (.ref it)) (fun r s1=>∃ u,r=some u /\
   wpAny (model P w) X.A (letOwnedTupleGo tg (.ref it) u) (fun _ s2=>∃ x H',Inv X pins σ H' s2/\RelV x u/\J.yld i H x H'/\tn (i+1) s2.heap/\∀ b∈fp,H' b=none) E s1) E s
 done:∀ (X:Cx),X.prog=P->X.w=w->X.K=K->X.calm=true->∀ (i:Nat) (pins:List (Addr×Obj)) (s:Shared) (σ:St) (H:Hp) (E:Value->Shared->Prop),Inv X pins σ H s->(∀ b∈fp,Abj X pins H b)->tn i s.heap->J.stop i H ->
  wpAny (model P w) X.A (pyNext (.ref it)) (fun r s1=>r=none/\Inv X pins σ H s1) E s
 self:∀ (A:Around) (i:Nat) (s:Shared) (Q:Value->Shared->Prop) (E:Value->Shared->Prop),tn i s.heap->Q (.ref it) s->wpAny (model P w) A (pyIter (.ref it)) Q E s
abbrev TI:=St->Hp->(It->Hp->Prop)->Prop
def PIE (X:Cx) (pins:List (Addr×Obj)) (σ:St) (tg:Expr) (R:It->Hp->Prop) (itv:Value) (s2:Shared):Prop :=
 ∃ (it:Addr) (fp:List Addr) (tn:Nat->Heap->Prop) (J:It) (H':Hp),itv=.ref it/\Inv X pins σ H' s2/\Turn X.prog X.w X.K tg J fp it tn/\tn 0 s2.heap/\(∀ b∈fp,Abj X pins H' b)/\R J H'
def PI (X:Cx) (tg iter:Expr) (wi:TI):Prop :=
 ∀ (pins:List (Addr×Obj)) (s:Shared) (σ:St) (H:Hp) (R:It->Hp->Prop),Inv X pins σ H s->wi σ H R ->
  wpAny (model X.prog X.w) X.A (eval iter X.env) (fun v s1=>wpAny (model X.prog X.w) X.A (pyIter v) (PIE X pins σ tg R) X.xe s1) X.xe s
theorem Yl {M:Model}{A:Around}{E:Value->Shared->Prop}{s:Shared}{tg:Expr}{it:Addr}{u:Value}{o:Obj}{n:String}{vs:Array Value}{Q:Unit->Shared->Prop} (ho:s.heap.get? it=some o) (hc:o.cls=.type n) (hd:o.data=.fields vs)
  (hn:["enumerate","zip","dict_itemiterator","dict_reverseitemiterator","odict_iterator","itertools.zip_longest","itertools.pairwise"].contains n=false) (hQ:Q () s):wpAny M A (letOwnedTupleGo tg (.ref it) u) Q E s:=by
 unfold letOwnedTupleGo
 cases tg<;>first
  |exact Axo hQ
  |(cases u<;>first
    |exact Axo hQ
    |(refine Axh (wpAny_load ho ?_)
      rw[hc,hd]
      show wpAny M A (if (["enumerate","zip","dict_itemiterator","dict_reverseitemiterator","odict_iterator","itertools.zip_longest","itertools.pairwise"].contains n&&vs[0]? == some (rawInt _))=true then _ else _) Q E s
      rw[Axy (by intro h;rw[hn,Bool.false_and] at h;cases h)]
      exact Axo hQ))
noncomputable def Itl (K:W.Frag) (a:Addr):It :=
 ⟨fun i H=>∃ xs x,SqL K H a xs/\xs[i]?=some x,fun i H x H'=>H'=H/\∀ xs,SqL K H a xs->xs[i]?=some x,fun i H=>∃ xs,SqL K H a xs/\xs.length<=i⟩
noncomputable def Itt (K:W.Frag) (a:Addr):It :=
 ⟨fun i H=>∃ xs x,SqT K H a xs/\xs[i]?=some x,fun i H x H'=>H'=H/\∀ xs,SqT K H a xs->xs[i]?=some x,fun i H=>∃ xs,SqT K H a xs/\xs.length<=i⟩
noncomputable def Itr (lo:Int) (n:Nat):It:=⟨fun i _=>i < n,fun i H x H'=>H'=H/\x=.int (lo+i),fun i _=>n<=i⟩
theorem Aa6 {P:Program}{w:World}{K:W.Frag}{tg:Expr} (a it:Addr):Turn P w K tg (Itl K a) [it] it (fun i h=>h.IsListIter it a i) where
 mem:=by simp
 obj:=fun i h st b hb=>by
  have e:b=it:=by simpa using hb
  subst e
  obtain⟨o,e,c,d⟩:=st
  exact⟨o,e,fun v z=>by rw[d] at z;cases z⟩
 keep:=fun i h h' st k=>st.at fun o e=>k it (by simp) o e
 item:=by
  intro X hP hw hK hc i pins s σ H E I hf st hg
  subst hP hw hK
  obtain⟨xs,x,hq,hx⟩:=hg
  obtain⟨its,rv,p,hz⟩:=I.list hq
  obtain⟨u,hu,ru⟩:=rv.get hx
  obtain⟨f0,f1,f2,f3,f4,f5⟩:=hf it (by simp)
  refine wpAny_pyNext_list_item st p.isList (x:=u) (by simpa using hu) fun h' st' sb=>?_
  have I1:Inv X pins σ H { s with heap:=h' }:=I.turned (t':=s.toks) (fun b o hb e=>(sb.2 b hb).trans e) f0 f1 f3 f4 f5
  obtain⟨o,e,c,d⟩:=id st'
  exact⟨u,rfl,Yl (s:={ s with heap:=h' }) e c d (by decide) ⟨x,H,I1,ru,⟨rfl,fun ys hy=>by rw[I.list_inj hy hq];exact hx⟩,st',fun b hb=>(hf b hb).1⟩⟩
 done:=by
  intro X hP hw hK hc i pins s σ H E I hf st hg
  subst hP hw hK
  obtain⟨xs,hq,hx⟩:=hg
  obtain⟨its,rv,p,hz⟩:=I.list hq
  obtain⟨f0,f1,f2,f3,f4,f5⟩:=hf it (by simp)
  have hl:=rv.length
  exact wpAny_pyNext_list_end (I.ok.hd hc) st p.isList (by simp;lia) fun h' eb=>⟨rfl,I.turned (t':=s.toks) (fun b o hb e=>eb b o hb e) f0 f1 f3 f4 f5⟩
 self:=fun _ _ _ _ _ st h=>wpAny_pyIter_listiter st h
theorem Xi {P:Program}{w:World}{K:W.Frag}{tg:Expr} (a it:Addr):Turn P w K tg (Itt K a) [it] it (fun i h=>h.IsTupleIter it a i) where
 mem:=by simp
 obj:=fun i h st b hb=>by
  have e:b=it:=by simpa using hb
  subst e
  obtain⟨o,e,c,d⟩:=st
  exact⟨o,e,fun v z=>by rw[d] at z;cases z⟩
 keep:=fun i h h' st k=>st.at fun o e=>k it (by simp) o e
 item:=by
  intro X hP hw hK hc i pins s σ H E I hf st hg
  subst hP hw hK
  obtain⟨xs,x,hq,hx⟩:=hg
  obtain⟨its,rv,p,hz⟩:=I.tuple hq
  obtain⟨u,hu,ru⟩:=rv.get hx
  obtain⟨f0,f1,f2,f3,f4,f5⟩:=hf it (by simp)
  refine wpAny_pyNext_tuple_item st (show s.heap.IsTuple a its.toArray from p) (x:=u) (by simpa using hu) fun h' st' sb=>?_
  have I1:Inv X pins σ H { s with heap:=h' }:=I.turned (t':=s.toks) (fun b o hb e=>(sb.2 b hb).trans e) f0 f1 f3 f4 f5
  obtain⟨o,e,c,d⟩:=id st'
  exact⟨u,rfl,Yl (s:={ s with heap:=h' }) e c d (by decide) ⟨x,H,I1,ru,⟨rfl,fun ys hy=>by rw[I.tuple_inj hy hq];exact hx⟩,st',fun b hb=>(hf b hb).1⟩⟩
 done:=by
  intro X hP hw hK hc i pins s σ H E I hf st hg
  subst hP hw hK
  obtain⟨xs,hq,hx⟩:=hg
  obtain⟨its,rv,p,hz⟩:=I.tuple hq
  obtain⟨f0,f1,f2,f3,f4,f5⟩:=hf it (by simp)
  have hl:=rv.length
  exact wpAny_pyNext_tuple_end (I.ok.hd hc) st (show s.heap.IsTuple a its.toArray from p) (by simp;lia) fun h' eb=>⟨rfl,I.turned (t':=s.toks) (fun b o hb e=>eb b o hb e) f0 f1 f3 f4 f5⟩
 self:=fun _ _ _ _ _ st h=>wpAny_pyIter_tupleiter st h
theorem Xh {P:Program}{w:World}{K:W.Frag}{tg:Expr} (it:Addr) (lo:Int) (n:Nat):Turn P w K tg (Itr lo n) [it] it (fun i h=>IsRangeIter h it (lo+(i:Nat) * 1) ((n:Int) - (i:Nat)) 1) where
 mem:=by simp
 obj:=fun i h st b hb=>by
  have e:b=it:=by simpa using hb
  subst e
  exact⟨_,st,fun v z=>by
   have z':Data.fields _=Data.cell v:=z
   cases z'⟩
 keep:=fun i h h' st k=>k it (by simp) _ st
 item:=by
  intro X hP hw hK hc i pins s σ H E I hf st hg
  subst hP hw hK
  obtain⟨f0,f1,f2,f3,f4,f5⟩:=hf it (by simp)
  have W:=Walks.range (prog:=X.prog) (w:=X.w) (I.ok.hd hc) it lo 1 n
  refine W.item i s _ _ hg st fun v h' tk hv st' kk=>?_
  obtain⟨t,rfl⟩:=hv
  have I1:Inv X pins σ H { s with heap:=h',toks:=tk }:=I.turned (fun b o hb e=>kk b o (by simpa using hb) e) f0 f1 f3 f4 f5
  refine⟨_,rfl,Yl (s:={ s with heap:=h',toks:=tk }) (n:="range_iterator") st' rfl rfl (by decide) ⟨.int (lo+i),H,I1,⟨t,?_⟩,⟨rfl,rfl⟩,st',fun b hb=>(hf b hb).1⟩⟩
  rw[Int.mul_one]
 done:=by
  intro X hP hw hK hc i pins s σ H E I hf st hg
  subst hP hw hK
  obtain⟨f0,f1,f2,f3,f4,f5⟩:=hf it (by simp)
  exact wpAny_pyNext_range_end (I.ok.hd hc) st (by have:n<=i:=hg;lia) fun h' eb=>⟨rfl,I.turned (t':=s.toks) (fun b o hb e=>eb b o hb e) f0 f1 f3 f4 f5⟩
 self:=fun _ _ _ _ _ st h=>wpAny_pyIter_rangeiter st h
section
variable {X:Cx}{tg:Expr}
theorem Ad6 {pins:List (Addr×Obj)}{σ:St}{H:Hp}{s:Shared}{R:It->Hp->Prop}{E:Value->Shared->Prop}{lo hi:Int}{t u v:Tok}{tk:Nat} (I:Inv X pins σ H s) (h1:-(2 ^ 62)<=lo) (h2:lo < 2 ^ 62) (h3:-(2 ^ 62)<=hi) (h4:hi < 2 ^ 62)
  (q:R (Itr lo (hi - lo).toNat) H):wpAny (model X.prog X.w) X.A (pyIter (.ref s.heap.objs.size)) (PIE X pins σ tg R) E { s with heap:=s.heap.push { cls:=.type "range",data:=.fields #[.int lo t,.int hi u,.int 1 v] },toks:=tk }:=by
 refine wpAny_pyIter_range (IsRange.new ..) (small_one h1 h2 h3 h4) ?_
 have I1:Inv X pins σ H { s with heap:=s.heap.push { cls:=.type "range",data:=.fields #[.int lo t,.int hi u,.int 1 v] },toks:=tk }:=I.kept fun b o e=>Axi _ e
 refine⟨(s.heap.push { cls:=.type "range",data:=.fields #[.int lo t,.int hi u,.int 1 v] }).objs.size,[(s.heap.push { cls:=.type "range",data:=.fields #[.int lo t,.int hi u,.int 1 v] }).objs.size],_,_,H,rfl,
  I1.kept (t':=tk) fun b o e=>Axi _ e,Xh _ lo (hi - lo).toNat,?_,fun b hb=>?_,q⟩
 ·have e1:lo+((0:Nat):Int) * 1=lo:=by simp
  have e2:(((hi - lo).toNat:Nat):Int) - ((0:Nat):Int)=Builtin.Range.rangeSize lo hi 1:=by rw[rangeSize_one];split<;>lia
  show IsRangeIter _ _ (lo+((0:Nat):Int) * 1) ((((hi - lo).toNat:Nat):Int) - ((0:Nat):Int)) 1
  rw[e1,e2]
  exact Axw _ rfl
 ·have e:b=(s.heap.push { cls:=.type "range",data:=.fields #[.int lo t,.int hi u,.int 1 v] }).objs.size:=by simpa using hb
  subst e
  exact I1.fpOk (Axu _) (I1.hok.fresh (Axu _))
def At6 (ta:TA):TI:=fun σ H R=>ta σ H fun vs H1=>∃ j:Int,vs=[.int j]/\-(2 ^ 62)<=j/\j < 2 ^ 62/\R (Itr 0 j.toNat) H1
theorem P0 {a:Expr}{ta:TA}{p pos:Pos} (hg:Gl X "range") (hm:X.mg "range"=none) (ha:PA X [a] ta) (hs:starEach [a] X.env=[(false,eval a X.env)]:=by rfl):PI X tg (.Call (.Name "range" p) [a] [] pos) (At6 ta):=by
 intro pins s σ H R I h
 refine Call_ (Dv I hg hm boot_range (PyProof.Rows.callWith_type1 (thn (ha pos pins s σ H _ I h) fun us s1 ⟨vs,H1,I1,r1,q1⟩=>?_) hs rfl))
 obtain⟨j,e,q1,q2,q⟩:=q1
 subst e
 cases r1 with
 |cons r rr =>
  cases rr
  obtain⟨t,rfl⟩:=r
  exact call_range_1 (Ad6 I1 (by lia) (by lia) q1 q2 (by simpa using q))
noncomputable def Aw6 (wi:TI) (g:TG) (tb:TS):TS:=fun D σ H=>wi σ H fun J H1=>∃ W:Nat->Nat->St->Hp->Prop,(∃ m,W 0 m σ H1)/\∀ i m σ H,W i m σ H ->
 (J.stop i H/\D.nx σ H)\/(J.go i H/\∃ N:St->Hp->Prop,(∀ σ' H',N σ' H'->∃ m',m' < m/\W (i+1) m' σ' H')/\∀ x H',J.yld i H x H'->g x σ H' fun σ2 H2=>tb { D with nx:=N,ct:=N,bk:=D.nx } σ2 H2)
noncomputable def M3 (fp:List Addr) (h:Heap):List (Addr×Obj):=fp.filterMap fun b=>(h.get? b).map fun o=>(b,o)
theorem E9 {fp:List Addr}{h:Heap}{b:Addr}{o:Obj} (hb:b∈fp) (e:h.get? b=some o):(b,o)∈M3 fp h:=List.mem_filterMap.mpr ⟨b,hb,by rw[e];rfl⟩
theorem Zi {fp:List Addr}{h:Heap}{p:Addr×Obj} (hp:p∈M3 fp h):p.1∈fp/\h.get? p.1=some p.2:=by
 obtain⟨b,hb,e⟩:=List.mem_filterMap.mp hp
 cases q:h.get? b with
 |none=>rw[q] at e;cases e
 |some o =>
  rw[q] at e
  have e':(b,o)=p:=Ayk e
  subst e'
  exact⟨hb,q⟩
theorem Inv.pinned {pins:List (Addr×Obj)}{σ:St}{H:Hp}{s:Shared}{fp:List Addr} (I:Inv X pins σ H s) (hf:∀ b∈fp,Abj X pins H b) (ho:∀ b∈fp,∃ o,s.heap.get? b=some o/\∀ v,o.data≠.cell v):Inv X (pins++M3 fp s.heap) σ H s :=
 I.pins_of fun p hp=>(List.mem_append.mp hp).elim (fun z=>I.pin p (Axj _ z)) fun z=>by
  obtain⟨hb,e⟩:=Zi z
  obtain⟨f0,f1,f2,_⟩:=hf p.1 hb
  obtain⟨o,e',d⟩:=ho p.1 hb
  rw[e] at e';cases e'
  exact⟨e,f0,f1,f2,d⟩
theorem Inv.unpinned {pins pl:List (Addr×Obj)}{σ:St}{H:Hp}{s:Shared} (I:Inv X (pins++pl) σ H s):Inv X pins σ H s:=I.pins_of fun p hp=>I.pin p (Axj _ (Aye _ hp))
theorem Afy {iter:Expr}{body:List Stmt}{wi:TI}{g:TG}{tb:TS}{pos:Pos} (hp:PassesOwn (model X.prog X.w) X.A X.env X.xe) (hc:X.calm=true) (hi:PI X tg iter wi) (hg:PG X tg g) (hb:PSs X body tb)
  (hs:∀ x,foldedSetIterable iter X.env x=pure x:=by intro _;rfl):PS X (.For tg iter body [] pos) (Aw6 wi g tb):=by
 intro pins s σ H D I h
 refine wpAny_For (thn (hi pins s σ H _ I h) fun v s1 h1=>thn h1 fun itv s2 h2=>?_) hs
 obtain⟨it,fp,tn,J,H2,e,I2,T,st2,f2,W,⟨m0,w0⟩,turn⟩:=h2
 subst e
 -- what stays true of the iterator's objects through the loop
 have stat:∀ {H':Hp},(∀ b∈fp,H' b=none)->∀ b∈fp,Abj X pins H' b:=fun hn b hb=>⟨hn b hb,(f2 b hb).2⟩
 refine codeAny_forLoop_any (fun n s'=>∃ i σ' H',Inv X pins σ' H' s'/\tn i s'.heap/\(∀ b∈fp,H' b=none)/\W i n σ' H') ?_ m0 ⟨0,σ,H2,I2,st2,fun b hb=>(f2 b hb).1,w0⟩
 rintro n s3 ⟨i,σ3,H3,I3,st3,fr3,w3⟩
 rcases turn i n σ3 H3 w3 with ⟨stop,qn⟩|⟨go,N,hN,step⟩
 ·refine Azm hp (thn (T.done X rfl rfl rfl hc i pins s3 σ3 H3 X.xe I3 (stat fr3) st3 stop) fun r s4 ⟨hr,I4⟩=>?_)
  subst hr
  exact wpAny_execs_nil ⟨σ3,H3,I4,qn⟩
 ·refine Azm hp (thn (T.item X rfl rfl rfl hc i pins s3 σ3 H3 X.xe I3 (stat fr3) st3 go) fun r s4 ⟨u,hr,h4⟩=>?_)
  subst hr
  refine Azm hp (thn h4 fun _ s5 ⟨x,H5,I5,r5,y5,st5,fr5⟩=>?_)
  have I5':=I5.pinned (stat fr5) (T.obj _ _ st5)
  refine Azm hp (thn (hg _ s5 σ3 H5 x u _ I5' r5 (step x H5 y5)) fun _ s6 ⟨σ6,H6,I6,q6⟩=>?_)
  refine Azm hp (thn (hb _ s6 σ6 H6 _ I6 q6) fun f s7 q7=>?_)
  have again:∀ {σ7:St}{H7:Hp},Inv X (pins++M3 fp s5.heap) σ7 H7 s7->N σ7 H7->∃ m,m < n/\∃ i σ' H',Inv X pins σ' H' s7/\tn i s7.heap/\(∀ b∈fp,H' b=none)/\W i m σ' H':=fun {σ7 H7} I7 n7=>by
   obtain⟨m',hm,w7⟩:=hN σ7 H7 n7
   refine⟨m',hm,i+1,σ7,H7,I7.unpinned,T.keep _ _ _ st5 fun b hb o e=>(I7.pin (b,o) (Axj _ (Axj _ (E9 hb e)))).1,fun b hb=>?_,w7⟩
   obtain⟨o,e,d⟩:=T.obj _ _ st5 b hb
   exact (I7.pin (b,o) (Axj _ (Axj _ (E9 hb e)))).2.1
  cases f with
  |next=>obtain⟨σ7,H7,I7,n7⟩:=q7;exact again I7 n7
  |cont=>obtain⟨σ7,H7,I7,n7⟩:=q7;exact again I7 n7
  |brk=>obtain⟨σ7,H7,I7,q7⟩:=q7;exact⟨σ7,H7,I7.unpinned,q7⟩
  |ret v=>obtain⟨x7,σ7,H7,I7,r7,q7⟩:=q7;exact⟨x7,σ7,H7,I7.unpinned,r7,q7⟩
end
abbrev R2:=V->V->Hp->VK->Prop
def OpR (X:Cx) (f:Value->Value->Sem Value) (r:R2):Prop :=
 ∀ (pins:List (Addr×Obj)) (s:Shared) (σ:St) (H:Hp) (x y:V) (v u:Value) (Q:VK),Inv X pins σ H s->RelV x v->RelV y u->r x y H Q ->
  wpAny (model X.prog X.w) X.A (f v u) (EP X pins σ Q) X.xe s
def Abi (X:Cx) (f:Value) (r:List V->Hp->VK->Prop):Prop :=
 ∀ (pins:List (Addr×Obj)) (s:Shared) (σ:St) (H:Hp) (xs:List V) (us:List Value) (Q:VK),Inv X pins σ H s->Vals xs us->r xs H Q ->
  wpAny (model X.prog X.w) X.A (call f us) (EP X pins σ Q) X.xe s
def Avo (X:Cx) (r:V->Hp->(Bool->Hp->Prop)->Prop):Prop :=
 ∀ (pins:List (Addr×Obj)) (s:Shared) (σ:St) (H:Hp) (x:V) (v:Value) (Q:Bool->Hp->Prop),Inv X pins σ H s->RelV x v->r x H Q ->
  wpAny (model X.prog X.w) X.A (truthy v) (TP X pins σ Q) X.xe s
noncomputable def tOp (r:R2) (ta tb:TE):TE:=fun σ H Q=>ta σ H fun x H1=>tb σ H1 fun y H2=>r x y H2 Q
noncomputable def rI (C:Int->Int->Prop) (g:Int->Int->V):R2:=fun x y H Q=>∃ i j,x=.int i/\y=.int j/\C i j/\Q (g i j) H
noncomputable def rI0 (g:Int->Int->V):R2:=fun x y H Q=>∃ i j,x=.int i/\y=.int j/\Q (g i j) H
section
variable {X:Cx}{a b c:Expr}{ta tb tc:TE}{pos:Pos}
theorem Arx (ha:PE X a ta) (hb:PE X b tb) {pins:List (Addr×Obj)}{s:Shared}{σ:St}{H:Hp}{R:V->V->Hp->Prop} (I:Inv X pins σ H s)
  (h:ta σ H fun x H1=>tb σ H1 fun y H2=>R x y H2) {Q:Value->Shared->Prop}{f:Value->Value->Sem Value}
  (hf:∀ v u s2 x y H2,Inv X pins σ H2 s2->RelV x v->RelV y u->R x y H2->wpAny (model X.prog X.w) X.A (f v u) Q X.xe s2) :
  wpAny (model X.prog X.w) X.A (eval a X.env) (fun v s₁=>wpAny (model X.prog X.w) X.A (eval b X.env) (fun u s₂=>wpAny (model X.prog X.w) X.A (f v u) Q X.xe s₂) X.xe s₁) X.xe s:=by
 refine thn (ha pins s σ H _ I h) fun v s1 ⟨x,H1,I1,r1,q1⟩=>?_
 refine thn (hb pins s1 σ H1 _ I1 q1) fun u s2 ⟨y,H2,I2,r2,q2⟩=>?_
 exact hf v u s2 x y H2 I2 r1 r2 q2
theorem Aun {op:Operator}{r:R2} (ho:OpR X (binaryOp op) r) (ha:PE X a ta) (hb:PE X b tb):PE X (.BinOp a op b pos) (tOp r ta tb):=by
 intro pins s σ H Q I h
 exact wpAny_BinOp (Arx ha hb I h fun v u s2 x y H2 I2 rx ry q=>ho pins s2 σ H2 x y v u Q I2 rx ry q)
theorem opI {f:Value->Value->Sem Value}{C:Int->Int->Prop}{g:Int->Int->Int}
  (rule:∀ (i j:Int) (t u:Tok) (s:Shared) (Q:Value->Shared->Prop) (E:Value->Shared->Prop),C i j->Q (.int (g i j) s.toks) { s with toks:=s.toks+1 }->wpAny (model X.prog X.w) X.A (f (.int i t) (.int j u)) Q E s) :
  OpR X f (rI C fun i j=>.int (g i j)):=by
 intro pins s σ H x y v u Q I rx ry h
 obtain⟨i,j,rfl,rfl,hc,q⟩:=h
 obtain⟨t,rfl⟩:=rx
 obtain⟨t',rfl⟩:=ry
 exact rule i j t t' s _ _ hc ⟨.int (g i j),H,I.tok _,⟨_,rfl⟩,q⟩
theorem Avb {f:Value->Value->Sem Value}{g:Int->Int->Int}
  (rule:∀ (i j:Int) (t u:Tok) (s:Shared) (Q:Value->Shared->Prop) (E:Value->Shared->Prop),Q (.int (g i j) s.toks) { s with toks:=s.toks+1 }->wpAny (model X.prog X.w) X.A (f (.int i t) (.int j u)) Q E s) :
  OpR X f (rI0 fun i j=>.int (g i j)):=by
 intro pins s σ H x y v u Q I rx ry h
 obtain⟨i,j,rfl,rfl,q⟩:=h
 obtain⟨t,rfl⟩:=rx
 obtain⟨t',rfl⟩:=ry
 exact rule i j t t' s _ _ ⟨.int (g i j),H,I.tok _,⟨_,rfl⟩,q⟩
theorem Ava {f:Value->Value->Sem Value}{g:Int->Int->Bool}
  (rule:∀ (i j:Int) (t u:Tok) (s:Shared) (Q:Value->Shared->Prop) (E:Value->Shared->Prop),Q (.bool (g i j)) s->wpAny (model X.prog X.w) X.A (f (.int i t) (.int j u)) Q E s) :
  OpR X f (rI0 fun i j=>.bl (g i j)):=by
 intro pins s σ H x y v u Q I rx ry h
 obtain⟨i,j,rfl,rfl,q⟩:=h
 obtain⟨t,rfl⟩:=rx
 obtain⟨t',rfl⟩:=ry
 exact rule i j t t' s _ _ ⟨.bl (g i j),H,I,rfl,q⟩
def Au4 (i j:Int):Prop:=0 < j/\j < 1073741824
def Au5 (i j:Int):Prop:=0<=j/\j<=1000000/\i.natAbs < 2 ^ 64
def CMul (i j:Int):Prop:=(-(2 ^ 64) < i/\i < 2 ^ 64)\/(-(2 ^ 64) < j/\j < 2 ^ 64)
theorem CMul.ok {i j:Int} (h:CMul i j):IntMulOk i j:=by
 rcases h with ⟨h1,h2⟩|⟨h1,h2⟩
 ·exact .of_left (intBits_le_64 h1 h2)
 ·exact .of_right (intBits_le_64 h1 h2)
theorem op_add:OpR X (binaryOp .Add) (rI0 fun i j=>.int (i+j)):=Avb fun _ _ _ _ _ _ _ q=>add_int q
theorem Apr:OpR X (binaryOp .Sub) (rI0 fun i j=>.int (i - j)):=Avb fun _ _ _ _ _ _ _ q=>sub_int q
theorem App:OpR X (binaryOp .Mult) (rI CMul fun i j=>.int (i * j)):=opI fun _ _ _ _ _ _ _ hc q=>mul_int q hc.ok
theorem Aji:OpR X (binaryOp .FloorDiv) (rI Au4 fun i j=>.int (i / j)):=opI fun i j _ _ _ _ _ hc q=>by
 have h1:(0:Int) < j:=hc.1
 have h2:j < 1073741824:=hc.2
 exact floordiv_int (by lia) (by rw[Int.fdiv_eq_ediv_of_nonneg i (by lia)];exact q) (.inl (PyProof.noPylong_small (by lia)))
theorem Apo:OpR X (binaryOp .Mod) (rI (fun _ j=>0 < j) fun i j=>.int (i % j)):=opI fun i j _ _ _ _ _ hc q=>by
 have h1:(0:Int) < j:=hc
 exact mod_int' (by lia) (by rw[Int.fmod_eq_emod_of_nonneg i (by lia)];exact q)
theorem Apq:OpR X (binaryOp .Pow) (rI Au5 fun i j=>.int (i ^ j.toNat)):=opI fun _ _ _ _ _ _ _ hc q=>pow_int_small hc.1 hc.2.1 hc.2.2 q
end
section
variable {X:Cx}{a b c:Expr}{ta tb tc:TE}{pos:Pos}
theorem Ae7 {pins:List (Addr×Obj)}{σ:St}{H:Hp}{s:Shared}{Q:VK}{k k':Bool} (I:Inv X pins σ H s) (q:Q (.bl k) H) (e:k=k'):EP X pins σ Q (.bool k') s:=by
 subst e
 exact⟨.bl k,H,I,rfl,q⟩
theorem op_lt:OpR X (compareOp .Lt) (rI0 fun i j=>.bl (decide (i < j))):=Ava fun _ _ _ _ _ _ _ q=>lt_int q
theorem Aug:OpR X (compareOp .Gt) (rI0 fun i j=>.bl (decide (j < i))):=Ava fun _ _ _ _ _ _ _ q=>gt_int q
theorem Zt:OpR X (compareOp .Lt) (fun x y H Q=>∃ i j,x=.str i/\y=.str j/\Q (.bl (decide (i.cps.toList < j.cps.toList))) H):=by
 intro pins s σ H x y v u Q I rx ry h
 obtain⟨i,j,rfl,rfl,q⟩:=h
 obtain⟨t,rfl⟩:=rx
 obtain⟨t',rfl⟩:=ry
 exact lt_str (Ae7 I q rfl)
theorem Afr:OpR X (compareOp .Is) (fun x y H Q=>y=.non/\Q (.bl (decide (x=.non))) H):=by
 intro pins s σ H x y v u Q I rx ry h
 obtain⟨rfl,q⟩:=h
 cases ry
 refine is_none_gen (Ae7 I q ?_)
 cases x<;>first
  |(cases rx;rfl)
  |(obtain⟨t,rfl⟩:=rx;rfl)
theorem OpR.or {f:Value->Value->Sem Value}{r r':R2} (h:OpR X f r) (h':OpR X f r'):OpR X f (fun x y H Q=>r x y H Q\/r' x y H Q):=by
 intro pins s σ H x y v u Q I rx ry q
 rcases q with q|q
 ·exact h pins s σ H x y v u Q I rx ry q
 ·exact h' pins s σ H x y v u Q I rx ry q
theorem Afj (b:Expr) {op:CmpOp} (h:op≠.In:=by decide) (h2:op≠.NotIn:=by decide):behindInMarks op b=false:=by
 have e1:(op == CmpOp.In)=false:=by cases op<;>first|rfl|exact absurd rfl h
 have e2:(op == CmpOp.NotIn)=false:=by cases op<;>first|rfl|exact absurd rfl h2
 cases b<;>simp[behindInMarks,e1,e2]
theorem Aj1 {op:CmpOp}{r:R2} (ho:OpR X (compareOp op) r) (ha:PE X a ta) (hb:PE X b tb) (hm:behindInMarks op b=false):PE X (.Compare a [op] [b] pos) (tOp r ta tb):=by
 intro pins s σ H Q I h
 exact wpAny_Compare1 (Arx ha hb I h fun v u s2 x y H2 I2 rx ry q=>ho pins s2 σ H2 x y v u Q I2 rx ry q) hm
noncomputable def Au1 (t:TE):TT:=fun σ H Q=>t σ H fun x H'=>∃ k,x=.bl k/\Q k H'
theorem Ako {op:CmpOp}{r:R2} (ho:OpR X (compareOp op) r) (ha:PE X a ta) (hb:PE X b tb) (hm:behindInMarks op b=false):PT X (.Compare a [op] [b] pos) (Au1 (tOp r ta tb)):=by
 intro pins s σ H Q I h
 refine wpAny_isTrue_Compare1 (thn (ha pins s σ H _ I h) fun v s1 ⟨x,H1,I1,r1,q1⟩=>thn (hb pins s1 σ H1 _ I1 q1) fun u s2 ⟨y,H2,I2,r2,q2⟩ =>
  thn (ho pins s2 σ H2 x y v u _ I2 r1 r2 q2) fun c s3 ⟨z,H3,I3,r3,k,e,q3⟩=>?_) hm
 subst e
 cases r3
 exact Aze ⟨H3,I3,q3⟩
def Arv (K:W.Frag) (x:V) (H:Hp) (k:Bool):Prop :=
 match x with
 |.non=>k=false
 |.bl b=>k=b
 |.int i=>k=(i != 0)
 |.str y=>y.length<=sizeLine/\k=((y.length:Int) != 0)
 |.byt y=>y.size<=sizeLine/\k=((y.size:Int) != 0)
 |.ref p=>(∃ xs,SqL K H p xs/\k=!xs.isEmpty)\/(∃ xs,SqT K H p xs/\k=!xs.isEmpty)\/∃ kvs,H p=some (.dK kvs)/\k=!kvs.isEmpty
 |_=>False
theorem Vp {κ:Type}{kvs:List (κ×V)}{vs:List (κ×Value)} (r:KV kvs vs):(!vs.isEmpty)=!kvs.isEmpty:=by
 cases r<;>rfl
theorem Ms {xs:List V}{its:List Value} (r:Vals xs its):(!its.toArray.isEmpty)=!xs.isEmpty:=by
 cases r<;>simp
theorem Mv:(sizeLine:Nat) < 2 ^ 63:=by rw[Ay3];decide
theorem Agu:Avo X (fun x H Q=>∃ k,Arv X.K x H k/\Q k H):=by
 intro pins s σ H x v Q I rx h
 obtain⟨k,e,q⟩:=h
 have hl:=Mv
 have hs:sizeLine=16777216:=Ay3
 cases x with
 |non =>
  cases rx
  have e':k=false:=e
  subst e'
  exact truthy_none ⟨H,I,q⟩
 |bl b =>
  cases rx
  have e':k=b:=e
  subst e'
  exact Aze ⟨H,I,q⟩
 |int i =>
  obtain⟨t,rfl⟩:=rx
  have e':k=(i != 0):=e
  subst e'
  exact PySem.P.truthy_int ⟨H,I,q⟩
 |str y =>
  obtain⟨t,rfl⟩:=rx
  obtain⟨hy,e'⟩:y.length<=sizeLine/\k=((y.length:Int) != 0):=e
  subst e'
  exact PySem.P.truthy_str (by lia) ⟨H,I.tok _,q⟩
 |byt y =>
  obtain⟨t,rfl⟩:=rx
  obtain⟨hy,e'⟩:y.size<=sizeLine/\k=((y.size:Int) != 0):=e
  subst e'
  exact W.truthy_bytes (by lia) ⟨H,I.tok _,q⟩
 |ref p =>
  cases rx
  have e':(∃ xs,SqL X.K H p xs/\k=!xs.isEmpty)\/(∃ xs,SqT X.K H p xs/\k=!xs.isEmpty)\/∃ kvs,H p=some (.dK kvs)/\k=!kvs.isEmpty:=e
  rcases e' with ⟨xs,hx,e'⟩|⟨xs,hx,e'⟩|⟨kvs,hx,e'⟩
  ·subst e'
   obtain⟨its,r,pl,hz⟩:=I.list hx
   have hlen:=r.length
   exact wpAny_truthy_list pl.isList (by simp only[Axk];lia) ⟨H,I.tok _,by rw[Ms r];exact q⟩
  ·subst e'
   obtain⟨its,r,pl,hz⟩:=I.tuple hx
   have hlen:=r.length
   exact truthy_tuple pl (by simp only[Axk];lia) ⟨H,I.tok _,by rw[Ms r];exact q⟩
  ·subst e'
   obtain⟨hz,hS,vs,r,m⟩:kvs.length<=sizeLine/\(p == sysModules)=false/\∃ vs,KV kvs vs/\s.heap.DictOf (Gr X.prog X.w) p vs:=I.hok p _ hx
   have hlen:kvs.length=vs.length:=Paired.length r
   exact wpAny_truthy_dict hS m (by lia) ⟨H,I.tok _,by rw[Vp r];exact q⟩
 |_=>exact (show False from e).elim
theorem Ur (ha:PE X a ta) (he:∀ whole,isTrue a X.env whole=(do let v <- whole;standAt a.pos;holding [v] (truthy v))) :
  PT X a (fun σ H Q=>ta σ H fun x H'=>∃ k,Arv X.K x H' k/\Q k H'):=by
 intro pins s σ H Q I h
 exact isTrue_plain (thn (ha pins s σ H _ I h) fun v s1 ⟨x,H1,I1,r1,q1⟩=>Agu pins s1 σ H1 x v Q I1 r1 q1) (he _)
theorem op_add_str:OpR X (binaryOp .Add) (fun x y H Q=>∃ i j,x=.str i/\y=.str j/\i.length+j.length<=sizeLine/\Q (.str (i++j)) H):=by
 intro pins s σ H x y v u Q I rx ry h
 obtain⟨i,j,rfl,rfl,hz,q⟩:=h
 obtain⟨t,rfl⟩:=rx
 obtain⟨t',rfl⟩:=ry
 exact add_str (fun t' tk=>⟨.str (i++j),H,I.tok _,⟨_,rfl⟩,q⟩) hz
inductive V1 (x:V) (us:List Value):Prop where
 |mk (u:Value) (e:us=[u]) (r:RelV x u)
theorem Iy {x:V}{us:List Value} (r:Vals [x] us):V1 x us:=by
 cases r with
 |cons r1 r2=>cases r2;exact⟨_,rfl,r1⟩
theorem Arq {x y:V}{us:List Value} (r:Vals [x,y] us):∃ u w',us=[u,w']/\RelV x u/\RelV y w':=by
 cases r with
 |cons r1 r2 =>
  cases r2 with
  |cons r3 r4=>cases r4;exact⟨_,_,rfl,r1,r3⟩
theorem O6:Abi X (.type "int") (fun xs H Q=>(∃ i,xs=[.int i]/\Q (.int i) H)\/∃ k,xs=[.bl k]/\Q (.int (if k then 1 else 0)) H):=by
 intro pins s σ H xs us Q I r h
 rcases h with ⟨i,rfl,q⟩|⟨k,rfl,q⟩
 ·obtain⟨u,rfl,t,rfl⟩:=Iy r
  exact call_int_int ⟨.int i,H,I,⟨_,rfl⟩,q⟩
 ·obtain⟨u,rfl,r1⟩:=Iy r
  cases r1
  exact call_int_bool ⟨.int (if k then 1 else 0),H,I.tok _,⟨_,rfl⟩,q⟩
def Asb (K:W.Frag) (x:V) (H:Hp) (n:Nat):Prop :=
 match x with
 |.str y=>y.length<=sizeLine/\n=y.length
 |.byt y=>y.size<=sizeLine/\n=y.size
 |.ref p=>(∃ xs,SqL K H p xs/\n=xs.length)\/∃ xs,SqT K H p xs/\n=xs.length
 |_=>False
theorem Ab1:Abi X (.builtin "len") (fun xs H Q=>∃ x n,xs=[x]/\Asb X.K x H n/\Q (.int n) H):=by
 intro pins s σ H xs us Q I r h
 obtain⟨x,n,rfl,e,q⟩:=h
 obtain⟨u,rfl,rx⟩:=Iy r
 have hl:=Mv
 have hs:sizeLine=16777216:=Ay3
 cases x with
 |str y =>
  obtain⟨t,rfl⟩:=rx
  obtain⟨hy,e'⟩:y.length<=sizeLine/\n=y.length:=e
  subst e'
  exact len_str (by lia) ⟨.int _,H,I.tok _,⟨_,rfl⟩,q⟩
 |byt y =>
  obtain⟨t,rfl⟩:=rx
  obtain⟨hy,e'⟩:y.size<=sizeLine/\n=y.size:=e
  subst e'
  exact W.len_bytes (by lia) ⟨.int _,H,I.tok _,⟨_,rfl⟩,q⟩
 |ref p =>
  cases rx
  have e':(∃ xs,SqL X.K H p xs/\n=xs.length)\/∃ xs,SqT X.K H p xs/\n=xs.length:=e
  rcases e' with ⟨xs,hx,e'⟩|⟨xs,hx,e'⟩
  ·subst e'
   obtain⟨its,r',pl,hz⟩:=I.list hx
   have hlen:=r'.length
   exact Calls.call_len_list pl.isList (by simp only[Axk];lia) ⟨.int xs.length,H,I.tok _,⟨_,by simp only[Axk];rw[hlen]⟩,q⟩
  ·subst e'
   obtain⟨its,r',pl,hz⟩:=I.tuple hx
   have hlen:=r'.length
   exact len_tuple pl (by simp only[Axk];lia) ⟨.int xs.length,H,I.tok _,⟨_,by simp only[Axk];rw[hlen]⟩,q⟩
 |_=>exact (show False from e).elim
end
structure ObjM (h:Heap) (x dx C:Addr) (mA:Str->Option Value):Prop where
 obj:h.get? x=some (W.instObj C dx)
 ns:h.Ns1 dx mA
 ne:dx≠x
set_option tactic.hygienic true in
theorem Yy {h:Heap}{dx:Addr}{mA:Str->Option Value} (n:h.Ns1 dx mA):∃ od,h.get? dx=some od/\∀ name,W.lookIn name od=some (mA name):=by
 obtain⟨o,es,ep,ho,hd,hk,_,hm⟩:=n
 refine⟨o,ho,fun name=>?_⟩
 have e:=hm name
 unfold nsFind findBy at e
 rw[<- Array.find?_toList] at e
 unfold W.lookIn
 rw[hd]
 dsimp only
 split
 ·rename_i y q
  rw[q] at e
  exact Ay9 some e
 ·rename_i q
  rw[q] at e
  have a:es.toList.any (·.refKey)=false:=by
   rw[List.any_eq_false]
   intro y hy
   obtain⟨z,t,hkey⟩:=hk y (Array.mem_toList_iff.mp hy)
   simp[DictEntry.refKey,hkey]
  have a':¬ es.toList.any (·.refKey)=true:=by rw[a];exact Ax8
  rw[Axy a']
  exact Ay9 some e
theorem ObjM.look {h:Heap}{x dx C:Addr}{mA:Str->Option Value} (I:ObjM h x dx C mA):∃ od,W.InstAt h x (W.instObj C dx) C (some od)/\∀ name,W.lookIn name od=some (mA name) :=
 let ⟨od,ho,hl⟩:=Yy I.ns
 ⟨od,⟨I.obj,rfl,rfl,ho⟩,hl⟩
section
variable {prog:Program}{w:World}{A:Around}{E:Value->Shared->Prop}{s:Shared}{K:W.Frag}{x dx C f:Addr}{mA:Str->Option Value}{name:Str}{v:Value}
end
section
variable {P:Program}{w:World}{K:W.Frag}{H H':Hp}{h h':Heap}{a C dx:Addr}{fs fs':List (Str×V)}
theorem Aiz (hok:HOk P w K H h) (e:H a=some (.ins C dx fs)):∃ mA,ObjM h a dx C mA/\(∀ f,Al2 (fs.lookup f) (mA f))/\PySem.Within mA (fs.map (·.1))/\fs.length<=1000/\H dx=some (.own a):=by
 obtain⟨d,z,ne,ob,mA,n,r,q⟩:=(show ObjOk P w K H h a (.ins C dx fs) from hok a _ e)
 exact⟨mA,⟨ob,n,ne⟩,r,q,z,d⟩
end
structure Cls (K:W.Frag) (C:Addr):Prop where
 pg:W.plainGet K C Str.empty=true
 hd:W.hasDictIn K C=true
 po:W.plainOver K C=true
 sa:W.findIn K (.ref C) "__setattr__"=some (some (.builtin "object.__setattr__"))
theorem Cls.get {K:W.Frag}{C:Addr} (c:Cls K C) (f:Str):W.plainGet K C f=true:=c.pg
section
variable {X:Cx}{pins:List (Addr×Obj)}{σ:St}{H:Hp}{s:Shared}{a C dx:Addr}{fs:List (Str×V)}{f:Str}{v:V}{A:Around}{E:Value->Shared->Prop}
end
section
variable {X:Cx}{o e value:Expr}{f:Str}{pos pos' tpos:Pos}{ta tv:TE}
end
section
variable {X:Cx}{pins:List (Addr×Obj)}{σ:St}{H:Hp}{s:Shared}{A:Around}{E:Value->Shared->Prop}{Q:Value->Shared->Prop}{c:Value}{b:Bool}
inductive TyOf (K:W.Frag) (H:Hp):V->Value->Prop where
 |non:TyOf K H .non (.type "NoneType")
 |bl (x:Bool):TyOf K H (.bl x) (.type "bool")
 |int (i:Int):TyOf K H (.int i) (.type "int")
 |str (x:Str):TyOf K H (.str x) (.type "str")
 |flt (x:UInt64):TyOf K H (.flt x) (.type "float")
 |lst {a:Addr}{xs:List V} (e:H a=some (.lst xs)):TyOf K H (.ref a) (.type "list")
 |frz {a:Addr}{o:Obj}{xs:List V} (e:H a=some (.frz o (.lst xs))):TyOf K H (.ref a) (.type "list")
 |tup {a:Addr}{xs:List V} (e:H a=some (.tup xs)):TyOf K H (.ref a) (.type "tuple")
 |dK {a:Addr}{kvs:List (Key×V)} (e:H a=some (.dK kvs)):TyOf K H (.ref a) (.type "dict")
 |dT {a:Addr}{kvs:List (PyData×V)} (e:H a=some (.dT kvs)):TyOf K H (.ref a) (.type "dict")
 |ins {a C dx:Addr}{fs:List (Str×V)} (e:H a=some (.ins C dx fs)) (cl:Cls K C) (ha:W.findIn K (.ref C) "__class__"=some (some (.builtin "object.__class__")))
   (hn:W.specialIn K (.builtin "object.__class__") "__get__"=some (some (.builtin "getset_descriptor.__get__"))) (htk:W.takesIn K (.builtin "object.__class__")=some true)
   (hm:W.mroIn K C (.type "object")=some true):TyOf K H (.ref a) (.ref C)
theorem C7 {x:V}{u t:Value} (I:Inv X pins σ H s) (rx:RelV x u) (ty:TyOf X.K H x t) (e:W.kitOne X.K t c=some b) (h:∀ tk,Q (.bool b) { s with toks:=tk }) :
  wpAny (model X.prog X.w) A (call (.builtin "isinstance") [u,c]) Q E s:=by
 cases ty with
 |non=>cases (show u=Value.none from rx);exact W.kia_one W.kitx_none I.kIn True.intro e (fun z=>nomatch z) h
 |bl y=>cases (show u=Value.bool y from rx);exact W.kia_one W.kitx_bool I.kIn True.intro e (fun z=>nomatch z) h
 |int i=>obtain⟨t,q⟩:=(show ∃ t,u=Value.int i t from rx);cases q;exact W.kia_one W.kitx_int I.kIn True.intro e (fun z=>nomatch z) h
 |str y=>obtain⟨t,q⟩:=(show ∃ t,u=Value.str y t from rx);cases q;exact W.kia_one W.kitx_str I.kIn True.intro e (fun z=>nomatch z) h
 |flt y=>obtain⟨t,q⟩:=(show ∃ t,u=Value.float y t from rx);cases q;exact W.kia_one W.kitx_float I.kIn True.intro e (fun z=>nomatch z) h
 |@lst a xs ea =>
  cases (show u=Value.ref a from rx)
  obtain⟨_,_,n,_,h1⟩:=(show ObjOk X.prog X.w X.K H s.heap a (.lst xs) from I.hok a _ ea)
  exact W.kia_one W.kitx_list I.kIn ⟨_,h1,rfl⟩ e (fun z=>nomatch z) h
 |@frz a ob xs ea =>
  cases (show u=Value.ref a from rx)
  obtain⟨_,_,_,n,_,h1⟩:=(show ObjOk X.prog X.w X.K H s.heap a (.frz ob (.lst xs)) from I.hok a _ ea)
  exact W.kia_one W.kitx_list I.kIn ⟨_,h1,rfl⟩ e (fun z=>nomatch z) h
 |@tup a xs ea =>
  cases (show u=Value.ref a from rx)
  obtain⟨_,_,_,p⟩:=(show ObjOk X.prog X.w X.K H s.heap a (.tup xs) from I.hok a _ ea)
  obtain⟨o,h1,h2,_⟩:=p
  exact W.kia_one W.kitx_tuple I.kIn ⟨o,h1,h2⟩ e (fun z=>nomatch z) h
 |@dK a kvs ea =>
  cases (show u=Value.ref a from rx)
  obtain⟨_,_,vs,_,p⟩:=(show ObjOk X.prog X.w X.K H s.heap a (.dK kvs) from I.hok a _ ea)
  obtain⟨o,es,ep,h1,h2,_⟩:=p
  exact W.kia_one W.kitx_dict I.kIn ⟨o,h1,h2.1⟩ e (fun z=>nomatch z) h
 |@dT a kvs ea =>
  cases (show u=Value.ref a from rx)
  obtain⟨_,_,xs,_,o,es,ep,h1,h2,_⟩:=(show ObjOk X.prog X.w X.K H s.heap a (.dT kvs) from I.hok a _ ea)
  exact W.kia_one W.kitx_dict I.kIn ⟨o,h1,h2.1⟩ e (fun z=>nomatch z) h
 |@ins a C dx fs ea cl ha hn htk hm =>
  cases (show u=Value.ref a from rx)
  obtain⟨mA,O,_⟩:=Aiz I.hok ea
  obtain⟨od,J,_⟩:=O.look
  exact W.kia_one (W.kitx_own (cl.get _) cl.hd ha hn htk hm) I.kIn J e (fun z=>nomatch z) h
end
structure Room (k:Nat) (A:Around):Prop where
 hd:A.handled=none
 dp:A.depth+3 * k+5 < recursionLimit
 un:A.units+16 * k+200 < cLine
theorem Room.mono {j k:Nat}{A:Around} (r:Room k A) (h:j<=k):Room j A:=⟨r.hd,by have:=r.dp;lia,by have:=r.un;lia⟩
theorem Room.deeper {k:Nat}{A:Around} (r:Room (k+1) A) (env:Env):Room k (A.deeper env) :=
 ⟨r.hd,by have:=r.dp;show A.depth+1+3 * k+5 < _;lia,by have:=r.un;show A.units+3+16 * k+200 < _;lia⟩
theorem Room.in1 {k:Nat}{A:Around} (r:Room (k+1) A):Room k A.in1 :=
 ⟨r.hd,by have:=r.dp;show A.depth+3 * k+5 < _;lia,by have:=r.un;show A.units+1+16 * k+200 < _;lia⟩
theorem Room.depth {k:Nat}{A:Around} (r:Room k A):A.depth < recursionLimit:=by have:=r.dp;lia
theorem Room.units {k:Nat}{A:Around} (r:Room k A):A.units+64 < cLine:=by have:=r.un;lia
noncomputable def Avl:TA:=fun _ H Q=>Q [] H
noncomputable def Alm (ta:TE) (tr:TA):TA:=fun σ H Q=>ta σ H fun x H1=>tr σ H1 fun xs H2=>Q (x::xs) H2
section
variable {X:Cx}{e:Expr}{es:List Expr}{te:TE}{t:TA}{pos:Pos}
theorem Zw:PA X [] Avl:=fun _ _ _ _ H Q I h=>Calls.spliced_nil ⟨[],H,I,.nil,h⟩
theorem N2 (ha:PE X e te) (hr:PA X es t) (hs:starEach (e::es) X.env=(false,eval e X.env)::starEach es X.env:=by rfl):PA X (e::es) (Alm te t):=by
 intro pos pins s σ H Q I h
 rw[hs]
 show wpAny _ _ (spliced ((false,eval e X.env)::backTo pos (starEach es X.env))) _ _ s
 refine Calls.spliced_cons (thn (ha pins s σ H _ I h) fun u s1 ⟨x,H1,I1,r1,q1⟩=>?_)
 exact thn (hr pos pins s1 σ H1 _ I1 q1) fun us s2 ⟨xs,H2,I2,r2,q2⟩=>⟨x::xs,H2,I2,.cons r1 r2,q2⟩
def Axc (t:TA):TE:=fun σ H Q=>t σ H fun xs H1=>xs.length<=sizeLine/\∀ p,H1 p=none->Q (.ref p) (upd H1 p (.tup xs))
def Aw8 (t:TA):TE:=fun σ H Q=>t σ H fun xs H1=>xs.length<=sizeLine/\∀ p,H1 p=none->Q (.ref p) (upd H1 p (.lst xs))
theorem Afw {x1} (h:PA X es t):PE X (.Tuple es x1 pos) (Axc t):=by
 intro pins s σ H Q I hq
 refine wpAny_Tuple_spliced (thn (h pos pins s σ H _ I hq) fun us s1 ⟨xs,H1,I1,r,z,q⟩=>⟨by rw[<- r.length];exact z,?_⟩)
 have hf:H1 s1.heap.objs.size=none:=I1.hok.fresh (Axu _)
 refine⟨.ref s1.heap.objs.size,upd H1 s1.heap.objs.size (.tup xs),I1.laid (t':=s1.toks) (fun b u e=>Axi _ e) (Axu _) ?_,rfl,q _ hf⟩
 exact⟨z,us,r,TupD.new _ _⟩
theorem Afv (h:PA X es t):PE X (.List es pos) (Aw8 t):=by
 intro pins s σ H Q I hq
 refine wpAny_List_spliced (thn (h pos pins s σ H _ I hq) fun us s1 ⟨xs,H1,I1,r,z,q⟩=>⟨by rw[<- r.length];exact z,?_⟩)
 have hf:H1 s1.heap.objs.size=none:=I1.hok.fresh (Axu _)
 refine⟨.ref s1.heap.objs.size,upd H1 s1.heap.objs.size (.lst xs),I1.laid (t':=s1.toks) (fun b u e=>Axi _ e) (Axu _) ?_,rfl,q _ hf⟩
 exact⟨z,us,0,r,Axw _ rfl⟩
end
abbrev Sp:=List V->Hp->VK->XK->Prop
abbrev CXT:=List Env->Hp->Shared->XK->Value->Shared->Prop
structure Env0 (P:Program) (w:World) (K:W.Frag) (mg:Str->Option Value) (base:Heap) (A:Around) (outer:List Env) (s:Shared) (H:Hp):Prop where
 frames:A.frames=some outer
 mod:Mod K mg base
 bs:∀ b o,base.get? b=some o->s.heap.get? b=some o/\H b=none
 bsz:base.objs.size<=s.heap.objs.size
 funs:s.heap.FunFrames base outer
 frf:∀ b∈frs outer,H b=none
 hok:HOk P w K H s.heap
 bare:AllBare s.gens
def CE (outer:List Env) (P:Program) (w:World) (K:W.Frag) (H:Hp) (s:Shared) (Q:VK) (u:Value) (s':Shared):Prop :=
 ∃ v H',s'.os=s.os/\AllBare s'.gens/\Un (frs outer) [] H H' s.heap s'.heap/\HOk P w K H' s'.heap/\RelV v u/\Q v H'
def CR (CX:CXT) (outer:List Env) (P:Program) (w:World) (K:W.Frag) (H:Hp) (s:Shared) (Q:VK) (E:XK) (r:Result) (s':Shared):Prop :=
 match r with
 |.ok (.ret u)=>CE outer P w K H s Q u s'
 |.ok _=>False
 |.error e=>CX outer H s E e s'
structure FnOk (P:Program) (w:World) (K:W.Frag) (mg:Str->Option Value) (base:Heap) (CX:CXT) (k:Nat) (f:Addr) (fd:FuncData) (ps:List Str) (sp:Sp):Prop where
 len:∀ vs H Q E,sp vs H Q E->vs.length=ps.length
 run:∀ (A:Around) (outer:List Env) (s:Shared) (H:Hp) (args:Args) (us:List Value) (vs:List V) (Q:VK) (E:XK),Room k A->Env0 P w K mg base A outer s H->BindsTo s fd args (ps.zip us)->Vals vs us->sp vs H Q E ->
  codeAny (model P w) A (.call (.ref f) args) (CR CX outer P w K H s Q E) s
theorem Env0.in1 {P:Program}{w:World}{K:W.Frag}{mg:Str->Option Value}{base:Heap}{A:Around}{outer:List Env}{s:Shared}{H:Hp} (e:Env0 P w K mg base A outer s H) :
  Env0 P w K mg base A.in1 outer s H:=⟨e.frames,e.mod,e.bs,e.bsz,e.funs,e.frf,e.hok,e.bare⟩
section
variable {X:Cx}{pins:List (Addr×Obj)}{σ:St}{H:Hp}{s s':Shared}
theorem Inv.env0 (I:Inv X pins σ H s):Env0 X.prog X.w X.K X.mg X.base X.A X.stack s H :=
 ⟨I.ok.frames,I.ok.mod,I.bs,Ax7 I.ok.bsz I.sz,I.stack,I.stkFree,I.hok,I.bare⟩
theorem Inv.after {Q:VK}{u:Value} (I:Inv X pins σ H s) (h:CE X.stack X.prog X.w X.K H s Q u s'):EP X pins σ Q u s':=by
 obtain⟨v,H',os,bare,un,hok,r,q⟩:=h
 obtain⟨hh,g,d,t,os'⟩:=s'
 obtain rfl:os'=s.os:=os
 exact⟨v,H',I.call (h':=hh) (g':=g) (d':=d) (t':=t) (ch:=[]) un hok bare (fun b z=>absurd z (by simp)),r,q⟩
end
noncomputable def Arn (sp:Sp) (dvs:List V) (E:XK) (t:TA):TE:=fun σ H Q=>t σ H fun vs H1=>sp (vs++dvs) H1 Q E
def Binds (K:W.Frag) (fd:FuncData) (ps:List Str) (ds:List Value):Prop :=
 ∀ (s:Shared) (us:List Value),K.In s.heap->(us++ds).length=ps.length->BindsTo s fd ⟨us,[]⟩ (ps.zip (us++ds))
theorem Binds.all {K:W.Frag}{fd:FuncData}{ps:List Str} (h:∀ us:List Value,us.length=ps.length->bindArgs fd ⟨us,[]⟩=pure (ps.zip us)):Binds K fd ps []:=fun s us _ hl=>by
 rw[Axx] at hl ⊢
 exact .of_eq (h us hl)
def Ou (CX:CXT) (X:Cx) (E:XK):Prop:=∀ (pins:List (Addr×Obj)) (σ:St) (H:Hp) (s:Shared) (e:Value) (s':Shared),Inv X pins σ H s->CX X.stack H s E e s'->X.xe e s'
section
variable {X:Cx}{CX:CXT}{k:Nat}{f C:Addr}{fd:FuncData}{ps:List Str}{sp:Sp}{dvs:List V}{ds:List Value}{E:XK}{x m:Str}{p pos apos:Pos}{e o:Expr}{es:List Expr}{ta:TE}{t:TA}
theorem Aq7 {pins:List (Addr×Obj)}{σ:St}{H:Hp}{s:Shared}{Q:VK}{us:List Value}{vs:List V} (F:FnOk X.prog X.w X.K X.mg X.base CX k f fd ps sp) (hr:Room k X.A) (hb:Binds X.K fd ps ds) (hd:Vals dvs ds) (hx:Ou CX X E)
  (I:Inv X pins σ H s) (r:Vals vs us) (h:sp (vs++dvs) H Q E):wpAny (model X.prog X.w) X.A (call (.ref f) us) (EP X pins σ Q) X.xe s:=by
 have r2:Vals (vs++dvs) (us++ds):=r.append hd
 have hl:(us++ds).length=ps.length:=by rw[<- r2.length];exact F.len _ _ _ _ h
 refine wpAny_call (codeAny_mono (F.run X.A X.stack s H ⟨us,[]⟩ (us++ds) (vs++dvs) Q E hr I.env0 (hb s us I.kIn hl) r2 h) fun r s' hq=>?_)
 cases r with
 |error e=>exact hx pins σ H s e s' I hq
 |ok fl =>
  cases fl with
  |ret u=>exact I.after hq
  |next=>exact False.elim hq
  |brk=>exact False.elim hq
  |cont=>exact False.elim hq
theorem N4 (F:FnOk X.prog X.w X.K X.mg X.base CX k f fd ps sp) (hr:Room k X.A) (hg:Gl X x) (hm:X.mg x=some (.ref f)) (hk:W.keepIn X.K (.ref f)=true) (hb:Binds X.K fd ps ds) (hd:Vals dvs ds) (hx:Ou CX X E)
  (ha:PA X (e::es) t) (hdb:(x == ("__debug__":Str))=false:=by decide) (he:starEach (e::es) X.env=(false,eval e X.env)::starEach es X.env:=by rfl) (hpl:(backTo pos (starEach es X.env)).any (·.1)=false:=by rfl) :
  PE X (.Call (.Name x p) (e::es) [] pos) (Arn sp dvs E t):=by
 intro pins s σ H Q I h
 refine Ayj (R0 I hg hm ?_ hdb)
 refine W.callWith_K (h₀:=X.base) I.ok.mod.kin hk (thn (ha pos pins s σ H _ I h) fun us s1 ⟨vs,H1,I1,r,q⟩=>⟨I1.kIn,?_⟩) he hpl
 exact Aq7 F hr hb hd hx I1 r q
end
section
variable {X:Cx}{CX:CXT}{k:Nat}{f C:Addr}{fd:FuncData}{ps ks:List Str}{sp:Sp}{E:XK}{x m:Str}{p pos apos kpos:Pos}{e o:Expr}{es:List Expr}{kws:List Keyword}{te ta:TE}{t tk:TA}{nm:Option Str}
variable {g:List Value->List Value->List Value}{gV:List V->List V->List V}
end
structure FnScope (N P:List Str) (sc:Scope):Prop where
 kind:sc.kind=.function
 co:sc.isCoroutine=false
 gen:sc.isGenerator=false
 nd:N.Nodup
 pre:N.take P.length=P
 par:∀ x∈P,sc.names.lookup x=some .local\/sc.names.lookup x=some .cell
 nofree:∀ y∈sc.names,y.2≠.free
theorem O4 {kindOf:Str->Option NameKind}{x:Str}:∀ {binds:List (Str×Value)}{m:Str->Option Value},(∀ v,(x,v)∉binds)->bindL kindOf binds m x=m x
 |[],_,_=>rfl
 |(n,v)::r,m,h=>by
  unfold bindL
  rw[O4 fun w hw=>h w (Axl _ hw)]
  split
  ·have:x≠n:=by rintro rfl;exact h v Axn
   simp[this]
  ·rfl
theorem O2 {kindOf:Str->Option NameKind}{x:Str}:∀ {binds:List (Str×Value)}{m:Str->Option Value},(∀ v,(x,v)∉binds)->bindC kindOf binds m x=m x
 |[],_,_=>rfl
 |(n,v)::r,m,h=>by
  unfold bindC
  rw[O2 fun w hw=>h w (Axl _ hw)]
  split
  ·rfl
  ·have:x≠n:=by rintro rfl;exact h v Axn
   simp[this]
theorem O3 {kindOf:Str->Option NameKind}{x:Str}{v:Value}:∀ {P:List Str}{vs:List Value}{i:Nat}{m:Str->Option Value},P.Nodup->P[i]?=some x->vs[i]?=some v->kindOf x=some .local ->
  bindL kindOf (P.zip vs) m x=some v
 |[],_,_,_,_,h,_,_=>by simp at h
 |_::_,[],_,_,_,_,h,_=>by simp at h
 |p::P,w::vs,0,m,nd,h1,h2,hk=>by
  simp at h1 h2;subst h1;subst h2
  show bindL kindOf ((p,w)::P.zip vs) m p=_
  unfold bindL
  rw[O4 fun v hv=>(List.nodup_cons.mp nd).1 (List.of_mem_zip hv).1,Axv hk]
  simp
 |p::P,w::vs,i+1,m,nd,h1,h2,hk=>by
  show bindL kindOf ((p,w)::P.zip vs) m x=_
  unfold bindL
  exact O3 (i:=i) (List.nodup_cons.mp nd).2 (by simpa using h1) (by simpa using h2) hk
theorem O1 {kindOf:Str->Option NameKind}{x:Str}{v:Value}:∀ {P:List Str}{vs:List Value}{i:Nat}{m:Str->Option Value},P.Nodup->P[i]?=some x->vs[i]?=some v->kindOf x≠some .local ->
  bindC kindOf (P.zip vs) m x=some v
 |[],_,_,_,_,h,_,_=>by simp at h
 |_::_,[],_,_,_,_,h,_=>by simp at h
 |p::P,w::vs,0,m,nd,h1,h2,hk=>by
  simp at h1 h2;subst h1;subst h2
  show bindC kindOf ((p,w)::P.zip vs) m p=_
  unfold bindC
  rw[O2 fun v hv=>(List.nodup_cons.mp nd).1 (List.of_mem_zip hv).1,Axy hk]
  simp
 |p::P,w::vs,i+1,m,nd,h1,h2,hk=>by
  show bindC kindOf ((p,w)::P.zip vs) m x=_
  unfold bindC
  exact O1 (i:=i) (List.nodup_cons.mp nd).2 (by simpa using h1) (by simpa using h2) hk
noncomputable def Hk (N:List Str) (vs:List V):St:=vs.map some++List.replicate (N.length - vs.length) none
noncomputable def X3 (CX:CXT) (P:Program) (w:World) (K:W.Frag) (mg:Str->Option Value) (base:Heap) (N:List Str) (qual:Str) (scope:Scope) (f:Addr) (cd:Value) (A:Around) (outer:List Env) (s:Shared) (H:Hp) (E:XK):Cx where
 prog:=P
 w:=w
 K:=K
 mg:=mg
 base:=base
 A:=A.deeper (envOfC qual scope s.heap.objs.size f cd)
 N:=N
 s₀:=s
 H₀:=H
 env:=envOfC qual scope s.heap.objs.size f cd
 outer:=outer
 stack:=envOfC qual scope s.heap.objs.size f cd::outer
 ex:=[]
 calm:=true
 fn:=fun _=>true
 pn:=[]
 xe:=fun e s'=>wpAny (model P w) (A.deeper (envOfC qual scope s.heap.objs.size f cd)) (leaving (envOfC qual scope s.heap.objs.size f cd) e) (fun _ s''=>CX outer H s E e s'') (fun e' s''=>CX outer H s E e' s'') s'
theorem Tt {sc:Scope}{n:Nat}{x:Str} (h:sc.names.lookup x=some .cell):∃ c,(cellsFrom n sc.names []).lookup x=some c:=by
 have q:=W.cellsFrom_some sc.names n [] (.inl h)
 exact Option.isSome_iff_exists.mp q
theorem Yo {CX:CXT}{P:Program}{w:World}{K:W.Frag}{mg:Str->Option Value}{base:Heap}{N ps:List Str}{qual:Str}{scope:Scope}{f:Addr}{cd:Value}{A:Around}{outer:List Env}{s s1:Shared}{H:Hp}{E:XK}{us:List Value}{vs:List V}
  (S:FnScope N ps scope) (hd:A.handled=none) (e0:Env0 P w K mg base A outer s H) (hl:vs.length=ps.length) (r:Vals vs us)
  (x:InCallC s s.heap.objs.size (bindL (envOfC qual scope s.heap.objs.size f cd).kindOf (ps.zip us) fun _=>none) (cellsFrom (s.heap.objs.size+1) scope.names []) (bindC (envOfC qual scope s.heap.objs.size f cd).kindOf (ps.zip us) fun _=>none) s1) :
  Inv (X3 CX P w K mg base N qual scope f cd A outer s H E) [] (Hk N vs) H s1:=by
 have hpl:ps.length<=N.length:=by have:=Ay9 List.length S.pre;rw[Azf] at this;lia
 obtain⟨h1,tk,rfl,hk⟩:=x.done
 have noA:∀ b:Addr,b∉(X3 CX P w K mg base N qual scope f cd A outer s H E).ex:=fun b z=>absurd (show b∈([]:List Addr) from z) (by simp)
 refine⟨⟨e0.mod,S.kind,rfl,rfl,Axu _,fun y z c h1 h2=>?_,fun y hy=>?_,fun y c _ h=>?_,fun _=>hd,Around.frames_deeper e0.frames,.inr ⟨rfl,rfl⟩,fun b z=>absurd z (noA b),e0.bs,e0.bsz,fun b _ _=>noA b,fun b z=>absurd z (noA b),e0.funs,e0.frf⟩,
  rfl,e0.bare,Un.kept hk,⟨_,x.toInCall.ns,fun i y v h1 h2 h3=>?_⟩,fun y c h=>⟨_,x.cell y c h⟩,e0.hok.fresh (Axu _),fun y c h=>?_,fun p hp=>absurd (show p∈([]:List (Addr×Obj)) from hp) (by simp),e0.hok.kept hk,?_⟩
 ·exact name_of_addr x.apart (Ayg h1) (Ayg h2)
 ·have hy:scope.names.lookup y=some .cell\/scope.names.lookup y=some .free:=hy
  rcases hy with hy|hy
  ·exact Tt hy
  ·exact absurd rfl (S.nofree _ (Ayg hy))
 ·exact Azi (x.above y c (Ayg h))
 ·have hi:i < vs.length:=by
   unfold Hk at h2
   by_cases hi:i < vs.length
   ·exact hi
   ·rw[Ayp (by simpa using hi)] at h2
    rw[Azd] at h2
    split at h2<;>cases h2
  have ha:vs[i]?=some v:=by
   unfold Hk at h2
   rw[Axr (by simpa using hi),Ax6] at h2
   cases e:vs[i]? with
   |none=>rw[e] at h2;cases h2
   |some a=>rw[e] at h2;cases h2;rfl
  obtain⟨u,hu,rv⟩:=r.get ha
  have hp:ps[i]?=some y:=by
   rw[<- S.pre,List.getElem?_take_of_lt (by lia)];exact h1
  have ndP:ps.Nodup:=by rw[<- S.pre];exact S.nd.sublist (List.take_sublist _ _)
  refine⟨u,rv,?_⟩
  rcases S.par y (Aya hp) with k|k
  ·exact .inl ⟨k,O3 ndP hp hu k⟩
  ·obtain⟨c,e⟩:=Tt (n:=s.heap.objs.size+1) k
   refine .inr ⟨.inl k,c,e,?_⟩
   have q:=x.cell y c e
   rw[O1 ndP hp hu (by show scope.names.lookup y≠_;rw[k];decide)] at q
   exact q
 ·exact e0.hok.fresh (Azi (x.above y c (Ayg h)))
 ·unfold Hk
  show _=N.length
  rw[Axt,Axq,List.length_replicate]
  lia
theorem Ats {CX:CXT}{P:Program}{w:World}{K:W.Frag}{mg:Str->Option Value}{base:Heap}{k:Nat}{f:Addr}{name qual:Str}{params:Arguments}{body:List Stmt}{scope:Scope}{dV kV doc pm cdv ct oc:Value}{an od:Option Addr}
  {osl:Array (Option Value)}{N ps:List Str}{sp:Sp} (lk:K.lookup f=some ⟨oc,od,.func (W.fnOf name qual params body scope dV kV doc pm an cdv ct),osl⟩) (hcd:W.codeIn K cdv qual=true) (S:FnScope N ps scope)
  (len:∀ vs H Q E,sp vs H Q E->vs.length=ps.length)
  (hbody:∀ (A:Around) (outer:List Env) (s:Shared) (H:Hp) (vs:List V) (Q:VK) (E:XK),Room k (A.deeper (envOfC qual scope s.heap.objs.size f cdv))->sp vs H Q E ->
   ∃ t,PSs (X3 CX P w K mg base N qual scope f cdv A outer s H E) body t/\t { nx:=fun _ H'=>Q .non H',rt:=Q } (Hk N vs) H) :
  FnOk P w K mg base CX (k+1) f (W.fnOf name qual params body scope dV kV doc pm an cdv ct) ps sp:=by
 refine⟨len,fun A outer s H args us vs Q E hr e0 hb r hsp=>?_⟩
 have hl:=len _ _ _ _ hsp
 have KX:K.In s.heap:=e0.mod.kin.keeps fun b o e=>(e0.bs b o e).1
 have lim:s.heap.NoLimit:=e0.mod.nolimit.keeps fun b o e=>(e0.bs b o e).1
 have hkind:∀ y∈ps.zip us,scope.names.lookup y.1=some .local\/(scope.names.lookup y.1=some .cell/\((cellsFrom (s.heap.objs.size+1) scope.names []).lookup y.1).isSome=true):=fun⟨n,v⟩ hy=>by
  rcases S.par n (List.of_mem_zip hy).1 with q|q
  ·exact .inl q
  ·exact .inr ⟨q,W.cellsFrom_some _ _ _ (.inl q)⟩
 refine codeAny_call_function hr.depth (KX _ _ lk) rfl S.co S.gen rfl (W.codeRec_of KX hcd) (hb _ _ _ _ ?_)
 refine wpAny_newFunctionEnv_cells S.kind hkind fun env he s1 x=>?_
 subst he
 refine⟨lim.keeps x.toInCall.keep,codeAny_func ?_⟩
 obtain⟨t,ht,hq⟩:=hbody A outer s H vs Q E (hr.deeper _) hsp
 have I:Inv (X3 CX P w K mg base N qual scope f cdv A outer s H E) [] (Hk N vs) H s1:=Yo S hr.hd e0 hl r x
 refine Ay2 (ht [] s1 (Hk N vs) H _ I hq) (fun fl s' hs=>?_) fun e s' hs=>hs
 have fin:∀ {σ':St}{H':Hp}{v:V}{u:Value},Inv (X3 CX P w K mg base N qual scope f cdv A outer s H E) [] σ' H' s'->RelV v u->Q v H'->CE outer P w K H s Q u s' :=
  fun {σ' H' v u} J rv q=>⟨v,H',J.os,J.bare,J.base,J.hok,rv,q⟩
 cases fl with
 |ret u =>
  obtain⟨v,σ',H',J,rv,q⟩:=hs
  exact fin J rv q
 |next =>
  obtain⟨σ',H',J,q⟩:=hs
  exact fin (v:=V.non) (u:=Value.none) J rfl q
 |brk =>
  obtain⟨_,_,_,q⟩:=hs
  exact False.elim q
 |cont =>
  obtain⟨_,_,_,q⟩:=hs
  exact False.elim q
section
variable {X:Cx}{x:Str}{p pos:Pos}{e:Expr}{es:List Expr}{t:TA}{id T:String}{r:List V->Hp->VK->Prop}
end
end L2
namespace HT
open PySem PyProof.Rows
section
open PySem.SeqAt
open PySem.AutoSeq1 (wpAny_loadPart')
open PySem.MeetsSeq PySem.MeetsSeq2 PySem.MeetsSeq3
end
section
variable {prog:Program}{w:World}{A:Around}{E:Value->Shared->Prop}{s:Shared}
theorem cat_tup {t b:Addr}{vs ws:List Value}{Q:Value->Shared->Prop} (ht:IsTup s.heap t vs.toArray) (hb:IsTup s.heap b ws.toArray) (hv:vs≠[])
  (h1:ws=[]->Q (.ref t) s) (h2:ws≠[]->Q (.ref s.heap.objs.size) { s with heap:=s.heap.push { cls:=.type "tuple",data:=.seq (vs++ws).toArray } })
  (hsz:vs.length+ws.length<=sizeLine):wpAny (model prog w) A (binaryOp .Add (.ref t) (.ref b)) Q E s:=by
 obtain⟨⟨cls,dd,data,sl⟩,ho,hc,n,hd⟩:=id ht
 obtain⟨⟨cls2,dd2,data2,sl2⟩,ho2,hc2,n2,hd2⟩:=id hb
 simp only at hc hd hc2 hd2
 subst hc hd hc2 hd2
 have e:vs.toArray++ws.toArray=(vs++ws).toArray:=by simp
 by_cases hw:ws=[]
 ·exact concat_meets ⟨_,ho,rfl⟩ ⟨_,ho2,rfl⟩ noFill_tuple_add seq_tuple_add PySem.F.slot_tuple_add PySem.F.entry_tuple_add (PySem.F.args_tuple_add_2 _ _)
   (tuple_addW1 t b vs.toArray ws.toArray n n2 dd dd2 sl sl2 (by simpa using hv) (by simp[hw])) ⟨ho,ho2,h1 hw⟩
 ·refine concat_meets ⟨_,ho,rfl⟩ ⟨_,ho2,rfl⟩ noFill_tuple_add seq_tuple_add PySem.F.slot_tuple_add PySem.F.entry_tuple_add (PySem.F.args_tuple_add_2 _ _)
   (tuple_addW2 t b vs.toArray ws.toArray n n2 dd dd2 sl sl2 (by simpa using hv) (by simpa using hw) (by rw[Axk,Axk];exact hsz)) ⟨ho,ho2,?_⟩
  rw[e]
  exact h2 hw
noncomputable def sIx (n d:Nat):Option Int->Nat
 |none=>d
 |some v=>if v < 0 then (v+(n:Int)).toNat else min v.toNat n
theorem Aq8 (n d:Nat) (hd:d<=n) (o:Option Int):sIx n d o<=n:=by
 cases o with
 |none=>exact hd
 |some v =>
  show (if v < 0 then (v+(n:Int)).toNat else min v.toNat n)<=n
  by_cases hv:v < 0
  ·rw[Axv hv];lia
  ·rw[Axy hv];exact Nat.min_le_right _ _
theorem Xz (v:Int) (n d:Nat):(if v < 0 then max (v+(n:Int)) 0 else min v (n:Int))=((sIx n d (some v):Nat):Int):=by
 show (if v < 0 then max (v+(n:Int)) 0 else min v (n:Int))=(((if v < 0 then (v+(n:Int)).toNat else min v.toNat n):Nat):Int)
 by_cases hv:v < 0
 ·simp only[Axv hv];lia
 ·simp only[Axy hv];lia
theorem Va (lo hi:Option Int) (n:Nat):Builtin.Slice.sliceAdjust lo hi 1 (n:Int)=(((sIx n 0 lo:Nat):Int),((sIx n n hi:Nat):Int)):=by
 have h1:¬ ((1:Int) < 0):=by lia
 unfold Builtin.Slice.sliceAdjust
 simp only[h1,Bah]
 refine Prod.ext ?_ ?_
 ·cases lo with
  |none=>rfl
  |some v=>exact Xz v n 0
 ·cases hi with
  |none=>rfl
  |some v=>exact Xz v n n
theorem V4 (i j:Nat):Builtin.Slice.slicePlaces (i:Int) (j:Int) 1=j - i:=by
 unfold Builtin.Slice.slicePlaces
 have h1:(1:Int) > 0:=by lia
 simp only[h1,Bag,Int.ediv_one]
 split<;>lia
theorem Na {v:Value}{o:Option Int}{Q:Option Int->Shared->Prop} (p:IsPart v o) (h:Q o s):wpAny (model prog w) A (Builtin.Slice.slicePartIndex v) Q E s:=by
 cases p with
 |none=>exact slicePart_none h
 |int i t=>exact slicePart_int h
theorem sliceApplied_gen {sl:Addr}{vl vu:Value}{lo hi:Option Int}{n:Nat}{Q:Int×Int×Nat->Shared->Prop} (hs:s.heap.IsSliceOf sl vl vu .none) (pl:IsPart vl lo) (pu:IsPart vu hi)
  (h:Q (((sIx n 0 lo:Nat):Int),1,sIx n n hi - sIx n 0 lo) s):wpAny (model prog w) A (Builtin.Slice.sliceApplied (.ref sl) (pure (n:Int))) Q E s:=by
 obtain⟨os,hos,hcs,hds⟩:=id hs
 unfold Builtin.Slice.sliceApplied Builtin.Slice.sliceFields
 refine Axh (Axh (Azn hos hds (x:=vl) rfl (Axh (Azn hos hds (x:=vu) rfl (Axh (Azn hos hds (x:=.none) rfl (Axo ?_)))))))
 refine Axh (slicePart_none ?_)
 show wpAny _ _ (if ((1:Int) == 0)=true then _ else _) _ _ s
 rw[Axy (by decide)]
 refine Axh (Na pl (Axh (Na pu (Axh (Axo ?_)))))
 show wpAny _ _ (match Builtin.Slice.sliceAdjust lo hi 1 (n:Int) with|(lo,hi)=>pure (lo,(1:Int),Builtin.Slice.slicePlaces lo hi 1)) _ _ s
 rw[Va lo hi n]
 show wpAny _ _ (pure (((sIx n 0 lo:Nat):Int),(1:Int),Builtin.Slice.slicePlaces ((sIx n 0 lo:Nat):Int) ((sIx n n hi:Nat):Int) 1)) _ _ s
 rw[V4]
 exact Axo h
theorem Adn (xs:Array Value) (i k:Nat):((List.range k).filterMap fun (m:Nat)=>xs[((i:Int)+(m:Int) * 1).toNat]?).toArray=((xs.toList.drop i).take k).toArray:=by
 have e:(fun (m:Nat)=>xs[((i:Int)+(m:Int) * 1).toNat]?)=fun m=>xs[i+m]?:=by
  funext m
  have:((i:Int)+(m:Int) * 1).toNat=i+m:=by lia
  rw[this]
 rw[e]
 have:=pick_run xs i k
 rw[List.filterMap_map] at this
 have e2:((fun x=>xs[x]?) ∘ fun x=>i+x)=fun m=>xs[i+m]?:=rfl
 rw[e2] at this
 rw[this]
theorem getItem_tuple_cut {t sl:Addr}{items:Array Value}{vl vu:Value}{lo hi:Option Int}{Q:Value->Shared->Prop} (ht:IsTup s.heap t items) (hs:s.heap.IsSliceOf sl vl vu .none) (pl:IsPart vl lo) (pu:IsPart vu hi)
  (hw:¬ (sIx items.size 0 lo=0/\sIx items.size items.size hi=items.size))
  (h:Q (.ref s.heap.objs.size) { s with heap:=s.heap.push { cls:=.type "tuple",data:=.seq ((items.toList.drop (sIx items.size 0 lo)).take (sIx items.size items.size hi - sIx items.size 0 lo)).toArray } })
  (hsz:items.size<=sizeLine):wpAny (model prog w) A (getItem (.ref t) (.ref sl)) Q E s:=by
 have htake:sizeOk (.seq ((items.toList.drop (sIx items.size 0 lo)).take (sIx items.size items.size hi - sIx items.size 0 lo)).toArray):=by
  show ((items.toList.drop (sIx items.size 0 lo)).take (sIx items.size items.size hi - sIx items.size 0 lo)).toArray.size<=sizeLine
  rw[Axk,Azf,Az1,Azo]
  lia
 have hj:sIx items.size items.size hi<=items.size:=Aq8 _ _ (Axu _) hi
 obtain⟨os,hos,hcs,hds⟩:=id hs
 have hTs:s.TypeIs (.ref sl) "slice":=⟨os,hos,hcs⟩
 unfold getItem
 try with_reducible refine Ay5 ?_
 first|refine Axh (Axo ?_)|skip
 refine Axh (wpAny_sequenceKey ht.typeIs (by decide) ?_)
 refine Axh (Azz (name:=Str.ofString "__getitem__") ht.typeIs PyProof.Rows.slot_tuple_getitem
  (Aza PyProof.Rows.slot_tuple_getitem ht.typeIs entry_tuple_getitem ?_ (args_tuple_getitem _ _)))
 show wpAny _ _ (Builtin.Tuple.tupleItemsOf (.ref t) >>= _) _ _ s
 refine Axh (tupleItemsOf_ ht ?_)
 refine Axh (Azl hTs ?_)
 rw[Axv (by decide)]
 refine Axh (sliceApplied_gen hs pl pu ?_)
 have hno:¬ ((((sIx items.size 0 lo:Nat):Int) == 0&&(1:Int) == 1&&(sIx items.size items.size hi - sIx items.size 0 lo) == items.size)=true):=by
  intro q
  rw[Ax4,Ax4] at q
  have q1:((sIx items.size 0 lo:Nat):Int)=0:=eq_of_beq q.1.1
  have q2:sIx items.size items.size hi - sIx items.size 0 lo=items.size:=eq_of_beq q.2
  exact hw ⟨by lia,by lia⟩
 show wpAny _ _ (if (((sIx items.size 0 lo:Nat):Int) == 0&&(1:Int) == 1&&(sIx items.size items.size hi - sIx items.size 0 lo) == items.size)=true then _ else _) _ _ s
 rw[Axy hno,Adn]
 first
  |exact Axh (m:=Builtin.Tuple.tupleExact _) (Ayq (Axo ⟨_,rfl,Axo h⟩) htake)
  |exact Axh (m:=Builtin.Tuple.tupleExact _) (Ayq (Axh (Axo (Axo ⟨_,rfl,Axo h⟩))) htake)
  |exact Axh (Axh (m:=Builtin.Tuple.tupleExact _) (Ayq (Axo (Axo ⟨_,rfl,Axo h⟩)) htake))
  |exact Axh (Axh (m:=Builtin.Tuple.tupleExact _) (Ayq (Axo ⟨_,rfl,Axo h⟩) htake))
end
end HT
namespace L2
open PySem PySem.Spec PyProof.Rows
abbrev TO:=St->Hp->(Option Int->Hp->Prop)->Prop
def PO (X:Cx) (e:Option Expr) (t:TO):Prop :=
 ∀ (pins:List (Addr×Obj)) (s:Shared) (σ:St) (H:Hp) (Q:Option Int->Hp->Prop),Inv X pins σ H s->t σ H Q ->
  wpAny (model X.prog X.w) X.A (evalPart e X.env) (fun u s'=>∃ o H',Inv X pins σ H' s'/\IsPart u o/\Q o H') X.xe s
noncomputable def Aln:TO:=fun _ H Q=>Q none H
noncomputable def Au0 (t:TE):TO:=fun σ H Q=>t σ H fun x H1=>∃ i,x=.int i/\Q (some i) H1
section
variable {X:Cx}{e:Expr}{te:TE}{lo hi:Option Expr}{tl th:TO}{pos p2:Pos}
theorem Akb:PO X none Aln:=by
 intro pins s σ H Q I h
 rw[evalPart_none]
 exact Axo ⟨none,H,I,.none,h⟩
theorem Akc (h:PE X e te):PO X (some e) (Au0 te):=by
 intro pins s σ H Q I hw
 rw[evalPart_some]
 refine thn (h pins s σ H _ I hw) fun u s1 ⟨x,H1,I1,r1,q1⟩=>?_
 obtain⟨i,rfl,q⟩:=q1
 obtain⟨t,rfl⟩:=r1
 exact⟨some i,H1,I1,.int i t,q⟩
def SlR (X:Cx) (r:V->Option Int->Option Int->Hp->VK->Prop):Prop :=
 ∀ (pins:List (Addr×Obj)) (s:Shared) (σ:St) (H:Hp) (x:V) (v vl vu:Value) (lo hi:Option Int) (sl:Addr) (Q:VK),Inv X pins σ H s->RelV x v->s.heap.IsSliceOf sl vl vu .none->IsPart vl lo->IsPart vu hi->r x lo hi H Q ->
  ∃ T id,typeLookup (.type T) "__getitem__"=pure (some (.builtin id))/\s.TypeIs v T/\wpAny (model X.prog X.w) X.A (getItem v (.ref sl)) (EP X pins σ Q) X.xe s
theorem SlR.or {r r':V->Option Int->Option Int->Hp->VK->Prop} (h:SlR X r) (h':SlR X r'):SlR X (fun x lo hi H Q=>r x lo hi H Q\/r' x lo hi H Q):=by
 intro pins s σ H x v vl vu lo hi sl Q I rx hs pl pu q
 rcases q with q|q
 ·exact h pins s σ H x v vl vu lo hi sl Q I rx hs pl pu q
 ·exact h' pins s σ H x v vl vu lo hi sl Q I rx hs pl pu q
noncomputable def tSl (r:V->Option Int->Option Int->Hp->VK->Prop) (te:TE) (tl th:TO):TE:=fun σ H Q=>te σ H fun x H1=>tl σ H1 fun l H2=>th σ H2 fun u H3=>r x l u H3 Q
theorem Adi {r:V->Option Int->Option Int->Hp->VK->Prop} (hr:SlR X r) (he:PE X e te) (hl:PO X lo tl) (hu:PO X hi th):PE X (.Subscript e (.Slice lo hi none p2) pos) (tSl r te tl th):=by
 intro pins s σ H Q I h
 refine Subscript_ (thn (he pins s σ H _ I h) fun v s1 ⟨x,H1,I1,r1,q1⟩=>?_)
 refine wpAny_Slice (thn (hl pins s1 σ H1 _ I1 q1) fun vl s2 ⟨l,H2,I2,pl,q2⟩=>thn (hu pins s2 σ H2 _ I2 q2) fun vu s3 ⟨u,H3,I3,pu,q3⟩=>?_)
 rw[evalPart_none]
 refine Axo ?_
 have I4:Inv X pins σ H3 { s3 with heap:=s3.heap.push { cls:=.type "slice",data:=.fields #[vl,vu,.none] } }:=I3.kept (t':=s3.toks) fun b ob q=>Axi _ q
 obtain⟨T,id,hT,ht,hg⟩:=hr pins { s3 with heap:=s3.heap.push { cls:=.type "slice",data:=.fields #[vl,vu,.none] } } σ H3 x v vl vu l u s3.heap.objs.size Q I4 r1 (Heap.IsSliceOf.new ..) pl pu q3
 show wpAny (model X.prog X.w) X.A (subscriptTail e (.Slice lo hi none p2) v (.ref s3.heap.objs.size)) (EP X pins σ Q) X.xe { s3 with heap:=s3.heap.push { cls:=.type "slice",data:=.fields #[vl,vu,.none] } }
 exact tail_any (ops:=[.ref s3.heap.objs.size,v]) ht hT hg (by with_unfolding_all rfl)
def Als (xs:List V) (lo hi:Option Int):List V:=(xs.drop (HT.sIx xs.length 0 lo)).take (HT.sIx xs.length xs.length hi - HT.sIx xs.length 0 lo)
theorem Rq (xs:List V) (lo hi:Option Int):(Als xs lo hi).length<=xs.length:=by
 unfold Als
 rw[Azf,Az1]
 lia
def Aw4 (K:W.Frag):V->Option Int->Option Int->Hp->VK->Prop:=fun x lo hi H Q=>∃ a xs,x=.ref a/\SqT K H a xs /\
 ¬ (HT.sIx xs.length 0 lo=0/\HT.sIx xs.length xs.length hi=xs.length)/\∀ p,H p=none->Q (.ref p) (upd H p (.tup (Als xs lo hi)))
theorem sl_tup:SlR X (Aw4 X.K):=by
 intro pins s σ H x v vl vu lo hi sl Q I rx hs pl pu h
 obtain⟨a,xs,rfl,hx,hw,q⟩:=h
 cases rx
 obtain⟨its,r,ht,hz⟩:=I.tuple hx
 have hlen:its.toArray.size=xs.length:=by rw[Axk];exact r.length.symm
 refine⟨"tuple",_,PyProof.Rows.slot_tuple_getitem.lookup,ht.typeIs,?_⟩
 refine HT.getItem_tuple_cut ht hs pl pu (by rw[hlen];exact hw) ?_ (by rw[hlen];exact hz)
 rw[hlen]
 refine⟨.ref s.heap.objs.size,_,I.laid (t':=s.toks) (o:=.tup (Als xs lo hi)) (fun b ob q=>Axi _ q) (Axu _) ?_,rfl,q _ (I.hok.fresh (Axu _))⟩
 exact⟨Ax7 (Rq xs lo hi) hz,_,(r.drop (HT.sIx xs.length 0 lo)).take (HT.sIx xs.length xs.length hi - HT.sIx xs.length 0 lo),TupD.new _ _⟩
def Auu (K:W.Frag):R2:=fun x y H Q=>∃ a b xs ys,x=.ref a/\y=.ref b/\SqT K H a xs/\SqT K H b ys/\xs≠[]/\xs.length+ys.length<=sizeLine /\
 (ys=[]->Q (.ref a) H)/\(ys≠[]->∀ p,H p=none->Q (.ref p) (upd H p (.tup (xs++ys))))
theorem Vals.nil_iff {xs:List V}{us:List Value} (r:Vals xs us):us=[] ↔ xs=[]:=by
 cases r with
 |nil=>simp
 |cons _ _=>simp
theorem op_catT:OpR X (binaryOp .Add) (Auu X.K):=by
 intro pins s σ H x y v u Q I rx ry h
 obtain⟨a,b,xs,ys,rfl,rfl,ha,hb,hx,hz,q1,q2⟩:=h
 cases rx
 cases ry
 obtain⟨its,r1,p1,_⟩:=I.tuple ha
 obtain⟨its2,r2,p2,_⟩:=I.tuple hb
 refine HT.cat_tup p1 p2 (fun z=>hx (r1.nil_iff.mp z)) (fun z=>⟨.ref a,H,I,rfl,q1 (r2.nil_iff.mp z)⟩) (fun z=>?_) (by rw[<- r1.length,<- r2.length];exact hz)
 refine⟨.ref s.heap.objs.size,_,I.laid (t':=s.toks) (o:=.tup (xs++ys)) (fun b ob q=>Axi _ q) (Axu _) ?_,rfl,q2 (fun w=>z (r2.nil_iff.mpr w)) _ (I.hok.fresh (Axu _))⟩
 exact⟨by rw[Axt];exact hz,_,r1.append r2,TupD.new _ _⟩
end
noncomputable def ixN (n:Nat) (i:Int):Option Nat:=if 0<=i then (if i < n then some i.toNat else none) else if -(n:Int)<=i then some (i+n).toNat else none
def atI {α:Type} (xs:List α) (i:Int):Option α:=(ixN xs.length i).bind fun j=>xs[j]?
theorem Yq {n:Nat}{i:Int}{j:Nat} (h:ixN n i=some j):seqIndex? i n=some j/\j < n/\-(n:Int)<=i/\i < n:=by
 unfold ixN at h
 by_cases h0:0<=i
 ·rw[Axv h0] at h
  by_cases h1:i < n
  ·rw[Axv h1] at h
   have e:i.toNat=j:=Ayk h
   exact⟨by rw[seqIndex_of h0 h1,e],by lia,by lia,h1⟩
  ·rw[Axy h1] at h;cases h
 ·rw[Axy h0] at h
  by_cases h1:-(n:Int)<=i
  ·rw[Axv h1] at h
   have e:(i+n).toNat=j:=Ayk h
   exact⟨by rw[seqIndex_neg (by lia) h1,e],by lia,h1,by lia⟩
  ·rw[Axy h1] at h;cases h
theorem Nj {α:Type}{xs:List α}{i:Int}{v:α} (h:atI xs i=some v):∃ j,seqIndex? i xs.length=some j/\xs[j]?=some v/\j < xs.length/\-(xs.length:Int)<=i/\i < xs.length:=by
 unfold atI at h
 cases e:ixN xs.length i with
 |none=>rw[e] at h;cases h
 |some j =>
  rw[e] at h
  obtain⟨h1,h2,h3,h4⟩:=Yq e
  exact⟨j,h1,h,h2,h3,h4⟩
def Jq (b:Expr):Prop:=∀ o i,subscripted b false o i=operate [o,i] (getItem o i)
def IxR (X:Cx) (r:R2):Prop :=
 ∀ (value slice:Expr) (pins:List (Addr×Obj)) (s:Shared) (σ:St) (H:Hp) (x y:V) (v u:Value) (Q:VK),Inv X pins σ H s->RelV x v->RelV y u->r x y H Q ->
  subscripted slice false v u=operate [v,u] (getItem v u)->wpAny (model X.prog X.w) X.A (subscriptTail value slice v u) (EP X pins σ Q) X.xe s
def MtR (X:Cx) (id:String) (r:V->List V->Hp->VK->Prop):Prop :=
 ∀ (pins:List (Addr×Obj)) (s:Shared) (σ:St) (H:Hp) (x:V) (xs:List V) (v:Value) (us:List Value) (Q:VK),Inv X pins σ H s->RelV x v->Vals xs us->r x xs H Q ->
  wpAny (model X.prog X.w) X.A (call (.builtin id) (v::us)) (EP X pins σ Q) X.xe s
section
variable {X:Cx}{a b:Expr}{ta tb:TE}{pos:Pos}
theorem IxR.or {r r':R2} (h:IxR X r) (h':IxR X r'):IxR X (fun x y H Q=>r x y H Q\/r' x y H Q):=by
 intro value slice pins s σ H x y v u Q I rx ry q hs
 rcases q with q|q
 ·exact h value slice pins s σ H x y v u Q I rx ry q hs
 ·exact h' value slice pins s σ H x y v u Q I rx ry q hs
theorem Aqi {r:R2} (hr:IxR X r) (ha:PE X a ta) (hb:PE X b tb) (hs:Jq b):PE X (.Subscript a b pos) (tOp r ta tb):=by
 intro pins s σ H Q I h
 exact Subscript_ (Arx ha hb I h fun v u s2 x y H2 I2 rx ry q=>hr a b pins s2 σ H2 x y v u Q I2 rx ry q (hs _ _))
def Ave (K:W.Frag):R2:=fun x y H Q=>∃ p xs i v,x=.ref p/\y=.int i/\SqL K H p xs/\atI xs i=some v/\Q v H
def Avg (K:W.Frag):R2:=fun x y H Q=>∃ p xs i v,x=.ref p/\y=.int i/\SqT K H p xs/\atI xs i=some v/\Q v H
def Avf:R2:=fun x y H Q=>∃ z i c,x=.str z/\y=.int i/\z.length<=sizeLine/\atI z.cps.toList i=some c/\Q (.str ⟨#[c]⟩) H
theorem ix_list:IxR X (Ave X.K):=by
 intro value slice pins s σ H x y v u Q I rx ry h hs
 obtain⟨p,xs,i,z,rfl,rfl,hq,he,q⟩:=h
 cases rx
 obtain⟨t,rfl⟩:=ry
 obtain⟨its,r,pl,hz⟩:=I.list hq
 obtain⟨j,h1,h2,h3,h4,h5⟩:=Nj he
 obtain⟨w,ew,rw'⟩:=r.get h2
 have hl:=r.length
 have hn:=Mv
 have fin:EP X pins σ Q w s:=⟨z,H,I,rw',q⟩
 by_cases h0:0<=i
 ·have hj:i.toNat=j:=by
   rw[seqIndex_of h0 h5] at h1
   exact Ayk h1
  exact item_listR pl.isList h0 (by lia) (by rw[hj];simpa using ew) fin hs
 ·have hj:(i+(its.toArray.size:Int)).toNat=j:=by
   rw[seqIndex_neg (by lia) h4] at h1
   rw[Axk,<- hl]
   exact Ayk h1
  exact subscriptTail_builtinR (x:=w) pl.isList.typeIs slot_list_getitem.lookup
   (wpAny_getItem_list_neg (Q:=fun r s'=>r=w/\EP X pins σ Q r s') pl.isList (by lia) (by rw[Axk]<;>lia) (by lia) (by rw[hj];simpa using ew) ⟨rfl,fin⟩) hs
theorem ix_tup:IxR X (Avg X.K):=by
 intro value slice pins s σ H x y v u Q I rx ry h hs
 obtain⟨p,xs,i,z,rfl,rfl,hq,he,q⟩:=h
 cases rx
 obtain⟨t,rfl⟩:=ry
 obtain⟨its,r,pl,hz⟩:=I.tuple hq
 obtain⟨j,h1,h2,h3,h4,h5⟩:=Nj he
 obtain⟨w,ew,rw'⟩:=r.get h2
 have hl:=r.length
 have hn:=Mv
 have fin:EP X pins σ Q w s:=⟨z,H,I,rw',q⟩
 exact subscriptTail_builtinR (x:=w) pl.typeIs slot_tuple_getitem.lookup
  (getItem_tuple (j:=j) (Q:=fun r s'=>r=w/\EP X pins σ Q r s') pl (by lia) (by lia) (by rw[Axk,<- hl];exact h1) (by simpa using ew) ⟨rfl,fin⟩) hs
theorem Aod:IxR X Avf:=by
 intro value slice pins s σ H x y v u Q I rx ry h hs
 obtain⟨z,i,c,rfl,rfl,hz,he,q⟩:=h
 obtain⟨t,rfl⟩:=rx
 obtain⟨t',rfl⟩:=ry
 obtain⟨j,h1,h2,h3,h4,h5⟩:=Nj he
 have hl:z.cps.toList.length=z.length:=by simp[Str.length]
 rw[hl] at h1 h4 h5
 have hn:=Mv
 exact tail_any (typeIs_str s z t) slot_str_getitem.lookup (getItem_str (c:=c) (by
  have e1:decide (i < -(2 ^ 63:Int))=false:=Ax3 (by lia)
  have e2:decide (i ≥ 2 ^ 63)=false:=Ax3 (by lia)
  rw[e1,e2,Bool.or_false]) (by rw[h1];simpa using h2) ⟨.str ⟨#[c]⟩,H,I.tok _,⟨_,rfl⟩,q⟩) hs
def rIx (K:W.Frag):R2:=fun x y H Q=>Ave K x y H Q\/Avg K x y H Q\/Avf x y H Q
theorem Afc:IxR X (rIx X.K):=ix_list.or (ix_tup.or Aod)
theorem Vx (its:List Value) (n j:Nat) (u:Value):Obj.mapSeq (·.setIfInBounds j u) { cls:=.type "list",data:=.seq its.toArray n }={ cls:=.type "list",data:=.seq (its.set j u).toArray n }:=by
 simp[Obj.mapSeq]
theorem Inv.lst {pins:List (Addr×Obj)}{σ:St}{H:Hp}{s:Shared}{p:Addr}{xs:List V} (I:Inv X pins σ H s) (h:H p=some (.lst xs)) :
  ∃ (its:List Value) (n:Nat),Vals xs its/\s.heap.get? p=some { cls:=.type "list",data:=.seq its.toArray n }/\xs.length<=sizeLine:=by
 obtain⟨z,its,n,r,e⟩:=I.hok p _ h
 exact⟨its,n,r,e,z⟩
theorem Inv.lstUpd {pins:List (Addr×Obj)}{σ:St}{H:Hp}{s:Shared}{p:Addr}{xs ys:List V}{its its':List Value}{n n':Nat}{f:Obj->Obj} (I:Inv X pins σ H s) (h:H p=some (.lst xs))
  (ho:s.heap.get? p=some { cls:=.type "list",data:=.seq its.toArray n }) (hf:f { cls:=.type "list",data:=.seq its.toArray n }={ cls:=.type "list",data:=.seq its'.toArray n' }) (r:Vals ys its') (hz:ys.length<=sizeLine) (t:Nat) :
  Inv X pins σ (upd H p (.lst ys)) { s with heap:=s.heap.update p f,toks:=t }:=by
 have e:(s.heap.update p f).get? p=some { cls:=.type "list",data:=.seq its'.toArray n' }:=by
  rw[Ayz f ho (by rw[hf]<;>rfl),hf]
 refine I.write (x:=p) (e:=p) (by rw[h];trivial) (.inl rfl) (fun b u hb q=>(Ax2 _ _ (Ayw hb)).trans q) ⟨_,e⟩ ?_
 exact⟨hz,its',n',r,e⟩
def Auv:V->V->V->Hp->(Hp->Prop)->Prop:=fun o i v H Q=>∃ p xs k j,o=.ref p/\i=.int k/\H p=some (.lst xs)/\ixN xs.length k=some j/\Q (upd H p (.lst (xs.set j v)))
theorem Ux:Au6 X Auv:=by
 intro pins s σ H o i v ov iv u Q I ro ri rv h
 obtain⟨p,xs,k,j,rfl,rfl,hp,hj,q⟩:=h
 cases ro
 obtain⟨t,rfl⟩:=ri
 obtain⟨its,n,r,ho,hz⟩:=I.lst hp
 obtain⟨h1,h2,h3,h4⟩:=Yq hj
 have hl:=r.length
 have hn:=Mv
 have I':Inv X pins σ (upd H p (.lst (xs.set j v))) { s with heap:=s.heap.update p (Obj.mapSeq (·.setIfInBounds j u)) } :=
  I.lstUpd hp ho (Vx its n j u) (r.set rv j) (by rw[List.length_set];exact hz) s.toks
 by_cases h0:0<=k
 ·have hk:k.toNat=j:=by
   rw[seqIndex_of h0 h4] at h1
   exact Ayk h1
  exact W.ki_setAt ho h0 (by lia) (by rw[Axk,<- hl];exact h4) (by rw[hk];exact⟨_,I',q⟩)
 ·have hk:(k+(its.toArray.size:Int)).toNat=j:=by
   rw[seqIndex_neg (by lia) h3] at h1
   rw[Axk,<- hl]
   exact Ayk h1
  exact W.ki_setBack ho (by lia) (by rw[Axk,<- hl];exact h3) (by lia) (by rw[hk];exact⟨_,I',q⟩)
theorem O7:Abi X (.type "list") (fun xs H Q=>∃ p ys,xs=[.ref p]/\(SqL X.K H p ys\/SqT X.K H p ys)/\∀ l,H l=none->Q (.ref l) (upd H l (.lst ys))):=by
 intro pins s σ H xs us Q I r h
 obtain⟨p,ys,rfl,hq,q⟩:=h
 obtain⟨u,rfl,rx⟩:=Iy r
 cases rx
 have fin:∀ (its:List Value),Vals ys its->ys.length<=sizeLine->∀ (h':Heap) (c':Nat),(∀ b o',s.heap.get? b=some o'->h'.get? b=some o') ->
   h'.get? s.heap.objs.size=some { cls:=.type "list",dict:=none,data:=.seq its.toArray c',slots:=#[] }->EP X pins σ Q (.ref s.heap.objs.size) { s with heap:=h' }:=fun its r' hz h' c' kp e =>
  ⟨.ref s.heap.objs.size,_,I.laid (t':=s.toks) kp (Axu _) (show ObjOk X.prog X.w X.K _ h' _ (.lst ys) from ⟨hz,its,c',r',e⟩),rfl,q _ (I.hok.fresh (Axu _))⟩
 rcases hq with hq|hq
 ·obtain⟨its,r',pl,hz⟩:=I.list hq
  have hlen:=r'.length
  obtain⟨o,ho,hc,n,hd⟩:=pl.isList
  exact call_list_seq p (.inl rfl) ho hc hd (fun h' c' kp e=>fin its r' hz h' c' kp e) (by simp only[Axk]<;>lia)
 ·obtain⟨its,r',pl,hz⟩:=I.tuple hq
  have hlen:=r'.length
  obtain⟨o,ho,hc,n,hd⟩:=pl
  exact call_list_seq p (.inr rfl) ho hc hd (fun h' c' kp e=>fin its r' hz h' c' kp e) (by simp only[Axk]<;>lia)
theorem Nl:Abi X (.type "tuple") (fun xs H Q=>∃ p ys,xs=[.ref p]/\((SqL X.K H p ys/\∀ l,H l=none->Q (.ref l) (upd H l (.tup ys)))\/(SqT X.K H p ys/\Q (.ref p) H))):=by
 intro pins s σ H xs us Q I r h
 obtain⟨p,ys,rfl,h⟩:=h
 obtain⟨u,rfl,rx⟩:=Iy r
 cases rx
 rcases h with ⟨hq,q⟩|⟨hq,q⟩
 ·obtain⟨its,r',pl,hz⟩:=I.list hq
  have hlen:=r'.length
  refine call_tuple_list pl.isList (fun h' kp=>?_) (by simp only[Axk]<;>lia)
  have I1:Inv X pins σ H { s with heap:=h' }:=I.kept (t':=s.toks) kp
  have I2:Inv X pins σ (upd H h'.objs.size (.tup ys)) { s with heap:=h'.push { cls:=.type "tuple",data:=.seq its.toArray } } :=
   I1.laid (t':=s.toks) (fun b o e=>Axi _ e) (Axu _) (show ObjOk X.prog X.w X.K _ _ _ (.tup ys) from ⟨hz,its,r',TupD.new _ _⟩)
  exact⟨.ref h'.objs.size,_,I2,rfl,q _ (I1.hok.fresh (Axu _))⟩
 ·obtain⟨its,r',pl,hz⟩:=I.tuple hq
  exact call_tuple_same pl ⟨.ref p,H,I,rfl,q⟩
def tyV (K:W.Frag) (T:String) (x:V) (H:Hp):Prop:=match x with
 |.str _=>T="str"
 |.int _=>T="int"
 |.ref p=>(T="list"/\∃ xs,SqL K H p xs)\/(T="tuple"/\∃ o,K.lookup p=some o/\o.cls=.type "tuple"/\o.dict=none) \/
   (T="dict"/\((∃ kvs,H p=some (.dK kvs))\/∃ kvs,H p=some (.dT kvs)))\/(T="set"/\∃ S n,H p=some (.set S n))
 |_=>False
theorem Arp {pins:List (Addr×Obj)}{σ:St}{H:Hp}{s:Shared}{T:String}{x:V}{v:Value} (I:Inv X pins σ H s) (r:RelV x v) (ty:tyV X.K T x H) :
  s.TypeIs v T/\∀ a,v=.ref a->∃ ob,s.heap.get? a=some ob/\ob.dict=none:=by
 cases x with
 |str z =>
  obtain⟨t,rfl⟩:=r
  cases (show T="str" from ty)
  exact⟨typeIs_str s z t,fun _ e=>nomatch e⟩
 |int i =>
  obtain⟨t,rfl⟩:=r
  cases (show T="int" from ty)
  exact⟨typeIs_int s i t,fun _ e=>nomatch e⟩
 |ref p =>
  cases r
  rcases ty with ⟨rfl,xs,hq⟩|⟨rfl,o,hk,hc,hd⟩|⟨rfl,hk⟩|⟨rfl,S,n,hk⟩
  ·obtain⟨its,_,pl,_⟩:=I.list hq
   refine⟨pl.isList.typeIs,fun a e=>?_⟩
   cases e
   obtain⟨o,n,e,c,hd,_⟩:=pl
   exact⟨o,e,hd⟩
  ·refine⟨⟨o,I.kIn p o hk,hc⟩,fun a e=>?_⟩
   cases e
   exact⟨o,I.kIn _ o hk,hd⟩
  ·have z:∃ o,s.heap.get? p=some o/\o.ExactDict:=by
    rcases hk with ⟨kvs,hk⟩|⟨kvs,hk⟩
    ·obtain⟨_,_,_,_,o,_,_,e,ex,_⟩:=I.hok p _ hk
     exact⟨o,e,ex⟩
    ·obtain⟨_,_,_,_,o,_,_,e,ex,_⟩:=I.hok p _ hk
     exact⟨o,e,ex⟩
   obtain⟨o,e,ex⟩:=z
   refine⟨⟨o,e,ex.1⟩,fun a e2=>?_⟩
   cases e2
   exact⟨o,e,ex.2.1⟩
  ·obtain⟨o,_,_,_,e,ex,_⟩:=I.hok p _ hk
   refine⟨⟨o,e,ex.1⟩,fun a e2=>?_⟩
   cases e2
   exact⟨o,e,ex.2.1⟩
 |_=>exact False.elim ty
noncomputable def tBM (K:W.Frag) (T:String) (r:V->List V->Hp->VK->Prop) (to:TE) (t:TA):TE:=fun σ H Q=>to σ H fun x H1=>tyV K T x H1/\t σ H1 fun xs H2=>r x xs H2 Q
variable {o e:Expr}{es:List Expr}{to:TE}{t:TA}{name:Str}{apos cpos:Pos}{T id:String}{r:V->List V->Hp->VK->Prop}
theorem Aqg (pa:PlainAttrs T) (slot:Slot T name id) (hty:typeOf (.builtin id)=pure (.type "method_descriptor")) (hm:MtR X id r) (ho:PE X o to) (ha:PA X (e::es) t)
  (hbase:attributeBase o name X.env (eval o X.env)=eval o X.env:=by rfl)
  (hfew:((backTo cpos (starEach (e::es) X.env)).all (fun x=>!x.1)&&(backToKw cpos (keywordEach [] X.env)).all (fun x=>x.1.isSome)
   &&decide ((e::es).length+([]:List Keyword).length+(if ([]:List Keyword).isEmpty then 0 else 1) < 30))=true:=by rfl)
  (hline:(apos.endLine == cpos.line)=true:=by rfl) (hs:starEach (e::es) X.env=(false,eval e X.env)::starEach es X.env:=by rfl) (hplain:(backTo cpos (starEach es X.env)).any (·.1)=false:=by rfl) :
  PE X (.Call (.Attribute o name apos) (e::es) [] cpos) (tBM X.K T r to t):=by
 intro pins s σ H Q I h
 refine wpAny_Call_method_late hbase hfew hline rfl (thn (ho pins s σ H _ I h) fun v s1 ⟨x,H1,I1,r1,ty,q1⟩=>?_)
 obtain⟨h1,h2⟩:=Arp I1 r1 ty
 refine⟨T,id,pa,slot,hty,h1,h2,?_⟩
 have hA:=ha cpos pins s1 σ H1 _ I1 q1
 rw[hs] at hA ⊢
 refine Calls.callWith_builtin (by show (false||(backTo cpos (starEach es X.env)).any (·.1))=false;rw[hplain]<;>rfl) (Calls.evalArgs_plain ?_)
 exact thn hA fun us s2 ⟨vs,H2,I2,r2,q2⟩=>hm pins s2 σ H2 x vs v us Q I2 r1 r2 q2
end
def MtM (X:Cx) (id:String) (r:V->List V->Hp->VK->Prop):Prop :=
 ∀ (pins:List (Addr×Obj)) (s:Shared) (σ:St) (H:Hp) (x:V) (xs:List V) (v:Value) (us:List Value) (Q:VK),Inv X pins σ H s->RelV x v->Vals xs us->r x xs H Q ->
  wpAny (model X.prog X.w) X.A (call (.builtin id) (v::us)) (EP X pins σ Q) X.xe s
theorem Vals.one:∀ {x:V}{us:List Value},Vals [x] us->∃ u,us=[u]/\RelV x u
 |_,_,.cons r .nil=>⟨_,rfl,r⟩
theorem Vals.reverse {xs:List V}{us:List Value} (h:Vals xs us):Vals xs.reverse us.reverse:=by
 induction h with
 |nil=>exact .nil
 |cons r t ih=>rw[Baf,Baf];exact Vals.append ih (.cons r .nil)
section
variable {X:Cx}{pins:List (Addr×Obj)}{σ:St}{H:Hp}{s:Shared}{l b:Addr}{xs ys zs:List V}
theorem Inv.lset {its its':List Value}{n:Nat}{f:Array Value->Array Value}{t':Nat} (I:Inv X pins σ H s) (hH:H l=some (.lst xs))
  (e:s.heap.get? l=some { cls:=.type "list",data:=.seq its.toArray n }) (hf:f its.toArray=its'.toArray) (hv:Vals ys its') (hz:ys.length<=sizeLine) :
  Inv X pins σ (upd H l (.lst ys)) { s with heap:=s.heap.update l (Obj.mapSeq f),toks:=t' }:=by
 have q:=PySem.IsL.update e f
 rw[hf] at q
 refine I.write (x:=l) (e:=l) (by rw[hH];exact trivial) (.inl rfl) (fun b' u hb hu=>(Ax2 s.heap (Obj.mapSeq f) (Ayw hb)).trans hu) ⟨_,q⟩ ?_
 exact⟨hz,its',_,hv,q⟩
theorem Inv.lnew {its:List Value}{t':Nat} (I:Inv X pins σ H s) (hv:Vals ys its) (hz:ys.length<=sizeLine) :
  Inv X pins σ (upd H s.heap.objs.size (.lst ys)) { s with heap:=s.heap.push { cls:=.type "list",data:=.seq its.toArray },toks:=t' } :=
 I.laid (fun _ _ q=>Axi _ q) (Axu _) ⟨hz,its,0,hv,Axw _ rfl⟩
theorem Inv.fresh (I:Inv X pins σ H s):H s.heap.objs.size=none:=I.hok.fresh (Axu _)
inductive LstM (h:Heap) (l:Addr) (xs:List V):Prop where
 |mk (z:xs.length<=sizeLine) (its:List Value) (n:Nat) (r:Vals xs its) (q:xs.length=its.length) (e:h.get? l=some { cls:=.type "list",data:=.seq its.toArray n })
theorem Inv.lstM (I:Inv X pins σ H s) (hH:H l=some (.lst xs)):LstM s.heap l xs:=by
 obtain⟨z,its,n,r,e⟩:=I.hok l _ hH
 exact⟨z,its,n,r,r.length,e⟩
theorem Ac5 {n:Nat} (h:n<=sizeLine):Builtin.List.listTooLong n=false:=by
 unfold Builtin.List.listTooLong
 exact Ax3 (by lia)
end
section
variable {X:Cx}
def Aan:V->List V->Hp->VK->Prop:=fun x vs H Q=>∃ l xs y,x=.ref l/\vs=[y]/\H l=some (.lst xs)/\xs.length < sizeLine/\Q .non (upd H l (.lst (xs++[y])))
theorem Pt:MtM X "list.append" Aan:=by
 intro pins s σ H x vs v us Q I rx rv h
 obtain⟨l,xs,y,rfl,rfl,hH,hz,q⟩:=h
 cases rx
 obtain⟨u,rfl,ru⟩:=rv.one
 obtain⟨z,its,n,r,hl,e⟩:=I.lstM hH
 refine call_meets F.slot_list_append ⟨_,e,rfl⟩ F.entry_list_append (F.args_list_append_2 _ _) (PySem.list_append l its.toArray n u (by rw[Axk];lia)) ⟨e,?_⟩
 refine⟨.non,_,I.lset (its':=its++[u]) hH e (by simp) (r.append (.cons ru .nil)) ?_,rfl,q⟩
 rw[Axt,Az0]
 lia
end
section
variable {prog:Program}{w:World}{A:Around}{E:Value->Shared->Prop}{s:Shared}
set_option maxRecDepth 100000 in
end
section
variable {X:Cx}
end
end L2
namespace Att
open PySem PySem.W PySem.Calls PyProof.Rows
theorem J2 {P:Params}{h:Heap}:∀ (ns:List Int) (vs:List Value),WellAll P h vs (ns.map WData.int)->IntsAre vs ns:=by
 intro ns
 induction ns with
 |nil =>
  intro vs w
  rw[Azq] at w
  cases w
  exact .nil
 |cons n ns ih =>
  intro vs w
  rw[Axs] at w
  cases w with
  |cons a b =>
   cases a
   exact .cons _ _ (ih _ b)
theorem Aaz {l:OpenLaw}{n:Nat} (hn:l.most=some n) {P:Params}{h:Heap}{args:List WData}{vals:List Value}
  (hpre:l.row.toRowW.claim.pre args=true) (hwl:WellAll P h vals args) :
  ∃ a vs ns,vals=[Value.ref a]/\args=[WData.list (ns.map WData.int)]/\h.get? a=some { cls:=.type "list",data:=.seq vs.toArray }/\IntsAre vs ns/\ns.length<=n:=by
 have hsh:WShape.hasAll [] args [.list .int]=true:=(pre_splitW hpre).1
 have hc:l.pre.holds [] { args:=args }=true:=(pre_splitW hpre).2
 obtain⟨d,r,rfl,h1,h2⟩:=hasAllW_cons hsh
 obtain rfl:=hasAllW_nil h2
 obtain⟨xs,rfl,h3⟩:=hasW_list h1
 obtain⟨ns,rfl⟩:=items_int h3
 have hlen:ns.length<=n:=by
  unfold OpenLaw.pre at hc
  have h4:(WTm.not (.lt (.lit (.int (n:Int))) (.len (.arg 0)))).holds [] { args:=[.list (ns.map .int)] }=true:=by
   have h4:=(holds_andW hc).1
   rw[hn] at h4
   exact h4
  have h5:=condW_of h4 (w_not (w_lt w_lit (w_len_list (w_arg rfl))))
  rw[Axq] at h5
  refine Nat.le_of_not_lt fun q=>?_
  have q':(n:Int) < ((ns.length:Nat):Int):=by lia
  first
   |(rw[Ayl q'] at h5;exact absurd h5 (by decide))
   |(simp at h5;lia)
 cases hwl with
 |cons w1 w2 =>
  cases w2
  cases w1 with
  |list ho hall=>exact⟨_,_,ns,rfl,rfl,ho,J2 ns _ hall,hlen⟩
theorem Z1 (l:OpenLaw) (args:List WData):l.row.toRowW.claim.post args (.bool true) args=true :=
 postW_of (r:=l.row.toRowW) (X:=(true == true))
  (show WShape.has [] (.bool true) .bool=true by first|rfl|decide|simp[WShape.has,WShape.arms,WShape.armsAll])
  (show (WTm.eq .res (.lit (.bool true))).value [] { args:=args,res:=some (.bool true),after:=args }=some (.bool (true == true)) from w_eq_bool (w_res rfl) w_lit) rfl
theorem attach_call {l:OpenLaw}{n:Nat}{q:Program}{loose:List Str}{XP:(Str->Option Value)->Heap->Prop}{YP:World->Heap->Prop}{d:DefRec}
  (hn:l.most=some n) (hdf:d.params.defaults=[])
  (call:∀ (w:World) (s₀ s₁:Shared) (mg mb:Str->Option Value) (fa:Addr) (o:Obj) (pm cd doc:Value) (a:Addr) (vs:List Value) (ns:List Int),
   Ground q loose [] XP w s₀ mg mb s₁.heap->YP w s₁.heap ->
   s₁.heap.get? fa=some o->o.data=.func (docDef d.name d.params d.body d.scope pm cd doc)->s₁.heap.CodeRec cd d.name->mg d.name=some (.ref fa) ->
   s₁.heap.get? a=some { cls:=.type "list",data:=.seq vs.toArray }->IntsAre vs ns->ns.length<=n->s₁.gens=#[] ->
   codeAny (model l.prog w) callerA (.call (.ref fa) ⟨[.ref a],[]⟩) (fun r s'=>r=.ok (.ret (.bool true))/\OldK s₁.heap s'.heap/\s'.os=s₁.os/\AllBare s'.gens) s₁) :
  WalkO q loose XP YP l.row.toRowW d [] (fun f vs=>PySem.call f vs):=by
 intro w s₀ s₁ mg mb G Y fa o pm cd doc dV kV ho hd hcd hD hmg hg args vals as hpre hlay hrd hwl hlo
 obtain rfl:dV=.none:=Dflts.none hD hdf
 obtain rfl:kV=.none:=Dflts.noKw hD
 obtain⟨a,vs,ns,rfl,rfl,hobj,hints,hlen⟩:=Aaz hn hpre hwl
 refine enter_call (codeAny_mono (call w s₀ s₁ mg mb fa o pm cd doc a vs ns G Y ho (fd_plain hd) hcd hmg hobj hints hlen hg) fun r s' hq=>?_)
 obtain⟨rfl,h2,h3,h4⟩:=hq
 exact⟨.inl ⟨.bool true,.bool true,[],rfl,fun _=>rfl,.bool true,Z1 l _,fun _=>⟨List.Pairwise.nil,fun _ hm=>(nomatch hm)⟩⟩,h2,h3,h4⟩
section
variable {prog:Program}{w:World}{A:Around}{E:Value->Shared->Prop}{s:Shared}{K:Frag}
end
end Att
namespace L2
open PySem PySem.Spec PyProof.Rows
theorem Rh:∀ {vs:List Value}{ns:List Int},IntsAre vs ns->Vals (ns.map V.int) vs
 |_,_,.nil=>.nil
 |_,_,.cons n t h=>.cons ⟨t,rfl⟩ (Rh h)
def Asc (H:Hp):Prop:=∀ b,H b=none\/∃ o xs,H b=some (.frz o (.lst xs))
theorem Acl {P:Program}{w:World}{K:W.Frag}{mg mb:Str->Option Value}{CX:CXT}{k:Nat}{fa a:Addr}{fd:FuncData}{x:Str}{sp:Sp}{s₁:Shared}{vs:List Value}{ns:List Int}
  (KX:K.In s₁.heap) (hns:s₁.heap.Ns mainGlobals mg) (hb:s₁.heap.Ns builtinsNs mb) (hbb:∀ x:Str,x≠"__name__"->mb x=bootBuiltins x) (hlim:s₁.heap.NoLimit) (hg:s₁.gens=#[])
  (ha:s₁.heap.get? a=some { cls:=.type "list",data:=.seq vs.toArray }) (hi:IntsAre vs ns) (hl:ns.length<=sizeLine) (hr:Room k callerA)
  (F:∀ base:Heap,K.In base->base.Ns mainGlobals mg->FnOk P w K mg base CX k fa fd [x] sp) (hbind:∀ (s:Shared) (u:Value),BindsTo s fd ⟨[u],[]⟩ [(x,u)])
  (hsp:∀ H:Hp,Asc H->SqL K H a (ns.map V.int)->sp [.ref a] H (fun v _=>v=.bl true) fun _ _ _=>False)
  (hCX:∀ H e s',CX [] H s₁ (fun _ _ _=>False) e s'->False) :
  codeAny (model P w) callerA (.call (.ref fa) ⟨[.ref a],[]⟩) (fun r s'=>r=.ok (.ret (.bool true))/\OldK s₁.heap s'.heap/\s'.os=s₁.os/\AllBare s'.gens) s₁:=by
 have rv:=Rh hi
 have lenV:=hi.length
 -- from an abstract heap in which nothing but the script may be tracked
 have core:∀ H:Hp,Asc H->SqL K H a (ns.map V.int)->HOk P w K H s₁.heap->(∀ b,H b≠none->b=a)->(H a≠none->K.lookup a=none) ->
   codeAny (model P w) callerA (.call (.ref fa) ⟨[.ref a],[]⟩) (fun r s'=>r=.ok (.ret (.bool true))/\OldK s₁.heap s'.heap/\s'.os=s₁.os/\AllBare s'.gens) s₁:=by
  intro H hO hS hok hA hK
  have base_of:∀ {b:Addr}{o:Obj},s₁.heap.get? b=some o->H b=none->(Acf s₁.heap H).get? b=some o:=fun e n=>Acg e n
  have noA:∀ {b:Addr}{o:Obj}{es:Array DictEntry}{ep:Nat},s₁.heap.get? b=some o->o.data=.dict es ep->H b=none:=fun {b o es ep} e d=>by
   cases q:H b with
   |none=>rfl
   |some u =>
    have e':b=a:=hA b (by rw[q];simp)
    subst e'
    rw[ha] at e;cases e
    have d':Data.seq vs.toArray _=Data.dict es ep:=d
    cases d'
  have nsK:∀ {b:Addr}{m:Str->Option Value},s₁.heap.Ns b m->(Acf s₁.heap H).Ns b m:=fun {b m} ⟨o,es,ep,e,d,r⟩=>⟨o,es,ep,base_of e (noA e d),d,r⟩
  have hKb:K.In (Acf s₁.heap H):=fun b o e=>base_of (KX b o e) (by
   cases q:H b with
   |none=>rfl
   |some u =>
    have e':b=a:=hA b (by rw[q];simp)
    subst e'
    rw[hK (by rw[q];simp)] at e;cases e)
  have hM:Mod K mg (Acf s₁.heap H):=⟨hKb,nsK hns,⟨mb,nsK hb,hbb⟩,let ⟨mc,h1,h2⟩:=hlim;⟨mc,nsK h1,h2⟩⟩
  have e0:Env0 P w K mg (Acf s₁.heap H) callerA [] s₁ H:=⟨rfl,hM,fun b o e=>Ajf e,Nat.le_of_eq (Ym _ _),trivial,fun b hb=>absurd (show b∈([]:List Addr) from hb) (by simp),hok,.of_eq hg⟩
  refine codeAny_mono ((F _ hKb (nsK hns)).run callerA [] s₁ H ⟨[.ref a],[]⟩ [.ref a] [.ref a] _ _ hr e0 (hbind s₁ (.ref a)) (.cons rfl .nil) (hsp H hO hS)) fun r s' h=>?_
  cases r with
  |error e=>exact (hCX H e s' h).elim
  |ok fl =>
   cases fl with
   |next=>exact False.elim h
   |brk=>exact False.elim h
   |cont=>exact False.elim h
   |ret u =>
    obtain⟨v,H',os,bare,un,hok',r',q⟩:=h
    have q':v=.bl true:=q
    subst q'
    obtain rfl:u=Value.bool true:=r'
    refine⟨rfl,OldK.of_keep fun b o e=>?_,os,bare⟩
    cases q:H b with
    |none=>exact un.keep b o e q (by intro z;exact absurd (show b∈([]:List Addr) from z) (by simp)) (by simp)
    |some u =>
     rcases hO b with z|⟨ob,xs,z⟩
     ·rw[q] at z;cases z
     ·have z2:=un.frzs b ob _ z
      obtain⟨e1,_⟩:=hok b _ z
      obtain⟨e2,_⟩:=hok' b _ z2
      rw[e] at e1;cases e1
      exact e2
 cases hk:K.lookup a with
 |some o =>
  -- the script is one of the module's own objects
  have e:=KX a o hk
  rw[ha] at e
  cases e
  refine core (fun _=>none) (fun _=>.inl rfl) (.inr ⟨_,vs.toArray,_,hk,rfl,rfl,rfl,by rw[Axk,lenV];exact hl,by simpa using rv⟩) (fun b u z=>by have z':(none:Option HO)=some u:=z;cases z') (fun b z=>absurd rfl z) fun z=>absurd rfl z
 |none =>
  refine core (fun b=>if b=a then some (.frz { cls:=.type "list",data:=.seq vs.toArray } (.lst (ns.map V.int))) else none) (fun b=>?_) (.inl (.inr ⟨{ cls:=.type "list",data:=.seq vs.toArray },Axv rfl⟩)) (fun b u z=>?_) (fun b z=>?_) fun _=>hk
  ·by_cases hb:b=a
   ·exact .inr ⟨_,_,Axv hb⟩
   ·exact .inl (Axy hb)
  ·by_cases hb:b=a
   ·have z':=(Axv hb).symm.trans z
    cases z'
    subst hb
    exact⟨ha,by rw[Axq];exact hl,vs,_,rv,ha⟩
   ·have z':=(Axy hb).symm.trans z
    cases z'
  ·by_cases hb:b=a
   ·exact hb
   ·exact absurd (Axy hb) z
theorem walk_of {l:W.OpenLaw}{n k:Nat}{q:Program}{loose:List Str}{XP:(Str->Option Value)->Heap->Prop}{YP:World->Heap->Prop}{d:DefRec}{K:Params->W.Frag}{CX:World->CXT}{sp:World->Sp}{x:Str}
  (hn:l.most=some n) (hn2:n<=sizeLine) (hdf:d.params.defaults=[]) (hr:Room k callerA)
  (hY:∀ (w:World) (h:Heap),YP w h->(K w.params).In h)
  (F:∀ (w:World) (mg:Str->Option Value) (fa:Addr) (h:Heap),(K w.params).In h->h.Ns mainGlobals mg->mg d.name=some (.ref fa) ->
   ∃ fd:FuncData,(∀ (s:Shared) (u:Value),BindsTo s fd ⟨[u],[]⟩ [(x,u)]) /\
    ∀ base:Heap,(K w.params).In base->base.Ns mainGlobals mg->FnOk l.prog w (K w.params) mg base (CX w) k fa fd [x] (sp w))
  (hsp:∀ (w:World) (H:Hp) (a:Addr) (ns:List Int),ns.length<=n->Asc H->SqL (K w.params) H a (ns.map V.int)->sp w [.ref a] H (fun v _=>v=.bl true) fun _ _ _=>False)
  (hCX:∀ (w:World) (H:Hp) (s:Shared) (e:Value) (s':Shared),CX w [] H s (fun _ _ _=>False) e s'->False) :
  W.WalkO q loose XP YP l.row.toRowW d [] (fun f vs=>PySem.call f vs):=by
 refine Att.attach_call hn hdf fun w s₀ s₁ mg mb fa o pm cd doc a vs ns G Y ho hd hcd hmg hobj hints hlen hg=>?_
 have KX:=hY w _ Y
 obtain⟨fd,hb,hF⟩:=F w mg fa _ KX G.T.g hmg
 exact Acl KX G.T.g G.T.b G.T.builtins G.T.nolimit hg hobj hints (Ax7 hlen hn2) hr hF hb (fun H hO hS=>hsp w H a ns hlen hO hS) fun H e s'=>hCX w H s₁ e s'
noncomputable def Gk (s:Stmt):Arguments:=match s with
 |.FunctionDef _ a _ _ _ _ _ _ _ _=>a
 |_=>{ posonlyargs:=[],args:=[],vararg:=none,kwonlyargs:=[],kw_defaults:=[],kwarg:=none,defaults:=[] }
noncomputable def C5 (s:Stmt):List Stmt:=match s with
 |.FunctionDef _ _ b _ _ _ _ _ _ _=>b
 |_=>[]
noncomputable def Bc (s:Stmt):Scope:=match s with
 |.FunctionDef _ _ _ _ _ _ sc _ _ _=>sc
 |_=>{ kind:=.function,names:=[],isGenerator:=false,isCoroutine:=false }
abbrev CX0:CXT:=fun _ _ _ _ _ _=>False
abbrev E0:XK:=fun _ _ _=>False
theorem Adf {X:Cx}:Ou CX0 X E0:=fun _ _ _ _ _ _ _ h=>h.elim
structure Fun (K:W.Frag) (x qual:Str) (st:Stmt) (f:Addr) (fd:FuncData):Prop where
 ex:∃ (oc:Value) (od:Option Addr) (kV doc pm:Value) (an:Option Addr) (cdv ct:Value) (osl:Array (Option Value)),
  fd=W.fnOf x qual (Gk st) (C5 st) (Bc st) .none kV doc pm an cdv ct/\K.lookup f=some ⟨oc,od,.func fd,osl⟩/\W.codeIn K cdv qual=true
 kp:W.keepIn K (.ref f)=true
section
variable {P:Program}{w:World}{K:W.Frag}{mg:Str->Option Value}{base:Heap}
theorem Fun.ok {x qual:Str}{st:Stmt}{f:Addr}{fd:FuncData}{N ps:List Str}{k:Nat}{sp:Sp} (F:Fun K x qual st f fd) (S:FnScope N ps (Bc st)) (len:∀ vs H Q E,sp vs H Q E->vs.length=ps.length)
  (hbody:∀ (cdv:Value) (A:Around) (outer:List Env) (s:Shared) (H:Hp) (vs:List V) (Q:VK) (E:XK),Room k (A.deeper (envOfC qual (Bc st) s.heap.objs.size f cdv))->sp vs H Q E ->
   ∃ t,PSs (X3 CX0 P w K mg base N qual (Bc st) f cdv A outer s H E).nox (C5 st) t/\t { nx:=fun _ H'=>Q .non H',rt:=Q } (Hk N vs) H):FnOk P w K mg base CX0 (k+1) f fd ps sp:=by
 obtain⟨oc,od,kV,doc,pm,an,cdv,ct,osl,rfl,lk,hcd⟩:=F.ex
 refine Ats lk hcd S len fun A outer s H vs Q E hr hsp=>?_
 obtain⟨t,h,q⟩:=hbody cdv A outer s H vs Q E hr hsp
 exact⟨t,h.nox,q⟩
theorem Fun.binds {x qual:Str}{st:Stmt}{f:Addr}{fd:FuncData}{ps:List Str} (F:Fun K x qual st f fd)
  (h:∀ (kV doc pm:Value) (an:Option Addr) (cdv ct:Value) (us:List Value),us.length=ps.length->bindArgs (W.fnOf x qual (Gk st) (C5 st) (Bc st) .none kV doc pm an cdv ct) ⟨us,[]⟩=pure (ps.zip us)):Binds K fd ps []:=by
 obtain⟨oc,od,kV,doc,pm,an,cdv,ct,osl,rfl,lk,hcd⟩:=F.ex
 exact .all (h kV doc pm an cdv ct)
theorem Ae8 {x qual:Str}{st:Stmt}{f:Addr}{oc:Value}{od an:Option Addr}{osl:Array (Option Value)}{kV doc pm cdv ct:Value} (l:K.lookup f=some ⟨oc,od,.func (W.fnOf x qual (Gk st) (C5 st) (Bc st) .none kV doc pm an cdv ct),osl⟩)
  (c:W.codeIn K cdv qual=true) (k:W.keepIn K (.ref f)=true):Fun K x qual st f (W.fnOf x qual (Gk st) (C5 st) (Bc st) .none kV doc pm an cdv ct):=⟨⟨oc,od,kV,doc,pm,an,cdv,ct,osl,rfl,l,c⟩,k⟩
end
section
variable {X:Cx}
end
theorem Ary {A B:Prop} (h:B):if false=true then A else B:=by
 rw[Axy Ax8]
 exact h
theorem Arz {A B:Prop} (h:A):if true=true then A else B:=by
 rw[Axv rfl]
 exact h
def Same (H H':Hp):Prop:=∀ b o,H b=some o->H' b=some o
theorem Same.refl (H:Hp):Same H H:=fun _ _ h=>h
theorem Same.trans {H H1 H2:Hp} (a:Same H H1) (b:Same H1 H2):Same H H2:=fun c o h=>b c o (a c o h)
theorem Same.free {H H':Hp} (e:Same H H') {l:Addr} (h:H' l=Option.none):H l=Option.none:=by
 cases q:H l with
 |none=>rfl
 |some o =>
  rw[e l o q] at h
  cases h
end L2
end S_LayL
section S_ML1
namespace L2
namespace ML
open PySem PySem.Spec PyProof.Rows
theorem Al {z:α}{P:Prop} (e:none=some z):P:=nomatch e
theorem Dq {P:Prop} (e:false=true):P:=nomatch e
structure Lam where
 qual:Str
 args:Arguments
 body:Expr
 scope:Scope
abbrev Fz:=List Str->List PyData->List Int->W.Frag->Hp->Addr->HO->Prop
inductive D where
 |non|bl (b:Bool)|int (i:Int)|str (x:Str)|tup (ds:List D)|lst (ds:List D)|ref (n:Nat)|kl (ds:List D)|dic (ks vs:List D)|fn (i:Nat) (l:Lam)|dks (ks:List Str) (vs:List D)|fz (φ:Fz) (ss:List Str) (ps:List PyData) (is:List Int)
inductive MObj where
 |lst (ds:List D)
 |dct (ks vs:List D)
 |dcs (ks:List Str) (vs:List D)
abbrev MH:=List MObj
abbrev Bg:=List (Option D)
mutual
def pyD:D->PyData
 |.non=>.none|.bl b=>.bool b|.int i=>.int i|.str x=>.str x
 |.tup ds=>.tuple (Ll ds)|.lst ds=>.list (Ll ds)|.kl ds=>.list (Ll ds)|.ref _=>.none|.dic _ _=>.none|.fn _ _=>.none|.dks _ _=>.none|.fz _ _ _ _=>.none
def Ll:List D->List PyData
 |[]=>[]
 |d::ds=>pyD d::Ll ds
end
def KL (K:W.Frag) (H:Hp) (a:Addr) (xs:List V):Prop:=(∃ o,H a=some (.frz o (.lst xs))) \/
 ∃ (o:Obj) (its:Array Value) (n:Nat),K.lookup a=some o/\o.cls=.type "list"/\o.dict=none/\o.data=.seq its n/\its.size<=sizeLine/\Vals xs its.toList
theorem KL.sq {K:W.Frag}{H:Hp}{a:Addr}{xs:List V} (h:KL K H a xs):SqL K H a xs:=h.elim (fun z=>.inl (.inr z)) .inr
noncomputable def Lk:HO->Prop
 |.lst _=>True
 |.dT _=>True
 |.dK _=>True
 |_=>False
noncomputable def Kpt:HO->Prop
 |.tup _=>True
 |.frz _ _=>True
 |_=>False
def Ar8 (o:Obj) (l:Lam) (c:Addr):Prop:=∃ doc pm ctv:Value,o=W.kdv_obj "<lambda>" l.qual l.args (.expr l.body) l.scope [] .none doc pm c ctv
def FnAt (H:Hp) (a:Addr) (l:Lam):Prop:=∃ o u c oc u',H a=some (.frz o u)/\Ar8 o l c/\H c=some (.frz oc u')/\Aem oc l.qual
def FnK (K:W.Frag) (H:Hp) (a:Addr) (i:Nat) (l:Lam):Prop:=(i < 1000/\FnAt H a l)\/(1000<=i/\W.nsIn K mainGlobals l.qual=some (some (.ref a)))
def FzM (φ:Fz):Prop:=∀ ss ps is K H H' a o,(∀ a o,Kpt o->H a=some o->H' a=some o)->φ ss ps is K H a o->φ ss ps is K H' a o
mutual
inductive Rep (K:W.Frag) (H:Hp) (μ:List Addr) (B:Addr->Prop):D->V->Prop where
 |non:Rep K H μ B .non .non
 |bl (b:Bool):Rep K H μ B (.bl b) (.bl b)
 |int (i:Int):Rep K H μ B (.int i) (.int i)
 |str (x:Str):PyData.strOk x=true->Rep K H μ B (.str x) (.str x)
 |tup {ds:List D}{a:Addr}{xs:List V}:SqT K H a xs->Reps K H μ B ds xs->Rep K H μ B (.tup ds) (.ref a)
 |lst {ds:List D}{a:Addr}{xs:List V}:Rd H a (.lst xs)->¬ B a->Reps K H μ B ds xs->Rep K H μ B (.lst ds) (.ref a)
 |ref {n:Nat}{a:Addr}:μ[n]?=some a->Rep K H μ B (.ref n) (.ref a)
 |kl {ds:List D}{a:Addr}{xs:List V}:KL K H a xs->Reps K H μ B ds xs->Rep K H μ B (.kl ds) (.ref a)
 |dic {ks vs:List D}{a:Addr}{kvs:List (PyData×V)}:Rd H a (.dT kvs)->¬ B a->Ll ks=kvs.map (·.1)->Reps K H μ B vs (kvs.map (·.2))->Rep K H μ B (.dic ks vs) (.ref a)
 |fn {i:Nat}{l:Lam}{a:Addr}:FnK K H a i l->Rep K H μ B (.fn i l) (.ref a)
 |dks {ks:List Str}{vs:List D}{a:Addr}{kvs:List (Key×V)}:Rd H a (.dK kvs)->¬ B a->ks.map Sum.inr=kvs.map (·.1)->Reps K H μ B vs (kvs.map (·.2))->Rep K H μ B (.dks ks vs) (.ref a)
 |fz {φ:Fz}{ss:List Str}{ps:List PyData}{is:List Int}{a:Addr}{o:Obj}{u:HO}:H a=some (.frz o u)->φ ss ps is K H a (.frz o u)->FzM φ->Rep K H μ B (.fz φ ss ps is) (.ref a)
inductive Reps (K:W.Frag) (H:Hp) (μ:List Addr) (B:Addr->Prop):List D->List V->Prop where
 |nil:Reps K H μ B [] []
 |cons {d:D}{v:V}{ds:List D}{vs:List V}:Rep K H μ B d v->Reps K H μ B ds vs->Reps K H μ B (d::ds) (v::vs)
end
section
variable {K:W.Frag}{H H':Hp}{μ μ':List Addr}{B B':Addr->Prop}
theorem SqT.up (hk:∀ a o,Kpt o->H a=some o->H' a=some o) (h:SqT K H a xs):SqT K H' a xs:=by
 rcases h with (h|⟨o,h⟩)|h
 ·exact .inl (.inl (hk _ _ trivial h))
 ·exact .inl (.inr ⟨o,hk _ _ trivial h⟩)
 ·exact .inr h
theorem FnAt.up (hk:∀ a o,Kpt o->H a=some o->H' a=some o) {l:Lam} (h:FnAt H a l):FnAt H' a l :=
 let ⟨o,u,c,oc,u',h1,h2,h3,h4⟩:=h;⟨o,u,c,oc,u',hk _ _ trivial h1,h2,hk _ _ trivial h3,h4⟩
theorem FnK.up (hk:∀ a o,Kpt o->H a=some o->H' a=some o) {l:Lam} (h:FnK K H a i l):FnK K H' a i l:=h.imp (fun⟨h1,h2⟩=>⟨h1,h2.up hk⟩) id
theorem KL.up (hk:∀ a o,Kpt o->H a=some o->H' a=some o) (h:KL K H a xs):KL K H' a xs:=by
 rcases h with ⟨o,h⟩|h
 ·exact .inl ⟨o,hk _ _ trivial h⟩
 ·exact .inr h
mutual
theorem Rep.up (hk:∀ a o,Kpt o->H a=some o->H' a=some o) (hl:∀ a u,Lk u->Rd H a u->¬ B a->Rd H' a u/\¬ B' a) (hm:∀ (n:Nat) (a:Addr),μ[n]?=some a->μ'[n]?=some a)
  {d:D}{v:V} (r:Rep K H μ B d v):Rep K H' μ' B' d v:=by
 cases r with
 |non=>exact .non
 |bl b=>exact .bl b
 |int b=>exact .int b
 |str b h=>exact .str b h
 |tup h r=>exact .tup (SqT.up hk h) (Reps.up hk hl hm r)
 |lst h b r=>have z:=hl _ (.lst _) trivial h b;exact .lst z.1 z.2 (Reps.up hk hl hm r)
 |ref h=>exact .ref (hm _ _ h)
 |kl h r=>exact .kl (KL.up hk h) (Reps.up hk hl hm r)
 |dic h b e r=>have z:=hl _ (.dT _) trivial h b;exact .dic z.1 z.2 e (Reps.up hk hl hm r)
 |fn h=>exact .fn (h.up hk)
 |dks h b e r=>have z:=hl _ (.dK _) trivial h b;exact .dks z.1 z.2 e (Reps.up hk hl hm r)
 |fz h q f=>exact .fz (hk _ _ trivial h) (f _ _ _ _ _ _ _ _ hk q) f
theorem Reps.up (hk:∀ a o,Kpt o->H a=some o->H' a=some o) (hl:∀ a u,Lk u->Rd H a u->¬ B a->Rd H' a u/\¬ B' a) (hm:∀ (n:Nat) (a:Addr),μ[n]?=some a->μ'[n]?=some a)
  {ds:List D}{vs:List V} (r:Reps K H μ B ds vs):Reps K H' μ' B' ds vs:=by
 cases r with
 |nil=>exact .nil
 |cons h r=>exact .cons (Rep.up hk hl hm h) (Reps.up hk hl hm r)
end
theorem Same.rd (e:Same H H') (h:Rd H a u):Rd H' a u:=by
 rcases h with h|⟨o,h⟩
 ·exact .inl (e _ _ h)
 ·exact .inr ⟨o,e _ _ h⟩
theorem Rep.same (e:Same H H') {d:D}{v:V} (h:Rep K H μ B d v):Rep K H' μ B d v:=h.up (fun _ _ _ h=>e _ _ h) (fun _ _ _ h b=>⟨Same.rd e h,b⟩) fun _ _ h=>h
theorem Reps.same (e:Same H H') {d:List D}{v:List V} (h:Reps K H μ B d v):Reps K H' μ B d v:=h.up (fun _ _ _ h=>e _ _ h) (fun _ _ _ h b=>⟨Same.rd e h,b⟩) fun _ _ h=>h
theorem Reps.length:∀ {ds:List D}{vs:List V},Reps K H μ B ds vs->ds.length=vs.length
 |_,_,.nil=>rfl
 |_,_,.cons _ r=>by simp[Reps.length r]
theorem Reps.get:∀ {ds:List D}{vs:List V}{i:Nat}{d:D},Reps K H μ B ds vs->ds[i]?=some d->∃ v,vs[i]?=some v/\Rep K H μ B d v
 |_,_,_,_,.nil,e=>by simp at e
 |_,_,0,_,.cons h _,e=>by simp at e;subst e;exact⟨_,rfl,h⟩
 |_,_,i+1,d,.cons _ r,e=>by
  obtain⟨v,h1,h2⟩:=Reps.get (i:=i) (d:=d) r (by simpa using e)
  exact⟨v,by simpa using h1,h2⟩
theorem Reps.append:∀ {ds es:List D}{vs ws:List V},Reps K H μ B ds vs->Reps K H μ B es ws->Reps K H μ B (ds++es) (vs++ws)
 |_,_,_,_,.nil,s=>s
 |_,_,_,_,.cons h r,s=>.cons h (Reps.append r s)
theorem Reps.take:∀ {ds:List D}{vs:List V} (n:Nat),Reps K H μ B ds vs->Reps K H μ B (ds.take n) (vs.take n)
 |_,_,0,_=>.nil
 |_,_,_+1,.nil=>.nil
 |_,_,n+1,.cons h r=>.cons h (Reps.take n r)
theorem Reps.drop:∀ {ds:List D}{vs:List V} (n:Nat),Reps K H μ B ds vs->Reps K H μ B (ds.drop n) (vs.drop n)
 |_,_,0,h=>h
 |_,_,_+1,.nil=>.nil
 |_,_,n+1,.cons h r=>Reps.drop n r
theorem Reps.set {d:D} (h:Rep K H μ B d v):∀ {ds:List D}{vs:List V} (i:Nat),Reps K H μ B ds vs->Reps K H μ B (ds.set i d) (vs.set i v)
 |_,_,_,.nil=>.nil
 |_,_,0,.cons _ r=>.cons h r
 |_,_,i+1,.cons q r=>.cons q (Reps.set h i r)
theorem Reps.reverse:∀ {ds:List D}{vs:List V},Reps K H μ B ds vs->Reps K H μ B ds.reverse vs.reverse
 |_,_,.nil=>.nil
 |_,_,.cons h r=>by
  rw[Baf,Baf]
  exact (Reps.reverse r).append (.cons h .nil)
end
noncomputable def OR (K:W.Frag) (H:Hp) (μ:List Addr) (a:Addr):MObj->Prop
 |.lst ds=>∃ xs,H a=some (.lst xs)/\Reps K H μ (·∈μ) ds xs
 |.dct ks vs=>∃ kvs,H a=some (.dT kvs)/\Ll ks=kvs.map (·.1)/\Reps K H μ (·∈μ) vs (kvs.map (·.2))
 |.dcs ks vs=>∃ kvs,H a=some (.dK kvs)/\ks.map Sum.inr=kvs.map (·.1)/\Reps K H μ (·∈μ) vs (kvs.map (·.2))
structure Sim (K:W.Frag) (H:Hp) (μ:List Addr) (m:MH):Prop where
 nd:μ.Nodup
 len:μ.length=m.length
 obj:∀ (n:Nat) (a:Addr) (o:MObj),μ[n]?=some a->m[n]?=some o->OR K H μ a o
structure Step (H:Hp) (μ:List Addr) (H':Hp) (μ':List Addr):Prop where
 pre:∃ l,μ'=μ++l/\∀ b∈l,H b=none
 keep:∀ b o,H b=some o->b∉μ->H' b=some o
structure EnvRep (K:W.Frag) (H:Hp) (μ:List Addr) (σ:St) (env:Bg):Prop where
 len:σ.length=env.length
 get:∀ (i:Nat) (d:D),env[i]?=some (some d)->∃ v,σ[i]?=some (some v)/\Rep K H μ (·∈μ) d v
section
variable {K:W.Frag}{H H' H'':Hp}{μ μ' μ'':List Addr}{m m':MH}
theorem Sim.at (S:Sim K H μ m) (h:a∈μ):∃ (n:Nat) (o:MObj),μ[n]?=some a/\m[n]?=some o/\OR K H μ a o:=by
 obtain⟨n,hn⟩:=Az3 h
 have hl:n < m.length:=by rw[<- S.len];exact (List.getElem?_eq_some_iff.mp hn).1
 exact⟨n,m[n],hn,by simp[hl],S.obj n a _ hn (by simp[hl])⟩
theorem Sim.trk (S:Sim K H μ m) (h:a∈μ):∃ o,H a=some o/\Lk o:=by
 obtain⟨n,o,_,_,q⟩:=S.at h
 cases o with
 |lst ds=>obtain⟨xs,e,_⟩:=q;exact⟨_,e,trivial⟩
 |dct ks vs=>obtain⟨kvs,e,_⟩:=q;exact⟨_,e,trivial⟩
 |dcs ks vs=>obtain⟨kvs,e,_⟩:=q;exact⟨_,e,trivial⟩
theorem Sim.nkpt (S:Sim K H μ m) (k:Kpt o) (h:H a=some o):a∉μ:=fun q=>by
 obtain⟨xs,e,l⟩:=S.trk q
 rw[e] at h
 cases h
 cases o<;>first|exact l|exact k
theorem Sim.nnone (S:Sim K H μ m) (h:H a=none):a∉μ:=fun q=>by
 obtain⟨xs,e,l⟩:=S.trk q
 rw[e] at h;cases h
theorem Step.refl:Step H μ H μ:=⟨⟨[],by simp,by simp⟩,fun _ _ h _=>h⟩
theorem Step.trans (a:Step H μ H' μ') (b:Step H' μ' H'' μ'') (hm:∀ c,H' c=none->H c=none):Step H μ H'' μ'':=by
 obtain⟨l,rfl,h1⟩:=a.pre
 obtain⟨l',rfl,h2⟩:=b.pre
 refine⟨⟨l++l',by simp,fun c hc=>?_⟩,fun c o e n=>?_⟩
 ·rcases List.mem_append.mp hc with z|z
  ·exact h1 c z
  ·exact hm c (h2 c z)
 ·refine b.keep c o (a.keep c o e n) fun z=>?_
  rcases List.mem_append.mp z with z|z
  ·exact n z
  ·rw[h1 c z] at e;cases e
theorem Step.none (S:Sim K H μ m) (S':Sim K H' μ' m') (a:Step H μ H' μ'):∀ c,H' c=none->H c=none:=fun c h=>by
 cases e:H c with
 |none=>rfl
 |some o =>
  by_cases q:c∈μ
  ·obtain⟨l,rfl,_⟩:=a.pre
   exact absurd (Aye _ q) (S'.nnone h)
  ·rw[a.keep c o e q] at h;cases h
theorem Step.of_same (e:Same H H'):Step H μ H' μ:=⟨⟨[],by simp,by simp⟩,fun b o h _=>e b o h⟩
theorem Step.rd (s:Step H μ H' μ') (h:Rd H a u) (n:a∉μ):Rd H' a u:=by
 rcases h with h|⟨o,h⟩
 ·exact .inl (s.keep _ _ h n)
 ·exact .inr ⟨o,s.keep _ _ h n⟩
theorem Step.nin (s:Step H μ H' μ') (h:Rd H a u) (n:a∉μ):a∉μ':=by
 obtain⟨l,rfl,hn⟩:=s.pre
 intro z
 rcases List.mem_append.mp z with z|z
 ·exact n z
 ·have:=hn a z
  rcases h with h|⟨o,h⟩<;>rw[this] at h<;>cases h
theorem Step.ix (s:Step H μ H' μ') {n:Nat}{a:Addr} (h:μ[n]?=some a):μ'[n]?=some a:=by
 obtain⟨l,rfl,_⟩:=s.pre
 rw[Axr (List.getElem?_eq_some_iff.mp h).1]
 exact h
theorem Rep.step (S:Sim K H μ m) (s:Step H μ H' μ') {d:D}{v:V} (h:Rep K H μ (·∈μ) d v):Rep K H' μ' (·∈μ') d v :=
 h.up (fun a o k q=>s.keep a o q (S.nkpt k q)) (fun _ _ _ q b=>⟨s.rd q b,s.nin q b⟩) fun _ _=>s.ix
theorem Reps.step (S:Sim K H μ m) (s:Step H μ H' μ') {d:List D}{v:List V} (h:Reps K H μ (·∈μ) d v):Reps K H' μ' (·∈μ') d v :=
 h.up (fun a o k q=>s.keep a o q (S.nkpt k q)) (fun _ _ _ q b=>⟨s.rd q b,s.nin q b⟩) fun _ _=>s.ix
theorem EnvRep.step (S:Sim K H μ m) (s:Step H μ H' μ') (h:EnvRep K H μ σ env):EnvRep K H' μ' σ env :=
 ⟨h.len,fun i d e=>let ⟨v,h1,h2⟩:=h.get i d e;⟨v,h1,h2.step S s⟩⟩
theorem Sim.same (S:Sim K H μ m) (e:Same H H'):Sim K H' μ m:=⟨S.nd,S.len,fun n a o h1 h2=>by
 have q:=S.obj n a o h1 h2
 cases o with
 |lst ds=>obtain⟨xs,q1,q2⟩:=q;exact⟨xs,e _ _ q1,q2.same e⟩
 |dcs ks vs=>obtain⟨xs,q1,q2,q3⟩:=q;exact⟨xs,e _ _ q1,q2,q3.same e⟩
 |dct ks vs=>obtain⟨xs,q1,q2,q3⟩:=q;exact⟨xs,e _ _ q1,q2,q3.same e⟩⟩
theorem EnvRep.same (e:Same H H') {σ:St}{env:Bg} (h:EnvRep K H μ σ env):EnvRep K H' μ σ env :=
 ⟨h.len,fun i d q=>let ⟨v,h1,h2⟩:=h.get i d q;⟨v,h1,h2.same e⟩⟩
theorem EnvRep.set (h:EnvRep K H μ σ env) (i:Nat) {d:D} (r:Rep K H μ (·∈μ) d v):EnvRep K H μ (σ.set i (some v)) (env.set i (some d)):=by
 refine⟨by simpa using h.len,fun j d' e=>?_⟩
 by_cases q:j=i
 ·subst q
  have hj:j < env.length:=by
   have:=(List.getElem?_eq_some_iff.mp e).1
   simpa using this
  rw[Azh hj] at e
  cases e
  exact⟨v,by rw[Azh (by rw[h.len];exact hj)],r⟩
 ·rw[Az2 (Ayw q)] at e ⊢
  exact h.get j d' e
end
abbrev FE:=Bg->MH->Option D
abbrev FL:=Bg->MH->Option (List D)
abbrev FB:=Bg->MH->Option Bool
inductive tE (K:W.Frag) (f:FE) (σ:St) (H:Hp) (Q:VK):Prop
 |mk (env:Bg) (μ:List Addr) (m:MH) (d:D) (S:Sim K H μ m) (E:EnvRep K H μ σ env) (h:f env m=some d) (q:∀ v H',Same H H'->Rep K H' μ (·∈μ) d v->Q v H')
def nw (μ:List Addr) (a:Addr):Addr->Prop:=fun b=>b∈μ\/b=a
inductive tF (K:W.Frag) (f:FL) (σ:St) (H:Hp) (Q:VK):Prop
 |mk (env:Bg) (μ:List Addr) (m:MH) (ds:List D) (S:Sim K H μ m) (E:EnvRep K H μ σ env) (h:f env m=some ds) (q:∀ a xs H',Same H H'->H a=none->H' a=some (.lst xs)->Reps K H' μ (nw μ a) ds xs->Q (.ref a) H')
inductive tB' (K:W.Frag) (f:FB) (σ:St) (H:Hp) (Q:Bool->Hp->Prop):Prop
 |mk (env:Bg) (μ:List Addr) (m:MH) (b:Bool) (S:Sim K H μ m) (E:EnvRep K H μ σ env) (h:f env m=some b) (q:∀ H',Same H H'->Q b H')
inductive tL (K:W.Frag) (f:FL) (σ:St) (H:Hp) (Q:List V->Hp->Prop):Prop
 |mk (env:Bg) (μ:List Addr) (m:MH) (ds:List D) (S:Sim K H μ m) (E:EnvRep K H μ σ env) (h:f env m=some ds) (q:∀ vs H',Same H H'->Reps K H' μ (·∈μ) ds vs->Q vs H')
abbrev PD (X:Cx) (e:Expr) (f:FE):Prop:=PE X e (tE X.K f)
abbrev PF (X:Cx) (e:Expr) (f:FL):Prop:=PE X e (tF X.K f)
abbrev PB (X:Cx) (e:Expr) (f:FB):Prop:=PT X e (tB' X.K f)
abbrev PL (X:Cx) (es:List Expr) (f:FL):Prop:=PA X es (tL X.K f)
theorem Reps.fresh {K:W.Frag}{H:Hp}{μ:List Addr}{p:Addr}{o:HO}{ds:List D}{vs:List V} (r:Reps K H μ (·∈μ) ds vs) (hp:H p=none):Reps K (upd H p o) μ (nw μ p) ds vs:=by
 have s:Same H (upd H p o):=fun b u e=>by rw[Bb (Az e hp)];exact e
 refine r.up (fun _ _ _ h=>s _ _ h) (fun a u _ h b=>⟨Same.rd s h,fun z=>?_⟩) fun _ _ h=>h
 rcases z with z|z
 ·exact b z
 ·subst z
  rcases h with h|⟨o,h⟩
  ·exact nomatch (hp.symm.trans h)
  ·exact nomatch (hp.symm.trans h)
theorem Reps.unw {K:W.Frag}{H:Hp}{μ:List Addr}{p:Addr}{ds:List D}{vs:List V} (r:Reps K H μ (nw μ p) ds vs):Reps K H μ (·∈μ) ds vs :=
 r.up (fun _ _ _ h=>h) (fun _ _ _ h b=>⟨h,fun z=>b (.inl z)⟩) fun _ _ h=>h
theorem PE.imp {t t':TE} (h:PE X e t) (i:∀ σ H Q,t' σ H Q->t σ H Q):PE X e t':=fun pins s σ H Q I q=>h pins s σ H Q I (i σ H Q q)
theorem PT.imp {t t':TT} (h:PT X e t) (i:∀ σ H Q,t' σ H Q->t σ H Q):PT X e t':=fun pins s σ H Q I q=>h pins s σ H Q I (i σ H Q q)
theorem PA.imp {t t':TA} (h:PA X e t) (i:∀ σ H Q,t' σ H Q->t σ H Q):PA X e t':=fun pos pins s σ H Q I q=>h pos pins s σ H Q I (i σ H Q q)
inductive BS {α β:Type} (o:Option α) (f:α->Option β) (b:β):Prop where
 |mk (a:α) (h1:o=some a) (h2:f a=some b)
theorem bind_some {α β:Type}{o:Option α}{f:α->Option β}{b:β} (h:o.bind f=some b):BS o f b:=by
 cases o with
 |none=>cases h
 |some a=>exact⟨a,rfl,h⟩
section
variable {X:Cx}{a b c e:Expr}{es:List Expr}{pos:Pos}
theorem tE.bin {K:W.Frag}{f g:FE}{o:D->D->MH->Option D}{σ:St}{H:Hp}{Q:VK} (h:tE K (fun env m=>(f env m).bind fun x=>(g env m).bind fun y=>o x y m) σ H Q)
  (r:R2) (hr:∀ μ m x y z v u H' (Q:VK),Sim K H' μ m->Rep K H' μ (·∈μ) x v->Rep K H' μ (·∈μ) y u->o x y m=some z->(∀ w H2,Same H' H2->Rep K H2 μ (·∈μ) z w->Q w H2)->r v u H' Q) :
  tOp r (tE K f) (tE K g) σ H Q:=by
 obtain⟨env,μ,m,d,S,E,h,q⟩:=h
 obtain⟨x,hx,h⟩:=bind_some h
 obtain⟨y,hy,h⟩:=bind_some h
 refine⟨env,μ,m,x,S,E,hx,fun v H1 s1 r1=>⟨env,μ,m,y,S.same s1,E.same s1,hy,fun u H2 s2 r2=>?_⟩⟩
 exact hr μ m x y d v u H2 Q (S.same (s1.trans s2)) (r1.same s2) r2 h fun w H3 s3 r3=>q w H3 ((s1.trans s2).trans s3) r3
noncomputable def Ac (i:Nat):FE:=fun env _=>(env[i]?).bind id
theorem Afu (i:Nat) {pos:Pos} (hN:X.N[i]?=some x) (hv:Vis X.env.scope x) (hd:(x == ("__debug__":Str))=false) (hcd:(x == ("__classdict__":Str))=false):PD X (.Name x pos) (Ac i) :=
 PE.imp (Aql hN hv hd hcd) fun σ H Q ⟨env,μ,m,d,S,E,h,q⟩=>by
  unfold Ac at h
  obtain⟨o,h1,h2⟩:=bind_some h
  have h2:o=some d:=h2
  subst h2
  obtain⟨v,e,r⟩:=E.get i d h1
  exact⟨v,e,q v H (Same.refl H) r⟩
noncomputable def fC (d:D):FE:=fun _ _=>some d
theorem Ap4 {i j pos}:PD X (.Constant (.int i) j pos) (fC (.int i)):=PE.imp Aqh fun σ H Q ⟨env,μ,m,d,S,E,h,q⟩=>by cases h;exact q _ H (Same.refl H) (.int i)
theorem Auh {i j pos}:PD X (.Constant (.bool i) j pos) (fC (.bl i)):=PE.imp Aum fun σ H Q ⟨env,μ,m,d,S,E,h,q⟩=>by cases h;exact q _ H (Same.refl H) (.bl i)
theorem Ap7 {j pos}:PD X (.Constant .none j pos) (fC .non):=PE.imp Zx fun σ H Q ⟨env,μ,m,d,S,E,h,q⟩=>by cases h;exact q _ H (Same.refl H) .non
theorem Aqa {i j pos} (ok:PyData.strOk i=true):PD X (.Constant (.str i) j pos) (fC (.str i)):=PE.imp Aqk fun σ H Q ⟨env,μ,m,d,S,E,h,q⟩=>by cases h;exact q _ H (Same.refl H) (.str i ok)
noncomputable def oI (g:Int->Int->Option D):D->D->MH->Option D
 |.int i,.int j,_=>g i j
 |_,_,_=>none
noncomputable def Cn:D->D->MH->Option D
 |.int i,.int j,_=>some (.int (i+j))
 |.str i,.str j,_=>if i.length+j.length<=1000000 then some (.str (i++j)) else none
 |.tup i,.tup j,_=>if i.length+j.length<=1000000 then some (.tup (i++j)) else none
 |_,_,_=>none
def Ac9:D->D->MH->Option D:=oI fun i j=>some (.int (i - j))
def Ac6:D->D->MH->Option D:=oI fun i j=>if (-(2 ^ 64) < i/\i < 2 ^ 64)\/(-(2 ^ 64) < j/\j < 2 ^ 64) then some (.int (i * j)) else none
def Ao1:D->D->MH->Option D:=oI fun i j=>if 0 < j/\j < 1073741824 then some (.int (i / j)) else none
def Vz:D->D->MH->Option D:=oI fun i j=>if 0 < j then some (.int (i % j)) else none
def Ar3:D->D->MH->Option D:=oI fun i j=>if 0<=j/\j<=1000000/\i.natAbs < 2 ^ 64 then some (.int (i ^ j.toNat)) else none
noncomputable def f2 (o:D->D->MH->Option D) (f g:FE):FE:=fun env m=>(f env m).bind fun x=>(g env m).bind fun y=>o x y m
noncomputable def f1 (o:D->MH->Option D) (f:FE):FE:=fun env m=>(f env m).bind fun x=>o x m
def OpD (X:Cx) (o:D->D->MH->Option D) (r:R2):Prop :=
 ∀ (μ:List Addr) (m:MH) (x y z:D) (v u:V) (H:Hp) (Q:VK),Sim X.K H μ m->Rep X.K H μ (·∈μ) x v->Rep X.K H μ (·∈μ) y u->o x y m=some z->(∀ w H2,Same H H2->Rep X.K H2 μ (·∈μ) z w->Q w H2)->r v u H Q
set_option tactic.hygienic true in
theorem OpD.int {C:Int->Int->Prop}{g:Int->Int->V}{k:Int->Int->Option D} (h:∀ i j z,k i j=some z->C i j/\∀ H μ B,Rep X.K H μ B z (g i j)):OpD X (oI k) (rI C g):=by
 intro μ m x y z v u H Q S rx ry e q
 cases rx<;>first|exact Al e|skip
 cases ry<;>first|exact Al e|skip
 rename_i i j
 obtain⟨hc,hr⟩:=h i j z e
 exact⟨i,j,rfl,rfl,hc,q _ H (Same.refl H) (hr H μ _)⟩
set_option tactic.hygienic true in
theorem OpD.int0 (h:∀ i j z,k i j=some z->∀ H μ B,Rep X.K H μ B z (g i j)):OpD X (oI k) (rI0 g):=by
 intro μ m x y z v u H Q S rx ry e q
 cases rx<;>first|exact Al e|skip
 cases ry<;>first|exact Al e|skip
 rename_i i j
 exact⟨i,j,rfl,rfl,q _ H (Same.refl H) (h i j z e H μ _)⟩
theorem Ajn:OpD X Ac9 (rI0 fun i j=>.int (i - j)):=OpD.int0 fun i j z e H μ B=>by cases e;exact .int _
theorem Ajl:OpD X Ac6 (rI CMul fun i j=>.int (i * j)):=OpD.int fun i j z e=>by
 split at e
 ·cases e;exact⟨by assumption,fun _ _ _=>.int _⟩
 ·cases e
theorem Ajj:OpD X Ao1 (rI Au4 fun i j=>.int (i / j)):=OpD.int fun i j z e=>by
 split at e
 ·cases e;exact⟨by assumption,fun _ _ _=>.int _⟩
 ·cases e
theorem Ajk:OpD X Vz (rI (fun _ j=>0 < j) fun i j=>.int (i % j)):=OpD.int fun i j z e=>by
 split at e
 ·cases e;exact⟨by assumption,fun _ _ _=>.int _⟩
 ·cases e
theorem Ajm:OpD X Ar3 (rI Au5 fun i j=>.int (i ^ j.toNat)):=OpD.int fun i j z e=>by
 split at e
 ·cases e;exact⟨by assumption,fun _ _ _=>.int _⟩
 ·cases e
end
mutual
def B6:D->Bool
 |.ref _=>false
 |.tup ds=>Be ds
 |.lst ds=>Be ds
 |.kl ds=>Be ds
 |.dic _ _=>false
 |.dks _ _=>false
 |.fz _ _ _ _=>false
 |.fn _ _=>false
 |_=>true
def Be:List D->Bool
 |[]=>true
 |d::ds=>B6 d&&Be ds
def dep:D->Nat
 |.tup ds=>Dm ds+1
 |.lst ds=>Dm ds+1
 |.kl ds=>Dm ds+1
 |_=>0
def Dm:List D->Nat
 |[]=>0
 |d::ds=>max (dep d) (Dm ds)
end
noncomputable def C1 (m:MH):D->Option D
 |.ref n=>match m[n]? with
  |some (.lst ds)=>if Be ds=true then some (.lst ds) else none
  |_=>none
 |d=>if B6 d=true then some d else none
def Dj (m:MH):List D->Option (List D)
 |[]=>some []
 |d::ds=>(C1 m d).bind fun d'=>(Dj m ds).bind fun ds'=>some (d'::ds')
noncomputable def sq (m:MH):D->Option (List D)
 |.tup ds=>some ds
 |.lst ds=>some ds
 |.kl ds=>some ds
 |.ref n=>match m[n]? with
  |some (.lst ds)=>some ds
  |_=>none
 |_=>none
section
variable {K:W.Frag}{H H':Hp}{μ μ':List Addr}{B B':Addr->Prop}{m:MH}
mutual
theorem Rep.noref (hk:∀ a u,Rd H a (.lst u)->¬ B a->¬ B' a) {d:D}{v:V} (r:Rep K H μ B d v) (e:B6 d=true):Rep K H μ' B' d v:=by
 cases r with
 |non=>exact .non
 |bl b=>exact .bl b
 |int b=>exact .int b
 |str b h=>exact .str b h
 |tup h r=>exact .tup h (Reps.noref hk r e)
 |lst h b r=>exact .lst h (hk _ _ h b) (Reps.noref hk r e)
 |kl h r=>exact .kl h (Reps.noref hk r e)
 |_=>exact Dq e
theorem Reps.noref (hk:∀ a u,Rd H a (.lst u)->¬ B a->¬ B' a) {ds:List D}{vs:List V} (r:Reps K H μ B ds vs) (e:Be ds=true):Reps K H μ' B' ds vs:=by
 cases r with
 |nil=>exact .nil
 |cons h r =>
  have e':=(Bool.and_eq_true_iff.mp e)
  exact .cons (Rep.noref hk h e'.1) (Reps.noref hk r e'.2)
end
theorem Br (S:Sim K H μ m) {d d':D} (r:Rep K H μ (·∈μ) d v) (h:C1 m d=some d'):Rep K H [] (fun _=>False) d' v/\B6 d'=true:=by
 cases r with
 |@ref n a e =>
  unfold C1 at h
  cases q:m[n]? with
  |none=>simp[q] at h
  |some o =>
   simp only[q] at h
   cases o with
   |dcs _ _=>cases h
   |dct _ _=>cases h
   |lst ds =>
    simp only at h
    split at h
    ·rename_i hn
     cases h
     obtain⟨xs,e1,e2⟩:=S.obj n a _ e q
     exact⟨.lst (.inl e1) (fun z=>z) (e2.noref (fun _ _ _ _ z=>z) hn),hn⟩
    ·cases h
 |non=>unfold C1 at h;simp[B6] at h;subst h;exact⟨.non,rfl⟩
 |bl b=>unfold C1 at h;simp[B6] at h;subst h;exact⟨.bl b,rfl⟩
 |int b=>unfold C1 at h;simp[B6] at h;subst h;exact⟨.int b,rfl⟩
 |str b ok=>unfold C1 at h;simp[B6] at h;subst h;exact⟨.str b ok,rfl⟩
 |@tup ds a xs h1 h2 =>
  unfold C1 at h
  simp only at h
  split at h
  ·rename_i hn
   cases h
   exact⟨(Rep.tup h1 h2).noref (fun _ _ _ _ z=>z) hn,hn⟩
  ·cases h
 |@lst ds a xs h1 h3 h2 =>
  unfold C1 at h
  simp only at h
  split at h
  ·rename_i hn
   cases h
   exact⟨(Rep.lst h1 h3 h2).noref (fun _ _ _ _ z=>z) hn,hn⟩
  ·cases h
 |@kl ds a xs h1 h2 =>
  unfold C1 at h
  simp only at h
  split at h
  ·rename_i hn
   cases h
   exact⟨(Rep.kl h1 h2).noref (fun _ _ _ _ z=>z) hn,hn⟩
  ·exact Al h
 |dic h1 h2 h3 h4=>unfold C1 at h;simp[B6] at h
 |dks _ _ _ _=>unfold C1 at h;simp[B6] at h
 |fz _ _ _=>unfold C1 at h;simp[B6] at h
 |fn _=>unfold C1 at h;simp[B6] at h
theorem Em (S:Sim K H μ m):∀ {ds ds':List D}{vs:List V},Reps K H μ (·∈μ) ds vs->Dj m ds=some ds'->Reps K H [] (fun _=>False) ds' vs
 |_,_,_,.nil,h=>by cases h;exact .nil
 |_,_,_,.cons r rs,h=>by
  unfold Dj at h
  obtain⟨d',h1,h⟩:=bind_some h
  obtain⟨ds',h2,h⟩:=bind_some h
  cases h
  exact .cons (Br S r h1).1 (Em S rs h2)
theorem Nb (S:Sim K H μ m) {d:D} (r:Rep K H μ (·∈μ) d v) (h:sq m d=some ds):∃ a xs,v=.ref a/\(SqL K H a xs\/SqT K H a xs)/\Reps K H μ (·∈μ) ds xs:=by
 cases r with
 |@ref n a e =>
  unfold sq at h
  cases q:m[n]? with
  |none=>simp[q] at h
  |some o =>
   simp only[q] at h
   cases o with
   |dcs _ _=>cases h
   |dct _ _=>cases h
   |lst ds =>
    cases h
    obtain⟨xs,e1,e2⟩:=S.obj n a _ e q
    exact⟨a,xs,rfl,.inl (SqL.of e1),e2⟩
 |@tup ds a xs h1 h2=>cases h;exact⟨a,xs,rfl,.inr h1,h2⟩
 |@lst ds a xs h1 h3 h2=>cases h;exact⟨a,xs,rfl,.inl (.inl h1),h2⟩
 |@kl ds a xs h1 h2=>cases h;exact⟨a,xs,rfl,.inl h1.sq,h2⟩
 |non=>exact Al h
 |bl b=>exact Al h
 |int b=>exact Al h
 |str b ok=>exact Al h
 |dic h1 h2 h3 h4=>exact Al h
 |dks _ _ _ _=>exact Al h
 |fz _ _ _=>exact Al h
 |fn _=>exact Al h
end
mutual
theorem Ek {H:Hp}{s:Shared} (I:Inv X pins σ H s) {d:D}{v:V}{u:Value} (q:Rep X.K H μ B d v) (e:B6 d=true) (r:RelV v u):∃ as,Reads s.heap u (pyD d) as:=by
 cases q with
 |non=>cases r;exact⟨_,.none⟩
 |bl b=>cases r;exact⟨_,.bool b⟩
 |int i=>obtain⟨t,rfl⟩:=r;exact⟨_,.int i t⟩
 |str x _=>obtain⟨t,rfl⟩:=r;exact⟨_,.str x t⟩
 |tup h rs =>
  cases r
  obtain⟨its,rv,⟨o,ho,hc,n,hd⟩,hz⟩:=I.tuple h
  obtain⟨as,ra⟩:=Ej I rs e rv
  exact⟨_,.tuple ho hc hd ra⟩
 |lst h b rs =>
  cases r
  obtain⟨its,rv,⟨o,n,ho,hc,_,hd⟩,hz⟩:=I.list (.inl h)
  obtain⟨as,ra⟩:=Ej I rs e rv
  exact⟨_,.list ho hc hd ra⟩
 |kl h rs =>
  cases r
  obtain⟨its,rv,⟨o,n,ho,hc,_,hd⟩,hz⟩:=I.list h.sq
  obtain⟨as,ra⟩:=Ej I rs e rv
  exact⟨_,.list ho hc hd ra⟩
 |_=>cases e
theorem Ej {H:Hp}{s:Shared} (I:Inv X pins σ H s) {ds:List D}{vs:List V}{us:List Value} (q:Reps X.K H μ B ds vs) (e:Be ds=true) (r:Vals vs us):∃ as,ReadsAll s.heap us (Ll ds) as:=by
 cases q with
 |nil=>cases r;exact⟨_,.nil⟩
 |cons h rs =>
  cases r with
  |cons r rv =>
  have e':=(Bool.and_eq_true_iff.mp e)
  obtain⟨as,h1⟩:=Ek I h e'.1 r
  obtain⟨bs,h2⟩:=Ej I rs e'.2 rv
  exact⟨_,.cons h1 h2⟩
end
mutual
theorem Gq {K:W.Frag}{H:Hp}{μ:List Addr}{B:Addr->Prop}{d:D}{v:V} (r:Rep K H μ B d v):(pyD d).canLay0=true:=by
 cases r with
 |str _ h=>exact h
 |tup _ rs=>exact Je rs
 |lst _ _ rs=>exact Je rs
 |kl _ rs=>exact Je rs
 |_=>rfl
theorem Je {K:W.Frag}{H:Hp}{μ:List Addr}{B:Addr->Prop}{ds:List D}{vs:List V} (r:Reps K H μ B ds vs):PyData.canLayAll0 (Ll ds)=true:=by
 cases r with
 |nil=>rfl
 |cons r rs=>rw[Ll,PyData.canLayAll0,Gq r,Je rs];rfl
end
mutual
theorem Jw:∀ d:D,(pyD d).depth=dep d
 |.non=>rfl
 |.bl _=>rfl
 |.int _=>rfl
 |.str _=>rfl
 |.tup ds=>by rw[pyD,PyData.depth,dep,Jc ds]
 |.lst ds=>by rw[pyD,PyData.depth,dep,Jc ds]
 |.kl ds=>by rw[pyD,PyData.depth,dep,Jc ds]
 |.ref _=>rfl
 |.dic _ _=>rfl
 |.dks _ _=>rfl
 |.fz _ _ _ _=>rfl
 |.fn _ _=>rfl
theorem Jc:∀ ds:List D,PyData.depthAll (Ll ds)=Dm ds
 |[]=>rfl
 |d::ds=>by rw[Ll,PyData.depthAll,Jw d,Jc ds,Dm]
end
noncomputable def deq (x y:D):Bool:=PyData.eqv (pyD x) (pyD y)
def eqO (m:MH) (x y:D):Option Bool:=(C1 m x).bind fun x'=>(C1 m y).bind fun y'=>if dep x'<=60 then some (deq x' y') else none
def oEq:D->D->MH->Option D:=fun x y m=>(eqO m x y).bind fun b=>some (.bl b)
def oNe:D->D->MH->Option D:=fun x y m=>(eqO m x y).bind fun b=>some (.bl (!b))
section
variable {X:Cx}{a b c e:Expr}{es:List Expr}{pos:Pos}
def OpM (X:Cx) (f:Value->Value->Sem Value) (o:D->D->MH->Option D):Prop :=
 ∀ (pins:List (Addr×Obj)) (s:Shared) (σ:St) (H:Hp) (μ:List Addr) (m:MH) (x y z:D) (v u:V) (v' u':Value) (Q:VK),Inv X pins σ H s->Sim X.K H μ m->Rep X.K H μ (·∈μ) x v->Rep X.K H μ (·∈μ) y u->RelV v v'->RelV u u'->o x y m=some z ->
  (∀ w H2,Same H H2->Rep X.K H2 μ (·∈μ) z w->Q w H2)->wpAny (model X.prog X.w) X.A (f v' u') (EP X pins σ Q) X.xe s
theorem OpM.of (h:OpR X f r) (d:OpD X o r):OpM X f o :=
 fun pins s σ H μ m x y z v u v' u' Q I S rx ry r1 r2 e q=>h pins s σ H v u v' u' Q I r1 r2 (d μ m x y z v u H Q S rx ry e q)
theorem Bf {H:Hp} (h:H p=none):Same H (upd H p o):=fun b u e=>by
 rw[Bb (Az e h)];exact e
theorem tE.two {K:W.Frag}{f g:FE}{o:D->D->MH->Option D}{σ:St}{H:Hp}{Q:VK} (h:tE K (f2 o f g) σ H Q) :
  ∃ env μ m x y z,Sim K H μ m/\EnvRep K H μ σ env/\f env m=some x/\g env m=some y/\o x y m=some z/\∀ v H',Same H H'->Rep K H' μ (·∈μ) z v->Q v H':=by
 obtain⟨env,μ,m,d,S,E,h,q⟩:=h
 obtain⟨x,hx,h⟩:=bind_some h
 obtain⟨y,hy,h⟩:=bind_some h
 exact⟨env,μ,m,x,y,d,S,E,hx,hy,h,q⟩
theorem Atn (ho:OpM X k o) (ha:PD X a f) (hb:PD X b g) {s:Shared}{H:Hp} (I:Inv X pins σ H s) (h:tE X.K (f2 o f g) σ H Q) :
  wpAny (model X.prog X.w) X.A (eval a X.env) (fun v s₁=>wpAny (model X.prog X.w) X.A (eval b X.env) (fun u s₂=>wpAny (model X.prog X.w) X.A (k v u) (EP X pins σ Q) X.xe s₂) X.xe s₁) X.xe s:=by
 obtain⟨env,μ,m,x,y,z,S,E,hx,hy,hz,q⟩:=h.two
 refine thn (ha pins s σ H (fun v H1=>Same H H1/\Rep X.K H1 μ (·∈μ) x v) I ⟨env,μ,m,x,S,E,hx,fun v H1 s1 r1=>⟨s1,r1⟩⟩) fun v' s1 ⟨v,H1,I1,r1,s1',rx⟩=>?_
 refine thn (hb pins s1 σ H1 (fun u H2=>Same H1 H2/\Rep X.K H2 μ (·∈μ) y u) I1 ⟨env,μ,m,y,S.same s1',E.same s1',hy,fun v H1 s1 r1=>⟨s1,r1⟩⟩) fun u' s2 ⟨u,H2,I2,r2,s2',ry⟩=>?_
 exact ho pins s2 σ H2 μ m x y z v u v' u' Q I2 (S.same (s1'.trans s2')) (rx.same s2') ry r1 r2 hz fun w H3 s3 r3=>q w H3 ((s1'.trans s2').trans s3) r3
theorem Ap2 (ho:OpM X (binaryOp op) o) (ha:PD X a f) (hb:PD X b g):PD X (.BinOp a op b pos) (f2 o f g) :=
 fun pins s σ H Q I h=>wpAny_BinOp (Atn ho ha hb I h)
theorem Ap3 (ho:OpM X (compareOp op) o) (ha:PD X a f) (hb:PD X b g) (hm:behindInMarks op b=false):PD X (.Compare a [op] [b] pos) (f2 o f g) :=
 fun pins s σ H Q I h=>wpAny_Compare1 (Atn ho ha hb I h) hm
noncomputable def asB:D->Option Bool
 |.bl b=>some b
 |_=>none
def A6 (f:FE):FB:=fun env m=>(f env m).bind asB
theorem Ja {d:D}{b:Bool} (h:asB d=some b):d=.bl b:=by
 cases d<;>first|(cases h;rfl)|cases h
theorem tB'.val {K:W.Frag}{f:FE}{σ:St}{H:Hp}{Q:Bool->Hp->Prop} (h:tB' K (A6 f) σ H Q):tE K f σ H fun x H'=>∃ k,x=.bl k/\Q k H':=by
 obtain⟨env,μ,m,b,S,E,h,q⟩:=h
 obtain⟨d,h1,h2⟩:=bind_some h
 cases Ja h2
 exact⟨env,μ,m,_,S,E,h1,fun v H' s r=>by cases r;exact⟨_,rfl,q H' s⟩⟩
theorem Apt (ho:OpM X (compareOp op) o) (ha:PD X a f) (hb:PD X b g) (hm:behindInMarks op b=false):PB X (.Compare a [op] [b] pos) (A6 (f2 o f g)):=by
 intro pins s σ H Q I h
 refine wpAny_isTrue_Compare1 (thn (Atn ho ha hb I h.val) fun v s1 h1=>thn h1 fun u s2 h2=>thn h2 fun c s3 ⟨x,H1,I1,r1,k,e,q⟩=>?_) hm
 subst e
 cases r1
 exact Aze ⟨H1,I1,q⟩
theorem big {n:Nat} (h:n<=1000000):n<=sizeLine:=Ax7 h (by rw[Ay3];decide)
def Abh (m:MH):D->Option Bool
 |.non=>some false
 |.bl b=>some b
 |.int i=>some (i != 0)
 |.str y=>if y.length<=1000000 then some ((y.length:Int) != 0) else none
 |d=>(sq m d).bind fun ds=>some (!ds.isEmpty)
def Vh (f:FE):FB:=fun env m=>(f env m).bind (Abh m)
theorem Reps.isEmpty {K:W.Frag}{H:Hp}{μ:List Addr}{B:Addr->Prop}{ds:List D}{vs:List V} (r:Reps K H μ B ds vs):ds.isEmpty=vs.isEmpty:=by cases r<;>rfl
theorem Tn {K:W.Frag}{H:Hp}{μ:List Addr}{m:MH} (S:Sim K H μ m) {d:D}{v:V}{k:Bool} (r:Rep K H μ (·∈μ) d v) (h:Abh m d=some k):Arv K v H k:=by
 have seq:∀ {a:Addr},v=.ref a->(∃ ds,sq m d=some ds/\k=!ds.isEmpty)->Arv K v H k:=fun {a} e ⟨ds,h1,h2⟩=>by
  obtain⟨a',xs,e',hq,rs⟩:=Nb S r h1
  subst e'
  subst h2
  rw[rs.isEmpty]
  rcases hq with hq|hq
  ·exact .inl ⟨xs,hq,rfl⟩
  ·exact .inr (.inl ⟨xs,hq,rfl⟩)
 have sq':∀ {x:D},((sq m x).bind fun ds=>some (!ds.isEmpty))=some k->∃ ds,sq m x=some ds/\k=!ds.isEmpty:=fun {x} h=>by
  obtain⟨ds,h1,h2⟩:=bind_some h
  exact⟨ds,h1,(Ayk h2).symm⟩
 cases r with
 |non=>cases h;rfl
 |bl b=>cases h;rfl
 |int b=>cases h;rfl
 |str b ok =>
  unfold Abh at h
  simp only at h
  split at h
  ·cases h;exact⟨big (by assumption),rfl⟩
  ·exact Al h
 |@tup ds a xs h1 h2=>exact seq rfl (sq' h)
 |@lst ds a xs h1 h3 h2=>exact seq rfl (sq' h)
 |@kl ds a xs h1 h2=>exact seq rfl (sq' h)
 |@ref n a e=>exact seq rfl (sq' h)
 |dic h1 h2 h3 h4=>exact Al h
 |dks _ _ _ _=>exact Al h
 |fz _ _ _=>exact Al h
 |fn _=>exact Al h
theorem Apw (ha:PD X a f) (he:∀ whole,isTrue a X.env whole=(do let v <- whole;standAt a.pos;holding [v] (truthy v))):PB X a (Vh f) :=
 PT.imp (Ur ha he) fun σ H Q ⟨env,μ,m,b,S,E,h,q⟩=>by
  obtain⟨d,h1,h2⟩:=bind_some h
  exact⟨env,μ,m,d,S,E,h1,fun v H' s r=>⟨b,Tn (S.same s) r h2,q H' s⟩⟩
noncomputable def Abd (f g:FB):FB:=fun env m=>(f env m).bind fun c=>if c=true then g env m else some false
noncomputable def fOr (f g:FB):FB:=fun env m=>(f env m).bind fun c=>if c=true then some true else g env m
noncomputable def Ae5 (f:FB):FB:=fun env m=>(f env m).bind fun c=>some (!c)
abbrev PWB (X:Cx) (e:Expr) (f:FB):Prop:=PW X e (tB' X.K f)
theorem PW.imp {t t':TT} (h:PW X e t) (i:∀ σ H Q,t' σ H Q->t σ H Q):PW X e t':=fun w pins s σ H Q I q=>h w pins s σ H Q I (i σ H Q q)
theorem tB'.and {K:W.Frag}{f g:FB}{σ:St}{H:Hp}{Q:Bool->Hp->Prop} (h:tB' K (Abd f g) σ H Q):Avk (tB' K f) (tB' K g) σ H Q:=by
 obtain⟨env,μ,m,b,S,E,h,q⟩:=h
 obtain⟨c,h1,h2⟩:=bind_some h
 refine⟨env,μ,m,c,S,E,h1,fun H1 s1=>?_⟩
 cases c with
 |true =>
  rw[Axv rfl] at h2 ⊢
  exact⟨env,μ,m,b,S.same s1,E.same s1,h2,fun H2 s2=>q H2 (s1.trans s2)⟩
 |false =>
  rw[Axy Ax8] at h2 ⊢
  cases h2
  exact q H1 s1
theorem tB'.or {K:W.Frag}{f g:FB}{σ:St}{H:Hp}{Q:Bool->Hp->Prop} (h:tB' K (fOr f g) σ H Q):tOr (tB' K f) (tB' K g) σ H Q:=by
 obtain⟨env,μ,m,b,S,E,h,q⟩:=h
 obtain⟨c,h1,h2⟩:=bind_some h
 refine⟨env,μ,m,c,S,E,h1,fun H1 s1=>?_⟩
 cases c with
 |false =>
  rw[Axy Ax8] at h2 ⊢
  exact⟨env,μ,m,b,S.same s1,E.same s1,h2,fun H2 s2=>q H2 (s1.trans s2)⟩
 |true =>
  rw[Axv rfl] at h2 ⊢
  cases h2
  exact q H1 s1
variable {rest:List Expr}
theorem Ad0 (ha:PB X a f):PWB X (.BoolOp .And [a] pos) f:=Aae ha
theorem Akt (ha:PB X a f):PWB X (.BoolOp .Or [a] pos) f:=Af1 ha
theorem Aks (ha:PB X a f) (hb:PWB X (.BoolOp .And (b::rest) pos) g):PWB X (.BoolOp .And (a::b::rest) pos) (Abd f g):=PW.imp (Af0 ha hb) fun _ _ _ h=>h.and
theorem Aqv (ha:PB X a f) (hb:PWB X (.BoolOp .Or (b::rest) pos) g):PWB X (.BoolOp .Or (a::b::rest) pos) (fOr f g):=PW.imp (Aqu ha hb) fun _ _ _ h=>h.or
theorem Ajp (h:PWB X (.BoolOp op es pos) f):PB X (.BoolOp op es pos) f:=h.pt
theorem Apv (ha:PB X a f):PB X (.UnaryOp .Not a pos) (Ae5 f):=PT.imp (Afz ha) fun σ H Q ⟨env,μ,m,b,S,E,h,q⟩=>by
 obtain⟨c,h1,h2⟩:=bind_some h
 cases h2
 exact⟨env,μ,m,c,S,E,h1,fun H1 s1=>q H1 s1⟩
def L4 (f g:FE):FE:=fun env m=>(A6 f env m).bind fun c=>if c=true then g env m else some (.bl false)
def An9 (f g:FE):FE:=fun env m=>(A6 f env m).bind fun c=>if c=true then some (.bl true) else g env m
theorem Ap9 {op} (h:PD X a f):PD X (.BoolOp op [a] pos) f:=Aqj h
theorem Ap1 {f g:FE} (ha:PD X a f) (hb:PD X (.BoolOp .And (b::rest) pos) g):PD X (.BoolOp .And (a::b::rest) pos) (L4 f g):=PE.imp (Aqf ha hb) fun σ H Q ⟨env,μ,m,z,S,E,h,q⟩=>by
 obtain⟨c,h1,h2⟩:=bind_some h
 obtain⟨d,h0,h1⟩:=bind_some h1
 cases Ja h1
 refine⟨env,μ,m,_,S,E,h0,fun v H1 s1 r1=>⟨c,by cases r1;rfl,?_⟩⟩
 cases c with
 |true =>
  rw[Axv rfl] at h2 ⊢
  exact⟨env,μ,m,z,S.same s1,E.same s1,h2,fun v H2 s2 r2=>q v H2 (s1.trans s2) r2⟩
 |false =>
  rw[Axy Ax8] at h2 ⊢
  cases h2
  exact q _ H1 s1 (.bl false)
theorem Auk {f g:FE} (ha:PD X a f) (hb:PD X (.BoolOp .Or (b::rest) pos) g):PD X (.BoolOp .Or (a::b::rest) pos) (An9 f g):=PE.imp (Auo ha hb) fun σ H Q ⟨env,μ,m,z,S,E,h,q⟩=>by
 obtain⟨c,h1,h2⟩:=bind_some h
 obtain⟨d,h0,h1⟩:=bind_some h1
 cases Ja h1
 refine⟨env,μ,m,_,S,E,h0,fun v H1 s1 r1=>⟨c,by cases r1;rfl,?_⟩⟩
 cases c with
 |false =>
  rw[Axy Ax8] at h2 ⊢
  exact⟨env,μ,m,z,S.same s1,E.same s1,h2,fun v H2 s2 r2=>q v H2 (s1.trans s2) r2⟩
 |true =>
  rw[Axv rfl] at h2 ⊢
  cases h2
  exact q _ H1 s1 (.bl true)
def Vg (f:FE):FE:=fun env m=>(Vh f env m).bind fun c=>some (.bl (!c))
theorem Ap8 (ha:PD X a f):PD X (.UnaryOp .Not a pos) (Vg f):=by
 intro pins s σ H Q I h
 obtain⟨env,μ,m,z,S,E,h,q⟩:=h
 obtain⟨c,h1,h2⟩:=bind_some h
 obtain⟨d,h0,h1⟩:=bind_some h1
 cases h2
 refine UnaryOp_ (thn (ha pins s σ H (fun v H1=>Same H H1/\Rep X.K H1 μ (·∈μ) d v) I ⟨env,μ,m,d,S,E,h0,fun v H1 s1 r1=>⟨s1,r1⟩⟩) fun v' s1 ⟨v,H1,I1,r1,s1',rx⟩=>?_)
 exact not_of (thn (Agu pins s1 σ H1 v v' (fun b H2=>b=c/\H2=H1) I1 r1 ⟨c,Tn (S.same s1') rx h1,rfl,rfl⟩) fun b s2 ⟨H2,I2,e,e2⟩=>⟨.bl (!c),H2,I2,by rw[e];rfl,q _ H2 (by rw[e2];exact s1') (.bl _)⟩)
noncomputable def fIf (t:FB) (f g:FE):FE:=fun env m=>(t env m).bind fun c=>if c=true then f env m else g env m
theorem Aui {t:FB} (hc:PB X c t) (ha:PD X a f) (hb:PD X b g):PD X (.IfExp c a b pos) (fIf t f g):=PE.imp (Up hc ha hb) fun σ H Q ⟨env,μ,m,z,S,E,h,q⟩=>by
 obtain⟨c,h1,h2⟩:=bind_some h
 refine⟨env,μ,m,c,S,E,h1,fun H1 s1=>?_⟩
 cases c with
 |true =>
  rw[Axv rfl] at h2 ⊢
  exact⟨env,μ,m,z,S.same s1,E.same s1,h2,fun v H2 s2 r2=>q v H2 (s1.trans s2) r2⟩
 |false =>
  rw[Axy Ax8] at h2 ⊢
  exact⟨env,μ,m,z,S.same s1,E.same s1,h2,fun v H2 s2 r2=>q v H2 (s1.trans s2) r2⟩
theorem Cj (hr:Room k X.A):OpM X (compareOp .Eq) oEq:=by
 intro pins s σ H μ m x y z v u v' u' Q I S rx ry r1 r2 e q
 obtain⟨b,h1,h2⟩:=bind_some e
 obtain⟨x',e1,h1⟩:=bind_some h1
 obtain⟨y',e2,h1⟩:=bind_some h1
 split at h1
 ·rename_i hd
  cases h1
  cases h2
  obtain⟨a1,n1⟩:=Br S rx e1
  obtain⟨a2,n2⟩:=Br S ry e2
  obtain⟨as,ra⟩:=Ek I a1 n1 r1
  obtain⟨bs,rb⟩:=Ek I a2 n2 r2
  have hu:=hr.units
  refine SeqAt.compareEq_reads ra rb (Gq a1) (Gq a2) ?_ ⟨.bl (deq x' y'),H,I,rfl,q _ H (Same.refl H) (.bl _)⟩
  rw[Jw]
  lia
 ·cases h1
theorem N0 (hr:Room k X.A):OpM X (compareOp .NotEq) oNe:=by
 intro pins s σ H μ m x y z v u v' u' Q I S rx ry r1 r2 e q
 obtain⟨b,h1,h2⟩:=bind_some e
 obtain⟨x',e1,h1⟩:=bind_some h1
 obtain⟨y',e2,h1⟩:=bind_some h1
 split at h1
 ·rename_i hd
  cases h1
  cases h2
  obtain⟨a1,n1⟩:=Br S rx e1
  obtain⟨a2,n2⟩:=Br S ry e2
  obtain⟨as,ra⟩:=Ek I a1 n1 r1
  obtain⟨bs,rb⟩:=Ek I a2 n2 r2
  have hu:=hr.units
  refine SeqAt.compareNe_reads ra rb (Gq a1) (Gq a2) ?_ ⟨.bl (!deq x' y'),H,I,rfl,q _ H (Same.refl H) (.bl _)⟩
  rw[Jw]
  lia
 ·cases h1
noncomputable def oLt:D->D->MH->Option D
 |.int i,.int j,_=>some (.bl (decide (i < j)))
 |.str i,.str j,_=>some (.bl (decide (i.cps.toList < j.cps.toList)))
 |_,_,_=>none
def oGt:D->D->MH->Option D:=oI fun i j=>some (.bl (decide (j < i)))
theorem Ajg:OpM X (compareOp .Lt) oLt:=OpM.of (op_lt.or Zt) fun μ m x y z v u H Q S rx ry e q=>by
 cases rx<;>first|exact Al e|skip
 all_goals cases ry<;>first|exact Al e|skip
 ·cases e;exact .inl ⟨_,_,rfl,rfl,q _ H (Same.refl H) (.bl _)⟩
 ·cases e;exact .inr ⟨_,_,rfl,rfl,q _ H (Same.refl H) (.bl _)⟩
theorem Zo:OpM X (compareOp .Gt) oGt:=OpM.of Aug (OpD.int0 fun i j z e H μ B=>by cases e;exact .bl _)
theorem Mz:OpM X (binaryOp .Sub) Ac9:=OpM.of Apr Ajn
theorem My:OpM X (binaryOp .Mult) Ac6:=OpM.of App Ajl
theorem Afo:OpM X (binaryOp .FloorDiv) Ao1:=OpM.of Aji Ajj
theorem Hc:OpM X (binaryOp .Mod) Vz:=OpM.of Apo Ajk
theorem Apn:OpM X (binaryOp .Pow) Ar3:=OpM.of Apq Ajm
noncomputable def R7:D->MH->Option D:=fun x _=>match x with|.non=>some (.bl true)|_=>some (.bl false)
theorem Yp {K:W.Frag}{H:Hp}{μ:List Addr}{B:Addr->Prop}{d z:D}{v:V}{m:MH} (r:Rep K H μ B d v) (h:R7 d m=some z):z=.bl (decide (v=.non)):=by
 cases r<;>(cases h;simp)
theorem Ap5 {f:FE} {j pos'} (ha:PD X a f):PD X (.Compare a [.Is] [.Constant .none j pos'] pos) (f1 R7 f):=PE.imp (Aj1 Afr ha Zx (Afj _)) fun σ H Q ⟨env,μ,m,z,S,E,h,q⟩=>by
 obtain⟨d,h1,h2⟩:=bind_some h
 exact⟨env,μ,m,d,S,E,h1,fun v H1 s1 r1=>⟨rfl,q _ H1 s1 (by rw[Yp r1 h2];exact .bl _)⟩⟩
theorem Apu {f:FE} {j pos'} (ha:PD X a f):PB X (.Compare a [.Is] [.Constant .none j pos'] pos) (A6 (f1 R7 f)):=PT.imp (Ako Afr ha Zx (Afj _)) fun σ H Q h=>by
 obtain⟨env,μ,m,z,S,E,h,q⟩:=h.val
 obtain⟨d,h1,h2⟩:=bind_some h
 exact⟨env,μ,m,d,S,E,h1,fun v H1 s1 r1=>⟨rfl,q _ H1 s1 (by rw[Yp r1 h2];exact .bl _)⟩⟩
end
theorem Ls:PyData.strOk x=true ↔ ∀ c∈x.cps.toList,c < 0x110000:=by
 unfold PyData.strOk
 rw[Array.all_eq_true']
 simp
theorem Ip (hx:PyData.strOk x=true) (hy:PyData.strOk y=true):PyData.strOk (x++y)=true:=by
 rw[Ls] at *
 intro c hc
 have:(x++y).cps.toList=x.cps.toList++y.cps.toList:=by
  show (x.cps++y.cps).toList=_
  simp
 rw[this] at hc
 rcases List.mem_append.mp hc with h|h
 ·exact hx c h
 ·exact hy c h
theorem Lu (hx:PyData.strOk x=true) (h:∀ c∈y.cps.toList,c∈x.cps.toList):PyData.strOk y=true:=by
 rw[Ls] at *
 exact fun c hc=>hx c (h c hc)
theorem Aa2 (hx:PyData.strOk x=true) (h:atI x.cps.toList i=some c):PyData.strOk ⟨#[c]⟩=true:=by
 refine Lu hx fun c' hc=>?_
 have e:c'=c:=by simpa using hc
 subst e
 obtain⟨j,_,h2,_⟩:=Nj h
 exact Aya h2
theorem Tj {x:Str}{lo hi:Option Int} (hx:PyData.strOk x=true):PyData.strOk (Txt.slice x lo hi)=true:=by
 unfold Txt.slice
 split
 ·exact hx
 ·refine Lu hx fun c hc=>?_
  simp only[List.toList_toArray] at hc
  obtain⟨i,_,h⟩:=List.mem_filterMap.mp hc
  have:=Array.mem_of_getElem? h
  simpa using this
section
variable {X:Cx}{a b c e:Expr}{es:List Expr}{pos p:Pos}{x:Str}{id T:String}
noncomputable def Ak:FL:=fun _ _=>some []
noncomputable def Aa (f:FE) (g:FL):FL:=fun env m=>(f env m).bind fun x=>(g env m).bind fun xs=>some (x::xs)
theorem Aqp:PL X [] Ak:=PA.imp Zw fun σ H Q ⟨env,μ,m,ds,S,E,h,q⟩=>by cases h;exact q [] H (Same.refl H) .nil
theorem Aj9 (ha:PD X e f) (hr:PL X es g) (hs:starEach (e::es) X.env=(false,eval e X.env)::starEach es X.env):PL X (e::es) (Aa f g) :=
 PA.imp (N2 ha hr hs) fun σ H Q ⟨env,μ,m,ds,S,E,h,q⟩=>by
  obtain⟨d,h1,h⟩:=bind_some h
  obtain⟨ds',h2,h⟩:=bind_some h
  cases h
  exact⟨env,μ,m,d,S,E,h1,fun v H1 s1 r1=>⟨env,μ,m,ds',S.same s1,E.same s1,h2,fun vs H2 s2 r2=>q _ H2 (s1.trans s2) (.cons (r1.same s2) r2)⟩⟩
noncomputable def Dg (g:FL):FE:=fun env m=>(g env m).bind fun ds=>some (.lst ds)
theorem Adh (h:PF X e g):PD X e (Dg g):=PE.imp h fun σ H Q ⟨env,μ,m,d,S,E,h,q⟩=>by
 obtain⟨ds,h1,h⟩:=bind_some h
 cases h
 exact⟨env,μ,m,ds,S,E,h1,fun a xs H' s1 hn ha r=>q _ H' s1 (.lst (.inl ha) (S.nnone hn) r.unw)⟩
noncomputable def Cf (g:FL):FE:=fun env m=>(g env m).bind fun ds=>if ds.length<=1000000 then some (.tup ds) else none
noncomputable def B3 (g:FL):FL:=fun env m=>(g env m).bind fun ds=>if ds.length<=1000000 then some ds else none
theorem Aqb {x1} (h:PL X es g):PD X (.Tuple es x1 pos) (Cf g):=PE.imp (Afw h) fun σ H Q ⟨env,μ,m,d,S,E,h,q⟩=>by
 obtain⟨ds,h1,h⟩:=bind_some h
 split at h
 ·rename_i hl
  cases h
  refine⟨env,μ,m,ds,S,E,h1,fun vs H1 s1 r1=>⟨by rw[<- r1.length];exact big hl,fun p hp=>q _ _ (s1.trans (Bf hp)) (.tup (.inl (.inl Bn)) (r1.same (Bf hp)))⟩⟩
 ·cases h
theorem Aqn (h:PL X es g):PF X (.List es pos) (B3 g):=PE.imp (Afv h) fun σ H Q ⟨env,μ,m,d,S,E,h,q⟩=>by
 obtain⟨ds,h1,h⟩:=bind_some h
 split at h
 ·rename_i hl
  cases h
  refine⟨env,μ,m,_,S,E,h1,fun vs H1 s1 r1=>⟨by rw[<- r1.length];exact big hl,fun p hp=>q _ vs _ (s1.trans (Bf hp)) (s1.free hp) Bn (r1.fresh hp)⟩⟩
 ·cases h
def oIx:D->D->MH->Option D:=fun x y m=>match y with
 |.int i=>(match x with
  |.str z=>if z.length<=1000000 then (atI z.cps.toList i).bind fun c=>some (.str ⟨#[c]⟩) else none
  |x=>(sq m x).bind fun ds=>atI ds i)
 |_=>none
theorem Reps.atI {K:W.Frag}{H:Hp}{μ:List Addr}{B:Addr->Prop}{ds:List D}{vs:List V}{i:Int}{d:D} (r:Reps K H μ B ds vs) (h:L2.atI ds i=some d):∃ v,L2.atI vs i=some v/\Rep K H μ B d v:=by
 unfold L2.atI at *
 rw[r.length] at h
 obtain⟨j,h1,h2⟩:=bind_some h
 obtain⟨v,h3,h4⟩:=r.get h2
 exact⟨v,by rw[h1];exact h3,h4⟩
set_option tactic.hygienic true in
theorem Afs:OpD X oIx (rIx X.K):=by
 intro μ m x y z v u H Q S rx ry e q
 cases ry<;>first|exact Al e|skip
 rename_i i
 have seq:((sq m x).bind fun ds=>atI ds i)=some z->rIx X.K v (.int i) H Q:=fun e=>by
  obtain⟨ds,h1,h2⟩:=bind_some e
  obtain⟨a,xs,rfl,hq,rs⟩:=Nb S rx h1
  obtain⟨w,h3,h4⟩:=rs.atI h2
  rcases hq with hq|hq
  ·exact .inl ⟨a,xs,i,w,rfl,rfl,hq,h3,q w H (Same.refl H) h4⟩
  ·exact .inr (.inl ⟨a,xs,i,w,rfl,rfl,hq,h3,q w H (Same.refl H) h4⟩)
 cases rx with
 |str zz ok =>
  unfold oIx at e
  simp only at e
  split at e
  ·obtain⟨c,h1,h2⟩:=bind_some e
   cases h2
   exact .inr (.inr ⟨zz,i,c,rfl,rfl,big (by assumption),h1,q _ H (Same.refl H) (.str _ (Aa2 ok h1))⟩)
  ·cases e
 |non=>exact seq e
 |bl _=>exact seq e
 |int _=>exact seq e
 |tup h1 h2=>exact seq e
 |lst h1 h2 h3=>exact seq e
 |kl h1 h2=>exact seq e
 |dic h1 h2 h3 h4=>exact seq e
 |dks _ _ _ _=>exact seq e
 |fz _ _ _=>exact seq e
 |fn _=>exact seq e
 |ref h=>exact seq e
theorem Auj (ha:PD X a f) (hb:PD X b g) (hs:Jq b):PD X (.Subscript a b pos) (f2 oIx f g):=PE.imp (Aqi Afc ha hb hs) fun σ H Q h=>tE.bin h _ Afs
abbrev FO:=Bg->MH->Option (Option Int)
inductive tO' (K:W.Frag) (f:FO) (σ:St) (H:Hp) (Q:Option Int->Hp->Prop):Prop
 |mk (env:Bg) (μ:List Addr) (m:MH) (o:Option Int) (S:Sim K H μ m) (E:EnvRep K H μ σ env) (h:f env m=some o) (q:∀ H',Same H H'->Q o H')
abbrev PO' (X:Cx) (e:Option Expr) (f:FO):Prop:=PO X e (tO' X.K f)
theorem PO.imp {X:Cx}{e:Option Expr}{t t':TO} (h:PO X e t) (i:∀ σ H Q,t' σ H Q->t σ H Q):PO X e t':=fun pins s σ H Q I q=>h pins s σ H Q I (i σ H Q q)
noncomputable def fNo:FO:=fun _ _=>some none
noncomputable def asI:D->Option Int
 |.int i=>some i
 |_=>none
def Ce (f:FE):FO:=fun env m=>(f env m).bind fun d=>(asI d).bind fun i=>some (some i)
theorem Adp:PO' X none fNo:=PO.imp Akb fun σ H Q ⟨env,μ,m,o,S,E,h,q⟩=>by cases h;exact q H (Same.refl H)
theorem Adq (h:PD X e f):PO' X (some e) (Ce f):=PO.imp (Akc h) fun σ H Q ⟨env,μ,m,o,S,E,h,q⟩=>by
 obtain⟨d,h1,h⟩:=bind_some h
 obtain⟨i,h2,h⟩:=bind_some h
 cases h
 refine⟨env,μ,m,d,S,E,h1,fun v H' s r=>?_⟩
 cases r<;>first|(cases h2;exact⟨_,rfl,q H' s⟩)|cases h2
def Jv {α:Type} (xs:List α) (lo hi:Option Int):List α:=(xs.drop (HT.sIx xs.length 0 lo)).take (HT.sIx xs.length xs.length hi - HT.sIx xs.length 0 lo)
theorem Reps.cut {K:W.Frag}{H:Hp}{μ:List Addr}{B:Addr->Prop}{ds:List D}{vs:List V} (r:Reps K H μ B ds vs) (lo hi:Option Int):Reps K H μ B (Jv ds lo hi) (Als vs lo hi):=by
 unfold Jv Als
 rw[r.length]
 exact (r.drop _).take _
theorem sl_str:SlR X (fun x lo hi H Q=>∃ z,x=.str z/\z.length<=sizeLine/\Q (.str (Txt.slice z lo hi)) H):=by
 intro pins s σ H x v vl vu lo hi sl Q I rx hs pl pu h
 obtain⟨z,rfl,hz,q⟩:=h
 obtain⟨t,rfl⟩:=rx
 refine⟨"str",_,F.slot_str_getitem.lookup,typeIs_str _ _ _,?_⟩
 cases pl with
 |none =>
  cases pu with
  |none=>exact Azy (l:=none) (u:=none) (st:=none) hs rfl (post_val_or_str ⟨Ax7 (Txt.slice_le z _ _) hz,fun t' k=>⟨.str (Txt.slice z _ _),H,I.tok _,⟨_,rfl⟩,q⟩⟩)
  |int j t'=>exact Azy (l:=none) (u:=some (j,t')) (st:=none) hs rfl (post_val_or_str ⟨Ax7 (Txt.slice_le z _ _) hz,fun t' k=>⟨.str (Txt.slice z _ _),H,I.tok _,⟨_,rfl⟩,q⟩⟩)
 |int i t1 =>
  cases pu with
  |none=>exact Azy (l:=some (i,t1)) (u:=none) (st:=none) hs rfl (post_val_or_str ⟨Ax7 (Txt.slice_le z _ _) hz,fun t' k=>⟨.str (Txt.slice z _ _),H,I.tok _,⟨_,rfl⟩,q⟩⟩)
  |int j t'=>exact Azy (l:=some (i,t1)) (u:=some (j,t')) (st:=none) hs rfl (post_val_or_str ⟨Ax7 (Txt.slice_le z _ _) hz,fun t' k=>⟨.str (Txt.slice z _ _),H,I.tok _,⟨_,rfl⟩,q⟩⟩)
def oSl:D->Option Int->Option Int->Option D
 |.str z,lo,hi=>if z.length<=1000000 then some (.str (Txt.slice z lo hi)) else none
 |.tup ds,lo,hi=>some (.tup (Jv ds lo hi))
 |_,_,_=>none
def fSl (f:FE) (l h:FO):FE:=fun env m=>(f env m).bind fun x=>(l env m).bind fun lo=>(h env m).bind fun hi=>oSl x lo hi
end
theorem Gm {prog:Program}{w:World}{A:Around}{E:Value->Shared->Prop}{s:Shared}{t sl:Addr}{items:Array Value}{vl vu:Value}{lo hi:Option Int}{Q:Value->Shared->Prop} (ht:IsTup s.heap t items) (hs:s.heap.IsSliceOf sl vl vu .none) (pl:IsPart vl lo) (pu:IsPart vu hi)
  (hw:HT.sIx items.size 0 lo=0/\HT.sIx items.size items.size hi=items.size) (h:Q (.ref t) s):wpAny (model prog w) A (getItem (.ref t) (.ref sl)) Q E s:=by
 obtain⟨os,hos,hcs,hds⟩:=id hs
 have hTs:s.TypeIs (.ref sl) "slice":=⟨os,hos,hcs⟩
 unfold getItem
 try with_reducible refine Ay5 ?_
 first|refine Axh (Axo ?_)|skip
 refine Axh (wpAny_sequenceKey ht.typeIs (by decide) ?_)
 refine Axh (Azz (name:=Str.ofString "__getitem__") ht.typeIs PyProof.Rows.slot_tuple_getitem
  (Aza PyProof.Rows.slot_tuple_getitem ht.typeIs entry_tuple_getitem ?_ (args_tuple_getitem _ _)))
 show wpAny _ _ (Builtin.Tuple.tupleItemsOf (.ref t) >>= _) _ _ s
 refine Axh (tupleItemsOf_ ht ?_)
 refine Axh (Azl hTs ?_)
 rw[Axv (by decide)]
 refine Axh (HT.sliceApplied_gen hs pl pu ?_)
 have hyes:(((HT.sIx items.size 0 lo:Nat):Int) == 0&&(1:Int) == 1&&(HT.sIx items.size items.size hi - HT.sIx items.size 0 lo) == items.size)=true:=by
  rw[hw.1,hw.2]
  simp
 show wpAny _ _ (if (((HT.sIx items.size 0 lo:Nat):Int) == 0&&(1:Int) == 1&&(HT.sIx items.size items.size hi - HT.sIx items.size 0 lo) == items.size)=true then _ else _) _ _ s
 rw[Axv hyes]
 unfold Builtin.Tuple.tupleIsExact
 refine Axh (Axh (Azl ht.typeIs (Axo ?_)))
 rw[Axv (by decide)]
 exact Axh (wpAny_rule (Axo ⟨_,rfl,Axo h⟩))
theorem Abc {α:Type}{xs:List α}{lo hi:Option Int} (h:HT.sIx xs.length 0 lo=0/\HT.sIx xs.length xs.length hi=xs.length):Jv xs lo hi=xs:=by
 unfold Jv
 rw[h.1,h.2]
 simp
section
variable {X:Cx}{a b c e:Expr}{es:List Expr}{pos p:Pos}{x:Str}{id T:String}
theorem Alc:SlR X (fun x lo hi H Q=>∃ a xs,x=.ref a/\SqT X.K H a xs/\(HT.sIx xs.length 0 lo=0/\HT.sIx xs.length xs.length hi=xs.length)/\Q (.ref a) H):=by
 intro pins s σ H x v vl vu lo hi sl Q I rx hs pl pu h
 obtain⟨a,xs,rfl,hx,hw,q⟩:=h
 cases rx
 obtain⟨its,r,ht,hz⟩:=I.tuple hx
 have hlen:its.toArray.size=xs.length:=by rw[Axk];exact r.length.symm
 refine⟨"tuple",_,PyProof.Rows.slot_tuple_getitem.lookup,ht.typeIs,?_⟩
 exact Gm ht hs pl pu (by rw[hlen];exact hw) ⟨.ref a,H,I,rfl,q⟩
theorem Aul {f:FE}{l h:FO}{lo hi:Option Expr}{p2:Pos} (ha:PD X a f) (hl:PO' X lo l) (hh:PO' X hi h):PD X (.Subscript a (.Slice lo hi none p2) pos) (fSl f l h) :=
 PE.imp (Adi (sl_str.or (sl_tup.or Alc)) ha hl hh) fun σ H Q ⟨env,μ,m,d,S,E,h,q⟩=>by
  obtain⟨x,h1,h⟩:=bind_some h
  obtain⟨lo,h2,h⟩:=bind_some h
  obtain⟨hi,h3,h⟩:=bind_some h
  refine⟨env,μ,m,x,S,E,h1,fun v H1 s1 r1=>⟨env,μ,m,lo,S.same s1,E.same s1,h2,fun H2 s2=>⟨env,μ,m,hi,S.same (s1.trans s2),E.same (s1.trans s2),h3,fun H3 s3=>?_⟩⟩⟩
  have s':=(s1.trans s2).trans s3
  have r3:=(r1.same s2).same s3
  cases r3 with
  |str z ok =>
   unfold oSl at h
   simp only at h
   split at h
   ·cases h
    exact .inl ⟨z,rfl,big (by assumption),q _ H3 s' (.str _ (Tj ok))⟩
   ·cases h
  |@tup ds a xs hq rs =>
   cases h
   by_cases hw:HT.sIx xs.length 0 lo=0/\HT.sIx xs.length xs.length hi=xs.length
   ·exact .inr (.inr ⟨a,xs,rfl,hq,hw,q _ H3 s' (by rw[Abc (by rw[rs.length];exact hw)];exact .tup hq rs)⟩)
   ·exact .inr (.inl ⟨a,xs,rfl,hq,hw,fun p hp=>q _ _ (s'.trans (Bf hp)) (.tup (.inl (.inl Bn)) ((rs.cut lo hi).same (Bf hp)))⟩)
  |non=>cases h
  |bl _=>exact Al h
  |int _=>exact Al h
  |lst _ _ _=>exact Al h
  |kl _ _=>exact Al h
  |ref _=>exact Al h
  |dic _ _ _ _=>exact Al h
  |dks _ _ _ _=>exact Al h
  |fz _ _ _=>exact Al h
  |fn _=>exact Al h
theorem Rm {s:Shared}{A:Around}{prog:Program}{w:World}{E:Value->Shared->Prop}{t b:Addr}{ws:List Value}{Q:Value->Shared->Prop} (ht:IsTup s.heap t #[]) (hb:IsTup s.heap b ws.toArray) (h:Q (.ref b) s) :
  wpAny (model prog w) A (binaryOp .Add (.ref t) (.ref b)) Q E s:=by
 obtain⟨⟨cls,dd,data,sl⟩,ho,hc,n,hd⟩:=id ht
 obtain⟨⟨cls2,dd2,data2,sl2⟩,ho2,hc2,n2,hd2⟩:=id hb
 simp only at hc hd hc2 hd2
 subst hc hd hc2 hd2
 exact concat_meets ⟨_,ho,rfl⟩ ⟨_,ho2,rfl⟩ noFill_tuple_add seq_tuple_add PySem.F.slot_tuple_add PySem.F.entry_tuple_add (PySem.F.args_tuple_add_2 _ _)
   (tuple_addW0 t b #[] ws.toArray n n2 dd dd2 sl sl2 (by simp)) ⟨ho,ho2,h⟩
theorem Adb:OpR X (binaryOp .Add) (fun x y H Q=>∃ a b ys,x=.ref a/\y=.ref b/\SqT X.K H a []/\SqT X.K H b ys/\Q (.ref b) H):=by
 intro pins s σ H x y v u Q I rx ry h
 obtain⟨a,b,ys,rfl,rfl,ha,hb,q⟩:=h
 cases rx
 cases ry
 obtain⟨its,r1,p1,_⟩:=I.tuple ha
 cases r1
 obtain⟨its2,r2,p2,_⟩:=I.tuple hb
 exact Rm p1 p2 ⟨.ref b,H,I,rfl,q⟩
set_option tactic.hygienic true in
theorem A9:OpM X (binaryOp .Add) Cn:=OpM.of (op_add.or (op_add_str.or (op_catT.or Adb))) fun μ m x y z v u H Q S rx ry e q=>by
 cases rx<;>first|exact Al e|skip
 all_goals cases ry<;>first|exact Al e|skip
 ·cases e;exact .inl ⟨_,_,rfl,rfl,q _ H (Same.refl H) (.int _)⟩
 ·rename_i i ok j ok'
  unfold Cn at e
  simp only at e
  split at e
  ·cases e;exact .inr (.inl ⟨_,_,rfl,rfl,big (by assumption),q _ H (Same.refl H) (.str _ (Ip ok ok'))⟩)
  ·cases e
 ·rename_i ds a xs hq rs es b ys hq' rs'
  unfold Cn at e
  simp only at e
  split at e
  ·rename_i hl
   cases e
   by_cases hx:xs=[]
   ·subst hx
    cases rs
    exact .inr (.inr (.inr ⟨a,b,ys,rfl,rfl,hq,hq',q _ H (Same.refl H) (by rw[Bao];exact .tup hq' rs')⟩))
   ·refine .inr (.inr (.inl ⟨a,b,xs,ys,rfl,rfl,hq,hq',hx,by rw[<- rs.length,<- rs'.length];exact big hl,fun hy=>?_,fun hy p hp=>?_⟩))
    ·subst hy
     cases rs'
     exact q _ H (Same.refl H) (by rw[Axx];exact .tup hq rs)
    ·exact q _ _ (Bf hp) (.tup (.inl (.inl Bn)) ((rs.append rs').same (Bf hp)))
  ·cases e
def sqL (m:MH):D->Option (List D)
 |.tup _=>none
 |d=>sq m d
def Aca (f g:FE):FL:=fun env m=>(f env m).bind fun x=>(g env m).bind fun y=>(sqL m x).bind fun xs=>(sqL m y).bind fun ys=>if xs.length+ys.length<=1000000 then some (xs++ys) else none
theorem Lq {K:W.Frag}{H:Hp}{μ:List Addr}{m:MH} (S:Sim K H μ m) {d:D}{v:V}{ds:List D} (r:Rep K H μ (·∈μ) d v) (h:sqL m d=some ds):∃ a xs,v=.ref a/\SqL K H a xs/\Reps K H μ (·∈μ) ds xs:=by
 cases r with
 |@ref n a e =>
  unfold sqL sq at h
  cases q:m[n]? with
  |none=>simp[q] at h
  |some o =>
   simp only[q] at h
   cases o with
   |dcs _ _=>cases h
   |dct _=>cases h
   |lst ds =>
    cases h
    obtain⟨xs,e1,e2⟩:=S.obj n a _ e q
    exact⟨a,xs,rfl,SqL.of e1,e2⟩
 |@lst ds a xs h1 h3 h2=>cases h;exact⟨a,xs,rfl,.inl h1,h2⟩
 |@kl ds a xs h1 h2=>cases h;exact⟨a,xs,rfl,h1.sq,h2⟩
 |_=>exact Al h
theorem Ajh:OpR X (binaryOp .Add) (fun x y H Q=>∃ l b xs zs,x=.ref l/\y=.ref b/\SqL X.K H l xs/\SqL X.K H b zs/\xs.length+zs.length<=sizeLine/\∀ p,H p=none->Q (.ref p) (upd H p (.lst (xs++zs)))):=by
 intro pins s σ H x y v u Q I rx ry h
 obtain⟨l,b,xs,zs,rfl,rfl,hl,hb,hz,q⟩:=h
 cases rx
 cases ry
 obtain⟨its,r,⟨⟨cls,dd,data,sl⟩,n,ho,hc,hdd,hd⟩,z⟩:=I.list hl
 obtain⟨its2,r2,⟨⟨cls2,dd2,data2,sl2⟩,n2,ho2,hc2,hdd2,hd2⟩,z2⟩:=I.list hb
 simp only at hc hd hc2 hd2 hdd hdd2
 subst hc hd hc2 hd2 hdd hdd2
 have hl:=r.length
 have hl2:=r2.length
 refine concat_meets ⟨_,ho,rfl⟩ ⟨_,ho2,rfl⟩ noFill_list_add seq_list_add PySem.F.slot_list_add PySem.F.entry_list_add (PySem.F.args_list_add_2 _ _)
   (list_addW l b its.toArray its2.toArray n n2 none none sl sl2 (by rw[Axk,Axk];lia)) ⟨ho,ho2,?_⟩
 have ea:its.toArray++its2.toArray=(its++its2).toArray:=by simp
 rw[ea]
 exact⟨.ref _,_,I.lnew (t':=s.toks) (r.append r2) (by rw[Axt];lia),rfl,q _ I.fresh⟩
theorem Aqm {f g:FE} (ha:PD X a f) (hb:PD X b g):PF X (.BinOp a .Add b pos) (Aca f g):=PE.imp (Aun Ajh ha hb) fun σ H Q ⟨env,μ,m,d,S,E,h,q⟩=>by
 obtain⟨x,h1,h⟩:=bind_some h
 obtain⟨y,h2,h⟩:=bind_some h
 obtain⟨xs,h3,h⟩:=bind_some h
 obtain⟨ys,h4,h⟩:=bind_some h
 split at h
 ·rename_i hl
  cases h
  refine⟨env,μ,m,x,S,E,h1,fun v H1 s1 r1=>⟨env,μ,m,y,S.same s1,E.same s1,h2,fun u H2 s2 r2=>?_⟩⟩
  obtain⟨l,vs,rfl,e1,rs⟩:=Lq (S.same (s1.trans s2)) (r1.same s2) h3
  obtain⟨b,ws,rfl,e2,rs'⟩:=Lq (S.same (s1.trans s2)) r2 h4
  exact⟨l,b,vs,ws,rfl,rfl,e1,e2,by rw[<- rs.length,<- rs'.length];exact big hl,fun p hp=>q p _ _ ((s1.trans s2).trans (Bf hp)) ((s1.trans s2).free hp) Bn ((rs.append rs').fresh hp)⟩
 ·cases h
def L0 (X:Cx) (f:Value) (o:List D->MH->Option D):Prop :=
 ∀ (pins:List (Addr×Obj)) (s:Shared) (σ:St) (H:Hp) (μ:List Addr) (m:MH) (xs:List D) (z:D) (vs:List V) (us:List Value) (Q:VK),Inv X pins σ H s->Sim X.K H μ m->Reps X.K H μ (·∈μ) xs vs->Vals vs us->o xs m=some z ->
  (∀ w H2,Same H H2->Rep X.K H2 μ (·∈μ) z w->Q w H2)->wpAny (model X.prog X.w) X.A (call f us) (EP X pins σ Q) X.xe s
def Agy (X:Cx) (f:Value) (o:List D->MH->Option (List D)):Prop :=
 ∀ (pins:List (Addr×Obj)) (s:Shared) (σ:St) (H:Hp) (μ:List Addr) (m:MH) (xs:List D) (z:List D) (vs:List V) (us:List Value) (Q:VK),Inv X pins σ H s->Sim X.K H μ m->Reps X.K H μ (·∈μ) xs vs->Vals vs us->o xs m=some z ->
  (∀ a ys H2,Same H H2->H a=none->H2 a=some (.lst ys)->Reps X.K H2 μ (nw μ a) z ys->Q (.ref a) H2)->wpAny (model X.prog X.w) X.A (call f us) (EP X pins σ Q) X.xe s
noncomputable def Ay (o:List D->MH->Option D) (g:FL):FE:=fun env m=>(g env m).bind fun xs=>o xs m
noncomputable def Bt (o:List D->MH->Option (List D)) (g:FL):FL:=fun env m=>(g env m).bind fun xs=>o xs m
theorem Anm (ho:L0 X k o) (ha:PL X es g) {s:Shared}{H:Hp} (I:Inv X pins σ H s) (h:tE X.K (Ay o g) σ H Q) :
  wpAny (model X.prog X.w) X.A (spliced (backTo pos (starEach es X.env))) (fun us s1=>wpAny (model X.prog X.w) X.A (call k us) (EP X pins σ Q) X.xe s1) X.xe s:=by
 obtain⟨env,μ,m,d,S,E,h,q⟩:=h
 obtain⟨xs,h1,h2⟩:=bind_some h
 refine thn (ha pos pins s σ H (fun vs H1=>Same H H1/\Reps X.K H1 μ (·∈μ) xs vs) I ⟨env,μ,m,xs,S,E,h1,fun v H1 s1 r1=>⟨s1,r1⟩⟩) fun us s1 ⟨vs,H1,I1,r1,s1',rx⟩=>?_
 exact ho pins s1 σ H1 μ m xs d vs us Q I1 (S.same s1') rx r1 h2 fun w H2 s2 r2=>q w H2 (s1'.trans s2) r2
theorem Atm (ho:Agy X k o) (ha:PL X es g) {s:Shared}{H:Hp} (I:Inv X pins σ H s) (h:tF X.K (Bt o g) σ H Q) :
  wpAny (model X.prog X.w) X.A (spliced (backTo pos (starEach es X.env))) (fun us s1=>wpAny (model X.prog X.w) X.A (call k us) (EP X pins σ Q) X.xe s1) X.xe s:=by
 obtain⟨env,μ,m,d,S,E,h,q⟩:=h
 obtain⟨xs,h1,h2⟩:=bind_some h
 refine thn (ha pos pins s σ H (fun vs H1=>Same H H1/\Reps X.K H1 μ (·∈μ) xs vs) I ⟨env,μ,m,xs,S,E,h1,fun v H1 s1 r1=>⟨s1,r1⟩⟩) fun us s1 ⟨vs,H1,I1,r1,s1',rx⟩=>?_
 exact ho pins s1 σ H1 μ m xs d vs us Q I1 (S.same s1') rx r1 h2 fun a ys H2 s2 hn ha r2=>q a ys H2 (s1'.trans s2) (s1'.free hn) ha r2
theorem Uo (hc:L0 X (.builtin id) o) (hg:Gl X x) (hm:X.mg x=none) (hv:bootBuiltins x=some (.builtin id)) (ha:PL X (e::es) g) (hn:x≠"__name__") (hdb:(x == ("__debug__":Str))=false) (he:starEach (e::es) X.env=(false,eval e X.env)::starEach es X.env) (hpl:(backTo pos (starEach es X.env)).any (·.1)=false):PD X (.Call (.Name x p) (e::es) [] pos) (Ay o g):=by
 intro pins s σ H Q I h
 refine Ayj (Dv I hg hm hv ?_ hn hdb)
 exact PyProof.Rows.callWith_builtin1 (Anm hc ha I h) he hpl
theorem Li (hc:L0 X (.type T) o) (hg:Gl X x) (hm:X.mg x=none) (hv:bootBuiltins x=some (.type T)) (ha:PL X (e::es) g) (hn:x≠"__name__") (hdb:(x == ("__debug__":Str))=false) (he:starEach (e::es) X.env=(false,eval e X.env)::starEach es X.env) (hpl:(backTo pos (starEach es X.env)).any (·.1)=false):PD X (.Call (.Name x p) (e::es) [] pos) (Ay o g):=by
 intro pins s σ H Q I h
 refine Ayj (Dv I hg hm hv ?_ hn hdb)
 exact PyProof.Rows.callWith_type1 (Anm hc ha I h) he hpl
theorem Zy (hc:Agy X (.type T) o) (hg:Gl X x) (hm:X.mg x=none) (hv:bootBuiltins x=some (.type T)) (ha:PL X (e::es) g) (hn:x≠"__name__") (hdb:(x == ("__debug__":Str))=false) (he:starEach (e::es) X.env=(false,eval e X.env)::starEach es X.env) (hpl:(backTo pos (starEach es X.env)).any (·.1)=false):PF X (.Call (.Name x p) (e::es) [] pos) (Bt o g):=by
 intro pins s σ H Q I h
 refine Ayj (Dv I hg hm hv ?_ hn hdb)
 exact PyProof.Rows.callWith_type1 (Atm hc ha I h) he hpl
inductive R1 (K:W.Frag) (H:Hp) (μ:List Addr) (B:Addr->Prop) (d:D) (vs:List V):Prop where
 |mk (v:V) (e:vs=[v]) (r:Rep K H μ B d v)
theorem Reps.one {K:W.Frag}{H:Hp}{μ:List Addr}{B:Addr->Prop}{d:D}{vs:List V} (r:Reps K H μ B [d] vs):R1 K H μ B d vs:=by
 cases r with
 |cons h r=>cases r;exact⟨_,rfl,h⟩
theorem Reps.two {K:W.Frag}{H:Hp}{μ:List Addr}{B:Addr->Prop}{d d':D}{vs:List V} (r:Reps K H μ B [d,d'] vs):∃ v v',vs=[v,v']/\Rep K H μ B d v/\Rep K H μ B d' v':=by
 cases r with
 |cons h r =>
  cases r with
  |cons h' r=>cases r;exact⟨_,_,rfl,h,h'⟩
def At9 (m:MH):D->Option Nat
 |.str z=>if z.length<=1000000 then some z.length else none
 |d=>(sq m d).bind fun ds=>some ds.length
def Ec:List D->MH->Option D:=fun xs m=>match xs with
 |[d]=>(At9 m d).bind fun n=>some (.int n)
 |_=>none
theorem Ai4 {K:W.Frag}{H:Hp}{μ:List Addr}{m:MH} (S:Sim K H μ m) {d:D}{v:V}{n:Nat} (r:Rep K H μ (·∈μ) d v) (h:At9 m d=some n):Asb K v H n:=by
 have seq:((sq m d).bind fun ds=>some ds.length)=some n->Asb K v H n:=fun h=>by
  obtain⟨ds,h1,h2⟩:=bind_some h
  cases h2
  obtain⟨a,xs,rfl,hq,rs⟩:=Nb S r h1
  rcases hq with hq|hq
  ·exact .inl ⟨xs,hq,rs.length⟩
  ·exact .inr ⟨xs,hq,rs.length⟩
 cases r with
 |str z ok =>
  unfold At9 at h
  simp only at h
  split at h
  ·cases h;exact⟨big (by assumption),rfl⟩
  ·exact Al h
 |non=>exact seq h
 |bl _=>exact seq h
 |int _=>exact seq h
 |tup h1 h2=>exact seq h
 |lst h1 h2 h3=>exact seq h
 |kl h1 h2=>exact seq h
 |dic h1 h2 h3 h4=>exact seq h
 |dks _ _ _ _=>exact seq h
 |fz _ _ _=>exact seq h
 |fn _=>exact seq h
 |ref h'=>exact seq h
theorem Anr:L0 X (.builtin "len") Ec:=by
 intro pins s σ H μ m xs z vs us Q I S rx rv e q
 match xs,e with
 |[d],e =>
  obtain⟨n,h1,h2⟩:=bind_some e
  cases h2
  obtain⟨v,rfl,r⟩:=rx.one
  exact Ab1 pins s σ H [v] us Q I rv ⟨v,n,rfl,Ai4 S r h1,q _ H (Same.refl H) (.int _)⟩
noncomputable def Abg:List D->MH->Option D:=fun xs _=>match xs with
 |[.int i]=>some (.int i)
 |[.bl b]=>some (.int (if b then 1 else 0))
 |[.str z]=>if z.length<=640 then (PySem.intText? z).bind fun i=>some (.int i) else none
 |_=>none
theorem Afq {α:Type}{o:List D->Option α}{xs:List D}{z:α} (hn:o []=none) (hc:∀ a b l,o (a::b::l)=none) (e:o xs=some z):∃ d,xs=[d]:=by
 cases xs with
 |nil=>rw[hn] at e;exact Al e
 |cons a l =>
  cases l with
  |nil=>exact⟨a,rfl⟩
  |cons b l=>rw[hc] at e;exact Al e
theorem Aew:L0 X (.type "int") Abg:=by
 intro pins s σ H μ m xs z vs us Q I S rx rv e q
 obtain⟨d,rfl⟩:=Afq (o:=(Abg · m)) rfl (fun a _ _=>by cases a<;>rfl) e
 obtain⟨v,rfl,r⟩:=rx.one
 cases r with
 |int i =>
  cases e
  exact O6 pins s σ H _ us Q I rv (.inl ⟨i,rfl,q _ H (Same.refl H) (.int _)⟩)
 |bl b =>
  cases e
  exact O6 pins s σ H _ us Q I rv (.inr ⟨b,rfl,q _ H (Same.refl H) (.int _)⟩)
 |str x _ =>
  unfold Abg at e
  simp only at e
  split at e
  ·obtain⟨i,h1,h2⟩:=bind_some e
   cases h2
   obtain⟨u,rfl,t,rfl⟩:=Iy rv
   exact W.KIN.call_text h1 (by assumption) ⟨.int i,H,I.tok _,⟨_,rfl⟩,q _ H (Same.refl H) (.int _)⟩
  ·cases e
 |_=>exact Al e
theorem Gi (z:String):PyData.strOk (Str.ofString z)=true:=by
 rw[Ls]
 intro c hc
 rw[Str.ofString_eq_toList] at hc
 have:c∈z.toList.map Char.toNat:=by simpa using hc
 obtain⟨k,_,rfl⟩:=List.mem_map.mp this
 have:=k.valid
 rcases this with h|h
 ·show k.val.toNat < _
  lia
 ·show k.val.toNat < _
  lia
def Et:List D->MH->Option D:=fun xs m=>match xs with
 |[d]=>(sq m d).bind fun ds=>some (.tup ds)
 |_=>none
theorem Ab4:L0 X (.type "tuple") Et:=by
 intro pins s σ H μ m xs z vs us Q I S rx rv e q
 match xs,e with
 |[d],e =>
  obtain⟨ds,h1,h2⟩:=bind_some e
  cases h2
  obtain⟨v,rfl,r⟩:=rx.one
  obtain⟨a,ys,rfl,hq,rs⟩:=Nb S r h1
  refine Nl pins s σ H _ us Q I rv ⟨a,ys,rfl,?_⟩
  rcases hq with hq|hq
  ·exact .inl ⟨hq,fun l hl=>q _ _ (Bf hl) (.tup (.inl (.inl Bn)) (rs.same (Bf hl)))⟩
  ·exact .inr ⟨hq,q _ H (Same.refl H) (.tup hq rs)⟩
def Zh:List D->MH->Option (List D):=fun xs m=>match xs with
 |[d]=>sq m d
 |_=>none
theorem Ahy:Agy X (.type "list") Zh:=by
 intro pins s σ H μ m xs z vs us Q I S rx rv e q
 match xs,e with
 |[d],e =>
  obtain⟨v,rfl,r⟩:=rx.one
  obtain⟨a,ys,rfl,hq,rs⟩:=Nb S r e
  exact O7 pins s σ H _ us Q I rv ⟨a,ys,rfl,hq,fun l hl=>q l _ _ (Bf hl) hl Bn (rs.fresh hl)⟩
noncomputable def tyD (m:MH):D->Option String
 |.non=>some "NoneType"|.bl _=>some "bool"|.int _=>some "int"|.str _=>some "str"|.tup _=>some "tuple"|.lst _=>some "list"|.kl _=>some "list"
 |.ref n=>match m[n]? with
  |some (.lst _)=>some "list"
  |some (.dct _ _)=>none
  |some (.dcs _ _)=>none
  |none=>none
 |.dic _ _=>none
 |.dks _ _=>none
 |.fz _ _ _ _=>none
 |.fn _ _=>none
noncomputable def Vr (T U:String):Option Bool:=if U="int"\/U="bool"\/U="str"\/U="tuple"\/U="list" then some (T == U||(T == "bool"&&U == "int")) else none
theorem L6 (K:W.Frag) {T U:String}{b:Bool} (hT:T="NoneType"\/T="bool"\/T="int"\/T="str"\/T="tuple"\/T="list") (h:Vr T U=some b):W.kitOne K (.type T) (.type U)=some b:=by
 unfold Vr at h
 split at h
 ·rename_i hU
  cases h
  rcases hT with rfl|rfl|rfl|rfl|rfl|rfl<;>rcases hU with rfl|rfl|rfl|rfl|rfl<;>kernel_rfl
 ·cases h
def Abe (U:String) (f:FE):FE:=fun env m=>(f env m).bind fun d=>(tyD m d).bind fun T=>(Vr T U).bind fun b=>some (.bl b)
end
section
variable {X:Cx}{a b c e o':Expr}{es:List Expr}{pos p p' apos cpos:Pos}{x:Str}{id T:String}
theorem Ai1 {pins:List (Addr×Obj)}{σ:St}{H:Hp}{s:Shared}{A:Around}{E:Value->Shared->Prop}{Q:Value->Shared->Prop}{a:Addr}{xs:List V}{c:Value}{b:Bool} (I:Inv X pins σ H s) (h:SqT X.K H a xs) (e:W.kitOne X.K (.type "tuple") c=some b) (q:∀ tk,Q (.bool b) { s with toks:=tk }) :
  wpAny (model X.prog X.w) A (call (.builtin "isinstance") [.ref a,c]) Q E s:=by
 obtain⟨its,_,⟨o,h1,h2,_⟩,_⟩:=I.tuple h
 exact W.kia_one W.kitx_tuple I.kIn ⟨o,h1,h2⟩ e (fun z=>nomatch z) q
theorem At8 {pins:List (Addr×Obj)}{σ:St}{H:Hp}{s:Shared}{A:Around}{E:Value->Shared->Prop}{Q:Value->Shared->Prop}{μ:List Addr}{m:MH}{d:D}{v:V}{u:Value}{T U:String}{b:Bool} (I:Inv X pins σ H s) (S:Sim X.K H μ m) (r:Rep X.K H μ (·∈μ) d v) (ru:RelV v u)
  (h:tyD m d=some T) (hb:Vr T U=some b) (q:∀ tk,Q (.bool b) { s with toks:=tk }):wpAny (model X.prog X.w) A (call (.builtin "isinstance") [u,.type U]) Q E s:=by
 cases r with
 |non=>cases h;exact C7 I ru .non (L6 X.K (by simp) hb) q
 |bl b=>cases h;exact C7 I ru (.bl b) (L6 X.K (by simp) hb) q
 |int b=>cases h;exact C7 I ru (.int b) (L6 X.K (by simp) hb) q
 |str b _=>cases h;exact C7 I ru (.str b) (L6 X.K (by simp) hb) q
 |tup h1 h2=>cases h;cases ru;exact Ai1 I h1 (L6 X.K (by simp) hb) q
 |lst h1 h2 h3 =>
  cases h
  rcases h1 with h1|⟨o,h1⟩
  ·exact C7 I ru (.lst h1) (L6 X.K (by simp) hb) q
  ·exact C7 I ru (.frz h1) (L6 X.K (by simp) hb) q
 |kl h1 h2 =>
  cases h
  cases ru
  rcases h1 with ⟨o,h1⟩|⟨o,its,n,hk,hc,_⟩
  ·exact C7 (x:=.ref _) (u:=.ref _) I rfl (.frz h1) (L6 X.K (by simp) hb) q
  ·exact W.kia_one W.kitx_list I.kIn ⟨o,I.kIn _ _ hk,hc⟩ (L6 X.K (by simp) hb) (fun z=>nomatch z) q
 |dic h1 h2 h3 h4=>exact Al h
 |dks _ _ _ _=>exact Al h
 |fz _ _ _=>exact Al h
 |fn _=>exact Al h
 |@ref n a e =>
  unfold tyD at h
  cases q':m[n]? with
  |none=>simp[q'] at h
  |some ob =>
   simp only[q'] at h
   cases ob with
   |dcs _ _=>cases h
   |dct _ _=>cases h
   |lst ds =>
    cases h
    obtain⟨xs,e1,e2⟩:=S.obj n a _ e q'
    exact C7 I ru (.lst e1) (L6 X.K (by simp) hb) q
theorem Ap6 (ha:PD X e f) (hg:Gl X "isinstance") (hm:X.mg "isinstance"=none) (hg':Gl X y) (hm':X.mg y=none) (hv':bootBuiltins y=some (.type U)) (hn:y≠"__name__") (hdb:(y == ("__debug__":Str))=false) (hv:bootBuiltins "isinstance"=some (.builtin "isinstance")) (he:starEach [e,.Name y p'] X.env=(false,eval e X.env)::starEach [.Name y p'] X.env) (he':starEach [.Name y p'] X.env=(false,eval (.Name y p') X.env)::starEach [] X.env) (hpl:(backTo pos (starEach [.Name y p'] X.env)).any (·.1)=false) :
  PD X (.Call (.Name "isinstance" p) [e,.Name y p'] [] pos) (Abe U f):=by
 intro pins s σ H Q I h
 obtain⟨env,μ,m,z,S,E,h,q⟩:=h
 obtain⟨d,h1,h⟩:=bind_some h
 obtain⟨T,h2,h⟩:=bind_some h
 obtain⟨b,h3,h⟩:=bind_some h
 cases h
 have hA:PA X [e,.Name y p'] (Alm (tE X.K f) (Alm (tC (.ty U)) Avl)):=N2 ha (N2 (Aj0 hg' hm' hv' rfl hn hdb) Zw he') he
 refine Ayj (Dv I hg hm hv ?_ (by decide) (by decide))
 refine PyProof.Rows.callWith_builtin1 (thn (hA pos pins s σ H (fun vs H1=>∃ v,vs=[v,.ty U]/\Same H H1/\Rep X.K H1 μ (·∈μ) d v) I ⟨env,μ,m,d,S,E,h1,fun v H1 s1 r1=>⟨v,rfl,s1,r1⟩⟩) fun us s1 ⟨vs,H1,I1,rv,v,e1,s1',rx⟩=>?_) he hpl
 subst e1
 obtain⟨u,w,rfl,r1,r2⟩:=Arq rv
 cases r2
 have S1:=S.same s1'
 have fin:∀ tk,EP X pins σ Q (.bool b) { s1 with toks:=tk }:=fun tk=>⟨.bl b,H1,I1.tok _,rfl,q _ H1 s1' (.bl b)⟩
 exact At8 I1 S1 rx r1 h2 h3 fin
noncomputable def Ro:List D->Option (List Bool)
 |[]=>some []
 |.bl b::ds=>(Ro ds).bind fun bs=>some (b::bs)
 |_=>none
def Aoy:List D->MH->Option D:=fun xs m=>match xs with
 |[d]=>(sqL m d).bind fun ds=>(Ro ds).bind fun bs=>some (.bl (bs.all (fun b=>b)))
 |_=>none
theorem Mf {K:W.Frag}{H:Hp}{μ:List Addr}{B:Addr->Prop}:∀ {ds:List D}{bs:List Bool}{vs:List V}{us:List Value},Reps K H μ B ds vs->Ro ds=some bs->Vals vs us->us=bs.map Value.bool
 |_,_,_,_,.nil,h,.nil=>by cases h;rfl
 |_,_,_,_,.cons r rs,h,.cons q qs=>by
  cases r<;>first|(cases h;done)|skip
  obtain⟨bs',h1,h2⟩:=bind_some h
  cases h2
  cases q
  rw[Mf rs h1 qs]
  rfl
theorem Xr {bs:List Bool}:(List.range bs.length).all (fun i=>bs.getD i false)=bs.all (fun b=>b):=by
 induction bs with
 |nil=>rfl
 |cons b bs ih =>
  rw[Ax1,List.range_succ_eq_map,Ayt,List.all_map,Ayt,<- ih]
  rfl
theorem Oo {bs:List Bool}:TruthOf prog w A (fun i v=>(bs.map Value.bool).toArray[i]?=some v) fun i=>bs.getD i false:=by
 intro i v s Q E h q
 have h':(bs.map Value.bool)[i]?=some v:=by simpa using h
 rw[Ax6] at h'
 cases e:bs[i]? with
 |none=>rw[e] at h';cases h'
 |some b =>
  rw[e] at h'
  cases h'
  have q':Q (bs.getD i false) s:=q
  rw[Axp,e] at q'
  exact Aze q'
theorem Anq (hc:X.calm=true):L0 X (.builtin "all") Aoy:=by
 intro pins s σ H μ m xs z vs us Q I S rx rv e q
 match xs,e with
 |[d],e =>
  obtain⟨ds,h1,h2⟩:=bind_some e
  obtain⟨bs,hbs,h3⟩:=bind_some h2
  cases h3
  obtain⟨v,rfl,r⟩:=rx.one
  obtain⟨a,ys,rfl,hq,rs⟩:=Lq S r h1
  obtain⟨u,rfl,r1⟩:=Iy rv
  cases r1
  obtain⟨its,ri,pl,hz⟩:=I.list hq
  have e:=Mf rs hbs ri
  subst e
  refine call_all_walk (wpAny_pyIter_list pl.isList ?_)
  have hne:a≠s.heap.objs.size:=Ax5 (by obtain⟨o,n,e,_⟩:=pl;exact Axm e)
  refine⟨_,_,_,_,_,_,fun i=>bs.getD i false,rfl,Walks.list (A:=X.A.in1) (I.ok.hd hc) _ a hne (bs.map Value.bool).toArray,⟨⟨_,Axw _ rfl,rfl,rfl⟩,?_⟩,Oo,fun h' tk hk=>?_⟩
  ·exact pl.isList.at fun o e=>Axi _ e
  ·refine⟨.bl _,H,I.kept (h':=h') (t':=tk) fun b o e=>hk b o (fun z=>?_) (Axi _ e),?_,q _ H (Same.refl H) (.bl _)⟩
   ·have z':b=s.heap.objs.size:=by simpa using z
    exact absurd (Axm e) (by rw[z'];exact Ayd _)
   ·show Value.bool _=Value.bool _
    rw[<- Xr]
    simp
def inO (m:MH) (x y:D):Option Bool:=match y with
 |.str z=>(match x with
  |.str w=>some (!(Builtin.Str.occurrences z w 0 z.length 1).isEmpty)
  |_=>none)
 |y=>(C1 m x).bind fun x'=>(C1 m y).bind fun y'=>(sq [] y').bind fun ds=>if dep x'<=50 then some (ds.any fun d=>deq d x') else none
def oIn:D->D->MH->Option D:=fun x y m=>(inO m x y).bind fun b=>some (.bl b)
def Cr:D->D->MH->Option D:=fun x y m=>(inO m x y).bind fun b=>some (.bl (!b))
mutual
theorem Tz {pins:List (Addr×Obj)}{σ:St}{H:Hp}{s:Shared}{A:Around}{d d':D}{v v':V}{u u':Value}{μ:List Addr}{B:Addr->Prop} (I:Inv X pins σ H s) (r:Rep X.K H μ B d v) (r':Rep X.K H μ B d' v') (n:B6 d=true) (n':B6 d'=true) (ru:RelV v u) (ru':RelV v' u') (hu:A.units+dep d' < cLine) :
  SeqAt.EqAt A s u u' (deq d d'):=by
 obtain⟨as,ra⟩:=Ek I r n ru
 obtain⟨bs,rb⟩:=Ek I r' n' ru'
 refine SeqAt.eqAt_reads _ _ _ _ _ _ _ _ ra rb (Gq r) (Gq r') ?_
 rw[Jw,Jw]
 lia
end
theorem Dp:∀ {ds:List D}{d:D},Be ds=true->d∈ds->B6 d=true
 |_::_,_,h,.head _=>(Bool.and_eq_true_iff.mp h).1
 |_::_,_,h,.tail _ q=>Dp (Bool.and_eq_true_iff.mp h).2 q
theorem Rep.tl {pins:List (Addr×Obj)}{σ:St}{H:Hp}{s:Shared}{a:Addr}{xs ys:List V} (I:Inv X pins σ H s) (h:SqT X.K H a xs) (h':SqL X.K H a ys):False:=by
 obtain⟨its,_,p,_⟩:=I.tuple h
 obtain⟨its',_,p',_⟩:=I.list h'
 exact SeqAt.ne_of_list_tuple p'.isList p rfl
mutual
theorem Aas {H:Hp}{s:Shared} (I:Inv X pins σ H s) {d d':D}{v:V} (r:Rep X.K H μ B d v) (q:Rep X.K H μ B d' v) (n:B6 d=true) (n':B6 d'=true):pyD d=pyD d':=by
 cases r with
 |non=>cases q;rfl
 |bl _=>cases q;rfl
 |int _=>cases q;rfl
 |str _ _=>cases q;rfl
 |ref _=>exact Dq n
 |dic _ _ _ _=>exact Dq n
 |dks _ _ _ _=>exact Dq n
 |fz _ _ _=>exact Dq n
 |fn _=>exact Dq n
 |tup h r =>
  cases q with
  |tup h' r' =>
   cases I.tuple_inj h h'
   exact Ay9 PyData.tuple (Ga I r r' n n')
  |lst h' _ r'=>exact (Rep.tl I h (.inl h')).elim
  |kl h' r'=>exact (Rep.tl I h h'.sq).elim
  |_=>exact Dq n'
 |lst h _ r =>
  cases q with
  |tup h' r'=>exact (Rep.tl I h' (.inl h)).elim
  |lst h' _ r' =>
   cases I.list_inj (.inl h) (.inl h')
   exact Ay9 PyData.list (Ga I r r' n n')
  |kl h' r' =>
   cases I.list_inj (.inl h) h'.sq
   exact Ay9 PyData.list (Ga I r r' n n')
  |_=>exact Dq n'
 |kl h r =>
  cases q with
  |tup h' r'=>exact (Rep.tl I h' h.sq).elim
  |lst h' _ r' =>
   cases I.list_inj h.sq (.inl h')
   exact Ay9 PyData.list (Ga I r r' n n')
  |kl h' r' =>
   cases I.list_inj h.sq h'.sq
   exact Ay9 PyData.list (Ga I r r' n n')
  |_=>exact Dq n'
theorem Ga {H:Hp}{s:Shared} (I:Inv X pins σ H s) {d d':List D}{v:List V} (r:Reps X.K H μ B d v) (q:Reps X.K H μ B d' v) (n:Be d=true) (n':Be d'=true):Ll d=Ll d':=by
 cases r with
 |nil=>cases q;rfl
 |cons h r =>
  cases q with
  |cons h' r' =>
  have e:=Bool.and_eq_true_iff.mp n
  have e':=Bool.and_eq_true_iff.mp n'
  rw[Ll,Ll,Aas I h h' e.1 e'.1,Ga I r r' e.2 e'.2]
end
theorem Nq {pins:List (Addr×Obj)}{σ:St}{H:Hp}{s:Shared}{A:Around}{μ:List Addr}{B:Addr->Prop}{x:D}{vx:V}{ux:Value} (I:Inv X pins σ H s) (rx:Rep X.K H μ B x vx) (nx:B6 x=true) (rux:RelV vx ux) (hu:A.units+dep x < cLine)
  {ds:List D}{vs:List V}{us:List Value} (rs:Reps X.K H μ B ds vs) (ns:Be ds=true) (rv:Vals vs us) :
  ∃ e:Value->Bool,(∀ y∈us,SeqAt.EqAt A s y ux (e y))/\us.any e=ds.any fun d=>deq d x:=by
 have key:∀ y,∃ b:Bool,∀ (i:Nat) (d:D),us[i]?=some y->ds[i]?=some d->b=deq d x:=fun y=>by
  by_cases h:∃ (i:Nat) (d:D),us[i]?=some y/\ds[i]?=some d
  ·obtain⟨i,d,h1,h2⟩:=h
   refine⟨deq d x,fun j d' h3 h4=>?_⟩
   obtain⟨v,e1,r1⟩:=rs.get h2
   obtain⟨v',e2,r2⟩:=rs.get h4
   obtain⟨u,e3,r3⟩:=rv.get e1
   obtain⟨u',e4,r4⟩:=rv.get e2
   rw[h1] at e3;cases e3
   rw[h3] at e4;cases e4
   cases r3.inj r4
   unfold deq
   rw[Aas I r1 r2 (Dp ns (Aya h2)) (Dp ns (Aya h4))]
  ·exact⟨false,fun i d h1 h2=>absurd ⟨i,d,h1,h2⟩ h⟩
 refine⟨fun y=>Classical.choose (key y),fun y hy=>?_,?_⟩
 ·obtain⟨i,hi⟩:=Az3 hy
  have hil:i < ds.length:=by
   have:=(List.getElem?_eq_some_iff.mp hi).1
   rw[rs.length,rv.length];exact this
  obtain⟨v,e1,r1⟩:=rs.get (i:=i) (d:=ds[i]) (by simp[hil])
  obtain⟨u,e3,r3⟩:=rv.get e1
  rw[hi] at e3;cases e3
  have ec:=Classical.choose_spec (key y) i ds[i] hi (by simp[hil])
  show SeqAt.EqAt A s y ux (Classical.choose (key y))
  rw[ec]
  exact Tz I r1 rx (Dp ns (Aym hil)) nx r3 rux hu
 ·have aux:∀ (f:Value->Bool) (ds:List D) (us:List Value),us.length=ds.length->(∀ (i:Nat) (y:Value) (d:D),us[i]?=some y->ds[i]?=some d->f y=deq d x)->us.any f=ds.any fun d=>deq d x:=fun f=>by
   intro ds
   induction ds with
   |nil=>intro us hl _;cases us with
    |nil=>rfl
    |cons _ _=>cases hl
   |cons d ds ih =>
    intro us hl h
    cases us with
    |nil=>cases hl
    |cons y us =>
     rw[Azk,Azk,h 0 y d rfl rfl,ih us (by simpa using hl) fun i y d h1 h2=>h (i+1) y d (by simpa using h1) (by simpa using h2)]
  exact aux _ ds us (by rw[rs.length,rv.length]) fun i y d h1 h2=>Classical.choose_spec (key y) i d h1 h2
theorem Yn {k:Nat} (hr:Room k X.A) {pins:List (Addr×Obj)}{s:Shared}{σ:St}{H:Hp}{μ:List Addr}{m:MH}{x y:D}{v u:V}{v' u':Value}{b:Bool}{R:Bool->Prop} (I:Inv X pins σ H s) (S:Sim X.K H μ m) (rx:Rep X.K H μ (·∈μ) x v) (ry:Rep X.K H μ (·∈μ) y u) (r1:RelV v v') (r2:RelV u u')
  (e:inO m x y=some b):(∃ z w t t',v'=.str w t/\u'=.str z t'/\b=!(Builtin.Str.occurrences z w 0 z.length 1).isEmpty) \/
   ∃ (p:Addr) (its:List Value) (e:Value->Bool),u'=.ref p/\(s.heap.IsList p its.toArray\/s.heap.IsTuple p its.toArray)/\(∀ y∈its,SeqAt.EqAt X.A.in1 s y v' (e y))/\its.any e=b:=by
 have seq:((C1 m x).bind fun x'=>(C1 m y).bind fun y'=>(sq [] y').bind fun ds=>if dep x'<=50 then some (ds.any fun d=>deq d x') else none)=some b ->
   ∃ (p:Addr) (its:List Value) (e:Value->Bool),u'=.ref p/\(s.heap.IsList p its.toArray\/s.heap.IsTuple p its.toArray)/\(∀ y∈its,SeqAt.EqAt X.A.in1 s y v' (e y))/\its.any e=b:=fun h=>by
  obtain⟨x',h1,h⟩:=bind_some h
  obtain⟨y',h2,h⟩:=bind_some h
  obtain⟨ds,h3,h⟩:=bind_some h
  split at h
  ·rename_i hd
   cases h
   obtain⟨a1,n1⟩:=Br S rx h1
   obtain⟨a2,n2⟩:=Br S ry h2
   have hu:=hr.units
   have hu':X.A.in1.units+dep x' < cLine:=by show X.A.units+1+dep x' < cLine;lia
   cases a2 with
   |@tup es a xs hq rs =>
    cases h3
    cases r2
    obtain⟨its,rv,p,_⟩:=I.tuple hq
    obtain⟨f,h4,h5⟩:=Nq I a1 n1 r1 hu' rs n2 rv
    exact⟨a,its,f,rfl,.inr p,h4,h5⟩
   |@lst es a xs hq _ rs =>
    cases h3
    cases r2
    obtain⟨its,rv,p,_⟩:=I.list (.inl hq)
    obtain⟨f,h4,h5⟩:=Nq I a1 n1 r1 hu' rs n2 rv
    exact⟨a,its,f,rfl,.inl p.isList,h4,h5⟩
   |@kl es a xs hq rs =>
    cases h3
    cases r2
    obtain⟨its,rv,p,_⟩:=I.list hq.sq
    obtain⟨f,h4,h5⟩:=Nq I a1 n1 r1 hu' rs n2 rv
    exact⟨a,its,f,rfl,.inl p.isList,h4,h5⟩
   |_=>cases h3
  ·cases h
 cases ry with
 |str z ok =>
  cases rx with
  |str w ok' =>
   cases e
   obtain⟨t,rfl⟩:=r1
   obtain⟨t',rfl⟩:=r2
   exact .inl ⟨z,w,t,t',rfl,rfl,rfl⟩
  |_=>cases e
 |non=>exact .inr (seq e)
 |bl _=>exact .inr (seq e)
 |int _=>exact .inr (seq e)
 |tup h1 h2=>exact .inr (seq e)
 |lst h1 h2 h3=>exact .inr (seq e)
 |kl h1 h2=>exact .inr (seq e)
 |dic _ _ _ _=>exact .inr (seq e)
 |dks _ _ _ _=>exact .inr (seq e)
 |fz _ _ _=>exact .inr (seq e)
 |fn _=>exact .inr (seq e)
 |ref h'=>exact .inr (seq e)
theorem Apl (hr:Room k X.A):OpM X (compareOp .In) oIn:=by
 intro pins s σ H μ m x y z v u v' u' Q I S rx ry r1 r2 e q
 obtain⟨b,h1,h2⟩:=bind_some e
 cases h2
 have fin:EP X pins σ Q (.bool b) s:=⟨.bl b,H,I,rfl,q _ H (Same.refl H) (.bl b)⟩
 rcases Yn (R:=fun _=>True) hr I S rx ry r1 r2 h1 with ⟨z,w,t,t',rfl,rfl,hb⟩|⟨p,its,f,rfl,hp,hf,hb⟩
 ·subst hb;exact in_str fin
 ·subst hb
  rcases hp with hp|hp
  ·exact SeqAt.in_listAt f hp (fun y hy=>hf y (by simpa using hy)) (by simpa using fin)
  ·exact SeqAt.in_tupleAt f hp (fun y hy=>hf y (by simpa using hy)) (by simpa using fin)
theorem Eg (hr:Room k X.A):OpM X (compareOp .NotIn) Cr:=by
 intro pins s σ H μ m x y z v u v' u' Q I S rx ry r1 r2 e q
 obtain⟨b,h1,h2⟩:=bind_some e
 cases h2
 have fin:EP X pins σ Q (.bool (!b)) s:=⟨.bl (!b),H,I,rfl,q _ H (Same.refl H) (.bl (!b))⟩
 rcases Yn (R:=fun _=>True) hr I S rx ry r1 r2 h1 with ⟨z,w,t,t',rfl,rfl,hb⟩|⟨p,its,f,rfl,hp,hf,hb⟩
 ·subst hb;exact notIn_str fin
 ·subst hb
  rcases hp with hp|hp
  ·exact SeqAt.notIn_listAt f hp (fun y hy=>hf y (by simpa using hy)) (by simpa using fin)
  ·exact SeqAt.notIn_tupleAt f hp (fun y hy=>hf y (by simpa using hy)) (by simpa using fin)
end
open Classical in
noncomputable section
inductive Out where
 |nx (env:Bg) (m:MH)|rt (d:D) (m:MH)|bk (env:Bg) (m:MH)|ct (env:Bg) (m:MH)
abbrev FS:=Bg->MH->Option Out
def FinS (K:W.Frag) (H:Hp) (μ:List Addr) (o:Out) (Dn:Ends):Prop:=match o with
 |.nx env' m'=>∀ σ' H' μ',Step H μ H' μ'->Sim K H' μ' m'->EnvRep K H' μ' σ' env'->Dn.nx σ' H'
 |.bk env' m'=>∀ σ' H' μ',Step H μ H' μ'->Sim K H' μ' m'->EnvRep K H' μ' σ' env'->Dn.bk σ' H'
 |.ct env' m'=>∀ σ' H' μ',Step H μ H' μ'->Sim K H' μ' m'->EnvRep K H' μ' σ' env'->Dn.ct σ' H'
 |.rt d m'=>∀ v H' μ',Step H μ H' μ'->Sim K H' μ' m'->Rep K H' μ' (·∈μ') d v->Dn.rt v H'
inductive tS (K:W.Frag) (g:FS) (Dn:Ends) (σ:St) (H:Hp):Prop
 |mk (env:Bg) (μ:List Addr) (m:MH) (o:Out) (S:Sim K H μ m) (E:EnvRep K H μ σ env) (h:g env m=some o) (q:FinS K H μ o Dn)
abbrev PSD (X:Cx) (st:Stmt) (g:FS):Prop:=PS X st (tS X.K g)
abbrev Tp (X:Cx) (st:List Stmt) (g:FS):Prop:=PSs X st (tS X.K g)
theorem PS.imp {t t':TS} (h:PS X e t) (i:∀ D σ H,t' D σ H->t D σ H):PS X e t':=fun pins s σ H D I q=>h pins s σ H D I (i D σ H q)
theorem PSs.imp {t t':TS} (h:PSs X e t) (i:∀ D σ H,t' D σ H->t D σ H):PSs X e t':=fun pins s σ H D I q=>h pins s σ H D I (i D σ H q)
theorem PG.imp {t t':TG} (h:PG X e t) (i:∀ v σ H Q,t' v σ H Q->t v σ H Q):PG X e t':=fun pins s σ H v u Q I r q=>h pins s σ H v u Q I r (i v σ H Q q)
theorem FinS.step {K:W.Frag}{H H1:Hp}{μ μ1:List Addr}{m m1:MH}{o:Out}{Dn:Ends} (S:Sim K H μ m) (S1:Sim K H1 μ1 m1) (s:Step H μ H1 μ1) (f:FinS K H μ o Dn):FinS K H1 μ1 o Dn:=by
 have hn:=s.none S S1
 cases o with
 |nx e m'=>exact fun σ' H' μ' s' S' E'=>f σ' H' μ' (s.trans s' hn) S' E'
 |bk e m'=>exact fun σ' H' μ' s' S' E'=>f σ' H' μ' (s.trans s' hn) S' E'
 |ct e m'=>exact fun σ' H' μ' s' S' E'=>f σ' H' μ' (s.trans s' hn) S' E'
 |rt e m'=>exact fun σ' H' μ' s' S' E'=>f σ' H' μ' (s.trans s' hn) S' E'
section
variable {X:Cx}{a b c e:Expr}{es:List Expr}{pos p p':Pos}{x:Str}{st:Stmt}{rest:List Stmt}
noncomputable def Ct:FS:=fun env m=>some (.nx env m)
noncomputable def A4 (f g:FS):FS:=fun env m=>(f env m).bind fun o=>match o with
 |.nx env' m'=>g env' m'
 |o=>some o
theorem Akh:Tp X [] Ct:=PSs.imp Akm fun D σ H ⟨env,μ,m,o,S,E,h,f⟩=>by
 cases h
 exact f σ H μ Step.refl S E
theorem tS.seq {K:W.Frag}{f g:FS}{Dn:Ends}{σ:St}{H:Hp} (h:tS K (A4 f g) Dn σ H):Avm (tS K f) (tS K g) Dn σ H:=by
 obtain⟨env,μ,m,o,S,E,h,q⟩:=h
 obtain⟨o1,h1,h2⟩:=bind_some h
 refine⟨env,μ,m,o1,S,E,h1,?_⟩
 cases o1 with
 |nx env' m'=>exact fun σ' H' μ' s' S' E'=>⟨env',μ',m',o,S',E',h2,q.step S S' s'⟩
 |rt d m'=>cases h2;exact q
 |bk d m'=>cases h2;exact q
 |ct d m'=>cases h2;exact q
theorem Ads (h1:PSD X st f) (h2:Tp X rest g):Tp X (st::rest) (A4 f g):=PSs.imp (Adz h1 h2) fun _ _ _ h=>h.seq
theorem Aki (h1:PSD X st f):Tp X [st] f:=Akn h1
noncomputable def Cg (f:FE):FS:=fun env m=>(f env m).bind fun d=>some (.rt d m)
theorem Akj (he:PD X e f):PSD X (.Return (some e) pos) (Cg f):=PS.imp (Z3 he) fun D σ H ⟨env,μ,m,o,S,E,h,q⟩=>by
 obtain⟨d,h1,h2⟩:=bind_some h
 cases h2
 exact⟨env,μ,m,d,S,E,h1,fun v H' s r=>q v H' μ (Step.of_same s) (S.same s) r⟩
theorem Sim.push {K:W.Frag}{H H':Hp}{μ:List Addr}{m:MH}{a:Addr}{ds:List D}{xs:List V} (S:Sim K H μ m) (s:Same H H') (hn:H a=none) (ha:H' a=some (.lst xs)) (r:Reps K H' μ (nw μ a) ds xs) :
  Step H μ H' (μ++[a])/\Sim K H' (μ++[a]) (m++[.lst ds]):=by
 have st:Step H μ H' (μ++[a]):=⟨⟨[a],rfl,fun b hb=>by rw[show b=a by simpa using hb];exact hn⟩,fun b o e _=>s b o e⟩
 have na:a∉μ:=S.nnone hn
 refine⟨st,?_,?_,fun n b o h1 h2=>?_⟩
 ·rw[List.nodup_append]
  exact⟨S.nd,by simp,fun b hb c hc z=>na (by rw[<- show c=a by simpa using hc,<- z];exact hb)⟩
 ·simp[S.len]
 ·by_cases hl:n < μ.length
  ·rw[Axr hl] at h1
   rw[Axr (by rw[<- S.len];exact hl)] at h2
   have q:=S.obj n b o h1 h2
   cases o with
   |lst es=>obtain⟨ys,q1,q2⟩:=q;exact⟨ys,s _ _ q1,q2.step S st⟩
   |dcs ks vs=>obtain⟨ys,q1,q2,q3⟩:=q;exact⟨ys,s _ _ q1,q2,q3.step S st⟩
   |dct ks vs=>obtain⟨ys,q1,q2,q3⟩:=q;exact⟨ys,s _ _ q1,q2,q3.step S st⟩
  ·have e:n=μ.length:=by
    have:=(List.getElem?_eq_some_iff.mp h1).1
    rw[Axt,Az0] at this
    lia
   subst e
   rw[Ayp (Axu _)] at h1
   rw[S.len,Ayp (Axu _)] at h2
   simp at h1 h2
   subst h1
   subst h2
   refine⟨xs,ha,r.up (fun _ _ _ h=>h) (fun c u _ h b=>⟨h,fun z=>b ?_⟩) fun _ _ h=>st.ix h⟩
   rcases List.mem_append.mp z with z|z
   ·exact .inl z
   ·exact .inr (by simpa using z)
noncomputable def Lo (f:FL):FS:=fun env m=>(f env m).bind fun ds=>some (.rt (.ref m.length) (m++[.lst ds]))
theorem Oi {K:W.Frag}{H:Hp}{μ:List Addr}{B:Addr->Prop}{m:MH}{a:Addr} (hl:μ.length=m.length):Rep K H (μ++[a]) B (.ref m.length) (.ref a):=.ref (by rw[<- hl];simp)
theorem Adu {f:FL} (he:PF X e f):PSD X (.Return (some e) pos) (Lo f):=PS.imp (Z3 he) fun D σ H ⟨env,μ,m,o,S,E,h,q⟩=>by
 obtain⟨ds,h1,h2⟩:=bind_some h
 cases h2
 refine⟨env,μ,m,ds,S,E,h1,fun a xs H' s hn ha r=>?_⟩
 obtain⟨st,S'⟩:=S.push s hn ha r
 exact q _ H' _ st S' (Oi S.len)
noncomputable def sIf (t:FB) (f g:FS):FS:=fun env m=>(t env m).bind fun c=>if c=true then f env m else g env m
theorem Aqr {t:FB} (hc:PB X c t) (ha:Tp X sa f) (hb:Tp X sb g):PSD X (.If c sa sb pos) (sIf t f g):=PS.imp (Aqq hc ha hb) fun D σ H ⟨env,μ,m,o,S,E,h,q⟩=>by
 obtain⟨b,h1,h2⟩:=bind_some h
 refine⟨env,μ,m,b,S,E,h1,fun H1 s1=>?_⟩
 have st:=Step.of_same (μ:=μ) s1
 cases b with
 |true =>
  rw[Axv rfl] at h2
  exact Arz ⟨env,μ,m,o,S.same s1,E.same s1,h2,q.step S (S.same s1) st⟩
 |false =>
  rw[Axy Ax8] at h2
  exact Ary ⟨env,μ,m,o,S.same s1,E.same s1,h2,q.step S (S.same s1) st⟩
abbrev FG:=D->Bg->Option Bg
inductive tG (K:W.Frag) (g:FG) (v:V) (σ:St) (H:Hp) (Q:St->Hp->Prop):Prop
 |mk (env:Bg) (μ:List Addr) (m:MH) (d:D) (env':Bg) (S:Sim K H μ m) (E:EnvRep K H μ σ env) (r:Rep K H μ (·∈μ) d v) (h:g d env=some env') (q:∀ σ',EnvRep K H μ σ' env'->Q σ' H)
inductive tGs (K:W.Frag) (g:List D->Bg->Option Bg) (vs:List V) (σ:St) (H:Hp) (Q:St->Hp->Prop):Prop
 |mk (env:Bg) (μ:List Addr) (m:MH) (ds:List D) (env':Bg) (S:Sim K H μ m) (E:EnvRep K H μ σ env) (r:Reps K H μ (·∈μ) ds vs) (h:g ds env=some env') (q:∀ σ',EnvRep K H μ σ' env'->Q σ' H)
abbrev PGD (X:Cx) (e:Expr) (g:FG):Prop:=PG X e (tG X.K g)
abbrev Al1 (X:Cx) (es:List Expr) (g:List D->Bg->Option Bg):Prop:=PGs X es (tGs X.K g)
theorem PGs.imp {X:Cx}{e:List Expr}{t t':TGs} (h:PGs X e t) (i:∀ v σ H Q,t' v σ H Q->t v σ H Q):PGs X e t':=fun pins s σ H v u Q I r q=>h pins s σ H v u Q I r (i v σ H Q q)
noncomputable def Au (i:Nat):FG:=fun d env=>some (env.set i (some d))
theorem N5 (hN:X.N.Nodup) (hi:X.N[i]?=some x) (hx:Loc X.env.scope x) (hf:X.fn x=true\/X.env.scope.names.lookup x=some .local):PGD X (.Name x pos) (Au i):=PG.imp (Aj5 hN hi hx hf) fun v σ H Q ⟨env,μ,m,d,env',S,E,r,h,q⟩=>by
 cases h
 exact q _ (E.set i r)
noncomputable def L3:List D->Bg->Option Bg:=fun ds env=>match ds with|[]=>some env|_=>none
noncomputable def Bv (g:FG) (h:List D->Bg->Option Bg):List D->Bg->Option Bg:=fun ds env=>match ds with
 |d::ds=>(g d env).bind fun env'=>h ds env'
 |[]=>none
theorem Adm:Al1 X [] L3:=PGs.imp Aj7 fun v σ H Q ⟨env,μ,m,ds,env',S,E,r,h,q⟩=>by
 cases r with
 |nil=>cases h;exact⟨rfl,q _ E⟩
 |cons _ _=>exact Al h
theorem Z0 {g:FG}{h:List D->Bg->Option Bg} (h1:PGD X e g) (h2:Al1 X es h) (hs:(assignEach (e::es) X.env).map (·.2)=assign e X.env::(assignEach es X.env).map (·.2)):Al1 X (e::es) (Bv g h) :=
 PGs.imp (Adl h1 h2 hs) fun v σ H Q ⟨env,μ,m,ds,env',S,E,r,h,q⟩=>by
  cases r with
  |nil=>exact Al h
  |cons r rs =>
   obtain⟨env1,h1,h2⟩:=bind_some h
   exact⟨_,_,rfl,env,μ,m,_,env1,S,E,r,h1,fun σ' E'=>⟨env1,μ,m,_,env',S,E',rs,h2,q⟩⟩
noncomputable def G6 (n:Nat) (g:List D->Bg->Option Bg):FG:=fun d env=>match d with
 |.tup ds=>if ds.length=n then g ds env else none
 |_=>none
theorem Aj6 (hc:X.calm=true) (h:Al1 X es g) (hn:(assignEach es X.env).length=n) (hst:(assignEach es X.env).findIdx? (·.1)=none):PGD X (.Tuple es k pos) (G6 n g) :=
 PG.imp (Aqo hc h hn hst) fun v σ H Q ⟨env,μ,m,d,env',S,E,r,h,q⟩=>by
  cases r with
  |@tup ds a xs hq rs =>
   unfold G6 at h
   simp only at h
   split at h
   ·rename_i hl
    exact⟨a,xs,rfl,hq,by rw[<- rs.length];exact hl,env,μ,m,ds,env',S,E,rs,h,q⟩
   ·exact Al h
  |_=>exact Al h
noncomputable def Co (i:Nat) (f:FE):FS:=fun env m=>(f env m).bind fun d=>some (.nx (env.set i (some d)) m)
theorem Z7 (hN:X.N.Nodup) (hi:X.N[i]?=some x) (hx:Loc X.env.scope x) (he:PD X e f) (hs:swapsWith e (some (.Name x p')) pos.line X.env=pure false) (hf:X.fn x=true\/X.env.scope.names.lookup x=some .local) :
  PSD X (.Assign [.Name x p'] e pos) (Co i f):=PS.imp (Z4 hN hi hx he hs hf) fun D σ H ⟨env,μ,m,o,S,E,h,q⟩=>by
 obtain⟨d,h1,h2⟩:=bind_some h
 cases h2
 exact⟨env,μ,m,d,S,E,h1,fun v H' s r=>q _ H' μ (Step.of_same s) (S.same s) ((E.same s).set i r)⟩
noncomputable def Hl (i:Nat) (f:FL):FS:=fun env m=>(f env m).bind fun ds=>some (.nx (env.set i (some (.ref m.length))) (m++[.lst ds]))
theorem Z6 {i:Nat}{f:FL} (hN:X.N.Nodup) (hi:X.N[i]?=some x) (hx:Loc X.env.scope x) (he:PF X e f) (hs:swapsWith e (some (.Name x p')) pos.line X.env=pure false) (hf:X.fn x=true\/X.env.scope.names.lookup x=some .local) :
  PSD X (.Assign [.Name x p'] e pos) (Hl i f):=PS.imp (Z4 hN hi hx he hs hf) fun D σ H ⟨env,μ,m,o,S,E,h,q⟩=>by
 obtain⟨ds,h1,h2⟩:=bind_some h
 cases h2
 refine⟨env,μ,m,ds,S,E,h1,fun a xs H' s hn ha r=>?_⟩
 obtain⟨st,S'⟩:=S.push s hn ha r
 exact q _ H' _ st S' ((E.step S st).set i (Oi S.len))
noncomputable def Alx (f:FE) (g:FG):FS:=fun env m=>(f env m).bind fun d=>(g d env).bind fun env'=>some (.nx env' m)
theorem Akf (he:PD X e f) (hg:PGD X tg g) (hs:swapsWithSole [tg] e pos.line X.env=pure false) (hw:swappedStores [tg] e X.env=pure none) (h1:(assignEach [tg] X.env).map (·.2)=[assign tg X.env]) :
  PSD X (.Assign [tg] e pos) (Alx f g):=PS.imp (Uq he hg hs hw h1) fun D σ H ⟨env,μ,m,o,S,E,h,q⟩=>by
 obtain⟨d,h1,h2⟩:=bind_some h
 obtain⟨env',hg',h3⟩:=bind_some h2
 cases h3
 exact⟨env,μ,m,d,S,E,h1,fun v H' s r=>⟨env,μ,m,d,env',S.same s,E.same s,r,hg',fun σ' E'=>q σ' H' μ (Step.of_same s) (S.same s) E'⟩⟩
end
end
open Classical
noncomputable section
section
variable {X:Cx}{a b c e:Expr}{es:List Expr}{pos p p':Pos}{x:Str}{st:Stmt}{rest:List Stmt}
noncomputable def Ij (chk:MH->Prop) (g:FG) (b:FS):List D->Bg->MH->Option Out
 |[],env,m=>if chk m then some (.nx env m) else none
 |d::ds,env,m=>if chk m then (g d env).bind fun env1=>(b env1 m).bind fun o=>match o with
   |.nx env2 m2=>Ij chk g b ds env2 m2
   |.ct env2 m2=>Ij chk g b ds env2 m2
   |.bk env2 m2=>some (.nx env2 m2)
   |.rt d m2=>some (.rt d m2)
  else none
structure Src (K:W.Frag) (J:It) (all:List D) (chk:MH->Prop) (src:Hp->List Addr->MH->Prop):Prop where
 go:∀ H μ m (i:Nat) d,Sim K H μ m->src H μ m->chk m->all[i]?=some d->J.go i H/\∀ x H',J.yld i H x H'->Same H H'/\Rep K H' μ (·∈μ) d x
 stop:∀ H μ m,Sim K H μ m->src H μ m->chk m->J.stop all.length H
 keep:∀ H μ m H' μ' m',src H μ m->Sim K H μ m->Step H μ H' μ'->Sim K H' μ' m'->src H' μ' m'
theorem T5 {K:W.Frag}{J:It}{all:List D}{chk:MH->Prop}{src:Hp->List Addr->MH->Prop} (hs:Src K J all chk src) {g:FG}{b:FS}{Dn:Ends}{σ:St}{H:Hp}{env:Bg}{μ:List Addr}{m:MH}{o:Out}
  (S:Sim K H μ m) (E:EnvRep K H μ σ env) (h0:src H μ m) (h:Ij chk g b all env m=some o) (f:FinS K H μ o Dn) :
  ∃ W:Nat->Nat->St->Hp->Prop,(∃ m,W 0 m σ H)/\∀ i m σ H,W i m σ H ->
   (J.stop i H/\Dn.nx σ H)\/(J.go i H/\∃ N:St->Hp->Prop,(∀ σ' H',N σ' H'->∃ m',m' < m/\W (i+1) m' σ' H')/\∀ x H',J.yld i H x H'->tG K g x σ H' fun σ2 H2=>tS K b { Dn with nx:=N,ct:=N,bk:=Dn.nx } σ2 H2):=by
 refine⟨fun i k σ H=>k=all.length - i/\i<=all.length/\∃ env μ m,Sim K H μ m/\EnvRep K H μ σ env/\src H μ m/\Ij chk g b (all.drop i) env m=some o/\FinS K H μ o Dn,⟨all.length,by simp,Ax9 _,env,μ,m,S,E,h0,by simpa using h,f⟩,?_⟩
 rintro i k σ1 H1 ⟨rfl,hi,env1,μ1,m1,S1,E1,h1,e1,f1⟩
 by_cases hlt:i < all.length
 ·have hd:all.drop i=all[i]::all.drop (i+1):=Ayv hlt
  rw[hd] at e1
  unfold Ij at e1
  split at e1
  ·rename_i hc
   obtain⟨env2,e2,e1⟩:=bind_some e1
   obtain⟨o2,e3,e4⟩:=bind_some e1
   obtain⟨go,yl⟩:=hs.go H1 μ1 m1 i all[i] S1 h1 hc (by simp[hlt])
   refine .inr ⟨go,fun σ' H'=>all.length - (i+1) < all.length - i/\i+1<=all.length/\∃ env μ m,Sim K H' μ m/\EnvRep K H' μ σ' env/\src H' μ m/\Ij chk g b (all.drop (i+1)) env m=some o/\FinS K H' μ o Dn,fun σ' H' ⟨l1,l2,q⟩=>⟨_,l1,rfl,l2,q⟩,fun x H2 y=>?_⟩
   obtain⟨s2,r2⟩:=yl x H2 y
   have S2:=S1.same s2
   refine⟨env1,μ1,m1,all[i],env2,S2,E1.same s2,r2,e2,fun σ' E'=>⟨env2,μ1,m1,o2,S2,E',e3,?_⟩⟩
   have f2:=f1.step S1 S2 (Step.of_same s2)
   have h2:=hs.keep H1 μ1 m1 H2 μ1 m1 h1 S1 (Step.of_same s2) S2
   cases o2 with
   |nx env3 m3=>exact fun σ3 H3 μ3 st3 S3 E3=>⟨by lia,hlt,env3,μ3,m3,S3,E3,hs.keep _ _ _ _ _ _ h2 S2 st3 S3,e4,f2.step S2 S3 st3⟩
   |ct env3 m3=>exact fun σ3 H3 μ3 st3 S3 E3=>⟨by lia,hlt,env3,μ3,m3,S3,E3,hs.keep _ _ _ _ _ _ h2 S2 st3 S3,e4,f2.step S2 S3 st3⟩
   |bk env3 m3=>cases e4;exact f2
   |rt d m3=>cases e4;exact f2
  ·cases e1
 ·have e:i=all.length:=by lia
  subst e
  rw[List.drop_length] at e1
  unfold Ij at e1
  split at e1
  ·rename_i hc
   cases e1
   exact .inl ⟨hs.stop H1 μ1 m1 S1 h1 hc,f1 σ1 H1 μ1 Step.refl S1 E1⟩
  ·exact Al e1
structure Wk where
 all:List D
 chk:MH->Prop
abbrev FW:=Bg->MH->Option Wk
inductive tW (K:W.Frag) (f:FW) (σ:St) (H:Hp) (R:It->Hp->Prop):Prop
 |mk (env:Bg) (μ:List Addr) (m:MH) (w:Wk) (S:Sim K H μ m) (E:EnvRep K H μ σ env) (h:f env m=some w) (q:∀ H' J src,Same H H'->Src K J w.all w.chk src->src H' μ m->R J H')
abbrev PW' (X:Cx) (tg e:Expr) (f:FW):Prop:=PI X tg e (tW X.K f)
def Ol (f:FW) (g:FG) (b:FS):FS:=fun env m=>(f env m).bind fun w=>Ij w.chk g b w.all env m
theorem PI.imp {t t':TI} (h:PI X tg e t) (i:∀ σ H Q,t' σ H Q->t σ H Q):PI X tg e t':=fun pins s σ H Q I q=>h pins s σ H Q I (i σ H Q q)
theorem Akg {tg iter:Expr}{body:List Stmt}{f:FW}{g:FG}{b:FS} (hp:PassesOwn (model X.prog X.w) X.A X.env X.xe) (hc:X.calm=true) (hi:PW' X tg iter f) (hg:PGD X tg g) (hb:Tp X body b)
  (hs:∀ x,foldedSetIterable iter X.env x=pure x):PSD X (.For tg iter body [] pos) (Ol f g b):=PS.imp (Afy hp hc hi hg hb hs) fun D σ H ⟨env,μ,m,o,S,E,h,q⟩=>by
 obtain⟨w,h1,h2⟩:=bind_some h
 exact⟨env,μ,m,w,S,E,h1,fun H' J src s hsrc h0=>T5 hsrc (S.same s) (E.same s) h0 h2 (q.step S (S.same s) (Step.of_same s))⟩
def B0:MH->Prop:=fun _=>True
theorem Alh {K:W.Frag}{a:Addr}{ds:List D}:Src K (Itt K a) ds B0 (fun H μ m=>Rep K H μ (·∈μ) (.tup ds) (.ref a)) where
 go:=fun H μ m i d S h _ e=>by
  cases h with
  |tup hq rs =>
   obtain⟨v,e1,r⟩:=rs.get e
   exact⟨⟨_,v,hq,e1⟩,fun x H' ⟨h1,h2⟩=>by subst h1;rw[h2 _ hq] at e1;cases e1;exact⟨Same.refl _,r⟩⟩
 stop:=fun H μ m S h _=>by
  cases h with
  |tup hq rs=>exact⟨_,hq,by rw[rs.length];exact Axu _⟩
 keep:=fun H μ m H' μ' m' h S st S'=>h.step S st
theorem Ald {K:W.Frag}{a:Addr}{ds:List D}:Src K (Itl K a) ds B0 (fun H μ m=>Rep K H μ (·∈μ) (.lst ds) (.ref a)) where
 go:=fun H μ m i d S h _ e=>by
  cases h with
  |lst hq _ rs =>
   obtain⟨v,e1,r⟩:=rs.get e
   exact⟨⟨_,v,.inl hq,e1⟩,fun x H' ⟨h1,h2⟩=>by subst h1;rw[h2 _ (.inl hq)] at e1;cases e1;exact⟨Same.refl _,r⟩⟩
 stop:=fun H μ m S h _=>by
  cases h with
  |lst hq _ rs=>exact⟨_,.inl hq,by rw[rs.length];exact Axu _⟩
 keep:=fun H μ m H' μ' m' h S st S'=>h.step S st
theorem Arb {K:W.Frag}{a:Addr}{ds:List D}:Src K (Itl K a) ds B0 (fun H μ m=>Rep K H μ (·∈μ) (.kl ds) (.ref a)) where
 go:=fun H μ m i d S h _ e=>by
  cases h with
  |kl hq rs =>
   obtain⟨v,e1,r⟩:=rs.get e
   exact⟨⟨_,v,hq.sq,e1⟩,fun x H' ⟨h1,h2⟩=>by subst h1;rw[h2 _ hq.sq] at e1;cases e1;exact⟨Same.refl _,r⟩⟩
 stop:=fun H μ m S h _=>by
  cases h with
  |kl hq rs=>exact⟨_,hq.sq,by rw[rs.length];exact Axu _⟩
 keep:=fun H μ m H' μ' m' h S st S'=>h.step S st
theorem Ale {K:W.Frag}{a:Addr}{ds:List D}{n:Nat}:Src K (Itl K a) ds (fun m=>m[n]?=some (.lst ds)) (fun H μ m=>μ[n]?=some a) where
 go:=fun H μ m i d S h hc e=>by
  obtain⟨xs,e1,rs⟩:=S.obj n a _ h hc
  obtain⟨v,e2,r⟩:=rs.get e
  exact⟨⟨_,v,SqL.of e1,e2⟩,fun x H' ⟨h1,h2⟩=>by subst h1;rw[h2 _ (SqL.of e1)] at e2;cases e2;exact⟨Same.refl _,r⟩⟩
 stop:=fun H μ m S h hc=>by
  obtain⟨xs,e1,rs⟩:=S.obj n a _ h hc
  exact⟨_,SqL.of e1,by rw[rs.length];exact Axu _⟩
 keep:=fun H μ m H' μ' m' h S st S'=>st.ix h
noncomputable def Dc (lo:Int) (n:Nat):List D:=(List.range n).map fun (i:Nat)=>.int (lo+i)
theorem Rf {K:W.Frag}{lo:Int}{n:Nat}:Src K (Itr lo n) (Dc lo n) B0 (fun _ _ _=>True) where
 go:=fun H μ m i d S h _ e=>by
  unfold Dc at e
  rw[Ax6] at e
  cases q:(List.range n)[i]? with
  |none=>rw[q] at e;cases e
  |some j =>
   rw[q] at e
   cases e
   have hi:=(List.getElem?_eq_some_iff.mp q).1
   rw[List.length_range] at hi
   rw[List.getElem?_range hi] at q
   cases q
   exact⟨hi,fun x H' ⟨h1,h2⟩=>by subst h1;subst h2;exact⟨Same.refl _,.int _⟩⟩
 stop:=fun H μ m S h _=>by show n<=(Dc lo n).length;unfold Dc;simp
 keep:=fun H μ m H' μ' m' h S st S'=>trivial
def Iz (g:FL):FW:=fun env m=>(g env m).bind fun ds=>match ds with
 |[.int j]=>if -(2 ^ 62)<=j/\j < 2 ^ 62 then some ⟨Dc 0 j.toNat,B0⟩ else none
 |_=>none
theorem Aaf (hg:Gl X "range") (hm:X.mg "range"=none) (ha:PL X [a] g) (hs:starEach [a] X.env=[(false,eval a X.env)]):PW' X tg (.Call (.Name "range" p) [a] [] pos) (Iz g):=PI.imp (P0 hg hm ha hs) fun σ H R ⟨env,μ,m,w,S,E,h,q⟩=>by
 obtain⟨ds,h1,h2⟩:=bind_some h
 refine⟨env,μ,m,ds,S,E,h1,fun vs H' s rs=>?_⟩
 obtain⟨j,rfl⟩:∃ j,ds=[.int j]:=by
  cases ds with
  |nil=>cases h2
  |cons d ds =>
   cases ds with
   |cons _ _=>cases d<;>cases h2
   |nil =>
    cases d with
    |int j=>exact⟨j,rfl⟩
    |_=>cases h2
 simp only at h2
 split at h2
 ·rename_i hc
  cases h2
  obtain⟨v,rfl,r⟩:=rs.one
  cases r
  exact⟨j,rfl,hc.1,hc.2,q H' _ _ s Rf trivial⟩
 ·exact Al h2
noncomputable def Gj (c:FB) (b:FS):Nat->Bg->MH->Option Out
 |0,_,_=>none
 |k+1,env,m=>(c env m).bind fun t=>if t=true then (b env m).bind fun o=>match o with
   |.nx env2 m2=>Gj c b k env2 m2
   |.ct env2 m2=>Gj c b k env2 m2
   |.bk env2 m2=>some (.nx env2 m2)
   |.rt d m2=>some (.rt d m2)
  else some (.nx env m)
theorem Z9 {f:FB}{b:FS}{body:List Stmt} (k:Nat) (hp:PassesOwn (model X.prog X.w) X.A X.env X.xe) (hc:PB X c f) (hb:Tp X body b):PSD X (.While c body [] pos) (Gj f b k):=PS.imp (Adr hp hc hb) fun D σ H ⟨env,μ,m,o,S,E,h,q⟩=>by
 refine⟨fun k σ H=>∃ env μ m,Sim X.K H μ m/\EnvRep X.K H μ σ env/\Gj f b k env m=some o/\FinS X.K H μ o D,⟨k,env,μ,m,S,E,h,q⟩,?_⟩
 rintro k σ1 H1 ⟨env1,μ1,m1,S1,E1,e1,f1⟩
 cases k with
 |zero=>cases e1
 |succ k =>
  unfold Gj at e1
  obtain⟨t,e2,e3⟩:=bind_some e1
  refine⟨env1,μ1,m1,t,S1,E1,e2,fun H2 s2=>?_⟩
  have S2:=S1.same s2
  have f2:=f1.step S1 S2 (Step.of_same s2)
  cases t with
  |true =>
   rw[Axv rfl] at e3
   obtain⟨o2,e3,e4⟩:=bind_some e3
   refine Arz ⟨fun σ' H'=>∃ env μ m,Sim X.K H' μ m/\EnvRep X.K H' μ σ' env/\Gj f b k env m=some o/\FinS X.K H' μ o D,fun σ' H' q=>⟨k,Bam k,q⟩,env1,μ1,m1,o2,S2,E1.same s2,e3,?_⟩
   cases o2 with
   |nx env3 m3=>exact fun σ3 H3 μ3 st3 S3 E3=>⟨env3,μ3,m3,S3,E3,e4,f2.step S2 S3 st3⟩
   |ct env3 m3=>exact fun σ3 H3 μ3 st3 S3 E3=>⟨env3,μ3,m3,S3,E3,e4,f2.step S2 S3 st3⟩
   |bk env3 m3=>cases e4;exact f2
   |rt d m3=>cases e4;exact f2
  |false =>
   rw[Axy Ax8] at e3
   cases e3
   exact Ary (f2 σ1 H2 μ1 Step.refl S2 (E1.same s2))
end
mutual
/-- without lists -/
def Bw:D->Bool
 |.lst _=>false
 |.kl _=>false
 |.ref _=>false
 |.dic _ _=>false
 |.dks _ _=>false
 |.fz _ _ _ _=>false
 |.fn _ _=>false
 |.tup ds=>Bp ds
 |_=>true
def Bp:List D->Bool
 |[]=>true
 |d::ds=>Bw d&&Bp ds
end
noncomputable def xp1 (m:MH):D->Option D
 |.ref n=>match m[n]? with
  |some (.lst ds)=>if Bp ds=true then some (.lst ds) else none
  |_=>none
 |_=>none
def xpL (m:MH):List D->Option (List D)
 |[]=>some []
 |d::ds=>(xp1 m d).bind fun e=>(xpL m ds).bind fun es=>some (e::es)
mutual
/-- what is handed back: the mirror's own lists,as they stand -/
def Cs (m:MH):D->Option D
 |.ref n=>match m[n]? with
  |some (.lst ds)=>if Bp ds=true then some (.lst ds) else (xpL m ds).bind fun es=>some (.lst es)
  |some (.dct ks vs)=>if Bp vs=true then some (.dic ks vs) else none
  |some (.dcs ks vs)=>if Bp vs=true then some (.dks ks vs) else none
  |_=>none
 |.lst _=>none
 |.kl _=>none
 |.dic _ _=>none
 |.dks _ _=>none
 |.fz _ _ _ _=>none
 |.fn _ _=>none
 |.tup ds=>(Eb m ds).bind fun es=>some (.tup es)
 |.non=>some .non
 |.bl b=>some (.bl b)
 |.int i=>some (.int i)
 |.str x=>some (.str x)
def Eb (m:MH):List D->Option (List D)
 |[]=>some []
 |d::ds=>(Cs m d).bind fun e=>(Eb m ds).bind fun es=>some (e::es)
end
section
variable {K:W.Frag}{H H':Hp}{μ μ':List Addr}{B B':Addr->Prop}{m:MH}
mutual
theorem Rep.nolst {d:D}{v:V} (r:Rep K H μ B d v) (e:Bw d=true):Rep K H μ' B' d v:=by
 cases r with
 |non=>exact .non
 |bl b=>exact .bl b
 |int b=>exact .int b
 |str b h=>exact .str b h
 |tup h r=>exact .tup h (Reps.nolst r e)
 |_=>exact Dq e
theorem Reps.nolst {ds:List D}{vs:List V} (r:Reps K H μ B ds vs) (e:Bp ds=true):Reps K H μ' B' ds vs:=by
 cases r with
 |nil=>exact .nil
 |cons h r =>
  have e':=(Bool.and_eq_true_iff.mp e)
  exact .cons (Rep.nolst h e'.1) (Reps.nolst r e'.2)
end
theorem Alq (S:Sim K H μ m) (hn:∀ a∈μ,B a->False) {d d':D}{v:V} (r:Rep K H μ (·∈μ) d v) (h:xp1 m d=some d'):Rep K H [] B d' v:=by
 cases r with
 |@ref n a e =>
  unfold xp1 at h
  cases q:m[n]? with
  |none=>simp[q] at h
  |some o =>
   simp only[q] at h
   cases o with
   |dcs _ _=>exact Al h
   |dct _ _=>exact Al h
   |lst ds =>
    simp only at h
    split at h
    ·rename_i hl
     cases h
     obtain⟨xs,e1,e2⟩:=S.obj n a _ e q
     exact .lst (.inl e1) (hn a (Aya e)) (e2.nolst hl)
    ·exact Al h
 |_=>exact Al h
theorem Alr (S:Sim K H μ m) (hn:∀ a∈μ,B a->False) {ds ds':List D}{vs:List V} (r:Reps K H μ (·∈μ) ds vs) (h:xpL m ds=some ds'):Reps K H [] B ds' vs:=by
 induction ds generalizing ds' vs with
 |nil=>cases r;cases h;exact .nil
 |cons d ds ih =>
  cases r with
  |cons r rs =>
  obtain⟨e,h1,h⟩:=bind_some h
  obtain⟨es,h2,h⟩:=bind_some h
  cases h
  exact .cons (Alq S hn r h1) (ih rs h2)
mutual
theorem Ri (S:Sim K H μ m) (hn:∀ a∈μ,B a->False):∀ {d d':D}{v:V},Rep K H μ (·∈μ) d v->Cs m d=some d'->Rep K H [] B d' v
 |_,_,_,.non,h=>by cases h;exact .non
 |_,_,_,.bl b,h=>by cases h;exact .bl b
 |_,_,_,.int b,h=>by cases h;exact .int b
 |_,_,_,.str b ok,h=>by cases h;exact .str b ok
 |_,_,_,.tup hq r,h=>by
  rw[Cs] at h
  obtain⟨es,h1,h2⟩:=bind_some h
  cases h2
  exact .tup hq (Ng S hn r h1)
 |_,_,_,.lst _ _ _,h=>nomatch h
 |_,_,_,.kl _ _,h=>Al h
 |_,_,_,.dic _ _ _ _,h=>Al h
 |_,_,_,.fn _,h=>nomatch h
 |_,_,_,.dks _ _ _ _,h=>nomatch h
 |_,_,_,.fz _ _ _,h=>nomatch h
 |.ref n,_,_,.ref (a:=a) e,h=>by
  rw[Cs] at h
  cases q:m[n]? with
  |none=>simp[q] at h
  |some o =>
   simp only[q] at h
   cases o with
   |dct ks vs =>
    simp only at h
    split at h
    ·rename_i hl
     cases h
     obtain⟨xs,e1,e2,e3⟩:=S.obj n a _ e q
     exact .dic (.inl e1) (hn a (Aya e)) e2 (e3.nolst hl)
    ·cases h
   |dcs ks vs =>
    simp only at h
    split at h
    ·rename_i hl
     cases h
     obtain⟨xs,e1,e2,e3⟩:=S.obj n a _ e q
     exact .dks (.inl e1) (hn a (Aya e)) e2 (e3.nolst hl)
    ·cases h
   |lst ds =>
    simp only at h
    split at h
    ·rename_i hl
     cases h
     obtain⟨xs,e1,e2⟩:=S.obj n a _ e q
     exact .lst (.inl e1) (hn a (Aya e)) (e2.nolst hl)
    ·obtain⟨es,h1,h⟩:=bind_some h
     cases h
     obtain⟨xs,e1,e2⟩:=S.obj n a _ e q
     exact .lst (.inl e1) (hn a (Aya e)) (Alr S hn e2 h1)
theorem Ng (S:Sim K H μ m) (hn:∀ a∈μ,B a->False):∀ {ds ds':List D}{vs:List V},Reps K H μ (·∈μ) ds vs->Eb m ds=some ds'->Reps K H [] B ds' vs
 |_,_,_,.nil,h=>by cases h;exact .nil
 |_,_,_,.cons r rs,h=>by
  rw[Eb] at h
  obtain⟨d',h1,h⟩:=bind_some h
  obtain⟨ds',h2,h⟩:=bind_some h
  cases h
  exact .cons (Ri S hn r h1) (Ng S hn rs h2)
end
end
def old (H H':Hp):Addr->Prop:=fun a=>H a≠none\/∃ o u,H' a=some (.frz o u)
inductive spP (K:W.Frag) (n:Nat) (fn:List D->Option D) (vs:List V) (H:Hp) (Q:VK) (E:XK):Prop
 |mk (ds:List D) (d:D) (r:Reps K H [] (fun _=>False) ds vs) (l:ds.length=n) (h:fn ds=some d) (q:∀ v H',Same H H'->Rep K H' [] (old H H') d v->Q v H')
noncomputable def Hv (n:Nat) (g:FS):List D->Option D:=fun ds=>(g (ds.map some++List.replicate (n - ds.length) none) []).bind fun o=>match o with
 |.rt d m=>Cs m d
 |.nx _ _=>some .non
 |_=>none
theorem Pa {K:W.Frag}{H:Hp}{N:List Str}{ds:List D}{vs:List V} (r:Reps K H [] (fun _=>False) ds vs):EnvRep K H [] (Hk N vs) (ds.map some++List.replicate (N.length - ds.length) none):=by
 refine⟨by unfold Hk;simp[r.length],fun i d e=>?_⟩
 by_cases hi:i < ds.length
 ·rw[Axr (by simpa using hi),Ax6] at e
  cases q:ds[i]? with
  |none=>rw[q] at e;cases e
  |some d' =>
   rw[q] at e
   cases e
   obtain⟨v,h1,h2⟩:=r.get q
   refine⟨v,?_,h2.up (fun _ _ _ h=>h) (fun _ _ _ h _=>⟨h,by simp⟩) fun _ _ h=>h⟩
   unfold Hk
   rw[Axr (by simpa [r.length] using hi),Ax6,h1]
   rfl
 ·rw[Ayp (by simpa using hi),Azd] at e
  split at e<;>cases e
theorem Aib {P:Program}{w:World}{K:W.Frag}{mg:Str->Option Value}{base:Heap}{x qual:Str}{st:Stmt}{f:Addr}{fd:FuncData}{N ps:List Str}{k:Nat}{g:FS} (F:Fun K x qual st f fd) (S:FnScope N ps (Bc st))
  (hbody:∀ (cdv:Value) (A:Around) (outer:List Env) (s:Shared) (H:Hp) (E:XK),Room k (A.deeper (envOfC qual (Bc st) s.heap.objs.size f cdv)) ->
   Tp (X3 CX0 P w K mg base N qual (Bc st) f cdv A outer s H E).nox (C5 st) g):FnOk P w K mg base CX0 (k+1) f fd ps (spP K ps.length (Hv N.length g)):=by
 refine F.ok S (fun vs H Q E h=>?_) (fun cdv A outer s H vs Q E hr h=>?_)
 ·obtain⟨ds,d,r,hl,_⟩:=h
  rw[<- r.length];exact hl
 ·obtain⟨ds,d,r,hl,h,q⟩:=h
  refine⟨_,hbody cdv A outer s H E hr,?_⟩
  obtain⟨o,h1,h2⟩:=bind_some h
  have S0:Sim K H [] []:=⟨Azx,rfl,fun n a o h=>by simp at h⟩
  refine⟨_,[],[],o,S0,Pa r,h1,?_⟩
  have fin:∀ {H':Hp}{μ':List Addr}{m':MH},Step H [] H' μ'->Sim K H' μ' m'->Same H H'/\∀ a∈μ',old H H' a->False:=fun {H' μ' m'} st S'=>by
   obtain⟨l,e,hl⟩:=st.pre
   refine⟨fun b o e=>st.keep b o e (by simp),fun a ha z=>?_⟩
   rcases z with hne|⟨o,u,z⟩
   ·rw[e] at ha
    exact hne (hl a (by simpa using ha))
   ·obtain⟨xs,e',l⟩:=S'.trk ha
    rw[e'] at z
    cases z
    exact l
  cases o with
  |rt d' m'=>exact fun v H' μ' st S' r'=>q v H' (fin st S').1 (Ri S' (fin st S').2 r' h2)
  |nx env m'=>cases h2;exact fun σ' H' μ' st S' E'=>q _ H' (fin st S').1 .non
  |bk _ _=>exact Al h2
  |ct _ _=>exact Al h2
section
variable {X:Cx}{a b c e:Expr}{es:List Expr}{pos p p':Pos}{x:Str}
def C3 (n:Nat) (fn:List D->Option D):List D->MH->Option D:=fun ds m=>(Dj m ds).bind fun ds'=>if ds'.length=n then fn ds' else none
theorem Rep.ofCall {K:W.Frag}{H H':Hp}{μ:List Addr}{m:MH}{d:D}{v:V} (S:Sim K H μ m) (r:Rep K H' [] (old H H') d v):Rep K H' μ (·∈μ) d v :=
 r.up (fun _ _ _ h=>h) (fun a u _ h b=>⟨h,fun z=>b (.inl (by obtain⟨xs,e,_⟩:=S.trk z;rw[e];simp))⟩) fun n a h=>by simp at h
theorem Ajt {fd:FuncData}{E:XK} (F:FnOk X.prog X.w X.K X.mg X.base CX k f fd ps (spP X.K n fn)) (hr:Room k X.A) (hg:Gl X x) (hm:X.mg x=some (.ref f)) (hk:W.keepIn X.K (.ref f)=true) (hb:Binds X.K fd ps []) (hx:Ou CX X E) (ha:PL X (e::es) g) (hdb:(x == ("__debug__":Str))=false) (he:starEach (e::es) X.env=(false,eval e X.env)::starEach es X.env) (hpl:(backTo pos (starEach es X.env)).any (·.1)=false) :
  PD X (.Call (.Name x p) (e::es) [] pos) (Ay (C3 n fn) g):=PE.imp (N4 F hr hg hm hk hb .nil hx ha hdb he hpl) fun σ H Q ⟨env,μ,m,d,S,E,h,q⟩=>by
 obtain⟨ds,h1,h⟩:=bind_some h
 obtain⟨ds',h2,h⟩:=bind_some h
 split at h
 ·rename_i hl
  refine⟨env,μ,m,ds,S,E,h1,fun vs H1 s1 rs=>⟨ds',d,by rw[Axx];exact Em (S.same s1) rs h2,hl,h,fun v H' s' r=>q v H' (s1.trans s') (Rep.ofCall (S.same s1) r)⟩⟩
 ·exact Al h
def Gc (n:Nat) (fn:List D->Option D):List D->MH->Option (List D):=fun ds m=>(C3 n fn ds m).bind fun d=>match d with|.lst es=>if Bp es=true then some es else none|_=>none
theorem Aj2 {fd:FuncData}{E:XK} (F:FnOk X.prog X.w X.K X.mg X.base CX k f fd ps (spP X.K n fn)) (hr:Room k X.A) (hg:Gl X x) (hm:X.mg x=some (.ref f)) (hk:W.keepIn X.K (.ref f)=true) (hb:Binds X.K fd ps []) (hx:Ou CX X E) (ha:PL X (e::es) g) (hdb:(x == ("__debug__":Str))=false) (he:starEach (e::es) X.env=(false,eval e X.env)::starEach es X.env) (hpl:(backTo pos (starEach es X.env)).any (·.1)=false) :
  PF X (.Call (.Name x p) (e::es) [] pos) (Bt (Gc n fn) g):=PE.imp (N4 F hr hg hm hk hb .nil hx ha hdb he hpl) fun σ H Q ⟨env,μ,m,d,S,E,h,q⟩=>by
 obtain⟨ds,h1,h⟩:=bind_some h
 obtain⟨z,h2,h⟩:=bind_some h
 obtain⟨ds',h2,h3⟩:=bind_some h2
 split at h3
 ·rename_i hl
  refine⟨env,μ,m,ds,S,E,h1,fun vs H1 s1 rs=>⟨ds',z,by rw[Axx];exact Em (S.same s1) rs h2,hl,h3,fun v H' s' r=>?_⟩⟩
  cases r with
  |@lst es a xs hq hb rs' =>
   simp only at h
   split at h
   ·rename_i hl'
    cases h
    have hn:H1 a=none:=Bac fun z=>hb (.inl z)
    rcases hq with hq|⟨o,hq⟩
    ·exact q a xs H' (s1.trans s') (s1.free hn) hq (rs'.nolst hl')
    ·exact absurd (.inr ⟨o,_,hq⟩) hb
   ·cases h
  |_=>exact Al h
 ·exact Al h3
end
end
end ML
end L2
end S_ML1
section S_ML6
namespace L2
namespace ML
open PySem PySem.Spec PyProof.Rows
open Classical
noncomputable section
theorem Ho {scope:Scope}{env:Env}:∀ (names:List (Str×NameKind)) (cs:List (Str×Addr)),(∀ y∈names,y.2=.free->∃ c,env.cells.lookup y.1=some c)->∃ cl:List (Str×Addr),
  (forIn names cs fun (y:Str×NameKind) cs=>if (y.2 == .free)=true then (do let c <- cellOf env y.1;pure (ForInStep.yield ((y.1,c)::cs))) else (pure (ForInStep.yield cs):Sem _))=pure cl /\
   (∀ x c,cl.lookup x=some c->cs.lookup x=some c\/env.cells.lookup x=some c)/\(∀ x,((x,NameKind.free)∈names\/∃ c,cs.lookup x=some c)->∃ c,cl.lookup x=some c)
 |[],cs,_=>⟨cs,rfl,fun x c h=>.inl h,fun x h=>by
   rcases h with h|h
   ·exact absurd h (by simp)
   ·exact h⟩
 |(n,k)::names,cs,h=>by
  have h':∀ y∈names,y.2=.free->∃ c,env.cells.lookup y.1=some c:=fun y hy=>h y (Axl _ hy)
  rw[List.forIn_cons]
  by_cases hk:k=.free
  ·subst hk
   obtain⟨c,hc⟩:=h (n,.free) Axn rfl
   obtain⟨cl,e1,e2,e3⟩:=Ho (scope:=scope) (env:=env) names ((n,c)::cs) h'
   refine⟨cl,?_,fun x c' hx=>?_,fun x hx=>?_⟩
   ·have ec:cellOf env n=pure c:=by unfold cellOf;rw[hc]
    simp only[beq_self_eq_true,Bag,ec]
    exact e1
   ·rcases e2 x c' hx with q|q
    ·rw[Ay6] at q
     by_cases hxn:(x == n)=true
     ·simp only[hxn] at q
      cases q
      rw[eq_of_beq hxn]
      exact .inr hc
     ·simp only[Bool.not_eq_true] at hxn
      simp only[hxn] at q
      exact .inl q
    ·exact .inr q
   ·refine e3 x ?_
    by_cases hxn:(x == n)=true
    ·exact .inr ⟨c,by rw[Ay6];simp only[hxn]⟩
    ·simp only[Bool.not_eq_true] at hxn
     rcases hx with hx|⟨c',hx⟩
     ·rcases List.mem_cons.mp hx with z|z
      ·have:x=n:=by injection z
       rw[this,beq_self_eq_true] at hxn
       cases hxn
      ·exact .inl z
     ·exact .inr ⟨c',by rw[Ay6];simp only[hxn];exact hx⟩
  ·obtain⟨cl,e1,e2,e3⟩:=Ho (scope:=scope) (env:=env) names cs h'
   refine⟨cl,?_,e2,fun x hx=>e3 x ?_⟩
   ·have ek:(k == NameKind.free)=false:=by simpa using hk
    simp only[ek,Ayx,Bah]
    exact e1
   ·rcases hx with hx|hx
    ·rcases List.mem_cons.mp hx with z|z
     ·injection z with z1 z2
      exact absurd z2.symm hk
     ·exact .inl z
    ·exact .inr hx
theorem G4 (h:∀ y∈scope.names,y.2=.free->∃ c,env.cells.lookup y.1=some c):∃ cl:List (Str×Addr),closureFor scope env=pure cl /\
  (∀ x c,cl.lookup x=some c->env.cells.lookup x=some c)/\∀ x,(x,NameKind.free)∈scope.names->∃ c,cl.lookup x=some c:=by
 obtain⟨cl,e1,e2,e3⟩:=Ho (scope:=scope) (env:=env) scope.names [] h
 refine⟨cl,?_,fun x c hx=>(e2 x c hx).elim (fun z=>by exact Al z) id,fun x hx=>e3 x (.inl hx)⟩
 have e:closureFor scope env=((forIn scope.names [] fun (y:Str×NameKind) cs=>if (y.2 == .free)=true then (do let c <- cellOf env y.1;pure (ForInStep.yield ((y.1,c)::cs))) else (pure (ForInStep.yield cs):Sem _)) >>= fun cs=>pure cs):=rfl
 rw[e,e1]
 rfl
theorem Tu:∀ (names:List (Str×NameKind)) (h:Heap) (acc:List (Str×Addr)),(∀ x c,acc.lookup x=some c->c < h.objs.size)->(∀ x y c,acc.lookup x=some c->acc.lookup y=some c->x=y) ->
  (∀ x c,(cellsFrom h.objs.size names acc).lookup x=some c->(acc.lookup x=some c/\(x,NameKind.cell)∉names)\/((x,NameKind.cell)∈names/\h.objs.size<=c/\(pushCells h names).IsCell c none)\/(acc.lookup x=some c/\h.IsCell c none/\False)) /\
  (∀ x y c,(cellsFrom h.objs.size names acc).lookup x=some c->(cellsFrom h.objs.size names acc).lookup y=some c->x=y)/\(∀ x,((x,NameKind.cell)∈names\/∃ c,acc.lookup x=some c)->∃ c,(cellsFrom h.objs.size names acc).lookup x=some c)
 |[],h,acc,h1,h2=>⟨fun x c e=>.inl ⟨e,by simp⟩,h2,fun x e=>e.elim (fun z=>absurd z (by simp)) id⟩
 |(n,k)::r,h,acc,h1,h2=>by
  by_cases hk:k=.cell
  ·subst hk
   have hs:(h.push { cls:=.type "cell",data:=.cell none }).objs.size=h.objs.size+1:=Azu ..
   have lk:∀ x c,((n,h.objs.size)::acc).lookup x=some c->(x=n/\c=h.objs.size)\/(x≠n/\acc.lookup x=some c):=fun x c e=>by
    rw[Ay6] at e
    by_cases hx:(x == n)=true
    ·simp only[hx] at e
     cases e
     exact .inl ⟨eq_of_beq hx,rfl⟩
    ·have hx':(x == n)=false:=by simpa using hx
     simp only[hx'] at e
     exact .inr ⟨fun z=>hx (by rw[z];exact beq_self_eq_true _),e⟩
   obtain⟨i1,i2,i3⟩:=Tu r (h.push { cls:=.type "cell",data:=.cell none }) ((n,h.objs.size)::acc) (fun x c e=>by
    rw[hs]
    rcases lk x c e with ⟨_,z⟩|⟨_,z⟩
    ·rw[z];exact Bam _
    ·exact Azb (h1 x c z)) (fun x y c e1 e2=>by
    rcases lk x c e1 with ⟨z1,w1⟩|⟨_,z1⟩<;>rcases lk y c e2 with ⟨z2,w2⟩|⟨_,z2⟩
    ·rw[z1,z2]
    ·exact absurd (h1 y c z2) (by rw[w1];exact Ayd _)
    ·exact absurd (h1 x c z1) (by rw[w2];exact Ayd _)
    ·exact h2 x y c z1 z2)
   have ec:cellsFrom h.objs.size ((n,NameKind.cell)::r) acc=cellsFrom (h.push { cls:=.type "cell",data:=.cell none }).objs.size r ((n,h.objs.size)::acc):=by rw[hs];rfl
   have ep:pushCells h ((n,NameKind.cell)::r)=pushCells (h.push { cls:=.type "cell",data:=.cell none }) r:=rfl
   rw[ec,ep]
   refine⟨fun x c e=>?_,i2,fun x e=>i3 x ?_⟩
   ·rcases i1 x c e with ⟨z,w⟩|⟨z1,z2,z3⟩|⟨_,_,z⟩
    ·rcases lk x c z with ⟨rfl,rfl⟩|⟨hne,z⟩
     ·exact .inr (.inl ⟨Axn,Axu _,⟨_,pushCells_keeps _ _ _ _ (Axw _ rfl),rfl⟩⟩)
     ·exact .inl ⟨z,fun y=>by
       rcases List.mem_cons.mp y with y|y
       ·exact hne (Prod.mk.inj y).1
       ·exact w y⟩
    ·exact .inr (.inl ⟨Axl _ z1,Nat.le_of_succ_le (by rw[hs] at z2;exact z2),z3⟩)
    ·exact z.elim
   ·by_cases hx:x=n
    ·exact .inr ⟨_,by rw[Ay6,hx,beq_self_eq_true]⟩
    ·have hx':(x == n)=false:=by simpa using hx
     rcases e with e|⟨c,e⟩
     ·rcases List.mem_cons.mp e with e|e
      ·exact absurd (Prod.mk.inj e).1 hx
      ·exact .inl e
     ·exact .inr ⟨c,by rw[Ay6,hx'];exact e⟩
  ·obtain⟨i1,i2,i3⟩:=Tu r h acc h1 h2
   have hk':(k == NameKind.cell)=false:=by simpa using hk
   have ec:cellsFrom h.objs.size ((n,k)::r) acc=cellsFrom h.objs.size r acc:=by rw[cellsFrom,hk'];rfl
   have ep:pushCells h ((n,k)::r)=pushCells h r:=by rw[pushCells,hk'];rfl
   have em:∀ x,(x,NameKind.cell)∈(n,k)::r ↔ (x,NameKind.cell)∈r:=fun x=>⟨fun z=>by
    rcases List.mem_cons.mp z with z|z
    ·exact absurd (Prod.mk.inj z).2.symm hk
    ·exact z,Axl _⟩
   rw[ec,ep]
   refine⟨fun x c e=>?_,i2,fun x e=>i3 x ?_⟩
   ·rcases i1 x c e with ⟨z,w⟩|⟨z1,z2,z3⟩|⟨_,_,z⟩
    ·exact .inl ⟨z,fun y=>w ((em x).mp y)⟩
    ·exact .inr (.inl ⟨(em x).mpr z1,z2,z3⟩)
    ·exact z.elim
   ·exact e.imp (em x).mp id
theorem Lb {E:Value->Shared->Prop}{s:Shared} (hQ:∀ h',h'.Ns s.heap.objs.size (fun _=>none)->(∀ b o,s.heap.get? b=some o->h'.get? b=some o)->h'=pushCells (s.heap.push { cls:=.type "dict",data:=.dict #[] }) scope.names ->
   Q { scope,locals:=s.heap.objs.size,globals,cells:=cellsFrom (s.heap.objs.size+1) scope.names cl,qual,func:=none,code:=env.code,frame:=env.frame,builtins:=env.builtins } { s with heap:=h' }) :
  wpAny M A (newFunctionEnv scope globals cl [] qual none .none (some env)) Q E s:=by
 simp only[newFunctionEnv,Bab,Bag]
 refine Axh (wpAny_alloc ?_)
 refine Axh (wpAny_layCells _ (fun name kind cells=>by cases hkc:kind == NameKind.cell<;>simp[hkc]) _ _ _ _ ?_)
 rw[show ({ s with heap:=s.heap.push { cls:=.type "dict",data:=.dict #[] } }:Shared).heap.objs.size=s.heap.objs.size+1 from Azu ..]
 rw[List.forIn_nil]
 refine Axh (Axo (Axo ?_))
 exact hQ _ ((Heap.Ns.new s.heap (.type "dict")).keeps (pushCells_keeps _ _)) (fun b o e=>pushCells_keeps _ _ b o (Axi _ e)) rfl
noncomputable def A0 (X:Cx) (N':List Str) (scope:Scope) (cl:List (Str×Addr)) (C:Addr) (s₀:Shared) (H₀:Hp) (ex:List Addr) (pn:List (Addr×Obj)):Cx where
 prog:=X.prog
 w:=X.w
 K:=X.K
 mg:=X.mg
 base:=X.base
 A:=X.A
 N:=N'
 s₀:=s₀
 H₀:=H₀
 env:=compEnvC scope cl C X.env
 outer:=X.stack
 stack:=X.stack
 ex:=ex
 fn:=fun x=>match scope.names.lookup x with
  |some .cell=>true
  |_=>false
 calm:=X.calm
 pn:=pn
 xe:=fun _ _=>False
noncomputable def capσ (cap:List Nat) (k:Nat) (σ:St):St:=cap.map (fun i=>(σ[i]?).bind id)++List.replicate k none
def Os (cap:List Nat) (k:Nat) (env:Bg):Bg:=cap.map (fun i=>(env[i]?).bind id)++List.replicate k none
structure CompOk (X:Cx) (scope:Scope) (cap:List Nat) (N':List Str):Prop where
 kind:scope.kind=.function
 cell:∀ y∈scope.names,y.2=.cell->scope.names.lookup y.1=some .cell
 names:∀ y∈scope.names,y.2=.local->scope.names.lookup y.1=some .local
 free:∀ y∈scope.names,y.2=.free->X.env.scope.names.lookup y.1=some .cell\/X.env.scope.names.lookup y.1=some .free
 nd:N'.Nodup
 le:cap.length<=N'.length
 cap:∀ (j i:Nat) (x:Str),cap[j]?=some i->N'[j]?=some x->X.N[i]?=some x/\scope.names.lookup x=some .free
theorem D2 {env:Env}:∀ {names:List (Str×NameKind)}{x:Str}{k:NameKind},(names.map fun (n,k)=>if (k == NameKind.free&&env.scope.kind == .function&&env.kindOf n == some .cell) then (n,NameKind.cell) else (n,k)).lookup x=some k ->
  (names.lookup x=some k/\(k=.free->env.kindOf x≠some .cell\/env.scope.kind≠.function))\/(names.lookup x=some .free/\k=.cell)
 |[],_,_,h=>by simp at h
 |(n,k)::r,x,k',h=>by
  have ih:=@D2 env r x k'
  rw[Axs] at h
  by_cases hc:(k == NameKind.free&&env.scope.kind == .function&&env.kindOf n == some .cell)=true
  ·simp only[hc,Bag] at h
   rw[Ay6] at h ⊢
   cases hx:x == n with
   |true =>
    simp only[hx] at h ⊢
    cases h
    have:k=.free:=by simp at hc;exact hc.1.1
    exact .inr ⟨by rw[this],rfl⟩
   |false =>
    simp only[hx] at h ⊢
    exact ih h
  ·simp only[Axy hc] at h
   rw[Ay6] at h ⊢
   cases hx:x == n with
   |true =>
    simp only[hx] at h ⊢
    cases h
    refine .inl ⟨rfl,fun z=>?_⟩
    subst z
    have e:=eq_of_beq hx
    subst e
    simp at hc
    by_cases q:env.scope.kind=.function
    ·exact .inl fun z=>hc q z
    ·exact .inr q
   |false =>
    simp only[hx] at h ⊢
    exact ih h
section
variable {X:Cx}{elt tg iter:Expr}{ifs:List Expr}{scope:Scope}{pos:Pos}{cap:List Nat}{N':List Str}
theorem Tw {pins:List (Addr×Obj)}{σ:St}{H2 H3:Hp}{s2:Shared}{h₁:Heap}{tk:Nat}{fp:List Addr}{cl:List (Str×Addr)}{C:Addr}{ys:List V} (ok:CompOk X scope cap N') (I2:Inv X pins σ H2 s2) (f2:∀ b∈fp,Abj X pins H2 b) (fo:∀ b∈fp,∃ o,s2.heap.get? b=some o)
  (hcl:∀ x c,cl.lookup x=some c->(X.env.cells.lookup x=some c/\scope.names.lookup x≠some .cell)\/(scope.names.lookup x=some .cell/\C < c/\h₁.IsCell c none/\H3 c=none)) (hinj:∀ x y c,cl.lookup x=some c->cl.lookup y=some c->x=y)
  (hcl2:∀ x,((x,NameKind.free)∈scope.names\/(x,NameKind.cell)∈scope.names)->∃ c,cl.lookup x=some c)
  (hC:s2.heap.objs.size<=C) (hns:∃ m,h₁.Ns C m) (hk:∀ b o,s2.heap.get? b=some o->h₁.get? b=some o) (hH:∀ b o,s2.heap.get? b=some o->H2 b=none->H3 b=none) (hS:Same H2 H3) (hC3:H3 C=none) (hok:HOk X.prog X.w X.K H3 h₁) :
  Inv (A0 X N' scope cl C s2 H2 fp (X.pn++pins)) [] (capσ cap (N'.length - cap.length) σ) H3 { s2 with heap:=h₁,toks:=tk }:=by
 have lt:∀ b o,s2.heap.get? b=some o->b≠C:=fun b o e=>Ax5 (Ax0 (Axm e) hC)
 have kin:∀ x,(A0 X N' scope cl C s2 H2 fp (X.pn++pins)).env.kindOf x=some .cell\/(A0 X N' scope cl C s2 H2 fp (X.pn++pins)).env.kindOf x=some .free->(x,NameKind.free)∈scope.names\/(x,NameKind.cell)∈scope.names:=fun x h=>by
  have key:∀ k,(relabel scope X.env).names.lookup x=some k->k=.cell\/k=.free->(x,NameKind.free)∈scope.names\/(x,NameKind.cell)∈scope.names:=fun k hk hkk=>by
   rcases D2 hk with ⟨q,_⟩|⟨q,_⟩
   ·rcases hkk with rfl|rfl
    ·exact .inr (Ayg q)
    ·exact .inl (Ayg q)
   ·exact .inl (Ayg q)
  rcases h with h|h
  ·exact key _ h (.inl rfl)
  ·exact key _ h (.inr rfl)
 have fpx:∀ b∈fp,∀ o,X.base.get? b=some o->False:=fun b hb o e=>by
  obtain⟨_,_,_,q,_,_⟩:=f2 b hb
  rcases q with q|q
  ·exact I2.ok.noex b o e q
  ·exact absurd (Ax0 (Axm e) (Ax7 I2.ok.bsz q)) (Ayd _)
 refine⟨⟨I2.ok.mod,ok.kind,I2.ok.glob,I2.ok.blt,hC,?_,?_,?_,I2.ok.hd,I2.ok.frames,.inl rfl,?_,I2.bs,Ax7 I2.ok.bsz I2.sz,?_,?_,I2.stack,I2.stkFree⟩,rfl,I2.bare,⟨?_,?_,?_,?_,?_,?_,?_⟩,?_,?_,hC3,?_,?_,hok,?_⟩
 ·exact hinj
 ·exact fun x h=>hcl2 x (kin x h)
 ·intro x c h e
  have h:(match scope.names.lookup x with|some .cell=>true|_=>false)=true:=h
  rcases hcl x c e with ⟨_,z⟩|⟨_,z,_⟩
  ·split at h
   ·rename_i q;exact absurd q z
   ·exact Dq h
  ·exact Azi (Nat.lt_of_le_of_lt hC z)
 ·intro b hb
  obtain⟨o,e⟩:=fo b hb
  refine⟨lt b o e,fun x c h=>?_⟩
  rcases hcl x c h with ⟨z,_⟩|⟨_,z,_⟩
  ·exact (f2 b hb).2.2.2.2.1 x c z
  ·exact Ayu (Nat.lt_trans (Ax0 (Axm e) hC) z)
 ·exact fun b o e hb=>fpx b hb o e
 ·intro b hb hfs
  have z:b∈X.env.locals::X.fs:=I2.stkSub b hfs
  rcases List.mem_cons.mp z with z|z
  ·exact (f2 b hb).2.1 z
  ·exact (f2 b hb).2.2.1 z
 ·exact fun b o e n _ _=>hk b o e
 ·exact fun b o e n _ _=>⟨o.slots,hk b o e⟩
 ·exact fun b o e n _=>hH b o e n
 ·exact fun b o e _=>⟨o,hk b o e⟩
 ·exact fun b xs e=>hS b _ e
 ·exact fun b o u e=>hS b _ e
 ·exact fun b ps e=>⟨#[],by rw[hS b _ e];simp⟩
 ·obtain⟨m,hm⟩:=hns
  refine⟨m,hm,fun j x v e1 e2 e3=>?_⟩
  have hj:j < cap.length:=by
   apply Bac
   intro hj
   unfold capσ at e2
   rw[Ayp (by simpa using hj),Azd] at e2
   split at e2<;>cases e2
  obtain⟨i,hi⟩:∃ i,cap[j]?=some i:=⟨cap[j],by simp[hj]⟩
  obtain⟨q1,q2⟩:=ok.cap j i x hi e1
  have e4:σ[i]?=some (some v):=by
   unfold capσ at e2
   rw[Axr (by simpa using hj),Ax6,hi] at e2
   simp only[Option.map_some,Option.some.injEq] at e2
   obtain⟨o,h1,h2⟩:=bind_some e2
   have h2:o=some v:=h2
   rw[h1,h2]
  have hfr:=ok.free (x,.free) (Ayg q2) rfl
  have vis:Vis X.env.scope x:=.inr hfr
  obtain⟨m0,hn0,hl⟩:=I2.loc
  obtain⟨u,r,l⟩:=hl i x v q1 e4 vis
  refine⟨u,r,.inr ?_⟩
  rcases l with ⟨l1,_⟩|⟨l1,c,l2,l3⟩
  ·have l1:X.env.scope.names.lookup x=some .local:=l1
   rcases hfr with z|z<;>rw[l1] at z<;>cases z
  ·obtain⟨c',hc'⟩:=hcl2 x (.inl (Ayg q2))
   have:c'=c:=by
    rcases hcl x c' hc' with ⟨z,_⟩|⟨z,_⟩
    ·rw[l2] at z;exact (Ayk z).symm
    ·rw[q2] at z;cases z
   subst this
   refine⟨?_,c',hc',?_⟩
   ·rcases e3 with z|z|z
    ·have z':(relabel scope X.env).names.lookup x=some .local:=z
     rcases D2 z' with ⟨q,_⟩|⟨q,w⟩
     ·rw[q2] at q;cases q
     ·cases w
    ·exact .inl z
    ·exact .inr z
   ·obtain⟨oc,ho,hd⟩:=l3
    exact⟨oc,hk _ _ ho,hd⟩
 ·intro x c h
  rcases hcl x c h with ⟨z,_⟩|⟨_,_,z,_⟩
  ·obtain⟨v,oc,ho,hd⟩:=I2.cell x c z
   exact⟨v,oc,hk _ _ ho,hd⟩
  ·exact⟨none,z⟩
 ·intro x c h
  rcases hcl x c h with ⟨z,_⟩|⟨_,_,_,z⟩
  ·obtain⟨v,oc,ho,hd⟩:=I2.cell x c z
   exact hH c oc ho (I2.freeC x c z)
  ·exact z
 ·intro p hp
  have hp':p∈X.pn++pins:=by
   have:p∈(X.pn++pins)++[]:=hp
   simpa using this
  obtain⟨e,n,ne,nf,d⟩:=I2.pin p hp'
  refine⟨hk _ _ e,hH _ _ e n,lt _ _ e,?_,d⟩
  intro z
  have z:p.1∈X.env.locals::X.fs:=I2.stkSub p.1 z
  rcases List.mem_cons.mp z with z|z
  ·exact ne z
  ·exact nf z
 ·unfold capσ
  show _=N'.length
  rw[Axt,Axq,List.length_replicate]
  have:=ok.le
  lia
end
end
end ML
end L2
end S_ML6
section S_ML7
namespace L2
namespace ML
open PySem PySem.Spec PyProof.Rows
open Classical
noncomputable section
noncomputable def G5 (g:FG) (t:FB) (fe:FE) (m:MH) (env:Bg):List D->Option (List D)
 |[]=>some []
 |d::ds=>(g d env).bind fun env1=>(t env1 m).bind fun ok=>if ok=true then (fe env1 m).bind fun y=>(G5 g t fe m env ds).bind fun ys=>some (y::ys) else G5 g t fe m env ds
noncomputable def Ly:FB:=fun _ _=>some true
def PTs (X:Cx) (ifs:List Expr) (f:FB):Prop:=∀ (pins:List (Addr×Obj)) (s:Shared) (σ:St) (H:Hp) (Q:Bool->Hp->Prop),Inv X pins σ H s->tB' X.K f σ H Q ->
 wpAny (model X.prog X.w) X.A (forIn ifs true fun c r=>if r=true then do let ok <- isTrue c X.env (eval c X.env);pure (ForInStep.yield ok) else pure (ForInStep.yield r)) (TP X pins σ Q) X.xe s
theorem Akp:PTs X [] Ly:=fun pins s σ H Q I ⟨env,μ,m,b,S,E,h,q⟩=>by
 cases h
 exact wpAny_tests_nil ⟨H,I,q H (Same.refl H)⟩
theorem Akq (h:PB X c f):PTs X [c] f:=fun pins s σ H Q I q=>wpAny_tests_one (h pins s σ H Q I q)
theorem Ig {s:Shared}{pos:Pos} (I:Nat->Shared->Prop) (turn:∀ n s,I n s->wpAny (model prog w) A (pyNext it) (fun r s₁=>match r with
   |none=>R (.ok .next) s₁
   |some v=>wpAny (model prog w) A (letOwnedTupleGo target it v) (fun _ s₁'=>wpAny (model prog w) A (assign target env v) (fun _ s₂ =>
     wpAny (model prog w) A (forIn ifs true fun c r=>if r=true then do let ok <- isTrue c env (eval c env);pure (ForInStep.yield ok) else pure (ForInStep.yield r)) (fun ok s₃ =>
      if ok=true then wpAny (model prog w) A (eval elt env) (fun x s₄ =>
       wpAny (model prog w) A (call (.builtin "list.append") [acc,x]) (fun _ s₅=>∃ m,m < n/\I m s₅) (fun _ _=>False) s₄) (fun _ _=>False) s₃
      else ∃ m,m < n/\I m s₃) (fun _ _=>False) s₂) (fun _ _=>False) s₁') (fun _ _=>False) s₁) (fun _ _=>False) s) (n:Nat) (h:I n s):codeAny (model prog w) A (.compLoop (.ListComp elt [⟨target,iter,ifs,0⟩] scope pos) 0 it acc env) R s:=by
 have no:∀ {E:Value->Shared->Prop} (e:Value) (s:Shared),False->E e s:=fun _ _ h=>h.elim
 refine codeAny_loop rfl I (fun n s hI=>?_) n h
 show wpAny _ A ((compTurn (.ListComp elt [⟨target,iter,ifs,0⟩] scope pos) 0 it acc env).onRaise (fun x=>do noteFrame x env;theTreesLotGoes x)) _ _ s
 refine wpAny_noted ?_
 rw[compTurn_list]
 refine Axh (wpAny_standAt (Axh (Ay2 (turn n s hI) (fun r s₁ h₁=>?_) no)))
 cases r with
 |none=>exact Axo h₁
 |some v =>
  refine Axh (Ay2 h₁ (fun _ s₁' h₁'=>?_) no)
  refine Axh (Ay2 h₁' (fun _ s₂ h₂=>Axh (Ay2 h₂ (fun ok s₃ h₃=>?_) no)) no)
  cases ok with
  |false=>exact Axo ⟨rfl,h₃⟩
  |true =>
   exact Axh (Axh (Ay2 h₃ (fun x s₄ h₄=>Axh (Ay2 h₄ (fun _ s₅ h₅=>Axo (Axo ⟨rfl,h₅⟩)) no)) no))
theorem Ts {K:W.Frag}{H:Hp}{μ:List Addr}{σ:St}{env:Bg} (h:EnvRep K H μ σ env) (cap:List Nat) (k:Nat):EnvRep K H μ (capσ cap k σ) (Os cap k env):=by
 refine⟨by unfold capσ Os;simp,fun j d e=>?_⟩
 have hj:j < cap.length:=by
  apply Bac
  intro hj
  unfold Os at e
  rw[Ayp (by simpa using hj),Azd] at e
  split at e<;>cases e
 unfold Os at e
 rw[Axr (by simpa using hj),Ax6] at e
 have hi:cap[j]?=some cap[j]:=by simp[hj]
 rw[hi] at e
 simp only[Option.map_some,Option.some.injEq] at e
 obtain⟨o,h1,h2⟩:=bind_some e
 have h2:o=some d:=h2
 subst h2
 obtain⟨v,q1,q2⟩:=h.get _ _ h1
 refine⟨v,?_,q2⟩
 unfold capσ
 rw[Axr (by simpa using hj),Ax6,hi]
 simp[q1]
section
variable {X:Cx}{elt tg iter:Expr}{ifs:List Expr}{scope:Scope}{pos:Pos}{cap:List Nat}{N':List Str}{fw:FW}{g:FG}{t:FB}{fe:FE}
def Cb (cap:List Nat) (k:Nat) (fw:FW) (g:FG) (t:FB) (fe:FE):FL:=fun env m=>(fw env m).bind fun w=>if w.chk m/\w.all.length<=1000000 then G5 g t fe m (Os cap k env) w.all else none
structure CompEnd (X:Cx) (pins:List (Addr×Obj)) (σ:St) (H:Hp) (μ:List Addr) (zs:List D) (D C:Addr) (s':Shared):Prop where
 out:∃ H' ys,Same H H'/\H D=none/\H' D=some (.lst ys)/\Reps X.K H' μ (nw μ D) zs ys/\Inv X pins σ H' s'/\H' C=none/\∀ σ' s'' h',Inv X pins σ' H' s''->Heap.SameBut C s''.heap h'->Inv X pins σ' H' { s'' with heap:=h' }
 ns:∃ m,s'.heap.Ns C m
 lc:C≠X.env.locals
 cc:∀ x c,X.env.cells.lookup x=some c->c≠C
inductive CI (Y:Cx) (μ:List Addr) (fp:List Addr) (tn:Nat->Heap->Prop) (Dd:Addr) (H2:Hp) (g:FG) (e0:Bg) (cd:Nat->Option (List D)) (n:Nat) (zs:List D) (s:Shared):Nat->Prop where
 |mk {i:Nat}{H3:Hp}{σ3:St}{env3:Bg}{ys:List V}{its:List Value}{na:Nat}{dn rs:List D}:i<=n->Inv Y [] σ3 H3 s->tn i s.heap->(∀ b∈fp,H3 b=none)->Same H2 H3->H3 Dd=none->EnvRep Y.K H3 μ σ3 env3->(∀ d,g d env3=g d e0) ->
  s.heap.get? Dd=some { cls:=.type "list",data:=.seq its.toArray na }->Vals ys its->Reps Y.K H3 μ (·∈μ) dn ys->cd i=some rs->dn++rs=zs->dn.length<=i->CI Y μ fp tn Dd H2 g e0 cd n zs s (n - i)
theorem Mi (ok:CompOk X scope cap N') (hc:X.calm=true) (hi:PW' X tg iter fw) (hg2:∀ d d' env e1,g d env=some e1->g d' e1=g d' env)
  {Φ:Hp->Prop} (hΦ:∀ {pins:List (Addr×Obj)}{σ:St}{H:Hp}{s:Shared},Inv X pins σ H s->Φ H) (hg:∀ cl C s₀ H₀ ex pn,Φ H₀->PGD (A0 X N' scope cl C s₀ H₀ ex pn) tg g) (ht:∀ cl C s₀ H₀ ex pn,Φ H₀->PTs (A0 X N' scope cl C s₀ H₀ ex pn) ifs t) (he:∀ cl C s₀ H₀ ex pn,Φ H₀->PD (A0 X N' scope cl C s₀ H₀ ex pn) elt fe)
  (hs:∀ x,foldedSetIterable iter X.env x=pure x) {use:Option (Value->Sem Unit)}{ipos:Pos}{pins:List (Addr×Obj)}{s:Shared}{σ:St}{H:Hp}{Q:Value->Shared->Prop} (I:Inv X pins σ H s) {env:Bg}{μ:List Addr}{m:MH}{zs:List D}
  (S:Sim X.K H μ m) (E:EnvRep X.K H μ σ env) (h:Cb cap (N'.length - cap.length) fw g t fe env m=some zs)
  (hQ:∀ D C s',CompEnd X pins σ H μ zs D C s'->compPost (model X.prog X.w) X.A X.xe use Q (.ref D) C (.ok .next) s') :
  wpAny (model X.prog X.w) X.A (comprehension (.ListComp elt [⟨tg,iter,ifs,0⟩] scope pos) scope X.env ipos (newList []) false (eval iter X.env) use) Q X.xe s:=by
 obtain⟨w,h1,h⟩:=bind_some h
 split at h
 rotate_left
 ·cases h
 rename_i hck
 obtain⟨hck,hsz⟩:=hck
 have hfr:∀ y∈scope.names,y.2=.free->∃ c,X.env.cells.lookup y.1=some c:=fun y hy hf=>I.ok.has y.1 (ok.free y hy hf)
 obtain⟨cl0,hclos,hcl0,hcl20⟩:=G4 hfr
 refine wpAny_comprehension_free (g:=⟨tg,iter,ifs,0⟩) (gs:=[]) rfl hs hclos ok.kind ok.names (thn (hi pins s σ H (fun J H2=>∃ src,Same H H2/\Src X.K J w.all w.chk src/\src H2 μ m) I ⟨env,μ,m,w,S,E,h1,fun H' J src s1 hsrc h0=>⟨src,s1,hsrc,h0⟩⟩) fun v s1 h2=>thn h2 fun itv s2 h3=>?_)
 obtain⟨it,fp,tn,J,H2,e,I2,T,st2,f2,src,hS2,hsrc,h0⟩:=h3
 subst e
 refine Ayq (Lb fun h₁ hns₁ hsb₁ heq₁=>?_)
 dsimp only at hns₁ hsb₁ heq₁ ⊢
 generalize hHp:s2.heap.push { cls:=.type "list",dict:=none,data:=.seq ([]:List Value).toArray }=HP at hns₁ hsb₁ heq₁ ⊢
 have hCs:HP.objs.size=s2.heap.objs.size+1:=by rw[<- hHp,Azu]
 have hDC:s2.heap.objs.size≠HP.objs.size:=by rw[hCs];exact Ax5 (Bam _)
 have hCle:s2.heap.objs.size<=HP.objs.size:=by rw[hCs];exact Azw _
 have below:∀ b,b < s2.heap.objs.size->b≠HP.objs.size/\b≠s2.heap.objs.size:=fun b hb=>⟨by rw[hCs];exact Ax5 (Azb hb),Ax5 hb⟩
 have hkp:∀ b o,s2.heap.get? b=some o->h₁.get? b=some o:=fun b o e=>hsb₁ b o (hHp ▸ Axi _ e)
 have hacc:h₁.get? s2.heap.objs.size=some { cls:=.type "list",data:=.seq ([]:List Value).toArray 0 }:=hsb₁ _ _ (hHp ▸ Axw _ rfl)
 have hDn:H2 s2.heap.objs.size=none:=I2.hok.fresh (Axu _)
 have hCn:H2 HP.objs.size=none:=I2.hok.fresh hCle
 have fo:∀ b∈fp,∃ o,s2.heap.get? b=some o:=fun b hb=>let ⟨o,e,_⟩:=T.obj _ _ st2 b hb;⟨o,e⟩
 have fdc:∀ b∈fp,b≠HP.objs.size/\b≠s2.heap.objs.size:=fun b hb=>let ⟨o,e⟩:=fo b hb;below b (Axm e)
 have hsz1:(HP.push { cls:=.type "dict",data:=.dict #[] }).objs.size=HP.objs.size+1:=Azu ..
 obtain⟨c1,c2,c3⟩:=Tu scope.names (HP.push { cls:=.type "dict",data:=.dict #[] }) cl0 (fun x c e=>by
  obtain⟨v,oc,ho,_⟩:=I2.cell x c (hcl0 x c e)
  rw[hsz1,hCs]
  exact Azb (Azb (Axm ho))) (fun x y c e1 e2=>I2.ok.inj x y c (hcl0 x c e1) (hcl0 y c e2))
 rw[hsz1,<- heq₁] at c1
 rw[hsz1] at c2 c3
 generalize hcle:cellsFrom (HP.objs.size+1) scope.names cl0=cl at *
 have hcl:∀ x c,cl.lookup x=some c->(X.env.cells.lookup x=some c/\scope.names.lookup x≠some .cell)\/(scope.names.lookup x=some .cell/\HP.objs.size < c/\h₁.IsCell c none/\H2 c=none):=fun x c e=>by
  rcases c1 x c e with ⟨z,w⟩|⟨z1,z2,z3⟩|⟨_,_,z⟩
  ·exact .inl ⟨hcl0 x c z,fun q=>w (Ayg q)⟩
  ·exact .inr ⟨ok.cell _ z1 rfl,z2,z3,I2.hok.fresh (Ax7 hCle (Azi z2))⟩
  ·exact z.elim
 have hcl2:∀ x,((x,NameKind.free)∈scope.names\/(x,NameKind.cell)∈scope.names)->∃ c,cl.lookup x=some c:=fun x e=>c3 x (e.elim (fun z=>.inr (hcl20 x z)) .inl)
 generalize hDd:s2.heap.objs.size=Dd at *
 generalize hCc:HP.objs.size=C at *
 have Y0:Inv (A0 X N' scope cl C s2 H2 fp (X.pn++pins)) [] (capσ cap (N'.length - cap.length) σ) H2 { s2 with heap:=h₁,toks:=s2.toks } :=
  Tw (ys:=[]) ok I2 f2 fo hcl c2 hcl2 (by rw[hDd];exact hCle) ⟨_,hns₁⟩ hkp (fun _ _ _ n=>n) (Same.refl _) hCn (I2.hok.kept hkp)
 -- what stays true of the iterator's objects in the block
 have fpY:∀ {H':Hp}{ps:List (Addr×Obj)},(∀ b∈fp,H' b=none)->(∀ p∈ps,p.1∉fp)->∀ b∈fp,Abj (A0 X N' scope cl C s2 H2 fp (X.pn++pins)) ps H' b:=fun {H' ps} hn hps b hb=>by
  obtain⟨q0,q1,q2,q3,q4,q5⟩:=f2 b hb
  refine⟨hn b hb,(fdc b hb).1,fun z=>?_,.inl hb,fun x c e=>?_,fun p hp z=>?_⟩
  rotate_left
  ·rcases hcl x c e with ⟨z,_⟩|⟨_,z,_⟩
   ·exact q4 x c z
   ·obtain⟨o,e'⟩:=fo b hb
    exact Ayu (Ax0 (by have:=Axm e';rw[hDd] at this;exact this) (Ax7 hCle (Azi z)))
  rotate_left
  ·have z:b∈X.env.locals::X.fs:=I2.stkSub b z
   rcases List.mem_cons.mp z with z|z
   ·exact q1 z
   ·exact q2 z
  ·rcases List.mem_append.mp hp with hp|hp
   ·exact q5 p hp z
   ·exact hps p hp (by rw[z];exact hb)
 have key:∀ s₃:Shared,s₃={ s2 with heap:=h₁,toks:=s2.toks } ->
   codeAny (model X.prog X.w) X.A (.compLoop (.ListComp elt [⟨tg,iter,ifs,0⟩] scope pos) 0 (.ref it) (.ref Dd) (compEnvC scope cl C X.env)) (compPost (model X.prog X.w) X.A X.xe use Q (.ref Dd) C) s₃:=by
  rintro s₃ rfl
  refine Ig (fun k s=>CI (A0 X N' scope cl C s2 H2 fp (X.pn++pins)) μ fp tn Dd H2 g (Os cap (N'.length - cap.length) env) (fun i=>G5 g t fe m (Os cap (N'.length - cap.length) env) (w.all.drop i)) w.all.length zs s k) ?_ w.all.length
   (.mk (ys:=[]) (dn:=[]) (Ax9 _) Y0 (T.keep _ _ _ st2 fun b hb o e=>hkp b o e) (fun b hb=>(f2 b hb).1) (Same.refl _) hDn (Ts (E.same hS2) cap _) (fun _=>rfl) hacc .nil .nil (by simpa using h) rfl (Ax9 _))
  intro k s3 ci
  cases ci with
  |@mk i H3 σ3 env3 ys its na dn rs hi' I3 st3 fr3 s3' hD3 E3 hg3 ha3 rv3 rr3 hc3 hz3 hl3 =>
  have S3:Sim X.K H3 μ m:=S.same (hS2.trans s3')
  have src3:src H3 μ m:=hsrc.keep _ _ _ _ _ _ h0 (S.same hS2) (Step.of_same s3') S3
  have hDfp:Dd∉fp:=fun z=>(fdc Dd z).2 rfl
  have hDne:Dd≠(A0 X N' scope cl C s2 H2 fp (X.pn++pins)).env.locals:=hDC
  have hDcell:∀ x c,(A0 X N' scope cl C s2 H2 fp (X.pn++pins)).env.cells.lookup x=some c->c≠Dd:=fun x c e z=>by
   rcases hcl x c e with ⟨w,_⟩|⟨_,w,_⟩
   ·obtain⟨v,oc,ho,_⟩:=I2.cell x c w
    exact absurd (Axm ho) (by rw[z,hDd];exact Ayd _)
   ·exact absurd w (by rw[z];exact Nat.not_lt.mpr hCle)
  have hDpn:∀ p∈X.pn++pins,p.1≠Dd:=fun p hp z=>absurd (Axm (I2.pin p hp).1) (by rw[z,hDd];exact Ayd _)
  have hDs:s2.heap.objs.size<=Dd:=Nat.le_of_eq hDd
  have hDfs:Dd∉(A0 X N' scope cl C s2 H2 fp (X.pn++pins)).fs:=fun z=>by
   have z:Dd∈X.env.locals::X.fs:=I2.stkSub Dd z
   rcases List.mem_cons.mp z with z|z
   ·exact absurd I2.lt (by rw[<- z,hDd];exact Ayd _)
   ·exact I2.nofs hDs z
  have I3p:Inv (A0 X N' scope cl C s2 H2 fp (X.pn++pins)) [(Dd,{ cls:=.type "list",data:=.seq its.toArray na })] σ3 H3 s3:=I3.pins_of fun p hp=>by
   have e:p=(Dd,{ cls:=.type "list",data:=.seq its.toArray na }):=by simpa using hp
   subst e
   exact⟨ha3,hD3,hDne,hDfs,fun v z=>by cases z⟩
  have pfp:∀ p∈[(Dd,({ cls:=.type "list",data:=.seq its.toArray na }:Obj))],p.1∉fp:=fun p hp=>by
   have e:p=(Dd,{ cls:=.type "list",data:=.seq its.toArray na }):=by simpa using hp
   subst e
   exact hDfp
  by_cases hlt:i < w.all.length
  ·have hd:w.all.drop i=w.all[i]::w.all.drop (i+1):=Ayv hlt
   rw[hd] at hc3
   unfold G5 at hc3
   obtain⟨env4,e4,hc3⟩:=bind_some hc3
   obtain⟨tb,e5,hc3⟩:=bind_some hc3
   obtain⟨go,yl⟩:=hsrc.go H3 μ m i w.all[i] S3 src3 hck (by simp[hlt])
   refine thn (T.item (A0 X N' scope cl C s2 H2 fp (X.pn++pins)) rfl rfl rfl hc i _ s3 σ3 H3 _ I3p (fpY fr3 pfp) st3 go) fun r s4 ⟨u,hr,h4⟩=>?_
   subst hr
   refine thn h4 fun _ s5 ⟨x,H5,I5,r5,y5,st5,fr5⟩=>?_
   obtain⟨s5',rx5⟩:=yl x H5 y5
   have S5:=S3.same s5'
   have E5:=E3.same s5'
   have I5':=I5.pinned (fpY fr5 pfp) (T.obj _ _ st5)
   generalize hps:[(Dd,({ cls:=.type "list",data:=.seq its.toArray na }:Obj))]++M3 fp s5.heap=ps at I5'
   have pacc:(Dd,({ cls:=.type "list",data:=.seq its.toArray na }:Obj))∈ps:=by rw[<- hps];exact Aye _ (by simp)
   have pits:∀ b o,b∈fp->s5.heap.get? b=some o->(b,o)∈ps:=fun b o hb e=>by rw[<- hps];exact Axj _ (E9 hb e)
   refine thn (hg cl C s2 H2 fp (X.pn++pins) (hΦ I2) ps s5 σ3 H5 x u (fun σ' H'=>H'=H5/\EnvRep X.K H5 μ σ' env4) I5' r5 ⟨env3,μ,m,_,env4,S5,E5,rx5,by rw[hg3];exact e4,fun σ' E'=>⟨rfl,E'⟩⟩) fun _ s6 ⟨σ6,H6,I6,eH6,E6⟩=>?_
   subst eH6
   refine thn (ht cl C s2 H2 fp (X.pn++pins) (hΦ I2) ps s6 σ6 H6 (fun b H'=>b=tb/\Same H6 H') I6 ⟨env4,μ,m,tb,S5,E6,e5,fun H' s=>⟨rfl,s⟩⟩) fun ok s7 ⟨H7,I7,eb,s7'⟩=>?_
   subst eb
   have S7:=S5.same s7'
   have E7:=E6.same s7'
   have hg4:∀ d,g d env4=g d (Os cap (N'.length - cap.length) env):=fun d=>by rw[hg2 _ d _ _ e4]
   cases ok with
   |false =>
    rw[Axy Ax8] at hc3
    have pin7:=fun p hp=>I7.pin p (Axj _ hp)
    refine Ary ⟨w.all.length - (i+1),by lia,.mk hlt (I7.pins_of (fun p hp=>by simp at hp)) (T.keep _ _ _ st5 fun b hb o e=>(pin7 (b,o) (pits b o hb e)).1) (fun b hb=>?_) ((s3'.trans s5').trans s7') (pin7 _ pacc).2.1 E7 hg4 (pin7 _ pacc).1 rv3 (rr3.same (s5'.trans s7')) hc3 hz3 (Nat.le_succ_of_le hl3)⟩
    obtain⟨o,e,_⟩:=T.obj _ _ st5 b hb
    exact (pin7 (b,o) (pits b o hb e)).2.1
   |true =>
    rw[Axv rfl] at hc3
    obtain⟨y,e6,hc3⟩:=bind_some hc3
    obtain⟨rs',e7,hc3⟩:=bind_some hc3
    cases hc3
    refine Arz (thn (he cl C s2 H2 fp (X.pn++pins) (hΦ I2) ps s7 σ6 H7 (fun v H'=>Same H7 H'/\Rep X.K H' μ (·∈μ) y v) I7 ⟨env4,μ,m,y,S7,E7,e6,fun v H' s r=>⟨s,r⟩⟩) fun u8 s8 ⟨x8,H8,I8,r8,s8',rx8⟩=>?_)
    have pin8:=fun p hp=>I8.pin p (Axj _ hp)
    have e8:=(pin8 _ pacc).1
    have hil:its.length<=i:=by rw[<- rv3.length,<- rr3.length];exact hl3
    have hsl:sizeLine=16777216:=Ay3
    refine call_meets F.slot_list_append ⟨_,e8,rfl⟩ F.entry_list_append (F.args_list_append_2 _ _) (PySem.list_append Dd its.toArray na u8 (by rw[Axk];lia)) ⟨e8,?_⟩
    obtain⟨na',q9⟩:∃ na',(s8.heap.update Dd (Obj.mapSeq fun a=>a.push u8)).get? Dd=some { cls:=.type "list",data:=.seq (its++[u8]).toArray na' }:=by
     have q9:=PySem.IsL.update e8 (fun a=>a.push u8)
     have ea:(its.toArray.push u8)=(its++[u8]).toArray:=by simp
     rw[ea] at q9
     exact⟨_,q9⟩
    have I8':Inv (A0 X N' scope cl C s2 H2 fp (X.pn++pins)) [] σ6 H8 s8:=I8.pins_of (fun p hp=>by simp at hp)
    have I9:=I8'.turned (it:=Dd) (t':=s8.toks) (h':=s8.heap.update Dd (Obj.mapSeq fun a=>a.push u8)) (fun b o hb e=>(Ax2 s8.heap _ (Ayw hb)).trans e) (pin8 _ pacc).2.1 hDne (.inr hDs) hDcell (fun p hp=>hDpn p (by
     have hp:p∈(X.pn++pins)++[]:=hp
     simpa using hp))
    refine⟨w.all.length - (i+1),by lia,.mk (na:=na') hlt I9 (T.keep _ _ _ st5 fun b hb o e=>?_) (fun b hb=>?_) (((s3'.trans s5').trans s7').trans s8') (pin8 _ pacc).2.1 (E7.same s8') hg4 ?_ (rv3.append (.cons r8 .nil)) ((rr3.same ((s5'.trans s7').trans s8')).append (.cons rx8 .nil)) e7 (by rw[<- hz3];simp) (by rw[Axt];simp;lia)⟩
    ·exact (Ax2 s8.heap _ (Ayw (fdc b hb).2)).trans (pin8 (b,o) (pits b o hb e)).1
    ·obtain⟨o,e,_⟩:=T.obj _ _ st5 b hb
     exact (pin8 (b,o) (pits b o hb e)).2.1
    ·exact q9
  ·have e:i=w.all.length:=by lia
   subst e
   rw[List.drop_length] at hc3
   cases hc3
   rw[Axx] at hz3
   subst hz3
   refine thn (T.done (A0 X N' scope cl C s2 H2 fp (X.pn++pins)) rfl rfl rfl hc _ _ s3 σ3 H3 _ I3p (fpY fr3 pfp) st3 (hsrc.stop H3 μ m S3 src3 hck)) fun r s4 ⟨hr,I4⟩=>?_
   subst hr
   have e4:=(I4.pin (Dd,_) (Axj _ (List.mem_singleton.mpr rfl))).1
   have hyl:ys.length<=sizeLine:=by rw[<- rr3.length];exact big (Ax7 hl3 hsz)
   have inv:∀ h',(∀ b o,b≠C->s4.heap.get? b=some o->h'.get? b=some o)->Inv X pins σ (upd H3 Dd (.lst ys)) { s4 with heap:=h' }:=fun h' hk=>by
    have nC:∀ b o,s2.heap.get? b=some o->b≠C/\b≠Dd:=fun b o e=>below b (by rw[<- hDd];exact Axm e)
    have un:Un (frs X.stack) fp H2 H3 s2.heap s4.heap:=I4.base
    refine I2.call' (s':={ s4 with heap:=h' }) (ch:=fp) I4.os ⟨fun b o e n hb hx=>hk b o (nC b o e).1 (un.keep b o e n hb hx),fun b o e n hb hx=>?_,fun b o e n hx=>?_,fun b o e hx=>?_,fun b xs e=>?_,fun b o v e=>?_,fun b ps e=>?_⟩ (fun b v e=>?_) I4.bare fun b hb=>?_
    ·obtain⟨sl,q⟩:=un.slot b o e n hb hx
     exact⟨sl,hk b _ (nC b o e).1 q⟩
    ·rw[Bb (nC b o e).2];exact un.free b o e n hx
    ·obtain⟨o',q⟩:=un.there b o e hx
     exact⟨o',hk b _ (nC b o e).1 q⟩
    ·rw[Bb (Az e hDn)];exact un.tups b xs e
    ·rw[Bb (Az e hDn)];exact un.frzs b o v e
    ·obtain⟨more,q⟩:=un.tbls b ps e
     exact⟨more,by rw[Bb (Az e hDn)];exact q⟩
    ·have hCfree:H3 C=none:=I4.free
     by_cases hbD:b=Dd
     ·subst hbD
      rw[Bn] at e
      cases e
      exact⟨hyl,its,na,rv3,hk _ _ hDC e4⟩
     ·rw[Bb hbD] at e
      refine (I4.hok b v e).stay (fun c o hc q=>hk c o ?_ q) (fun c q=>by rw[Bb (Az q hD3)];exact q) (fun c xs q=>Rd.upd_none hD3 q) fun c x u q=>by rw[Bb (Az q hD3)];exact q
      rcases hc with rfl|hc
      ·exact Az e hCfree
      ·exact Az hc hCfree
    ·obtain⟨q0,q1,q2,q3,q4,q5⟩:=f2 b hb
     exact⟨q3,q1,q4,q5⟩
   have hCl:C≠X.env.locals:=fun z=>absurd I2.lt (by rw[<- z,hDd];exact Nat.not_lt.mpr hCle)
   have hCc':∀ x c,X.env.cells.lookup x=some c->c≠C:=fun x c e z=>by
    obtain⟨v,oc,ho,_⟩:=I2.cell x c e
    exact absurd (Axm ho) (by rw[z,hDd];exact Nat.not_lt.mpr hCle)
   refine hQ Dd C s4 ⟨⟨upd H3 Dd (.lst ys),ys,(hS2.trans s3').trans (Bf hD3),hS2.free hDn,Bn,rr3.fresh hD3,inv s4.heap fun _ _ _ e=>e,by rw[Bb hDC.symm];exact I4.free,fun σ' s'' h' J sb=>?_⟩,?_,hCl,hCc'⟩
   ·exact J.turned (it:=C) (t':=s''.toks) (fun b o hb e=>(sb.2 b hb).trans e) (by rw[Bb hDC.symm];exact I4.free) hCl (.inr (Ax7 I2.sz (by rw[hDd];exact hCle))) hCc' fun p hp z=>absurd (Axm (I2.pin p hp).1) (by rw[z,hDd];exact Nat.not_lt.mpr hCle)
   obtain⟨m',hm,_⟩:=I4.loc
   exact⟨m',hm⟩
 exact codeAny_compStart_list (key _ rfl) (T.self _ 0 _ _ _ (T.keep _ _ _ st2 fun b hb o e=>hkp b o e) (key _ rfl))
theorem Adj (ok:CompOk X scope cap N') (hc:X.calm=true) (hi:PW' X tg iter fw) (hg2:∀ d d' env e1,g d env=some e1->g d' e1=g d' env)
  {Φ:Hp->Prop} (hΦ:∀ {pins:List (Addr×Obj)}{σ:St}{H:Hp}{s:Shared},Inv X pins σ H s->Φ H) (hg:∀ cl C s₀ H₀ ex pn,Φ H₀->PGD (A0 X N' scope cl C s₀ H₀ ex pn) tg g) (ht:∀ cl C s₀ H₀ ex pn,Φ H₀->PTs (A0 X N' scope cl C s₀ H₀ ex pn) ifs t) (he:∀ cl C s₀ H₀ ex pn,Φ H₀->PD (A0 X N' scope cl C s₀ H₀ ex pn) elt fe)
  (hs:∀ x,foldedSetIterable iter X.env x=pure x):PF X (.ListComp elt [⟨tg,iter,ifs,0⟩] scope pos) (Cb cap (N'.length - cap.length) fw g t fe):=by
 intro pins s σ H Q I ⟨env,μ,m,zs,S,E,h,q⟩
 rw[eval_ListComp]
 refine Mi ok hc hi hg2 hΦ hg ht he hs I S E h fun D C s' ⟨⟨H',ys,h1,h2,h3,h4,h5,h6,h7⟩,⟨mm,hm⟩,_,_⟩=>?_
 exact⟨mm,hm,fun h' sb=>⟨.ref D,H',h7 σ s' h' h5 sb,rfl,q D ys H' h1 h2 h3 h4⟩⟩
variable {x:Str}{p' spos:Pos}{i:Nat}
theorem X0 (ok:CompOk X scope cap N') (hc:X.calm=true) (hi:PW' X tg iter fw) (hg2:∀ d d' env e1,g d env=some e1->g d' e1=g d' env)
  {Φ:Hp->Prop} (hΦ:∀ {pins:List (Addr×Obj)}{σ:St}{H:Hp}{s:Shared},Inv X pins σ H s->Φ H) (hg:∀ cl C s₀ H₀ ex pn,Φ H₀->PGD (A0 X N' scope cl C s₀ H₀ ex pn) tg g) (ht:∀ cl C s₀ H₀ ex pn,Φ H₀->PTs (A0 X N' scope cl C s₀ H₀ ex pn) ifs t) (he:∀ cl C s₀ H₀ ex pn,Φ H₀->PD (A0 X N' scope cl C s₀ H₀ ex pn) elt fe)
  (hs:∀ x,foldedSetIterable iter X.env x=pure x) (hsw:swapsWith (.ListComp elt [⟨tg,iter,ifs,0⟩] scope pos) (some (.Name x p')) spos.line X.env=pure true) (hN:X.N.Nodup) (hn:X.N[i]?=some x) (hx:Loc X.env.scope x) (hf:X.fn x=true\/X.env.scope.names.lookup x=some .local) :
  PS X (.Assign [.Name x p'] (.ListComp elt [⟨tg,iter,ifs,0⟩] scope pos) spos) (Aly (tF X.K (Cb cap (N'.length - cap.length) fw g t fe)) (Vm i)):=by
 intro pins s σ H Dn I ⟨env,μ,m,zs,S,E,h,q⟩
 rw[exec_Assign_Name_used _ _ _ _ hsw]
 refine Axh (wpAny_standAt (Axh ?_))
 show wpAny _ X.A (do let _ <- comprehension (.ListComp elt [⟨tg,iter,ifs,0⟩] scope pos) scope X.env _ (newList []) false (eval iter X.env) (some (assign (.Name x p') X.env))) _ _ s
 refine Axh (Ay2 (Mi ok hc hi hg2 hΦ hg ht he hs (use:=some (assign (.Name x p') X.env)) (Q:=fun _ s'=>SP X pins Dn .next s') I S E h fun D C s' ⟨⟨H',ys,h1,h2,h3,h4,h5,h6,h7⟩,⟨mm,hm⟩,lc,cc⟩=>?_) (fun _ s' hq=>Axo (Axo hq)) fun _ _ e=>e)
 show wpAny _ X.A (assign (.Name x p') X.env (.ref D)) _ _ _
 refine wpAny_assign_Name (Lr (v:=.ref D) h5 hN hn hx rfl (fun s'' I'' ⟨a,sb,ha⟩=>?_) hf)
 refine⟨mm,hm.sameBut sb ?_,fun h' sb'=>⟨_,H',h7 _ s'' h' I'' sb',q D ys H' h1 h2 h3 h4⟩⟩
 rcases ha with ha|ha
 ·rw[ha];exact lc
 ·exact (cc x a ha).symm
theorem Aj3 (ok:CompOk X scope cap N') (hc:X.calm=true) (hi:PW' X tg iter fw) (hg2:∀ d d' env e1,g d env=some e1->g d' e1=g d' env)
  (hg:∀ cl C s₀ H₀ ex pn,PGD (A0 X N' scope cl C s₀ H₀ ex pn) tg g) (ht:∀ cl C s₀ H₀ ex pn,PTs (A0 X N' scope cl C s₀ H₀ ex pn) ifs t) (he:∀ cl C s₀ H₀ ex pn,PD (A0 X N' scope cl C s₀ H₀ ex pn) elt fe)
  (hs:∀ x,foldedSetIterable iter X.env x=pure x):PF X (.ListComp elt [⟨tg,iter,ifs,0⟩] scope pos) (Cb cap (N'.length - cap.length) fw g t fe) :=
 Adj (Φ:=fun _=>True) ok hc hi hg2 (fun _=>trivial) (fun a b c d e f _=>hg a b c d e f) (fun a b c d e f _=>ht a b c d e f) (fun a b c d e f _=>he a b c d e f) hs
theorem Tv (ok:CompOk X scope cap N') (hc:X.calm=true) (hi:PW' X tg iter fw) (hg2:∀ d d' env e1,g d env=some e1->g d' e1=g d' env)
  (hg:∀ cl C s₀ H₀ ex pn,PGD (A0 X N' scope cl C s₀ H₀ ex pn) tg g) (ht:∀ cl C s₀ H₀ ex pn,PTs (A0 X N' scope cl C s₀ H₀ ex pn) ifs t) (he:∀ cl C s₀ H₀ ex pn,PD (A0 X N' scope cl C s₀ H₀ ex pn) elt fe)
  (hs:∀ x,foldedSetIterable iter X.env x=pure x) (hsw:swapsWith (.ListComp elt [⟨tg,iter,ifs,0⟩] scope pos) (some (.Name x p')) spos.line X.env=pure true) (hN:X.N.Nodup) (hn:X.N[i]?=some x) (hx:Loc X.env.scope x) (hf:X.fn x=true\/X.env.scope.names.lookup x=some .local) :
  PS X (.Assign [.Name x p'] (.ListComp elt [⟨tg,iter,ifs,0⟩] scope pos) spos) (Aly (tF X.K (Cb cap (N'.length - cap.length) fw g t fe)) (Vm i)) :=
 X0 (Φ:=fun _=>True) ok hc hi hg2 (fun _=>trivial) (fun a b c d e f _=>hg a b c d e f) (fun a b c d e f _=>ht a b c d e f) (fun a b c d e f _=>he a b c d e f) hs hsw hN hn hx hf
theorem Adv (h:PS X (.Assign [.Name x p'] (.ListComp elt [⟨tg,iter,ifs,0⟩] scope pos) spos) (Aly (tF X.K (Cb cap (N'.length - cap.length) fw g t fe)) (Vm i))) :
  PSD X (.Assign [.Name x p'] (.ListComp elt [⟨tg,iter,ifs,0⟩] scope pos) spos) (Co i (Dg (Cb cap (N'.length - cap.length) fw g t fe))):=PS.imp h fun D σ H ⟨env,μ,m,o,S,E,h,q⟩=>by
 obtain⟨d,h1,h2⟩:=bind_some h
 obtain⟨ds,h0,h1⟩:=bind_some h1
 cases h1
 cases h2
 exact⟨env,μ,m,ds,S,E,h0,fun a xs H' s hn ha r=>q _ H' μ (Step.of_same s) (S.same s) ((E.same s).set i (.lst (.inl ha) (S.nnone hn) r.unw))⟩
theorem Adt (h:PS X (.Assign [.Name x p'] (.ListComp elt [⟨tg,iter,ifs,0⟩] scope pos) spos) (Aly (tF X.K (Cb cap (N'.length - cap.length) fw g t fe)) (Vm i))) :
  PSD X (.Assign [.Name x p'] (.ListComp elt [⟨tg,iter,ifs,0⟩] scope pos) spos) (Hl i (Cb cap (N'.length - cap.length) fw g t fe)):=PS.imp h fun D σ H ⟨env,μ,m,o,S,E,h,q⟩=>by
 obtain⟨ds,h1,h2⟩:=bind_some h
 cases h2
 refine⟨env,μ,m,ds,S,E,h1,fun a xs H' s hn ha r=>?_⟩
 obtain⟨st,S'⟩:=S.push s hn ha r
 exact q _ H' _ st S' ((E.step S st).set i (Oi S.len))
end
end
end ML
end L2
end S_ML7
section S_ML8
namespace L2
namespace ML
open PySem PySem.Spec PyProof.Rows
open Classical
noncomputable section
noncomputable def Its (x:Str):It:=⟨fun i _=>i < x.cps.size,fun i H v H'=>H'=H/\∃ c,x.cps[i]?=some c/\v=.str ⟨#[c]⟩,fun i _=>x.cps.size<=i⟩
theorem Aek {P:Program}{w:World}{K:W.Frag}{tg:Expr} (it:Addr) (ty:String) (x:Str) (t:Tok) (hty:ty="str_ascii_iterator"\/ty="str_iterator"):Turn P w K tg (Its x) [it] it (fun i h=>h.IsStrIter it ty x t i) where
 mem:=by simp
 obj:=fun i h st b hb=>by
  have e:b=it:=by simpa using hb
  subst e
  obtain⟨o,e,c,d⟩:=st
  exact⟨o,e,fun v z=>by rw[d] at z;cases z⟩
 keep:=fun i h h' st k=>by
  obtain⟨o,e,c,d⟩:=st
  exact⟨o,k it (by simp) o e,c,d⟩
 item:=by
  intro X hP hw hK hc i pins s σ H E I hf st hg
  subst hP hw hK
  obtain⟨f0,f1,f2,f3,f4,f5⟩:=hf it (by simp)
  have hi:i < x.cps.size:=hg
  have hx:x.cps[i]?=some x.cps[i]:=by simp[hi]
  have fin:∀ h',h'.IsStrIter it ty x t (i+1)->Heap.SameBut it s.heap h'->∃ u,some (Value.str ⟨#[x.cps[i]]⟩ s.toks)=some u /\
    wpAny (model X.prog X.w) X.A (letOwnedTupleGo tg (.ref it) u) (fun _ s2=>∃ y H',Inv X pins σ H' s2/\RelV y u/\(Its x).yld i H y H'/\s2.heap.IsStrIter it ty x t (i+1)/\∀ b∈[it],H' b=none) E { s with heap:=h',toks:=s.toks+1 }:=fun h' st' sb=>by
   have I1:Inv X pins σ H { s with heap:=h',toks:=s.toks+1 }:=I.turned (fun b o hb e=>(sb.2 b hb).trans e) f0 f1 f3 f4 f5
   obtain⟨o,e,c,d⟩:=id st'
   refine⟨_,rfl,Yl (s:={ s with heap:=h',toks:=s.toks+1 }) e c d (by rcases hty with rfl|rfl<;>decide) ⟨.str ⟨#[x.cps[i]]⟩,H,I1,⟨_,rfl⟩,⟨rfl,_,hx,rfl⟩,st',fun b hb=>(hf b hb).1⟩⟩
  rcases hty with rfl|rfl
  ·exact wpAny_pyNext_ascii_item st hx fun h' st' sb=>fin h' st' sb
  ·exact wpAny_pyNext_wide_item st hx fun h' st' sb=>fin h' st' sb
 done:=by
  intro X hP hw hK hc i pins s σ H E I hf st hg
  subst hP hw hK
  obtain⟨f0,f1,f2,f3,f4,f5⟩:=hf it (by simp)
  have hi:x.cps.size<=i:=hg
  rcases hty with rfl|rfl
  ·exact wpAny_pyNext_ascii_end (I.ok.hd hc) st (by simp[hi]) fun h' eb=>⟨rfl,I.turned (t':=s.toks) (fun b o hb e=>eb b o hb e) f0 f1 f3 f4 f5⟩
  ·exact wpAny_pyNext_wide_end (I.ok.hd hc) st (by simp[hi]) fun h' eb=>⟨rfl,I.turned (t':=s.toks) (fun b o hb e=>eb b o hb e) f0 f1 f3 f4 f5⟩
 self:=fun _ _ _ _ _ st h=>by
  rcases hty with rfl|rfl
  ·exact wpAny_pyIter_striter_ascii st h
  ·exact wpAny_pyIter_striter_wide st h
noncomputable def M9 (z:Str):List D:=z.cps.toList.map fun c=>.str ⟨#[c]⟩
theorem Alf {K:W.Frag}{z:Str} (ok:PyData.strOk z=true):Src K (Its z) (M9 z) B0 (fun _ _ _=>True) where
 go:=fun H μ m i d S h _ e=>by
  unfold M9 at e
  rw[Ax6] at e
  cases q:z.cps.toList[i]? with
  |none=>rw[q] at e;cases e
  |some c =>
   rw[q] at e
   cases e
   have hi:i < z.cps.size:=by simpa using (List.getElem?_eq_some_iff.mp q).1
   have q':z.cps[i]?=some c:=by simpa using q
   refine⟨hi,fun x H' ⟨h1,c',h2,h3⟩=>?_⟩
   subst h1
   subst h3
   rw[q'] at h2
   cases h2
   exact⟨Same.refl _,.str _ (Lu ok fun c' hc=>by rw[show c'=c by simpa using hc];exact Aya q)⟩
 stop:=fun H μ m S h _=>by show z.cps.size<=(M9 z).length;unfold M9;simp
 keep:=fun H μ m H' μ' m' h S st S'=>trivial
section
variable {X:Cx}{a b c e o':Expr}{es:List Expr}{pos p p' apos cpos spos:Pos}{x:Str}{tg:Expr}{id:String}
def G1 (f:FE):FW:=fun env m=>(f env m).bind fun d=>match d with
 |.str z=>some ⟨M9 z,B0⟩
 |.tup ds=>some ⟨ds,B0⟩
 |.lst ds=>some ⟨ds,B0⟩
 |.kl ds=>some ⟨ds,B0⟩
 |.ref n=>(match m[n]? with
  |some (.lst ds)=>some ⟨ds,fun m'=>m'[n]?=some (.lst ds)⟩
  |_=>none)
 |_=>none
theorem Aqt {f:FE} (h:PD X e f):PW' X tg e (G1 f):=by
 intro pins s σ H R I hw
 obtain⟨env,μ,m,w,S,E,hw,q⟩:=hw
 obtain⟨d,h1,h2⟩:=bind_some hw
 refine thn (h pins s σ H (fun v H1=>Same H H1/\Rep X.K H1 μ (·∈μ) d v) I ⟨env,μ,m,d,S,E,h1,fun v H1 s1 r1=>⟨s1,r1⟩⟩) fun u s1 ⟨v,H1,I1,r1,s1',rx⟩=>?_
 have lst:∀ {a:Addr}{xs:List V},u=.ref a->SqL X.K H1 a xs->R (Itl X.K a) H1->wpAny (model X.prog X.w) X.A (pyIter u) (PIE X pins σ tg R) X.xe s1:=fun {a xs} e hq hR=>by
  subst e
  obtain⟨its,rv,p,hz⟩:=I1.list hq
  refine wpAny_pyIter_list p.isList ?_
  refine⟨s1.heap.objs.size,[s1.heap.objs.size],_,_,H1,rfl,I1.kept (t':=s1.toks) fun b o e=>Axi _ e,Aa6 a _,⟨_,Axw _ rfl,rfl,rfl⟩,fun b hb=>?_,hR⟩
  have e:b=s1.heap.objs.size:=by simpa using hb
  subst e
  exact I1.fpOk (Axu _) (I1.hok.fresh (Axu _))
 have rx0:=rx
 cases rx with
 |str z ok =>
  cases h2
  obtain⟨t,rfl⟩:=r1
  have fin:∀ ty,(ty="str_ascii_iterator"\/ty="str_iterator")->PIE X pins σ tg R (.ref s1.heap.objs.size) { s1 with heap:=s1.heap.push { cls:=.type ty,data:=.fields #[.str z t,.int 0 0] } }:=fun ty hty=>by
   refine⟨s1.heap.objs.size,[s1.heap.objs.size],_,_,H1,rfl,I1.kept (t':=s1.toks) fun b o e=>Axi _ e,Aek _ ty z t hty,⟨_,Axw _ rfl,rfl,rfl⟩,fun b hb=>?_,q H1 _ _ s1' (Alf ok) trivial⟩
   have e:b=s1.heap.objs.size:=by simpa using hb
   subst e
   exact I1.fpOk (Axu _) (I1.hok.fresh (Axu _))
  cases ha:z.cps.all (· < 128)
  ·exact wpAny_pyIter_wide ha (fin _ (.inr rfl))
  ·exact wpAny_pyIter_ascii ha (fin _ (.inl rfl))
 |@tup ds a xs hq rs =>
  cases h2
  cases r1
  obtain⟨its,rv,p,hz⟩:=I1.tuple hq
  refine wpAny_pyIter_tuple (show s1.heap.IsTuple a its.toArray from p) ?_
  refine⟨s1.heap.objs.size,[s1.heap.objs.size],_,_,H1,rfl,I1.kept (t':=s1.toks) fun b o e=>Axi _ e,Xi a _,⟨_,Axw _ rfl,rfl,rfl⟩,fun b hb=>?_,q H1 _ _ s1' Alh rx0⟩
  have e:b=s1.heap.objs.size:=by simpa using hb
  subst e
  exact I1.fpOk (Axu _) (I1.hok.fresh (Axu _))
 |@lst ds a xs hq _ rs=>cases h2;exact lst r1 (.inl hq) (q H1 _ _ s1' Ald rx0)
 |@kl ds a xs hq rs=>cases h2;exact lst r1 hq.sq (q H1 _ _ s1' Arb rx0)
 |dic _ _ _ _=>cases h2
 |dks _ _ _ _=>exact Al h2
 |fz _ _ _=>exact Al h2
 |fn _=>exact Al h2
 |@ref n a e =>
  simp only at h2
  cases q':m[n]? with
  |none=>simp[q'] at h2
  |some ob =>
   simp only[q'] at h2
   cases ob with
   |dcs _ _=>cases h2
   |dct _ _=>cases h2
   |lst ds =>
    cases h2
    obtain⟨xs,e1,rs⟩:=(S.same s1').obj n a _ e q'
    exact lst r1 (SqL.of e1) (q H1 _ _ s1' Ale e)
 |non=>exact Al h2
 |bl _=>exact Al h2
 |int _=>exact Al h2
theorem Sim.write {K:W.Frag}{H:Hp}{μ:List Addr}{m:MH}{n:Nat}{a:Addr}{ds es:List D}{ys:List V} (S:Sim K H μ m) (h1:μ[n]?=some a) (h2:m[n]?=some (.lst ds)) (r:Reps K H μ (·∈μ) es ys) :
  Step H μ (upd H a (.lst ys)) μ/\Sim K (upd H a (.lst ys)) μ (m.set n (.lst es))/\∀ {d:D}{v:V},Rep K H μ (·∈μ) d v->Rep K (upd H a (.lst ys)) μ (·∈μ) d v:=by
 have ha:a∈μ:=Aya h1
 have st:Step H μ (upd H a (.lst ys)) μ:=⟨⟨[],by simp,by simp⟩,fun b o e hb=>by rw[Bb fun z=>hb (by rw[z];exact ha)];exact e⟩
 have nl:n < m.length:=(List.getElem?_eq_some_iff.mp h2).1
 refine⟨st,⟨S.nd,by simp[S.len],fun j b o h3 h4=>?_⟩,fun r=>r.step S st⟩
 by_cases hj:j=n
 ·subst hj
  rw[h1] at h3
  cases h3
  rw[Azh nl] at h4
  cases h4
  exact⟨ys,Bn,r.step S st⟩
 ·rw[Az2 (Ayw hj)] at h4
  have q:=S.obj j b o h3 h4
  have hb:b≠a:=fun z=>hj (by
   subst z
   exact (List.getElem_inj S.nd).mp ((List.getElem?_eq_some_iff.mp h3).2.trans (List.getElem?_eq_some_iff.mp h1).2.symm))
  cases o with
  |lst fs=>obtain⟨zs,q1,q2⟩:=q;exact⟨zs,by rw[Bb hb];exact q1,q2.step S st⟩
  |dcs ks vs=>obtain⟨zs,q1,q2,q3⟩:=q;exact⟨zs,by rw[Bb hb];exact q1,q2,q3.step S st⟩
  |dct ks vs=>obtain⟨zs,q1,q2,q3⟩:=q;exact⟨zs,by rw[Bb hb];exact q1,q2,q3.step S st⟩
def Al0 (X:Cx) (r:V->List V->Hp->VK->Prop) (o:List D->List D->Option (List D)):Prop :=
 ∀ (μ:List Addr) (H:Hp) (a:Addr) (xs vs:List V) (ds es fs:List D) (Q:VK),H a=some (.lst xs)->a∈μ->Reps X.K H μ (·∈μ) ds xs->Reps X.K H μ (·∈μ) es vs->o ds es=some fs->(∀ ys,Reps X.K H μ (·∈μ) fs ys->Q .non (upd H a (.lst ys)))->r (.ref a) vs H Q
noncomputable def Aax (o:List D->List D->Option (List D)) (f:FE) (g:FL):FS:=fun env m=>(f env m).bind fun d=>match d with
 |.ref n=>(g env m).bind fun es=>(match m[n]? with
  |some (.lst ds)=>(o ds es).bind fun fs=>some (.nx env (m.set n (.lst fs)))
  |_=>none)
 |_=>none
theorem Z5 {r:V->List V->Hp->VK->Prop}{o:List D->List D->Option (List D)}{f:FE}{g:FL}{name:Str} (pa:PlainAttrs "list") (slot:Slot "list" name id) (hty:typeOf (.builtin id)=pure (.type "method_descriptor")) (hm:MtR X id r) (ho:Al0 X r o) (hf:PD X o' f) (ha:PL X (e::es) g)
  (hbase:attributeBase o' name X.env (eval o' X.env)=eval o' X.env)
  (hfew:((backTo cpos (starEach (e::es) X.env)).all (fun x=>!x.1)&&(backToKw cpos (keywordEach [] X.env)).all (fun x=>x.1.isSome)
   &&decide ((e::es).length+([]:List Keyword).length+(if ([]:List Keyword).isEmpty then 0 else 1) < 30))=true)
  (hline:(apos.endLine == cpos.line)=true) (hs:starEach (e::es) X.env=(false,eval e X.env)::starEach es X.env) (hplain:(backTo cpos (starEach es X.env)).any (·.1)=false) :
  PSD X (.Expr (.Call (.Attribute o' name apos) (e::es) [] cpos) spos) (Aax o f g):=PS.imp (Tc (Aqg pa slot hty hm hf ha hbase hfew hline hs hplain)) fun D σ H ⟨env,μ,m,ob,S,E,h,q⟩=>by
 obtain⟨d,h1,h⟩:=bind_some h
 refine⟨env,μ,m,d,S,E,h1,fun v H1 s1 r1=>?_⟩
 cases r1 with
 |@ref n a e =>
  simp only at h
  obtain⟨es,h2,h⟩:=bind_some h
  cases q':m[n]? with
  |none=>simp[q'] at h
  |some mo =>
   simp only[q'] at h
   cases mo with
   |dcs _ _=>cases h
   |dct _ _=>cases h
   |lst ds =>
    simp only at h
    obtain⟨fs,h3,h⟩:=bind_some h
    cases h
    obtain⟨xs,e1,rs⟩:=(S.same s1).obj n a _ e q'
    refine⟨.inl ⟨rfl,xs,SqL.of e1⟩,env,μ,m,es,S.same s1,E.same s1,h2,fun vs H2 s2 r2=>?_⟩
    have S2:=S.same (s1.trans s2)
    refine ho μ H2 a xs vs ds es fs _ (s2 _ _ e1) (Aya e) (rs.same s2) r2 h3 fun ys ry=>?_
    obtain⟨st,S3,up⟩:=S2.write e q' ry
    exact q σ _ μ ((Step.of_same (s1.trans s2)).trans st fun c hc=>(s1.trans s2).free hc) S3 ((E.same (s1.trans s2)).step S2 st)
 |_=>exact Al h
noncomputable def Ze:List D->List D->Option (List D):=fun ds es=>match es with
 |[d]=>if ds.length < 1000000 then some (ds++[d]) else none
 |_=>none
theorem Afi:Al0 X Aan Ze:=fun μ H a xs vs ds es fs Q h1 ha rs re h q=>by
 match es,h with
 |[d],h =>
  unfold Ze at h
  simp only at h
  split at h
  ·rename_i hl
   cases h
   obtain⟨v,rfl,r⟩:=re.one
   exact⟨a,xs,v,rfl,rfl,h1,by rw[<- rs.length];have:sizeLine=16777216:=Ay3;lia,q _ (rs.append (.cons r .nil))⟩
  ·cases h
def Hi (f fo fi:FE):FS:=fun env m=>(f env m).bind fun d=>(fo env m).bind fun o=>(fi env m).bind fun i=>match o,i with
 |.ref n,.int k=>(match m[n]? with
  |some (.lst ds)=>(ixN ds.length k).bind fun j=>some (.nx env (m.set n (.lst (ds.set j d))))
  |_=>none)
 |_,_=>none
theorem Z8 {f fo fi:FE} (he:PD X e f) (ho:PD X a fo) (hi:PD X b fi)
  (ha:∀ v,assign (.Subscript a b p) X.env v=(do
   let ov <- holding [v] (eval a X.env)
   let iv <- holding [v,ov] (eval b X.env)
   standAt p
   holding [v,ov,iv] (setItem ov iv v)
   release [v,ov,iv] [])) (hs:swapsWithSole [.Subscript a b p] e pos.line X.env=pure false) (hw:swappedStores [.Subscript a b p] e X.env=pure none) (h1:(assignEach [.Subscript a b p] X.env).map (·.2)=[assign (.Subscript a b p) X.env]) :
  PSD X (.Assign [.Subscript a b p] e pos) (Hi f fo fi):=PS.imp (Uq he (Afx ho hi Ux ha) hs hw h1) fun D σ H ⟨env,μ,m,ob,S,E,h,q⟩=>by
 obtain⟨d,h1,h⟩:=bind_some h
 obtain⟨o,h2,h⟩:=bind_some h
 obtain⟨i,h3,h⟩:=bind_some h
 refine⟨env,μ,m,d,S,E,h1,fun v H1 s1 r1=>⟨env,μ,m,o,S.same s1,E.same s1,h2,fun u H2 s2 r2=>⟨env,μ,m,i,S.same (s1.trans s2),E.same (s1.trans s2),h3,fun w H3 s3 r3=>?_⟩⟩⟩
 have s':=(s1.trans s2).trans s3
 have r2':=r2.same s3
 obtain⟨n,rfl⟩:∃ n,o=.ref n:=by
  cases o with
  |ref n=>exact⟨n,rfl⟩
  |_=>cases h
 obtain⟨k,rfl⟩:∃ k,i=.int k:=by
  cases i with
  |int k=>exact⟨k,rfl⟩
  |_=>cases h
 cases r3
 cases r2' with
 |@ref _ a e =>
  simp only at h
  cases q':m[n]? with
  |none=>simp[q'] at h
  |some mo =>
   simp only[q'] at h
   cases mo with
   |dcs _ _=>cases h
   |dct _ _=>cases h
   |lst ds =>
    simp only at h
    obtain⟨j,h4,h⟩:=bind_some h
    cases h
    obtain⟨xs,e1,rs⟩:=(S.same s').obj n a _ e q'
    refine⟨a,xs,k,j,rfl,rfl,e1,by rw[<- rs.length];exact h4,?_⟩
    obtain⟨st,S3,up⟩:=(S.same s').write e q' (rs.set ((r1.same s2).same s3) j)
    exact q σ _ μ ((Step.of_same s').trans st fun c hc=>s'.free hc) S3 ((E.same s').step (S.same s') st)
end
end
end ML
end L2
end S_ML8
section S_ML8a
namespace L2
namespace ML
open PySem PySem.Spec PyProof.Rows
noncomputable def By:Expr->Bool
 |.Starred ..=>false
 |_=>true
noncomputable def Iw:Expr->Bool
 |.ListComp ..=>false|.SetComp ..=>false|.DictComp ..=>false
 |_=>true
noncomputable def Afl:Expr->Bool
 |.UnaryOp ..=>false|.BoolOp ..=>false|.IfExp ..=>false|.Compare ..=>false
 |_=>true
noncomputable def Ar4:Expr->Bool
 |.Slice ..=>false
 |_=>true
noncomputable def Eu:Expr->Bool
 |.Set ..=>false
 |_=>true
noncomputable def Pw:Expr->Bool
 |.Call ..=>false
 |_=>true
theorem Ax (h:By e=true):starEach (e::es) env=(false,eval e env)::starEach es env:=by
 cases e<;>first|rfl|cases h
theorem El {pos:Pos}{env:Env}:∀ {es:List Expr},es.all By=true->(backTo pos (starEach es env)).any (·.1)=false
 |[],_=>rfl
 |e::es,h=>by
  rw[Ayt,Ax4] at h
  rw[Ax h.1]
  have ih:=El (pos:=pos) (env:=env) h.2
  unfold backTo at ih ⊢
  rw[Axs,Azk,ih]
  rfl
theorem U1 {pos:Pos}{env:Env}:∀ {es:List Expr},es.all By=true->(backTo pos (starEach es env)).all (fun x=>!x.1)=true
 |[],_=>rfl
 |e::es,h=>by
  rw[Ayt,Ax4] at h
  rw[Ax h.1]
  have ih:=U1 (pos:=pos) (env:=env) h.2
  unfold backTo at ih ⊢
  rw[Axs,Ayt,ih]
  rfl
theorem Jm {pos:Pos} (h:es.all By=true) (hl:decide (es.length < 30)=true):((backTo pos (starEach es env)).all (fun x=>!x.1)&&(backToKw pos (keywordEach [] env)).all (fun x=>x.1.isSome)
   &&decide (es.length+([]:List Keyword).length+(if ([]:List Keyword).isEmpty then 0 else 1) < 30))=true:=by
 rw[U1 h]
 have hl:=Ayn hl
 have e:es.length+([]:List Keyword).length+(if ([]:List Keyword).isEmpty then 0 else 1)=es.length:=rfl
 rw[e,Ayl hl]
 rfl
theorem G0 {t:Option Expr}{l:Nat} (h:Iw e=true):swapsWith e t l env=pure false:=by
 cases e<;>first|rfl|cases h
theorem Jn {e t:Expr}{l:Nat} (h:Iw e=true):swapsWithSole [t] e l env=pure false:=G0 h
theorem Xc (h:Afl e=true):∀ whole,isTrue e env whole=(do let v <- whole;standAt e.pos;holding [v] (truthy v)):=by
 intro whole
 cases e<;>first|rfl|cases h
theorem Nr (h:Ar4 e=true):Jq e:=by
 intro o i
 cases e<;>first|rfl|cases h
theorem Do (h:Eu e=true):∀ x,foldedSetIterable e env x=pure x:=by
 intro x
 cases e<;>first|rfl|cases h
theorem E4 (h:Pw e=true):attributeBase e n env (eval e env)=eval e env:=by
 cases e<;>first|rfl|cases h
theorem E8 (h:Eu e=true):behindInMarks op e=false:=by
 cases e<;>first|rfl|cases h
open Classical
noncomputable section
def Hq (scope outer:Scope) (N N':List Str) (cap:List Nat):Bool :=
 scope.kind == .function&&scope.names.all (fun y=>y.2 != .cell||scope.names.lookup y.1 == some .cell)&&scope.names.all (fun y=>y.2 != .local||scope.names.lookup y.1 == some .local)
 &&scope.names.all (fun y=>y.2 != .free||(outer.names.lookup y.1 == some .cell||outer.names.lookup y.1 == some .free))&&decide N'.Nodup&&decide (cap.length<=N'.length)
 &&(List.range cap.length).all fun j=>match cap[j]?,N'[j]? with
  |some i,some x=>N[i]? == some x&&scope.names.lookup x == some .free
  |_,_=>false
theorem CompOk.of {cap:List Nat} (h:Hq scope X.env.scope X.N N' cap=true):CompOk X scope cap N':=by
 unfold Hq at h
 simp only[Ax4] at h
 obtain⟨⟨⟨⟨⟨⟨h1,h2⟩,h3⟩,h4⟩,h5⟩,h6⟩,h7⟩:=h
 refine⟨by simpa using h1,fun y hy e=>?_,fun y hy e=>?_,fun y hy e=>?_,Ayn h5,Ayn h6,fun j i x e1 e2=>?_⟩
 ·have:=List.all_eq_true.mp h2 y hy
  rw[e] at this
  simpa using this
 ·have:=List.all_eq_true.mp h3 y hy
  rw[e] at this
  simpa using this
 ·have:=List.all_eq_true.mp h4 y hy
  rw[e] at this
  simpa using this
 ·have hj:j < cap.length:=(List.getElem?_eq_some_iff.mp e1).1
  have:=List.all_eq_true.mp h7 j (List.mem_range.mpr hj)
  rw[e1,e2] at this
  simpa using this
theorem C4 (i:Nat):∀ d d' env e1,Au i d env=some e1->Au i d' e1=Au i d' env:=fun d d' env e1 h=>by
 cases h
 unfold Au
 rw[List.set_set]
structure QD (X:Cx) (e:Expr) (f:FE):Prop where out:PD X e f
structure QF (X:Cx) (e:Expr) (f:FL):Prop where out:PF X e f
structure QB (X:Cx) (e:Expr) (f:FB):Prop where out:PB X e f
structure QWB (X:Cx) (e:Expr) (f:FB):Prop where out:PWB X e f
structure QL (X:Cx) (e:List Expr) (f:FL):Prop where out:PL X e f
structure QO (X:Cx) (e:Option Expr) (f:FO):Prop where out:PO' X e f
structure QS (X:Cx) (e:Stmt) (f:FS):Prop where out:PSD X e f
structure QSs (X:Cx) (e:List Stmt) (f:FS):Prop where out:Tp X e f
structure QG (X:Cx) (e:Expr) (f:FG):Prop where out:PGD X e f
structure QGs (X:Cx) (e:List Expr) (f:List D->Bg->Option Bg):Prop where out:Al1 X e f
structure QW (X:Cx) (tg e:Expr) (f:FW):Prop where out:PW' X tg e f
structure QTs (X:Cx) (e:List Expr) (f:FB):Prop where out:PTs X e f
theorem Avc {P:Program}{w:World}{K:W.Frag}{mg:Str->Option Value}{base:Heap}{x qual:Str}{st:Stmt}{f:Addr}{fd:FuncData}{N ps:List Str}{k n:Nat} (F:Fun K x qual st f fd) (S:FnScope N ps (Bc st)) (g:FS) (fn:List D->Option D) (hfn:fn=Hv N.length g) (hn:ps.length=n)
  (hbody:∀ (cdv:Value) (A:Around) (outer:List Env) (s:Shared) (H:Hp) (E:XK),Room k (A.deeper (envOfC qual (Bc st) s.heap.objs.size f cdv)) ->
   QSs (X3 CX0 P w K mg base N qual (Bc st) f cdv A outer s H E).nox (C5 st) g):FnOk P w K mg base CX0 (k+1) f fd ps (spP K n fn):=by
 subst hfn hn
 exact Aib F S fun cdv A outer s H E hr=>(hbody cdv A outer s H E hr).out
theorem Da:QTs X [] Ly:=⟨Akp⟩
theorem P4 (h:QB X c f):QTs X [c] f:=⟨Akq h.out⟩
section
variable {X:Cx}{a b c e:Expr}{es:List Expr}{pos p p' apos cpos spos:Pos}{x:Str}{tg:Expr}{id:String}
theorem Ag {i j}:QD X (.Constant (.int i) j pos) (fC (.int i)):=⟨Ap4⟩
theorem P1 {i j}:QD X (.Constant (.bool i) j pos) (fC (.bl i)):=⟨Auh⟩
theorem Ad4 {j}:QD X (.Constant .none j pos) (fC .non):=⟨Ap7⟩
theorem Bd (ho:OpM X (binaryOp op) o) (ha:QD X a f) (hb:QD X b g):QD X (.BinOp a op b pos) (f2 o f g):=⟨Ap2 ho ha.out hb.out⟩
theorem Aq3 (ha:QD X a f):QD X (.UnaryOp .Not a pos) (Vg f):=⟨Ap8 ha.out⟩
theorem V6 {op} (h:QD X a f):QD X (.BoolOp op [a] pos) f:=⟨Ap9 h.out⟩
theorem V5 (ha:QD X a f) (hb:QD X (.BoolOp .And (b::es) pos) g):QD X (.BoolOp .And (a::b::es) pos) (L4 f g):=⟨Ap1 ha.out hb.out⟩
theorem Aw3 (ha:QD X a f) (hb:QD X (.BoolOp .Or (b::es) pos) g):QD X (.BoolOp .Or (a::b::es) pos) (An9 f g):=⟨Auk ha.out hb.out⟩
theorem Avd {t:FB} (hc:QB X c t) (ha:QD X a f) (hb:QD X b g):QD X (.IfExp c a b pos) (fIf t f g):=⟨Aui hc.out ha.out hb.out⟩
theorem Bi {x1} (h:QL X es g):QD X (.Tuple es x1 pos) (Cf g):=⟨Aqb h.out⟩
theorem D9 (h:QL X es g):QF X (.List es pos) (B3 g):=⟨Aqn h.out⟩
theorem Ei (h:QF X e g):QD X e (Dg g):=⟨Adh h.out⟩
theorem Am:QL X [] Ak:=⟨Aqp⟩
theorem B9:QO X none fNo:=⟨Adp⟩
theorem Bs (h:QD X e f):QO X (some e) (Ce f):=⟨Adq h.out⟩
theorem L8 {f:FE}{l h:FO}{lo hi:Option Expr} (ha:QD X a f) (hl:QO X lo l) (hh:QO X hi h):QD X (.Subscript a (.Slice lo hi none p) pos) (fSl f l h):=⟨Aul ha.out hl.out hh.out⟩
theorem Ad2 (ha:QD X a f) (hb:QD X b g):QF X (.BinOp a .Add b pos) (Aca f g):=⟨Aqm ha.out hb.out⟩
theorem Aur {j} (ha:QD X a f):QD X (.Compare a [.Is] [.Constant .none j p] pos) (f1 R7 f):=⟨Ap5 ha.out⟩
theorem Aah {j} (ha:QD X a f):QB X (.Compare a [.Is] [.Constant .none j p] pos) (A6 (f1 R7 f)):=⟨Apu ha.out⟩
theorem Oh (ha:QB X a f):QWB X (.BoolOp .And [a] pos) f:=⟨Ad0 ha.out⟩
theorem M7 (ha:QB X a f):QWB X (.BoolOp .Or [a] pos) f:=⟨Akt ha.out⟩
theorem Uv (ha:QB X a f) (hb:QWB X (.BoolOp .And (b::es) pos) g):QWB X (.BoolOp .And (a::b::es) pos) (Abd f g):=⟨Aks ha.out hb.out⟩
theorem P5 (ha:QB X a f) (hb:QWB X (.BoolOp .Or (b::es) pos) g):QWB X (.BoolOp .Or (a::b::es) pos) (fOr f g):=⟨Aqv ha.out hb.out⟩
theorem D3 (h:QWB X (.BoolOp op es pos) f):QB X (.BoolOp op es pos) f:=⟨Ajp h.out⟩
theorem Ut (ha:QB X a f):QB X (.UnaryOp .Not a pos) (Ae5 f):=⟨Apv ha.out⟩
theorem C6 (h:QD X e f):QW X tg e (G1 f):=⟨Aqt h.out⟩
theorem Dr:QGs X [] L3:=⟨Adm⟩
variable {st:Stmt}{rest sa sb:List Stmt}
theorem Ba:QSs X [] Ct:=⟨Akh⟩
theorem Ae (h1:QS X st f) (h2:QSs X rest g):QSs X (st::rest) (A4 f g):=⟨Ads h1.out h2.out⟩
theorem Ao (h1:QS X st f):QSs X [st] f:=⟨Aki h1.out⟩
theorem A1 (he:QD X e f):QS X (.Return (some e) pos) (Cg f):=⟨Akj he.out⟩
theorem Gy (he:QF X e f):QS X (.Return (some e) pos) (Lo f):=⟨Adu he.out⟩
theorem B7 {t:FB} (hc:QB X c t) (ha:QSs X sa f) (hb:QSs X sb g):QS X (.If c sa sb pos) (sIf t f g):=⟨Aqr hc.out ha.out hb.out⟩
theorem Ad5 (k:Nat) (hp:PassesOwn (model X.prog X.w) X.A X.env X.xe) (hc:QB X c f) (hb:QSs X body g):QS X (.While c body [] pos) (Gj f g k):=⟨Z9 k hp hc.out hb.out⟩
theorem Af (i:Nat) (hN:X.N[i]?=some x:=by kernel_rfl) (hv:Vis X.env.scope x:=by exact Azp (by kernel_rfl)) (hd:(x == ("__debug__":Str))=false:=by decide) (hcd:(x == ("__classdict__":Str))=false:=by decide):QD X (.Name x pos) (Ac i):=⟨Afu i hN hv hd hcd⟩
theorem Bh (i:Nat) (hN:X.N[i]?=some x:=by kernel_rfl) (hv:Vis X.env.scope x:=by exact Or.inr (Azp (by kernel_rfl))) (hd:(x == ("__debug__":Str))=false:=by decide) (hcd:(x == ("__classdict__":Str))=false:=by decide):QD X (.Name x pos) (Ac i):=⟨Afu i hN hv hd hcd⟩
theorem Gd {j} (ok:PyData.strOk z=true:=by exact Gi _):QD X (.Constant (.str z) j pos) (fC (.str z)):=⟨Aqa ok⟩
theorem Ap (ha:QD X e f) (hr:QL X es g) (hs':By e=true:=by rfl):QL X (e::es) (Aa f g):=⟨Aj9 ha.out hr.out (Ax hs')⟩
theorem Hg (ho:OpM X (compareOp op) o) (ha:QD X a f) (hb:QD X b g) (hm':Eu b=true:=by rfl):QD X (.Compare a [op] [b] pos) (f2 o f g):=⟨Ap3 ho ha.out hb.out (E8 hm')⟩
theorem A5 (ho:OpM X (compareOp op) o) (ha:QD X a f) (hb:QD X b g) (hm':Eu b=true:=by rfl):QB X (.Compare a [op] [b] pos) (A6 (f2 o f g)):=⟨Apt ho ha.out hb.out (E8 hm')⟩
theorem Hf (ha:QD X a f) (he':Afl a=true:=by rfl):QB X a (Vh f):=⟨Apw ha.out (Xc he')⟩
theorem Av (ha:QD X a f) (hb:QD X b g) (hs':Ar4 b=true:=by rfl):QD X (.Subscript a b pos) (f2 oIx f g):=⟨Auj ha.out hb.out (Nr hs')⟩
theorem B4 (hm:X.mg "len"=none) (ha:QL X [e] g) (hg:Gl X "len":=by unfold Gl;kernel_rfl) (he':By e=true:=by rfl):QD X (.Call (.Name "len" p) [e] [] pos) (Ay Ec g):=⟨Uo Anr hg hm boot_len ha.out (by decide) (by decide) (Ax he') rfl⟩
theorem Aqy (hc:X.calm=true) (hm:X.mg "all"=none) (ha:QL X [e] g) (hg:Gl X "all":=by unfold Gl;kernel_rfl) (he':By e=true:=by rfl):QD X (.Call (.Name "all" p) [e] [] pos) (Ay Aoy g):=⟨Uo (Anq hc) hg hm (by decide +kernel) ha.out (by decide) (by decide) (Ax he') rfl⟩
theorem Af2 (hm:X.mg "int"=none) (ha:QL X [e] g) (hg:Gl X "int":=by unfold Gl;kernel_rfl) (he':By e=true:=by rfl):QD X (.Call (.Name "int" p) [e] [] pos) (Ay Abg g):=⟨Li Aew hg hm (by decide +kernel) ha.out (by decide) (by decide) (Ax he') rfl⟩
theorem Dw (hm:X.mg "tuple"=none) (ha:QL X [e] g) (hg:Gl X "tuple":=by unfold Gl;kernel_rfl) (he':By e=true:=by rfl):QD X (.Call (.Name "tuple" p) [e] [] pos) (Ay Et g):=⟨Li Ab4 hg hm (by decide +kernel) ha.out (by decide) (by decide) (Ax he') rfl⟩
theorem Ak0 (hm:X.mg "list"=none) (ha:QL X [e] g) (hg:Gl X "list":=by unfold Gl;kernel_rfl) (he':By e=true:=by rfl):QF X (.Call (.Name "list" p) [e] [] pos) (Bt Zh g):=⟨Zy Ahy hg hm (by decide +kernel) ha.out (by decide) (by decide) (Ax he') rfl⟩
theorem M4 (ha:QD X e f) (hm:X.mg "isinstance"=none) (hm':X.mg y=none) (hv':bootBuiltins y=some (.type U)) (hn:y≠"__name__":=by decide) (hdb:(y == ("__debug__":Str))=false:=by decide) (hg:Gl X "isinstance":=by unfold Gl;kernel_rfl) (hg':Gl X y:=by unfold Gl;kernel_rfl) (he':By e=true:=by rfl):QD X (.Call (.Name "isinstance" p) [e,.Name y p'] [] pos) (Abe U f):=⟨Ap6 ha.out hg hm hg' hm' hv' hn hdb (by decide +kernel) (Ax he') (Ax rfl) (El rfl)⟩
theorem Akx {fd:FuncData} (F:FnOk X.prog X.w X.K X.mg X.base CX0 k f fd ps (spP X.K n fn)) (hr:Room k X.A) (hm:X.mg x=some (.ref f)) (hk:W.keepIn X.K (.ref f)=true) (hb:Binds X.K fd ps []) (ha:QL X (e::es) g) (hg:Gl X x:=by unfold Gl;kernel_rfl) (hdb:(x == ("__debug__":Str))=false:=by decide) (he':By e=true:=by rfl) (hpl':es.all By=true:=by rfl) :
  QD X (.Call (.Name x p) (e::es) [] pos) (Ay (C3 n fn) g):=⟨Ajt F hr hg hm hk hb (Adf (X:=X)) ha.out hdb (Ax he') (El hpl')⟩
theorem Akz {fd:FuncData} (F:FnOk X.prog X.w X.K X.mg X.base CX0 k f fd ps (spP X.K n fn)) (hr:Room k X.A) (hm:X.mg x=some (.ref f)) (hk:W.keepIn X.K (.ref f)=true) (hb:Binds X.K fd ps []) (ha:QL X (e::es) g) (hg:Gl X x:=by unfold Gl;kernel_rfl) (hdb:(x == ("__debug__":Str))=false:=by decide) (he':By e=true:=by rfl) (hpl':es.all By=true:=by rfl) :
  QF X (.Call (.Name x p) (e::es) [] pos) (Bt (Gc n fn) g):=⟨Aj2 F hr hg hm hk hb (Adf (X:=X)) ha.out hdb (Ax he') (El hpl')⟩
theorem Uu (hf:QD X a f) (ha:QL X [e] g) (hbase':Pw a=true:=by rfl) (hline:(apos.endLine == cpos.line)=true:=by kernel_rfl) (hs':By e=true:=by rfl) :
  QS X (.Expr (.Call (.Attribute a "append" apos) [e] [] cpos) spos) (Aax Ze f g):=⟨Z5 PySem.F.plainAttrs_list PySem.F.slot_list_append PySem.F.type_list_append Pt Afi hf.out ha.out (E4 hbase') (Jm (by rw[Ayt,hs'];rfl) rfl) hline (Ax hs') rfl⟩
theorem Bu (hN:X.N.Nodup) (he:QD X e f) (hi:X.N[i]?=some x:=by kernel_rfl) (hx:Loc X.env.scope x:=by exact Azp (by kernel_rfl)) (hs':Iw e=true:=by rfl) (hf:X.fn x=true\/X.env.scope.names.lookup x=some .local:=by exact Azp (by kernel_rfl)) :
  QS X (.Assign [.Name x p'] e pos) (Co i f):=⟨Z7 hN hi hx he.out (G0 hs') hf⟩
theorem Td (hN:X.N.Nodup) (he:QD X e f) (hi:X.N[i]?=some x:=by kernel_rfl) (hx:Loc X.env.scope x:=by exact Or.inr (by kernel_rfl)) (hs':Iw e=true:=by rfl) (hf:X.fn x=true\/X.env.scope.names.lookup x=some .local:=by exact Azp (by kernel_rfl)) :
  QS X (.Assign [.Name x p'] e pos) (Co i f):=⟨Z7 hN hi hx he.out (G0 hs') hf⟩
theorem M6 (hN:X.N.Nodup) (he:QF X e f) (hi:X.N[i]?=some x:=by kernel_rfl) (hx:Loc X.env.scope x:=by exact Azp (by kernel_rfl)) (hs':Iw e=true:=by rfl) (hf:X.fn x=true\/X.env.scope.names.lookup x=some .local:=by exact Azp (by kernel_rfl)) :
  QS X (.Assign [.Name x p'] e pos) (Hl i f):=⟨Z6 hN hi hx he.out (G0 hs') hf⟩
theorem Og (hN:X.N.Nodup) (he:QF X e f) (hi:X.N[i]?=some x:=by kernel_rfl) (hx:Loc X.env.scope x:=by exact Or.inr (by kernel_rfl)) (hs':Iw e=true:=by rfl) (hf:X.fn x=true\/X.env.scope.names.lookup x=some .local:=by exact Azp (by kernel_rfl)) :
  QS X (.Assign [.Name x p'] e pos) (Hl i f):=⟨Z6 hN hi hx he.out (G0 hs') hf⟩
theorem Ez (hN:X.N.Nodup) (hi:X.N[i]?=some x:=by kernel_rfl) (hx:Loc X.env.scope x:=by exact Azp (by kernel_rfl)) (hf:X.fn x=true\/X.env.scope.names.lookup x=some .local:=by exact Azp (by kernel_rfl)):QG X (.Name x pos) (Au i):=⟨N5 hN hi hx hf⟩
theorem Aak (hN:X.N.Nodup) (hi:X.N[i]?=some x:=by kernel_rfl) (hx:Loc X.env.scope x:=by exact Or.inr (by kernel_rfl)) (hf:X.fn x=true\/X.env.scope.names.lookup x=some .local:=by exact Azp (by kernel_rfl)):QG X (.Name x pos) (Au i):=⟨N5 hN hi hx hf⟩
theorem C9 (hN:X.N.Nodup) (hi:X.N[i]?=some x:=by kernel_rfl) (hx:Loc X.env.scope x:=by exact Azp (by kernel_rfl)) (hf:X.fn x=true\/X.env.scope.names.lookup x=some .local:=by exact Or.inr (by kernel_rfl)):QG X (.Name x pos) (Au i):=⟨N5 hN hi hx hf⟩
theorem A7 (h1:QG X e g) (h2:QGs X es h) (hs:(assignEach (e::es) X.env).map (·.2)=assign e X.env::(assignEach es X.env).map (·.2):=by kernel_rfl):QGs X (e::es) (Bv g h):=⟨Z0 h1.out h2.out hs⟩
theorem Ds (hc:X.calm=true) (h:QGs X es g) (hn:(assignEach es X.env).length=n:=by kernel_rfl) (hst:(assignEach es X.env).findIdx? (·.1)=none:=by kernel_rfl):QG X (.Tuple es k pos) (G6 n g):=⟨Aj6 hc h.out hn hst⟩
theorem Af3 (he:QD X e f) (hg:QG X tg g) (hs':Iw e=true:=by rfl) (hw:swappedStores [tg] e X.env=pure none:=by kernel_rfl) (h1:(assignEach [tg] X.env).map (·.2)=[assign tg X.env]:=by kernel_rfl):QS X (.Assign [tg] e pos) (Alx f g):=⟨Akf he.out hg.out (Jn hs') hw h1⟩
theorem Hh (he:QD X e f) (ho:QD X a fo) (hi:QD X b fi) (ha:∀ v,assign (.Subscript a b p) X.env v=(do
   let ov <- holding [v] (eval a X.env)
   let iv <- holding [v,ov] (eval b X.env)
   standAt p
   holding [v,ov,iv] (setItem ov iv v)
   release [v,ov,iv] []):=by intro _;rfl) (hs':Iw e=true:=by rfl) (hw:swappedStores [.Subscript a b p] e X.env=pure none:=by kernel_rfl) (h1:(assignEach [.Subscript a b p] X.env).map (·.2)=[assign (.Subscript a b p) X.env]:=by kernel_rfl) :
  QS X (.Assign [.Subscript a b p] e pos) (Hi f fo fi):=⟨Z8 he.out ho.out hi.out ha (Jn hs') hw h1⟩
theorem Dx {iter:Expr}{body:List Stmt}{f:FW}{g:FG}{b:FS} (hp:PassesOwn (model X.prog X.w) X.A X.env X.xe) (hc:X.calm=true) (hi:QW X tg iter f) (hg:QG X tg g) (hb:QSs X body b)
  (hs':Eu iter=true:=by rfl):QS X (.For tg iter body [] pos) (Ol f g b):=⟨Akg hp hc hi.out hg.out hb.out (Do hs')⟩
theorem P6 (hm:X.mg "range"=none) (ha:QL X [a] g) (hg:Gl X "range":=by unfold Gl;kernel_rfl) (hs':By a=true:=by rfl):QW X tg (.Call (.Name "range" p) [a] [] pos) (Iz g):=⟨Aaf hg hm ha.out (Ax hs')⟩
variable {elt iter:Expr}{ifs:List Expr}{scope:Scope}{fw:FW}{g:FG}{t:FB}{fe:FE}
theorem Ck (cap:List Nat) (N':List Str) (hc:X.calm=true) (hi:QW X tg iter fw) (hg2:∀ d d' env e1,g d env=some e1->g d' e1=g d' env)
  (hg:∀ cl C s₀ H₀ ex pn,QG (A0 X N' scope cl C s₀ H₀ ex pn) tg g) (ht:∀ cl C s₀ H₀ ex pn,QTs (A0 X N' scope cl C s₀ H₀ ex pn) ifs t) (he:∀ cl C s₀ H₀ ex pn,QD (A0 X N' scope cl C s₀ H₀ ex pn) elt fe)
  (ok:Hq scope X.env.scope X.N N' cap=true:=by kernel_rfl) (hs':Eu iter=true:=by rfl):QF X (.ListComp elt [⟨tg,iter,ifs,0⟩] scope pos) (Cb cap (N'.length - cap.length) fw g t fe):=⟨Aj3 (CompOk.of ok) hc hi.out hg2 (fun cl C s H ex pn=>(hg cl C s H ex pn).out) (fun cl C s H ex pn=>(ht cl C s H ex pn).out) (fun cl C s H ex pn=>(he cl C s H ex pn).out) (Do hs')⟩
theorem N7 (cap:List Nat) (N':List Str) (hN:X.N.Nodup) (hc:X.calm=true) (hi:QW X tg iter fw) (hg2:∀ d d' env e1,g d env=some e1->g d' e1=g d' env) (hg:∀ cl C s₀ H₀ ex pn,QG (A0 X N' scope cl C s₀ H₀ ex pn) tg g) (ht:∀ cl C s₀ H₀ ex pn,QTs (A0 X N' scope cl C s₀ H₀ ex pn) ifs t) (he:∀ cl C s₀ H₀ ex pn,QD (A0 X N' scope cl C s₀ H₀ ex pn) elt fe) (ok:Hq scope X.env.scope X.N N' cap=true:=by kernel_rfl) (hs':Eu iter=true:=by rfl) (hn:X.N[i]?=some x:=by kernel_rfl) (hx:Loc X.env.scope x:=by exact Azp (by kernel_rfl)) (hf:X.fn x=true\/X.env.scope.names.lookup x=some .local:=by exact Azp (by kernel_rfl)) (hsw:swapsWith (.ListComp elt [⟨tg,iter,ifs,0⟩] scope pos) (some (.Name x p')) spos.line X.env=pure true:=by kernel_rfl):QS X (.Assign [.Name x p'] (.ListComp elt [⟨tg,iter,ifs,0⟩] scope pos) spos) (Co i (Dg (Cb cap (N'.length - cap.length) fw g t fe))):=⟨Adv (Tv (CompOk.of ok) hc hi.out hg2 (fun cl C s H ex pn=>(hg cl C s H ex pn).out) (fun cl C s H ex pn=>(ht cl C s H ex pn).out) (fun cl C s H ex pn=>(he cl C s H ex pn).out) (Do hs') hsw hN hn hx hf)⟩
theorem Us (cap:List Nat) (N':List Str) (hN:X.N.Nodup) (hc:X.calm=true) (hi:QW X tg iter fw) (hg2:∀ d d' env e1,g d env=some e1->g d' e1=g d' env) (hg:∀ cl C s₀ H₀ ex pn,QG (A0 X N' scope cl C s₀ H₀ ex pn) tg g) (ht:∀ cl C s₀ H₀ ex pn,QTs (A0 X N' scope cl C s₀ H₀ ex pn) ifs t) (he:∀ cl C s₀ H₀ ex pn,QD (A0 X N' scope cl C s₀ H₀ ex pn) elt fe) (ok:Hq scope X.env.scope X.N N' cap=true:=by kernel_rfl) (hs':Eu iter=true:=by rfl) (hn:X.N[i]?=some x:=by kernel_rfl) (hx:Loc X.env.scope x:=by exact Azp (by kernel_rfl)) (hf:X.fn x=true\/X.env.scope.names.lookup x=some .local:=by exact Azp (by kernel_rfl)) (hsw:swapsWith (.ListComp elt [⟨tg,iter,ifs,0⟩] scope pos) (some (.Name x p')) spos.line X.env=pure true:=by kernel_rfl):QS X (.Assign [.Name x p'] (.ListComp elt [⟨tg,iter,ifs,0⟩] scope pos) spos) (Hl i (Cb cap (N'.length - cap.length) fw g t fe)):=⟨Adt (Tv (CompOk.of ok) hc hi.out hg2 (fun cl C s H ex pn=>(hg cl C s H ex pn).out) (fun cl C s H ex pn=>(ht cl C s H ex pn).out) (fun cl C s H ex pn=>(he cl C s H ex pn).out) (Do hs') hsw hN hn hx hf)⟩
end
end
end ML
end L2
end S_ML8a
section S_ML10
namespace L2
namespace ML
open PySem PySem.Spec PyProof.Rows
section
variable {X:Cx}{a b c e e' o':Expr}{es:List Expr}{pos p p' apos cpos spos:Pos}{x:Str}
noncomputable def insD {α:Type} (xs:List α) (i:Nat) (y:α):List α:=xs.take i++y::xs.drop i
theorem Acj (h0:0<=i):((xs.toArray.extract 0 (if i < 0 then (i+((xs.toArray.size:Nat):Int)).toNat else min i.toNat xs.toArray.size)).push y++xs.toArray.extract (if i < 0 then (i+((xs.toArray.size:Nat):Int)).toNat else min i.toNat xs.toArray.size))=(insD xs i.toNat y).toArray:=by
 rw[Axy (by lia)]
 unfold insD
 by_cases h:i.toNat<=xs.length
 ·rw[Axk,Nat.min_eq_left h]
  apply Array.ext'
  simp
  exact Azg (by simp)
 ·rw[Axk,Nat.min_eq_right (by lia)]
  apply Array.ext'
  simp
  rw[Azg (by lia),Azv (by lia)]
theorem Vals.insD (r:Vals xs us) (rv:RelV v u) (i:Nat):Vals (ML.insD xs i v) (ML.insD us i u):=by
 unfold ML.insD
 exact Vals.append (r.take i) (.cons rv (r.drop i))
theorem Rx:(insD xs i y).length=xs.length+1:=by
 unfold insD
 simp
 lia
def Aao:V->List V->Hp->VK->Prop:=fun x vs H Q=>∃ l xs i y,x=.ref l/\vs=[.int i,y]/\H l=some (.lst xs)/\xs.length < sizeLine/\0<=i/\i < 2 ^ 62/\Q .non (upd H l (.lst (insD xs i.toNat y)))
theorem Y7:MtM X "list.insert" Aao:=by
 intro pins s σ H x vs v us Q I rx rv h
 obtain⟨l,xs,i,y,rfl,rfl,hH,hz,h0,h1,q⟩:=h
 cases rx
 obtain⟨u,w,rfl,ru,rw'⟩:=Arq rv
 obtain⟨t,rfl⟩:=ru
 obtain⟨z,its,n,r,hl,e⟩:=I.lstM hH
 refine call_meets F.slot_list_insert ⟨_,e,rfl⟩ F.entry_list_insert (F.args_list_insert_3 _ _ _) (AutoListH.list_insert_list_int_val_1 l its.toArray n i t w (by simp[Builtin.List.listFitsIndex];lia) (by rw[Axk];lia)) ⟨e,?_⟩
 refine⟨.non,_,I.lset (its':=insD its i.toNat w) hH e (Acj h0) (Vals.insD r rw' _) ?_,rfl,q⟩
 rw[Rx]
 lia
def Gs:List D->List D->Option (List D):=fun ds es=>match es with
 |[.int i,d]=>if ds.length < 1000000/\0<=i/\i < 2 ^ 62 then some (insD ds i.toNat d) else none
 |_=>none
theorem Y8:Al0 X Aao Gs:=fun μ H a xs vs ds es fs Q h1 ha rs re h q=>by
 obtain⟨i,d,rfl⟩:∃ i d,es=[.int i,d]:=by
  cases es with
  |nil=>exact Al h
  |cons e es =>
   cases e with
   |int i =>
    cases es with
    |nil=>exact Al h
    |cons d es =>
     cases es with
     |nil=>exact⟨i,d,rfl⟩
     |cons _ _=>cases h
   |_=>cases h
 unfold Gs at h
 simp only at h
 split at h
 ·rename_i hl
  cases h
  obtain⟨v,w,rfl,r1,r2⟩:=re.two
  cases r1
  exact⟨a,xs,i,w,rfl,rfl,h1,by rw[<- rs.length];have:sizeLine=16777216:=Ay3;lia,hl.2.1,hl.2.2,q _ ((rs.take _).append (.cons r2 (rs.drop _)))⟩
 ·exact Al h
end
end ML
end L2
end S_ML10
section S_ML11
namespace L2
namespace ML
open PySem PySem.Spec PyProof.Rows PySem.SeqAt
def LtAt (A:Around) (s:Shared) (x y:Value) (k:Bool):Prop :=
 ∀ (prog:Program) (w:World) (E:Value->Shared->Prop) (Q:Value->Shared->Prop),Q (.bool k) s->wpAny (model prog w) A (richCompare .Lt x y) Q E s
inductive LexAt (A:Around) (s:Shared):List Value->List Value->Bool->Prop where
 |nil:LexAt A s [] [] false
 |short {y ys}:LexAt A s [] (y::ys) true
 |long {x xs}:LexAt A s (x::xs) [] false
 |same {x y xs ys k}:EqAt A s x y true->LexAt A s xs ys k->LexAt A s (x::xs) (y::ys) k
 |diff {x y xs ys k}:EqAt A s x y false->LtAt A s x y k->LexAt A s (x::xs) (y::ys) k
theorem LexAt.end1 {s:Shared} (h:LexAt A s xs ys k) (e:xs.zip ys=[]):k=decide (xs.length < ys.length):=by
 cases h with
 |nil=>rfl
 |short=>simp
 |long=>simp
 |same _ _=>simp at e
 |diff _ _=>simp at e
theorem Xg (l b:Addr) (xs ys:Array Value) (n n2:Nat) (dd dd2:Option Addr) (sl sl2:Array (Option Value)) (k:Bool) :
  Meets (Builtin.«tuple.__lt__» ⟨[.ref l,.ref b],[]⟩)
   (fun A R s=>(s.heap.get? l=some { cls:=.type "tuple",dict:=dd,data:=.seq xs n,slots:=sl }/\s.heap.get? b=some { cls:=.type "tuple",dict:=dd2,data:=.seq ys n2,slots:=sl2 }) /\
    LexAt A.in1 s xs.toList ys.toList k/\R (.ok (.ret (.bool k))) s) :=
 .of_wp fun prog w A R s h=>by
  obtain⟨hp,g,d,tk,os⟩:=s
  obtain⟨⟨hl,hb⟩,hx,hR⟩:=h
  have f2:=AutoSeq1.sub_tuple_tuple
  wp_walk using wpAny_loadPart' hl,wpAny_loadPart' hb,wpAny_forIn_list _ (fun rest b s'=>b.1=none/\s'=⟨hp,g,d,tk,os⟩/\∃ us ws,rest=us.zip ws/\us.length+ys.size=ws.length+xs.size/\LexAt A.in1 ⟨hp,g,d,tk,os⟩ us ws k) _
  case turn =>
   rintro ⟨y,x⟩ rest b s' ⟨hb1,rfl,us,ws,hz,hn,hx⟩
   cases hx with
   |nil=>cases hz
   |short=>cases hz
   |long=>cases hz
   |@same u v us ws _ he hx =>
    cases hz
    refine Axh (he prog w _ _ ?_)
    wp_walk
    exact⟨rfl,rfl,us,ws,rfl,by simp only[Ax1] at hn;lia,hx⟩
   |@diff u v us ws _ he hk =>
    cases hz
    refine Axh (he prog w _ _ ?_)
    have hk2:∀ {E:Value->Shared->Prop}{Q:Value->Shared->Prop},Q (.bool k) ⟨hp,g,d,tk,os⟩->wpAny (model prog w) A.in1 (richCompare .Lt y x) Q E ⟨hp,g,d,tk,os⟩:=fun q=>hk prog w _ _ q
    wp_walk using hk2
    exact⟨_,rfl,hR⟩
  case fin =>
   rintro ⟨b1,b2⟩ s' ⟨hb1,rfl,us,ws,hz,hn,hx⟩
   simp only at hb1
   subst hb1
   have e:=hx.end1 hz.symm
   subst e
   wp_walk
   refine⟨_,rfl,?_⟩
   have e2:decide (us.length < ws.length)=decide (xs.size < ys.size):=by rw[Bak];lia
   rw[e2] at hR
   simpa [Builtin.Tuple.tupleCompareSizes] using hR
  case h =>
   exact⟨rfl,rfl,xs.toList,ys.toList,rfl,by simp[Nat.add_comm],hx⟩
theorem LtAt.tuples {s:Shared}{l b:Addr} (hl:s.heap.IsTuple l xs) (hb:s.heap.IsTuple b ys) (hu:A.units < cLine) (hx:LexAt A.in1 s xs.toList ys.toList k):LtAt A s (.ref l) (.ref b) k:=fun prog w E Q h=>by
 obtain⟨⟨cls,dd,data,sl⟩,ho,hc,n,hd⟩:=id hl
 obtain⟨⟨cls2,dd2,data2,sl2⟩,ho2,hc2,n2,hd2⟩:=id hb
 simp only at hc hd hc2 hd2
 subst hc hd hc2 hd2
 refine richCompare_meets_room (op:=.Lt) ⟨_,ho,rfl⟩ ⟨_,ho2,rfl⟩ F.slot_tuple_lt F.entry_tuple_lt (F.args_tuple_lt_2 _ _) (Xg l b xs ys n n2 dd dd2 sl sl2 k) ⟨⟨ho,ho2⟩,hx,?_⟩ hu
 exact⟨(fun x=>nomatch x),h⟩
theorem Y3 (l b:Addr) (xs ys:Array Value) (n n2:Nat) (dd dd2:Option Addr) (sl sl2:Array (Option Value)) (k:Bool):∀ (us ws:List Value) (i:Nat),xs.toList.drop i=us->ys.toList.drop i=ws->i<=xs.size->i<=ys.size ->
  Meets (Builtin.«list.__eq__.loop» ⟨[.ref l,.ref b,rawInt i,rawInt 0],[]⟩)
   (fun A R s=>(s.heap.get? l=some { cls:=.type "list",dict:=dd,data:=.seq xs n,slots:=sl }/\s.heap.get? b=some { cls:=.type "list",dict:=dd2,data:=.seq ys n2,slots:=sl2 })/\LexAt A.in1 s us ws k/\R (.ok (.ret (.bool k))) s):=by
 have none_at:∀ {zs:Array Value}{i:Nat},zs.toList.drop i=[]->zs[((i:Nat):Int).toNat]?=none:=fun {zs i} h=>by
  have:=List.drop_eq_nil_iff.mp h
  simp at this ⊢
  exact this
 have some_at:∀ {zs:Array Value}{i:Nat}{z:Value}{r:List Value},zs.toList.drop i=z::r->zs[((i:Nat):Int).toNat]?=some z/\zs.toList.drop (i+1)=r/\i+1<=zs.size:=fun {zs i z r} h=>by
  have hl:i < zs.toList.length:=by
   rcases Nat.lt_or_ge i zs.toList.length with q|q
   ·exact q
   ·rw[Azv q] at h;cases h
  have e:=Ayv hl
  rw[h] at e
  obtain⟨e1,e2⟩:=List.cons.inj e
  have hl':i < zs.size:=by simpa using hl
  refine⟨?_,e2.symm,hl'⟩
  rw[e1]
  simp[hl']
 intro us
 induction us with
 |nil =>
  intro ws i hx hy hi1 hi2 prog w A R s h
  obtain⟨hp,g,d,tk,os⟩:=s
  obtain⟨⟨hl,hb⟩,hL,hR⟩:=h
  have e1:=none_at hx
  have z1:xs.size=i:=by have:=List.drop_eq_nil_iff.mp hx;simp at this;lia
  have hk:k=decide (xs.size < ys.size):=by
   cases hL with
   |nil =>
    have:ys.size=i:=by have:=List.drop_eq_nil_iff.mp hy;simp at this;lia
    rw[z1,this];simp
   |short =>
    have:=(some_at hy).2.2
    rw[Ayl (by lia)]
  subst hk
  wp_walk using wpAny_loadPart' hl,wpAny_loadPart' hb
  rw[e1]
  wp_walk using wpAny_loadPart' hl,wpAny_loadPart' hb
  exact hR
 |cons u us ih =>
  intro ws i hx hy hi1 hi2 prog w A R s h
  obtain⟨hp,g,d,tk,os⟩:=s
  obtain⟨⟨hl,hb⟩,hL,hR⟩:=h
  obtain⟨e1,x2,x3⟩:=some_at hx
  cases hL with
  |long =>
   have e2:=none_at hy
   have hk:decide (xs.size < ys.size)=false:=by
    have:ys.size=i:=by have:=List.drop_eq_nil_iff.mp hy;simp at this;lia
    rw[Ax3 (by lia)]
   rw[<- hk] at hR
   wp_walk using wpAny_loadPart' hl,wpAny_loadPart' hb
   rw[e1,e2]
   wp_walk using wpAny_loadPart' hl,wpAny_loadPart' hb
   exact hR
  |@same _ y _ ws _ he hx' =>
   obtain⟨e2,y2,y3⟩:=some_at hy
   have hc:((i:Int)+1)=((i+1:Nat):Int):=by push_cast;rfl
   wp_walk using wpAny_loadPart' hl,wpAny_loadPart' hb
   rw[e1,e2]
   refine Axh (he prog w _ _ ?_)
   wp_walk
   rw[hc]
   exact⟨plainId_quiet Ayr _,codeAny_builtin MeetsSeq3.entry_eq_loop (by
    rw[Around.under_plainId Ayr _]
    exact ih ws (i+1) x2 y2 x3 y3 prog w A R _ ⟨⟨hl,hb⟩,hx',hR⟩)⟩
  |@diff _ y _ ws _ he hk =>
   obtain⟨e2,y2,y3⟩:=some_at hy
   wp_walk using wpAny_loadPart' hl,wpAny_loadPart' hb
   rw[e1,e2]
   refine Axh (he prog w _ _ ?_)
   have hk2:∀ {E:Value->Shared->Prop}{Q:Value->Shared->Prop},Q (.bool k) ⟨hp,g,d,tk,os⟩->wpAny (model prog w) A.in1 (richCompare .Lt u y) Q E ⟨hp,g,d,tk,os⟩:=fun q=>hk prog w _ _ q
   wp_walk using wpAny_loadPart' hl,wpAny_loadPart' hb
   rw[e1,e2]
   wp_walk using hk2
   exact hR
theorem Yx (l b:Addr) (xs ys:Array Value) (n n2:Nat) (dd dd2:Option Addr) (sl sl2:Array (Option Value)) (k:Bool) :
  Meets (Builtin.«list.__lt__» ⟨[.ref l,.ref b],[]⟩)
   (fun A R s=>(s.heap.get? l=some { cls:=.type "list",dict:=dd,data:=.seq xs n,slots:=sl }/\s.heap.get? b=some { cls:=.type "list",dict:=dd2,data:=.seq ys n2,slots:=sl2 })/\LexAt A.in1 s xs.toList ys.toList k/\R (.ok (.ret (.bool k))) s):=by
 intro prog w A R s h
 obtain⟨hp,g,d,tk,os⟩:=s
 obtain⟨⟨hl,hb⟩,hL,hR⟩:=h
 have f3:=AutoSeq1.sub_list_list
 wp_walk using wpAny_loadPart' hl,wpAny_loadPart' hb
 exact⟨plainId_quiet Ayr _,codeAny_builtin MeetsSeq3.entry_eq_loop (by
  rw[Around.under_plainId Ayr _]
  exact Y3 l b xs ys n n2 dd dd2 sl sl2 k _ _ 0 rfl rfl (Ax9 _) (Ax9 _) prog w A R _ ⟨⟨hl,hb⟩,by simpa using hL,hR⟩)⟩
theorem LtAt.lists {s:Shared}{l b:Addr} (hl:s.heap.IsList l xs) (hb:s.heap.IsList b ys) (hu:A.units < cLine) (hx:LexAt A.in1 s xs.toList ys.toList k):LtAt A s (.ref l) (.ref b) k:=fun prog w E Q h=>by
 obtain⟨⟨cls,dd,data,sl⟩,ho,hc,n,hd⟩:=id hl
 obtain⟨⟨cls2,dd2,data2,sl2⟩,ho2,hc2,n2,hd2⟩:=id hb
 simp only at hc hd hc2 hd2
 subst hc hd hc2 hd2
 refine richCompare_meets_room (op:=.Lt) ⟨_,ho,rfl⟩ ⟨_,ho2,rfl⟩ F.slot_list_lt F.entry_list_lt (F.args_list_lt_2 _ _) (Yx l b xs ys n n2 dd dd2 sl sl2 k) ⟨⟨ho,ho2⟩,hx,?_⟩ hu
 exact⟨(fun x=>nomatch x),h⟩
mutual
def ltD:D->D->Option Bool
 |.int i,.int j=>some (decide (i < j))
 |.str i,.str j=>some (decide (i.cps.toList < j.cps.toList))
 |.tup xs,.tup ys=>Ef xs ys
 |.lst xs,.lst ys=>Ef xs ys
 |_,_=>none
def Ef:List D->List D->Option Bool
 |[],[]=>some false
 |[],_::_=>some true
 |_::_,[]=>some false
 |x::xs,y::ys=>if deq x y=true then Ef xs ys else ltD x y
end
section
variable {X:Cx}{pins:List (Addr×Obj)}{σ:St}{H:Hp}{s:Shared}{μ:List Addr}{B:Addr->Prop}
set_option tactic.hygienic true in
mutual
theorem Afg (I:Inv X pins σ H s):∀ (d d':D) {A:Around}{v v':V}{u u':Value}{k:Bool},Rep X.K H μ B d v->Rep X.K H μ B d' v'->B6 d=true->B6 d'=true->RelV v u->RelV v' u'->A.units+dep d+dep d' < cLine->ltD d d'=some k->LtAt A s u u' k
 |.int i,d',A,v,v',u,u',k,r,r',n,n',q,q',hu,h=>by
  cases d'<;>first|(simp[ltD] at h;done)|skip
  cases r;cases r'
  obtain⟨t,rfl⟩:=q
  obtain⟨t2,rfl⟩:=q'
  rw[ltD] at h
  cases h
  intro prog w E Q q
  exact lt_int q
 |.str i,d',A,v,v',u,u',k,r,r',n,n',q,q',hu,h=>by
  cases d'<;>first|(simp[ltD] at h;done)|skip
  cases r;cases r'
  obtain⟨t,rfl⟩:=q
  obtain⟨t2,rfl⟩:=q'
  rw[ltD] at h
  cases h
  intro prog w E Q q
  exact lt_str q
 |.tup ds,d',A,v,v',u,u',k,r,r',n,n',q,q',hu,h=>by
  cases d'<;>first|(simp[ltD] at h;done)|skip
  rename_i es
  cases r with
  |tup h1 r1 =>
  cases r' with
  |tup h2 r2 =>
  cases q
  cases q'
  obtain⟨its,rv,p,hz⟩:=I.tuple h1
  obtain⟨its',rv',p',hz'⟩:=I.tuple h2
  rw[ltD] at h
  rw[dep,dep] at hu
  refine LtAt.tuples p p' (by lia) ?_
  rw[B6] at n n'
  exact Jf I ds es r1 r2 n n' rv rv' (by show A.units+1+_+_ < _;lia) h
 |.non,d',A,v,v',u,u',k,r,r',n,n',q,q',hu,h=>by simp[ltD] at h
 |.bl _,d',A,v,v',u,u',k,r,r',n,n',q,q',hu,h=>by simp[ltD] at h
 |.lst ds,d',A,v,v',u,u',k,r,r',n,n',q,q',hu,h=>by
  cases d'<;>first|(simp[ltD] at h;done)|skip
  rename_i es
  cases r with
  |lst h1 _ r1 =>
  cases r' with
  |lst h2 _ r2 =>
  cases q
  cases q'
  obtain⟨its,rv,p,hz⟩:=I.list (.inl h1)
  obtain⟨its',rv',p',hz'⟩:=I.list (.inl h2)
  rw[ltD] at h
  rw[dep,dep] at hu
  refine LtAt.lists p.isList p'.isList (by lia) ?_
  rw[B6] at n n'
  exact Jf I ds es r1 r2 n n' rv rv' (by show A.units+1+_+_ < _;lia) h
 |.kl _,d',A,v,v',u,u',k,r,r',n,n',q,q',hu,h=>by simp[ltD] at h
 |.ref _,d',A,v,v',u,u',k,r,r',n,n',q,q',hu,h=>by simp[ltD] at h
 |.dic _ _,d',A,v,v',u,u',k,r,r',n,n',q,q',hu,h=>by simp[ltD] at h
 |.dks _ _,d',A,v,v',u,u',k,r,r',n,n',q,q',hu,h=>by simp[ltD] at h
 |.fz _ _ _ _,d',A,v,v',u,u',k,r,r',n,n',q,q',hu,h=>by simp[ltD] at h
 |.fn _ _,d',A,v,v',u,u',k,r,r',n,n',q,q',hu,h=>by simp[ltD] at h
theorem Jf (I:Inv X pins σ H s):∀ (ds es:List D) {A:Around}{vs vs':List V}{us us':List Value}{k:Bool},Reps X.K H μ B ds vs->Reps X.K H μ B es vs'->Be ds=true->Be es=true->Vals vs us->Vals vs' us'->A.units+Dm ds+Dm es < cLine->Ef ds es=some k->LexAt A s us us' k
 |[],es,A,vs,vs',us,us',k,r,r',n,n',q,q',hu,h=>by
  cases r
  cases q
  cases es with
  |nil=>cases r';cases q';rw[Ef] at h;cases h;exact .nil
  |cons e es =>
   cases r' with
   |cons r1 r2=>cases q' with
    |cons q1 q2=>rw[Ef] at h;cases h;exact .short
 |d::ds,es,A,vs,vs',us,us',k,r,r',n,n',q,q',hu,h=>by
  cases r with
  |cons r1 rs =>
  cases q with
  |cons q1 qs =>
  cases es with
  |nil=>cases r';cases q';rw[Ef] at h;cases h;exact .long
  |cons e es =>
   cases r' with
   |cons r2 rs2=>cases q' with
    |cons q2 qs2 =>
     rw[Ef] at h
     rw[Be,Ax4] at n n'
     rw[Dm,Dm] at hu
     have he:=Tz (A:=A) I r1 r2 n.1 n'.1 q1 q2 (by lia)
     by_cases hd:deq d e=true
     ·rw[Axv hd] at h
      rw[hd] at he
      exact .same he (Jf I ds es rs rs2 n.2 n'.2 qs qs2 (by lia) h)
     ·rw[Axy hd] at h
      rw[Bool.eq_false_iff.mpr hd] at he
      exact .diff he (Afg I d e r1 r2 n.1 n'.1 q1 q2 (by lia) h)
end
end
section
variable {X:Cx}
def Ao2:D->D->MH->Option D:=fun x y m=>(C1 m x).bind fun x'=>(C1 m y).bind fun y'=>if dep x'<=30/\dep y'<=30 then (ltD x' y').bind fun k=>some (.bl k) else none
theorem Afp (hr:Room k X.A):OpM X (compareOp .Lt) Ao2:=by
 intro pins s σ H μ m x y z v u v' u' Q I S rx ry r1 r2 e q
 obtain⟨x',e1,h1⟩:=bind_some e
 obtain⟨y',e2,h1⟩:=bind_some h1
 split at h1
 ·rename_i hd
  obtain⟨b,h2,h3⟩:=bind_some h1
  cases h3
  obtain⟨a1,n1⟩:=Br S rx e1
  obtain⟨a2,n2⟩:=Br S ry e2
  have hu:=hr.units
  exact Afg I _ _ a1 a2 n1 n2 r1 r2 (by lia) h2 _ _ _ _ ⟨.bl b,H,I,rfl,q _ H (Same.refl H) (.bl _)⟩
 ·cases h1
end
end ML
end L2
end S_ML11
section S_ML12
namespace L2
namespace ML
open PySem PySem.Spec PyProof.Rows
section
variable {X:Cx}{a b c e e' o':Expr}{es:List Expr}{pos p p' apos cpos spos:Pos}{x:Str}
end
noncomputable def Ar9 (lo st:Int) (n:Nat):It:=⟨fun i _=>i < n,fun i H x H'=>H'=H/\x=.int (lo+i * st),fun i _=>n<=i⟩
theorem To {P:Program}{w:World}{K:W.Frag}{tg:Expr} (it:Addr) (lo st:Int) (n:Nat):Turn P w K tg (Ar9 lo st n) [it] it (fun i h=>IsRangeIter h it (lo+(i:Nat) * st) ((n:Int) - (i:Nat)) st) where
 mem:=by simp
 obj:=fun i h st b hb=>by
  have e:b=it:=by simpa using hb
  subst e
  exact⟨_,st,fun v z=>by
   have z':Data.fields _=Data.cell v:=z
   cases z'⟩
 keep:=fun i h h' st k=>k it (by simp) _ st
 item:=by
  intro X hP hw hK hc i pins s σ H E I hf hst hg
  subst hP hw hK
  obtain⟨f0,f1,f2,f3,f4,f5⟩:=hf it (by simp)
  have W:=Walks.range (prog:=X.prog) (w:=X.w) (I.ok.hd hc) it lo st n
  refine W.item i s _ _ hg hst fun v h' tk hv st' kk=>?_
  obtain⟨t,rfl⟩:=hv
  have I1:Inv X pins σ H { s with heap:=h',toks:=tk }:=I.turned (fun b o hb e=>kk b o (by simpa using hb) e) f0 f1 f3 f4 f5
  exact⟨_,rfl,Yl (s:={ s with heap:=h',toks:=tk }) (n:="range_iterator") st' rfl rfl (by decide) ⟨.int (lo+i * st),H,I1,⟨t,rfl⟩,⟨rfl,rfl⟩,st',fun b hb=>(hf b hb).1⟩⟩
 done:=by
  intro X hP hw hK hc i pins s σ H E I hf st hg
  subst hP hw hK
  obtain⟨f0,f1,f2,f3,f4,f5⟩:=hf it (by simp)
  exact wpAny_pyNext_range_end (I.ok.hd hc) st (by have:n<=i:=hg;lia) fun h' eb=>⟨rfl,I.turned (t':=s.toks) (fun b o hb e=>eb b o hb e) f0 f1 f3 f4 f5⟩
 self:=fun _ _ _ _ _ st h=>wpAny_pyIter_rangeiter st h
noncomputable def Th (lo hi st:Int):Nat:=if lo < hi then ((hi - lo - 1) / st+1).toNat else 0
theorem Ra {lo hi st:Int} (h:0 < st):((Th lo hi st:Nat):Int)=Builtin.Range.rangeSize lo hi st:=by
 unfold Builtin.Range.rangeSize Th
 simp only[show st > 0 from h,Bag]
 by_cases hl:lo < hi
 ·have h1:0<=(hi - lo - 1) / st:=Int.ediv_nonneg (by lia) (by lia)
  simp only[hl,Bag]
  first|lia|(rw[Axv hl];lia)|(rw[Axy (by lia)];lia)
 ·simp only[hl,Bah]
  first|rfl|lia|(rw[Axy hl];rfl)|(rw[Axv (by lia)];rfl)
theorem Ak5 {lo hi st:Int} (h:0 < st):((Th lo hi st:Nat):Int)<=max 0 (hi - lo):=by
 unfold Th
 by_cases hl:lo < hi
 ·rw[Axv hl]
  have h1:0<=(hi - lo - 1) / st:=Int.ediv_nonneg (by lia) (by lia)
  have h2:(hi - lo - 1) / st<=hi - lo - 1:=Int.ediv_le_self _ (by lia)
  lia
 ·rw[Axy hl];lia
theorem Ad8 (ha:-(2 ^ 61)<=a) (ha':a < 2 ^ 61) (hb:-(2 ^ 61)<=b) (hb':b < 2 ^ 61) (hc:0 < c) (hc':c < 2 ^ 61):Builtin.Range.small a b c=true:=by
 have h1:=Ak5 (lo:=a) (hi:=b) hc
 have h2:=Ra (lo:=a) (hi:=b) hc
 unfold Builtin.Range.small
 rw[<- h2]
 simp only[Builtin.Range.rangeFitsLong,Ax4,Bool.or_eq_true,Ay4,beq_iff_eq,show c > 0 from hc,Bag]
 lia
theorem Reps.three {K:W.Frag}{H:Hp}{μ:List Addr}{B:Addr->Prop}{x y z:D}{vs:List V} (r:Reps K H μ B [x,y,z] vs):∃ v1 v2 v3,vs=[v1,v2,v3]/\Rep K H μ B x v1/\Rep K H μ B y v2/\Rep K H μ B z v3:=by
 cases r with
 |cons a r=>cases r with
  |cons b r=>cases r with
   |cons c r=>cases r;exact⟨_,_,_,rfl,a,b,c⟩
theorem Au2 (r:Vals [v1,v2,v3] us):∃ u1 u2 u3,us=[u1,u2,u3]/\RelV v1 u1/\RelV v2 u2/\RelV v3 u3:=by
 cases r with
 |cons a r=>cases r with
  |cons b r=>cases r with
   |cons c r=>cases r;exact⟨_,_,_,rfl,a,b,c⟩
section
variable {X:Cx}{a b c e:Expr}{tg:Expr}{p pos:Pos}
def Ael (g:FL):FW:=fun env m=>(g env m).bind fun ds=>match ds with
 |[.int i,.int j,.int k]=>if 0<=i/\i < 1000000000/\0<=j/\j < 1000000000/\0 < k/\k < 1000000 then some ⟨(List.range (Th i j k)).map fun (q:Nat)=>.int (i+q * k),B0⟩ else none
 |_=>none
theorem V8 {K:W.Frag}{lo st:Int}{n:Nat}:Src K (Ar9 lo st n) ((List.range n).map fun (q:Nat)=>.int (lo+q * st)) B0 (fun _ _ _=>True) where
 go:=fun H μ m i d S h _ e=>by
  rw[Ax6] at e
  cases q:(List.range n)[i]? with
  |none=>rw[q] at e;cases e
  |some j =>
   rw[q] at e
   cases e
   have hi:=(List.getElem?_eq_some_iff.mp q).1
   rw[List.length_range] at hi
   rw[List.getElem?_range hi] at q
   cases q
   exact⟨hi,fun x H' ⟨h1,h2⟩=>by subst h1;subst h2;exact⟨Same.refl _,.int _⟩⟩
 stop:=fun H μ m S h _=>by show n<=_;simp
 keep:=fun H μ m H' μ' m' h S st S'=>trivial
theorem Aap {pins:List (Addr×Obj)}{σ:St}{H:Hp}{s:Shared}{R:It->Hp->Prop}{E:Value->Shared->Prop}{lo hi st:Int}{t u v:Tok}{tk:Nat} (I:Inv X pins σ H s) (h:0<=lo/\lo < 1000000000/\0<=hi/\hi < 1000000000/\0 < st/\st < 1000000)
  (q:R (Ar9 lo st (Th lo hi st)) H):wpAny (model X.prog X.w) X.A (pyIter (.ref s.heap.objs.size)) (PIE X pins σ tg R) E { s with heap:=s.heap.push { cls:=.type "range",data:=.fields #[.int lo t,.int hi u,.int st v] },toks:=tk }:=by
 obtain⟨h1,h2,h3,h4,h5,h6⟩:=h
 refine wpAny_pyIter_range (IsRange.new ..) (Ad8 (by lia) (by lia) (by lia) (by lia) (by lia) (by lia)) ?_
 have I1:Inv X pins σ H { s with heap:=s.heap.push { cls:=.type "range",data:=.fields #[.int lo t,.int hi u,.int st v] },toks:=tk }:=I.kept fun b o e=>Axi _ e
 refine⟨(s.heap.push { cls:=.type "range",data:=.fields #[.int lo t,.int hi u,.int st v] }).objs.size,[(s.heap.push { cls:=.type "range",data:=.fields #[.int lo t,.int hi u,.int st v] }).objs.size],_,_,H,rfl,
  I1.kept (t':=tk) fun b o e=>Axi _ e,To _ lo st (Th lo hi st),?_,fun b hb=>?_,q⟩
 ·have e1:lo+((0:Nat):Int) * st=lo:=by simp
  have e2:((Th lo hi st:Nat):Int) - ((0:Nat):Int)=Builtin.Range.rangeSize lo hi st:=by rw[<- Ra h5];simp
  show IsRangeIter _ _ (lo+((0:Nat):Int) * st) (((Th lo hi st:Nat):Int) - ((0:Nat):Int)) st
  rw[e1,e2]
  exact Axw _ rfl
 ·have e:b=(s.heap.push { cls:=.type "range",data:=.fields #[.int lo t,.int hi u,.int st v] }).objs.size:=by simpa using hb
  subst e
  exact I1.fpOk (Axu _) (I1.hok.fresh (Axu _))
theorem Aag {g:FL} (hg:Gl X "range") (hm:X.mg "range"=none) (ha:PL X [a,b,c] g) (hs:starEach [a,b,c] X.env=(false,eval a X.env)::starEach [b,c] X.env) (hs2:(backTo pos (starEach [b,c] X.env)).any (·.1)=false):PW' X tg (.Call (.Name "range" p) [a,b,c] [] pos) (Ael g):=by
 intro pins s σ H R I h
 obtain⟨env,μ,m,w,S,E,h,q⟩:=h
 obtain⟨ds,h1,h2⟩:=bind_some h
 refine Call_ (Dv I hg hm boot_range (PyProof.Rows.callWith_type1 (thn (ha pos pins s σ H (fun vs H1=>Same H H1/\Reps X.K H1 μ (·∈μ) ds vs) I ⟨env,μ,m,ds,S,E,h1,fun vs H' s rs=>⟨s,rs⟩⟩) fun us s1 ⟨vs,H1,I1,r1,sm,rs⟩=>?_) hs hs2))
 obtain⟨i,j,k,rfl⟩:∃ i j k,ds=[.int i,.int j,.int k]:=by
  cases ds with
  |nil=>exact Al h2
  |cons d ds =>
   cases d with
   |int i =>
    cases ds with
    |nil=>exact Al h2
    |cons d ds =>
     cases d with
     |int j =>
      cases ds with
      |nil=>exact Al h2
      |cons d ds =>
       cases d with
       |int k =>
        cases ds with
        |nil=>exact⟨i,j,k,rfl⟩
        |cons _ _=>exact Al h2
       |_=>exact Al h2
     |_=>cases h2
   |_=>cases h2
 simp only at h2
 split at h2
 ·rename_i hc
  cases h2
  obtain⟨v1,v2,v3,rfl,x1,x2,x3⟩:=rs.three
  cases x1
  cases x2
  cases x3
  obtain⟨u1,u2,u3,rfl,⟨t1,rfl⟩,⟨t2,rfl⟩,⟨t3,rfl⟩⟩:=Au2 r1
  exact call_range_3 (by lia) (Aap I1 hc (q H1 _ _ sm V8 trivial)) (Azp (PyProof.noPylong_small (by lia)))
 ·exact Al h2
theorem Aut (hm:X.mg "range"=none) (ha:QL X [a,b,c] g) (hg:Gl X "range":=by unfold Gl;kernel_rfl) (hs':By a=true:=by rfl) (hs2':[b,c].all By=true:=by rfl):QW X tg (.Call (.Name "range" p) [a,b,c] [] pos) (Ael g):=⟨Aag hg hm ha.out (Ax hs') (El hs2')⟩
noncomputable def Ui:D->D->MH->Option D
 |.bl c,.bl d,_=>some (.bl (c != d))
 |_,_,_=>none
theorem Ada:OpM X (compareOp .IsNot) Ui:=by
 intro pins s σ H μ m x y z v u v' u' Q I S rx ry r1 r2 e q
 cases rx<;>first|exact Al e|skip
 cases ry<;>first|exact Al e|skip
 cases e
 cases r1
 cases r2
 exact isnot_bool ⟨.bl _,H,I,rfl,q _ H (Same.refl H) (.bl _)⟩
end
open Classical
noncomputable section
theorem Aar (r:Al2 o u):o.isSome=u.isSome:=by
 cases o<;>cases u<;>first|rfl|exact (show False from r).elim
section
variable {X:Cx}{pins:List (Addr×Obj)}{σ:St}{H:Hp}{s:Shared}{a:Addr}
theorem Ai0 (I:Inv X pins σ H s):sysModules < s.heap.objs.size:=by
 have h:mainGlobals < s.heap.objs.size:=(I.mod.glob.keeps I.bk).lt
 exact Nat.lt_trans (by decide) h
end
section
variable {K:W.Frag}{H:Hp}{μ:List Addr}{B:Addr->Prop}
end
section
variable {X:Cx}{a b c e:Expr}{es:List Expr}{pos p p':Pos}{x:Str}
end
section
variable {X:Cx}{a b c e:Expr}{es:List Expr}{pos p p':Pos}{x:Str}
end
end
end ML
end L2
end S_ML12
section S_ML15
namespace L2
namespace ML
open PySem PySem.Spec PyProof.Rows
namespace RV
theorem N1:Manifest.owners.lookup (String.ofList ['d','e','s','r','e','v','e','r'].reverse)=some Manifest.sig_reversed:=by kernel_rfl
theorem slot_next:Slot "reversed" "__next__" "reversed.__next__" :=
 .of (owner:="reversed") (n:="__next__") (by rw[Ay8,Ayo];kernel_rfl) (by decide +kernel) (by decide +kernel) (by decide +kernel)
  (by first|exact .inl (by decide +kernel)|exact .inr (by decide +kernel)) (by rw[Az6];kernel_rfl)
theorem Ml:entryFor table "reversed.__next__"=some Builtin.«reversed.__next__»:=entryFor_of_tree (by kernel_rfl)
theorem Oy (a:Value):argsOk "reversed.__next__" ⟨[a],[]⟩:=by
 unfold argsOk;rw[signature?_of (id:="reversed.__next__") (n:=['_','_','t','x','e','n','_','_']) (o:=['d','e','s','r','e','v','e','r']) (by kernel_rfl) N1];kernel_rfl
theorem slot_hint:Slot "reversed" "__length_hint__" "reversed.__length_hint__" :=
 .of (owner:="reversed") (n:="__length_hint__") (by rw[Ay8,Ayo];kernel_rfl) (by decide +kernel) (by decide +kernel) (by decide +kernel)
  (by first|exact .inl (by decide +kernel)|exact .inr (by decide +kernel)) (by rw[Az6];kernel_rfl)
theorem Ve:entryFor table "reversed.__length_hint__"=some Builtin.«reversed.__length_hint__»:=entryFor_of_tree (by kernel_rfl)
theorem Xs (a:Value):argsOk "reversed.__length_hint__" ⟨[a],[]⟩:=by
 unfold argsOk;rw[signature?_of (id:="reversed.__length_hint__") (n:=['_','_','t','n','i','h','_','h','t','g','n','e','l','_','_']) (o:=['d','e','s','r','e','v','e','r']) (by kernel_rfl) N1];kernel_rfl
theorem Rc:Slot "reversed" "__iter__" "reversed.__iter__" :=
 .of (owner:="reversed") (n:="__iter__") (by rw[Ay8,Ayo];kernel_rfl) (by decide +kernel) (by decide +kernel) (by decide +kernel)
  (by first|exact .inl (by decide +kernel)|exact .inr (by decide +kernel)) (by rw[Az6];kernel_rfl)
theorem Xt (a:Value):argsOk "reversed.__iter__" ⟨[a],[]⟩:=by
 unfold argsOk;rw[signature?_of (id:="reversed.__iter__") (n:=['_','_','r','e','t','i','_','_']) (o:=['d','e','s','r','e','v','e','r']) (by kernel_rfl) N1];kernel_rfl
theorem Vf:entryFor table "reversed.__iter__"=some Builtin.«dict_keyiterator.__iter__» :=
 entryFor_alias (id':="dict_keyiterator.__iter__") (by kernel_rfl) (by first|rfl|decide +kernel|(unfold String.splitOn;simp +decide [String.splitOnAux])) (by decide +kernel) (by kernel_rfl)
theorem Zd:typeLookup (.type "reversed") "__len__"=pure none:=by rw[Ay8,Ayo];kernel_rfl
theorem Xe:typeLookup (.type "tuple") "__reversed__"=pure none:=by rw[Ay8,Ayo];kernel_rfl
theorem Mc:isSubtype (.type "tuple") (.type "dict")=pure false:=by rw[Az6];kernel_rfl
noncomputable def obj (t:Addr) (i:Int):Obj:={ cls:=.type "reversed",data:=.fields #[.ref t,rawInt i] }
def Is (h:Heap) (a t:Addr) (i:Int):Prop:=∃ o,h.get? a=some o/\o.cls=.type "reversed"/\o.data=.fields #[.ref t,rawInt i]
theorem Is.at {a t:Addr} (x:Is h a t i) (e:∀ o,h.get? a=some o->h'.get? a=some o):Is h' a t i:=let ⟨o,ho,r⟩:=x;⟨o,e _ ho,r⟩
section
variable {prog:Program}{w:World}{A:Around}{E:Value->Shared->Prop}{s:Shared}
theorem Is.typeIs {a t:Addr} (x:Is s.heap a t i):s.TypeIs (.ref a) "reversed":=let ⟨o,ho,hc,_⟩:=x;⟨o,ho,hc⟩
theorem Anp:TypeCalled "reversed" "reversed.__new__" "object.__init__" :=
 ⟨by decide +kernel,F.create_reversed,⟨_,_,F.mro_reversed⟩,F.made_reversed,by decide +kernel,F.sub_reversed_self,
  .of (owner:="object") (n:="__init__") (by rw[Ay8,Ayo];kernel_rfl) (by decide +kernel) (by decide +kernel) (by decide +kernel)
   (by first|exact .inl (by decide +kernel)|exact .inr (by decide +kernel)) (by rw[Az6];kernel_rfl)⟩
theorem Y5 (t:Addr) (items:Array Value) (hfit:(items.size:Int) < 2 ^ 63) :
  Meets (Builtin.«reversed.__new__» ⟨[.type "reversed",.ref t],[]⟩) (fun _ R s=>IsTup s.heap t items/\R (.ok (.ret (.ref s.heap.objs.size))) { s with heap:=s.heap.push (obj t ((items.size:Int) - 1)),toks:=s.toks+1+1 }) :=
 .of_wp fun prog w A R s h=>by
 obtain⟨ht,h⟩:=h
 unfold Builtin.«reversed.__new__»
 refine Axh (Az4 (newClass_reversed _) ?_)
 try dsimp only
 refine Axh (Az4 (a:=()) (by first|rfl|kernel_rfl) ?_)
 refine Axh (Az4 (a:=()) (by first|rfl|kernel_rfl) ?_)
 try dsimp only
 refine Axh (Ayy ht.typeIs Xe ?_)
 try dsimp only
 refine Axh (Axh (Baa (T:="tuple") (b:=false) ht.typeIs Mc ?_))
 refine Ayh (fun hab=>absurd hab (by decide)) (fun _=>?_)
 refine Axh (Ayy ht.typeIs slot_tuple_getitem.lookup ?_)
 show wpAny _ _ (if _ then _ else _) _ _ s
 refine Ayh (fun _=>?_) (fun hab=>absurd (by decide +kernel) hab)
 refine Axo ?_
 refine Ayh (fun hab=>absurd hab (by decide)) (fun _=>?_)
 refine Axh (len_tuple ht hfit ?_)
 refine Axh (m:=asInt? _) (Axo ?_)
 refine Axh (m:=newObj (.type "reversed") (.fields #[.ref t,rawInt ((items.size:Int) - 1)])) (Ayq ?_)
 first|exact Axo ⟨_,rfl,h⟩|exact Axo h
theorem call_new {t:Addr} (ht:IsTup s.heap t items) (hfit:(items.size:Int) < 2 ^ 63) (h:Q (.ref s.heap.objs.size) { s with heap:=s.heap.push (obj t ((items.size:Int) - 1)),toks:=s.toks+1+1 }):wpAny (model prog w) A (call (.type "reversed") [.ref t]) Q E s :=
 callType_new Anp (by decide) (F.typeCall_reversed_1 _) (F.newCall_reversed_1 _) (fun obj=>F.args_object_init_2 obj _) F.entry_reversed_new
  (Y5 t items hfit) ⟨ht,⟨_,Axw _ rfl,rfl⟩,h⟩
theorem Za {it t:Addr}{i:Nat}{items:Array Value}{x:Value}{Q:Option Value->Shared->Prop} (hit:Is s.heap it t (i:Int)) (ht:IsTup s.heap t items) (hfit:(items.size:Int) < 2 ^ 63) (hx:items[i]?=some x)
  (hQ:∀ h',Is h' it t ((i:Int) - 1)->Heap.SameBut it s.heap h'->Q (some x) { s with heap:=h',toks:=s.toks+1 }):wpAny (model prog w) A (pyNext (.ref it)) Q E s:=by
 obtain⟨o,ho,hc,hd⟩:=id hit
 unfold pyNext
 refine Axh (wpAny_attempt (Azz (name:=Str.ofString "__next__") hit.typeIs slot_next
  (Aza slot_next hit.typeIs Ml ?_ (Oy _))))
 unfold Builtin.«reversed.__next__»
 refine Axh (Az4 (a:=(Value.ref it,[])) rfl ?_)
 try dsimp only
 refine Axh (Azn ho hd (x:=.ref t) rfl ?_)
 refine Axh (Azn ho hd (x:=rawInt (i:Int)) rfl ?_)
 show wpAny _ _ (if (i:Int) < 0 then _ else _) _ _ s
 rw[Axy (by lia)]
 refine Axh (Ayy ht.typeIs slot_tuple_getitem.lookup ?_)
 refine Ayh (fun hab=>absurd hab (by decide)) (fun _=>?_)
 refine Axh (wpAny_mkInt ?_)
 have hlt:i < items.size:=by
  have:=Array.getElem?_eq_some_iff.mp hx
  exact this.1
 refine Axh (wpAny_attempt (getItem_tuple (j:=i) ht (by lia) (by lia) (by unfold seqIndex?;simp<;>lia) hx ?_))
 refine Axh (Azn ho hd (x:=rawInt (i:Int)) rfl ?_)
 show wpAny _ _ (setField (.ref it) 1 (rawInt ((i:Int) - 1)) >>= _) _ _ _
 refine Axh (wpAny_setField ho hd (by simp) ?_)
 refine Axo ⟨x,rfl,Axo (hQ _ ?_ (Heap.SameBut.update ..))⟩
 exact⟨_,Ayz _ ho (Obj.isFreed_of_fields (Bal hd _)),(Obj.cls_mapFields ..).trans hc,by
  rw[Bal hd];simp⟩
theorem Ac4 {it t:Addr} (hh:A.handled=none) (hit:Is s.heap it t (-1)) (hQ:∀ h',Heap.ExtBut it s.heap h'->Q none { s with heap:=h' }):wpAny (model prog w) A (pyNext (.ref it)) Q E s:=by
 obtain⟨o,ho,hc,hd⟩:=id hit
 unfold pyNext
 refine Axh (wpAny_attempt (Azz (name:=Str.ofString "__next__") hit.typeIs slot_next
  (Aza slot_next hit.typeIs Ml ?_ (Oy _))))
 unfold Builtin.«reversed.__next__»
 refine Axh (Az4 (a:=(Value.ref it,[])) rfl ?_)
 try dsimp only
 refine Axh (Azn ho hd (x:=.ref t) rfl ?_)
 refine Axh (Azn ho hd (x:=rawInt (-1)) rfl ?_)
 show wpAny _ _ (if (-1:Int) < 0 then _ else _) _ _ s
 rw[Axv (by decide)]
 refine Axh (wpAny_rule ?_)
 refine Axh ?_
 refine Axh (wpAny_setField ho hd (by simp) ?_)
 have ho1:=Ayz (Obj.mapFields (·.setIfInBounds 1 (rawInt (-1)))) ho (Obj.isFreed_of_fields (Bal hd _))
 have hd1:=Bal hd (·.setIfInBounds 1 (rawInt (-1)))
 refine wpAny_setField ho1 hd1 (by simp) ?_
 first
 |show wpAny _ _ (newExc (.type "StopIteration") [] >>= _) _ _ _
 |(refine Axh ?_;show wpAny _ _ (newExc (.type "StopIteration") [] >>= _) _ _ _)
 refine Axh ?_
 simp only[newExc,newTuple]
 refine Axh (Ayq ?_ (by size_fits))
 refine Axh (m:=firstArgMember _ _) (Az4 (a:=Value.none) (by first|rfl|(simp only[firstArgMember];rfl)) ?_)
 refine Ayq ?_ (by size_fits)
 simp only[raiseNew]
 refine Axh (wpAny_handled ?_)
 first|rw[show A.in1.handled=none from hh]|rw[hh]
 refine Axh (Axo (wpAny_throw ?_))
 refine Axh (Baa (T:="StopIteration") (b:=true) ⟨_,Axw _ rfl,rfl⟩ isSubtype_stop ?_)
 refine Axo (hQ _ (Heap.ExtBut.push (Heap.ExtBut.push ?_ _) _))
 intro b ob hb e
 exact (Ax2 _ _ (Ayw hb)).trans ((Ax2 _ _ (Ayw hb)).trans e)
theorem Akw {it t:Addr} (hit:Is s.heap it t i) (h:Q (.ref it) s):wpAny (model prog w) A (pyIter (.ref it)) Q E s:=by
 refine wpAny_pyIter_slot hit.typeIs Rc (Aza Rc hit.typeIs Vf ?_ (Xt _))
 show wpAny _ _ (ret (.ref it)) _ _ s
 exact Axo ⟨_,rfl,"reversed",_,hit.typeIs,slot_next.lookup,h⟩
theorem hint {it t:Addr} (hit:Is s.heap it t ((items.size:Int) - 1)) (ht:IsTup s.heap t items) (hz:items.size<=sizeLine) (hQ:∀ tk,s.toks<=tk->Q ((items.size:Int) != 0) { s with toks:=tk }):wpAny (model prog w) A (Builtin.List.listLengthHint (.ref it)) Q E s:=by
 have hz':items.size<=2 ^ 24:=hz
 obtain⟨o,ho,hc,hd⟩:=id hit
 unfold Builtin.List.listLengthHint
 refine Axh (Ayy hit.typeIs Zd ?_)
 refine Ayh (fun hab=>absurd hab (by decide)) (fun _=>?_)
 refine Ayh (fun hab=>absurd hab (by decide)) (fun _=>?_)
 refine Axh (Ayy hit.typeIs slot_hint.lookup ?_)
 generalize hid:("reversed.__length_hint__":String)=id0
 wp_delta
 rw[show splitId id0=some ("reversed","__length_hint__") from by subst hid;decide +kernel]
 subst hid
 refine Axh (Baa (b:=true) hit.typeIs F.sub_reversed_self ?_)
 refine Ayh (fun hab=>absurd hab (by decide)) (fun _=>?_)
 refine Ayh (fun hab=>absurd hab (by decide +kernel)) (fun _=>?_)
 refine Axh (wpAny_rule ?_)
 refine Axh (Az4 (slot_hint.bind _) ?_)
 try dsimp only
 refine Axh (wpAny_attempt (Aza slot_hint hit.typeIs Ve ?_ (Xs _)))
 unfold Builtin.«reversed.__length_hint__»
 refine Axh (Az4 (a:=Value.ref it) rfl ?_)
 refine Axh (Azn ho hd (x:=.ref t) rfl ?_)
 refine Ayh (fun hab=>absurd (show false=true from hab) Ax8) (fun _=>?_)
 refine Axh (len_tuple ht (by lia) ?_)
 refine Axh (m:=asInt? _) (Axo ?_)
 refine Axh (Azn ho hd (x:=rawInt ((items.size:Int) - 1)) rfl ?_)
 show wpAny _ _ (if (items.size:Int) < (items.size:Int) - 1+1 then _ else _) _ _ _
 rw[Axy (by lia)]
 refine Axh (wpAny_mkInt (Axo ⟨_,rfl,?_⟩))
 refine Axh (m:=asInt? _) (Axo ?_)
 have e1:(items.size:Int) - 1+1=(items.size:Int):=by lia
 have e2:(items.size:Int) - 1 - ((0:Nat):Int)=(items.size:Int) - 1:=by lia
 rw[e1]
 have hfi:Builtin.List.listFitsIndex (items.size:Int)=true:=by simp[Builtin.List.listFitsIndex];lia
 have htl:Builtin.List.listTooLong ((items.size:Int).toNat)=false:=by simp[Builtin.List.listTooLong,sizeLine];lia
 have hneg:¬ ((items.size:Int) < 0):=by lia
 simp only[hfi,htl,hneg,Baj,Ayx,Bah]
 exact Axo (hQ _ (by show s.toks<=_;lia))
theorem Art (hh:A.handled=none) (I t:Addr) (hne:t≠I) (items:Array Value) (hfit:(items.size:Int) < 2 ^ 63) :
  Walks prog w A I [I,t] [I] items.size (fun i v=>items[items.size - 1 - i]?=some v) (fun i h=>i<=items.size/\Is h I t ((items.size:Int) - 1 - (i:Int))/\IsTup h t items) where
 sub:=fun b hb=>by simp at hb;simp[hb]
 frame:=fun _ _ _ x hk=>⟨x.1,x.2.1.at fun o e=>hk I (by simp) o e,let ⟨o,ho,r⟩:=x.2.2;⟨o,hk t (by simp) o ho,r⟩⟩
 item:=fun i s Q E hi x hQ=>by
  have e:(items.size:Int) - 1 - (i:Int)=((items.size - 1 - i:Nat):Int):=by lia
  have hit:=x.2.1
  rw[e] at hit
  have hx:items[items.size - 1 - i]?=some (items[items.size - 1 - i]'(by lia)):=Bad (by lia)
  refine Za hit x.2.2 hfit hx fun h' hit' hs'=>?_
  have e2:((items.size - 1 - i:Nat):Int) - 1=(items.size:Int) - 1 - ((i+1:Nat):Int):=by lia
  rw[e2] at hit'
  exact hQ _ h' (s.toks+1) hx ⟨hi,hit',let ⟨o,ho,r⟩:=x.2.2;⟨o,(hs'.2 t hne).trans ho,r⟩⟩ fun b o hb eo=>hs'.extBut b o (fun h=>hb (by simp[h])) eo
 done:=fun s Q E x hQ=>by
  have e:(items.size:Int) - 1 - (items.size:Int)=-1:=by lia
  have hit:=x.2.1
  rw[e] at hit
  exact Ac4 hh hit fun h' he'=>hQ h' s.toks fun b o hb eo=>he' b o (fun h=>hb (by simp[h])) eo
 self:=fun _ _ _ _ x hQ=>Akw x.2.1 hQ
end
section
variable {prog:Program}{w:World}{A:Around}{s:Shared}{R:Result->Shared->Prop}
theorem Moved.tk {s s':Shared}{tk:Nat} (h:s.toks<=tk) (m:Moved wr G { s with toks:=tk } s'):Moved wr G s s':=⟨m.heap,m.gens,m.drawn,m.os,Ax7 h m.toks⟩
theorem T2 {I t:Addr} (hh:A.handled=none) (hne:t≠I) (hz:items.size<=sizeLine) (S:Addr) (res:Value) (c₀:Nat) (hit:Is s.heap I t ((items.size:Int) - 1)) (ht:IsTup s.heap t items) (hSI:S≠I) (hSt:S≠t) (hS:s.heap.get? S=some { cls:=.type "list",data:=.seq #[] c₀ }) (hR:∀ s' acc' c',Moved [S,I] (fun a b=>b=a) s s'->s'.heap.get? S=some { cls:=.type "list",dict:=none,data:=.seq acc' c',slots:=#[] }->ItemsOf (fun i v=>items[items.size - 1 - i]?=some v) acc' items.size->R (.ok (.ret res)) s') :
  wpAny (model prog w) A.in1 (Builtin.List.listExtendWith (.ref S) (.ref I) res)
   (fun fin s'=>match fin with|.done f=>R (.ok f) s'|.again c'=>c'.quiet=true/\codeAny (model prog w) A c' R s') (fun e s'=>R (.error e) s') s:=by
 have hz':items.size<=2 ^ 24:=hz
 have W:=(Art (prog:=prog) (w:=w) (A:=A.in1) hh I t hne items (by lia)).toS
 have hSf:S∉[I,t]:=by simp[hSI,hSt]
 have e2:(items.size:Int) - 1 - ((0:Nat):Int)=(items.size:Int) - 1:=by lia
 have hst:(0<=items.size/\Is s.heap I t ((items.size:Int) - 1 - ((0:Nat):Int))/\IsTup s.heap t items):=⟨Ax9 _,by rw[e2];exact hit,ht⟩
 unfold Builtin.List.listExtendWith
 refine Axh (Azl hit.typeIs ?_)
 have h1:Builtin.List.listSameRef (.ref S) (.ref I)=false:=by simp[Builtin.List.listSameRef,hSI]
 have h2:(Value.type "reversed" == Value.type "list")=false:=by decide
 have h3:(Value.type "reversed" == Value.type "tuple")=false:=by decide
 simp only[h1,h2,h3,Bool.or_false,Ayx,Bah]
 refine Axh (W.self 0 _ _ _ hst ?_)
 refine Axh (Ay5 (hint hit ht hz fun tk htk=>?_))
 cases hb:((items.size:Int) != 0)
 ·refine Ayh (fun hab=>absurd hab (by decide +kernel)) (fun _=>?_)
  refine Axo ⟨plainId_quiet F.plain_extend_loop _,codeAny_extend_loopS W hz _ hSf _ items.size 0 _ _ _ rfl (Ax9 _) hst hS (ItemsOf.nil _) fun s' acc' c' hm hS' hacc=>?_⟩
  exact hR s' acc' c' (Moved.tk htk hm) hS' hacc
 show wpAny _ A.in1 (rule "list.extend.makes-room" >>= fun _=>Builtin.List.listTouch (.ref S) >>= fun _ =>
  again (.builtin "list.extend.loop" ⟨[.ref S,.ref I,res],[]⟩)) _ _ _
 refine Axh (wpAny_rule ?_)
 refine Axh ?_
 show wpAny _ A.in1 (updateSeq S (·.push .none) >>= fun _=>updateSeq S (·.pop)) _ _ _
 refine Axh (Bae hS rfl ?_)
 have hS₂:=Ayz (Obj.mapSeq (·.push Value.none)) hS rfl
 refine Bae (hz:=by seq_fits) hS₂ rfl ?_
 have hS₃:=Ayz (Obj.mapSeq (·.pop)) hS₂ rfl
 have oth:∀ b o,b≠S->s.heap.get? b=some o->((s.heap.update S (Obj.mapSeq (·.push Value.none))).update S (Obj.mapSeq (·.pop))).get? b=some o :=
  fun b o hb e=>(Ax2 _ _ (Ayw hb)).trans ((Ax2 _ _ (Ayw hb)).trans e)
 refine Axo ⟨plainId_quiet F.plain_extend_loop _,codeAny_extend_loopS W hz _ hSf _ items.size 0 _ _ _ rfl (Ax9 _)
  (W.frame 0 s _ tk hst htk fun b hb o e=>oth b o (fun h=>hSf (h ▸ hb)) e) hS₃ (ItemsOf.nil _) fun s' acc' c' hm hS' hacc=>?_⟩
 exact hR s' acc' c' ⟨fun b o hb e=>hm.heap b o hb (oth b o (fun h=>hb (by rw[h];exact Axn)) e),hm.gens,hm.drawn,hm.os,Ax7 htk hm.toks⟩ hS' hacc
theorem At7 {I t:Addr} (hh:A.handled=none) (hne:t≠I) (hz:items.size<=sizeLine) (S:Addr) (hit:Is s.heap I t ((items.size:Int) - 1)) (ht:IsTup s.heap t items) (hSI:S≠I) (hSt:S≠t) (hS:s.heap.get? S=some { cls:=.type "list",data:=.seq #[] }) (hR:∀ s' acc' c',Moved [S,I] (fun a b=>b=a) s s'->s'.heap.get? S=some { cls:=.type "list",dict:=none,data:=.seq acc' c',slots:=#[] }->ItemsOf (fun i v=>items[items.size - 1 - i]?=some v) acc' items.size->R (.ok (.ret .none)) s') :
  wpAny (model prog w) A.in1 (Builtin.«list.__init__» ⟨[.ref S,.ref I],[]⟩)
   (fun fin s'=>match fin with|.done f=>R (.ok f) s'|.again c'=>c'.quiet=true/\codeAny (model prog w) A c' R s') (fun e s'=>R (.error e) s') s:=by
 show wpAny _ A.in1 (do let old <- Builtin.List.listItems (.ref S);Builtin.List.listUpdate (.ref S) (fun _=>#[]);letGo old.toList.reverse;Builtin.List.listExtendWith (.ref S) (.ref I) .none) _ _ s
 refine Axh ?_
 unfold Builtin.List.listItems
 refine Axh (Az5 hS rfl (Axo ?_))
 show wpAny _ A.in1 (updateSeq S (fun _=>#[]) >>= fun _=>letGo (#[]:Array Value).toList.reverse >>= fun _=>Builtin.List.listExtendWith (.ref S) (.ref I) .none) _ _ s
 refine Axh (Bae hS rfl ?_)
 have hS₂:=Ayz (Obj.mapSeq (fun _=>(#[]:Array Value))) hS rfl
 have oth:∀ b o,b≠S->s.heap.get? b=some o->(s.heap.update S (Obj.mapSeq (fun _=>(#[]:Array Value)))).get? b=some o :=
  fun b o hb e=>(Ax2 _ _ (Ayw hb)).trans e
 refine Axh (wpAny_letGo ?_)
 refine T2 hh hne hz S .none _ (hit.at fun o e=>oth I o (Ayw hSI) e) (let ⟨o,ho,r⟩:=ht;⟨o,oth t o (Ayw hSt) ho,r⟩) hSI hSt hS₂ fun s' acc' c' hm hS' hacc=>?_
 exact hR s' acc' c' ⟨fun b o hb e=>hm.heap b o hb (oth b o (fun h=>hb (by rw[h];exact Axn)) e),hm.gens,hm.drawn,hm.os,hm.toks⟩ hS' hacc
end
section
variable {prog:Program}{w:World}{A:Around}{E:Value->Shared->Prop}{s:Shared}
theorem call_list {I t:Addr} (hh:A.handled=none) (hne:t≠I) (hz:items.size<=sizeLine) (hit:Is s.heap I t ((items.size:Int) - 1)) (ht:IsTup s.heap t items) (hQ:∀ s' acc' c',Moved [s.heap.objs.size,I] (fun a b=>b=a) { s with heap:=s.heap.push { cls:=.type "list",data:=.seq #[] } } s' ->
   s'.heap.get? s.heap.objs.size=some { cls:=.type "list",dict:=none,data:=.seq acc' c',slots:=#[] }->ItemsOf (fun i v=>items[items.size - 1 - i]?=some v) acc' items.size->Q (.ref s.heap.objs.size) s') :
  wpAny (model prog w) A (call (.type "list") [.ref I]) Q E s:=by
 have hIlt:I < s.heap.objs.size:=let ⟨o,ho,_⟩:=hit;Axm ho
 have htlt:t < s.heap.objs.size:=let ⟨o,ho,_⟩:=ht;Axm ho
 refine callType_codes (Q₁:=fun obj s₁=>obj=.ref s.heap.objs.size/\s₁={ s with heap:=s.heap.push { cls:=.type "list",data:=.seq #[] } }) F.called_list (F.typeCall_list_1 _) F.entry_list_init
  (code_list_new _ ⟨rfl,rfl⟩) fun obj s₁ h₁=>?_
 obtain⟨rfl,rfl⟩:=h₁
 have hS:(s.heap.push { cls:=.type "list",data:=.seq #[] }).get? s.heap.objs.size=some { cls:=.type "list",data:=.seq #[] }:=Axw _ rfl
 refine⟨⟨_,hS,rfl⟩,F.args_list_init_2 _ _,At7 (A:=A.in1) hh hne hz _ (hit.at fun o e=>Axi _ e) (let ⟨o,ho,r⟩:=ht;⟨o,Axi _ ho,r⟩) (Ayu hIlt) (Ayu htlt) hS fun s' acc' c' hm hS' hacc=>?_⟩
 exact⟨rfl,hQ s' acc' c' hm hS' hacc⟩
end
end RV
section
variable {X:Cx}{e:Expr}{pos pos' p p':Pos}
end
namespace RL
theorem Zd:typeLookup (.type "list_reverseiterator") "__len__"=pure none:=by rw[Ay8,Ayo];kernel_rfl
theorem Aoc:typeLookup (.type "list_reverseiterator") "__length_hint__"=pure (some (.builtin "list_reverseiterator.__length_hint__")):=by rw[Ay8,Ayo];kernel_rfl
section
variable {prog:Program}{w:World}{A:Around}{E:Value->Shared->Prop}{s:Shared}
theorem hint {it t:Addr} (hit:s.heap.IsRevIter it t i) (hQ:Q false s):wpAny (model prog w) A (Builtin.List.listLengthHint (.ref it)) Q E s:=by
 unfold Builtin.List.listLengthHint
 refine Axh (Ayy hit.typeIs Zd ?_)
 refine Ayh (fun hab=>absurd hab (by decide)) (fun _=>?_)
 refine Ayh (fun hab=>absurd hab (by decide)) (fun _=>?_)
 refine Axh (Ayy hit.typeIs Aoc ?_)
 generalize hid:("list_reverseiterator.__length_hint__":String)=id0
 wp_delta
 rw[show splitId id0=some ("list_reverseiterator","__length_hint__") from by subst hid;decide +kernel]
 subst hid
 refine Axh (Baa (b:=true) hit.typeIs (by rw[Az6];kernel_rfl) ?_)
 refine Ayh (fun hab=>absurd hab (by decide)) (fun _=>?_)
 refine Ayh (fun _=>?_) (fun hab=>absurd (by decide +kernel) hab)
 refine Ayh (fun hab=>absurd hab (by decide +kernel)) (fun _=>Axo hQ)
end
section
variable {prog:Program}{w:World}{A:Around}{s:Shared}{R:Result->Shared->Prop}
theorem T2 {I t:Addr} (hh:A.handled=none) (hne:t≠I) (hz:items.size<=sizeLine) (S:Addr) (res:Value) (c₀:Nat) (hit:s.heap.IsRevIter I t ((items.size:Int) - 1)) (ht:s.heap.IsList t items) (hSI:S≠I) (hSt:S≠t) (hS:s.heap.get? S=some { cls:=.type "list",data:=.seq #[] c₀ }) (hR:∀ s' acc' c',Moved [S,I] (fun a b=>b=a) s s'->s'.heap.get? S=some { cls:=.type "list",dict:=none,data:=.seq acc' c',slots:=#[] }->ItemsOf (fun i v=>items[items.size - 1 - i]?=some v) acc' items.size->R (.ok (.ret res)) s') :
  wpAny (model prog w) A.in1 (Builtin.List.listExtendWith (.ref S) (.ref I) res)
   (fun fin s'=>match fin with|.done f=>R (.ok f) s'|.again c'=>c'.quiet=true/\codeAny (model prog w) A c' R s') (fun e s'=>R (.error e) s') s:=by
 have hz':items.size<=2 ^ 24:=hz
 have W:=(Walks.listRev (prog:=prog) (w:=w) (A:=A.in1) hh I t hne items).toS
 have hSf:S∉[I,t]:=by simp[hSI,hSt]
 have e2:(items.size:Int) - 1 - ((0:Nat):Int)=(items.size:Int) - 1:=by lia
 have hst:(0<=items.size/\s.heap.IsRevIter I t ((items.size:Int) - 1 - ((0:Nat):Int))/\s.heap.IsList t items):=⟨Ax9 _,by rw[e2];exact hit,ht⟩
 unfold Builtin.List.listExtendWith
 refine Axh (Azl hit.typeIs ?_)
 have h1:Builtin.List.listSameRef (.ref S) (.ref I)=false:=by simp[Builtin.List.listSameRef,hSI]
 have h2:(Value.type "list_reverseiterator" == Value.type "list")=false:=by decide
 have h3:(Value.type "list_reverseiterator" == Value.type "tuple")=false:=by decide
 simp only[h1,h2,h3,Bool.or_false,Ayx,Bah]
 refine Axh (W.self 0 _ _ _ hst ?_)
 refine Axh (Ay5 (hint hit ?_))
 refine Ayh (fun hab=>absurd hab (by decide +kernel)) (fun _=>?_)
 refine Axo ⟨plainId_quiet F.plain_extend_loop _,codeAny_extend_loopS W hz _ hSf _ items.size 0 _ _ _ rfl (Ax9 _) hst hS (ItemsOf.nil _) fun s' acc' c' hm hS' hacc=>?_⟩
 exact hR s' acc' c' hm hS' hacc
theorem At7 {I t:Addr} (hh:A.handled=none) (hne:t≠I) (hz:items.size<=sizeLine) (S:Addr) (hit:s.heap.IsRevIter I t ((items.size:Int) - 1)) (ht:s.heap.IsList t items) (hSI:S≠I) (hSt:S≠t) (hS:s.heap.get? S=some { cls:=.type "list",data:=.seq #[] }) (hR:∀ s' acc' c',Moved [S,I] (fun a b=>b=a) s s'->s'.heap.get? S=some { cls:=.type "list",dict:=none,data:=.seq acc' c',slots:=#[] }->ItemsOf (fun i v=>items[items.size - 1 - i]?=some v) acc' items.size->R (.ok (.ret .none)) s') :
  wpAny (model prog w) A.in1 (Builtin.«list.__init__» ⟨[.ref S,.ref I],[]⟩)
   (fun fin s'=>match fin with|.done f=>R (.ok f) s'|.again c'=>c'.quiet=true/\codeAny (model prog w) A c' R s') (fun e s'=>R (.error e) s') s:=by
 show wpAny _ A.in1 (do let old <- Builtin.List.listItems (.ref S);Builtin.List.listUpdate (.ref S) (fun _=>#[]);letGo old.toList.reverse;Builtin.List.listExtendWith (.ref S) (.ref I) .none) _ _ s
 refine Axh ?_
 unfold Builtin.List.listItems
 refine Axh (Az5 hS rfl (Axo ?_))
 show wpAny _ A.in1 (updateSeq S (fun _=>#[]) >>= fun _=>letGo (#[]:Array Value).toList.reverse >>= fun _=>Builtin.List.listExtendWith (.ref S) (.ref I) .none) _ _ s
 refine Axh (Bae hS rfl ?_)
 have hS₂:=Ayz (Obj.mapSeq (fun _=>(#[]:Array Value))) hS rfl
 have oth:∀ b o,b≠S->s.heap.get? b=some o->(s.heap.update S (Obj.mapSeq (fun _=>(#[]:Array Value)))).get? b=some o :=
  fun b o hb e=>(Ax2 _ _ (Ayw hb)).trans e
 refine Axh (wpAny_letGo ?_)
 refine T2 hh hne hz S .none _ (hit.at fun o e=>oth I o (Ayw hSI) e) (ht.at fun o e=>oth t o (Ayw hSt) e) hSI hSt hS₂ fun s' acc' c' hm hS' hacc=>?_
 exact hR s' acc' c' ⟨fun b o hb e=>hm.heap b o hb (oth b o (fun h=>hb (by rw[h];exact Axn)) e),hm.gens,hm.drawn,hm.os,hm.toks⟩ hS' hacc
end
section
variable {prog:Program}{w:World}{A:Around}{E:Value->Shared->Prop}{s:Shared}
theorem call_list {I t:Addr} (hh:A.handled=none) (hne:t≠I) (hz:items.size<=sizeLine) (hit:s.heap.IsRevIter I t ((items.size:Int) - 1)) (ht:s.heap.IsList t items) (hQ:∀ s' acc' c',Moved [s.heap.objs.size,I] (fun a b=>b=a) { s with heap:=s.heap.push { cls:=.type "list",data:=.seq #[] } } s' ->
   s'.heap.get? s.heap.objs.size=some { cls:=.type "list",dict:=none,data:=.seq acc' c',slots:=#[] }->ItemsOf (fun i v=>items[items.size - 1 - i]?=some v) acc' items.size->Q (.ref s.heap.objs.size) s') :
  wpAny (model prog w) A (call (.type "list") [.ref I]) Q E s:=by
 have hIlt:I < s.heap.objs.size:=let ⟨o,ho,_⟩:=hit;Axm ho
 have htlt:t < s.heap.objs.size:=let ⟨o,ho,_⟩:=ht;Axm ho
 refine callType_codes (Q₁:=fun obj s₁=>obj=.ref s.heap.objs.size/\s₁={ s with heap:=s.heap.push { cls:=.type "list",data:=.seq #[] } }) F.called_list (F.typeCall_list_1 _) F.entry_list_init
  (code_list_new _ ⟨rfl,rfl⟩) fun obj s₁ h₁=>?_
 obtain⟨rfl,rfl⟩:=h₁
 have hS:(s.heap.push { cls:=.type "list",data:=.seq #[] }).get? s.heap.objs.size=some { cls:=.type "list",data:=.seq #[] }:=Axw _ rfl
 refine⟨⟨_,hS,rfl⟩,F.args_list_init_2 _ _,At7 (A:=A.in1) hh hne hz _ (hit.at fun o e=>Axi _ e) (ht.at fun o e=>Axi _ e) (Ayu hIlt) (Ayu htlt) hS fun s' acc' c' hm hS' hacc=>?_⟩
 exact⟨rfl,hQ s' acc' c' hm hS' hacc⟩
end
end RL
section
variable {X:Cx}{e:Expr}{pos pos' p p':Pos}
def Ac7:List D->MH->Option (List D):=fun xs m=>match xs with
 |[d]=>(sq m d).bind fun ds=>some ds.reverse
 |_=>none
theorem Pm {its:List Value}{acc':Array Value} (hacc:ItemsOf (fun i v=>its.toArray[its.toArray.size - 1 - i]?=some v) acc' its.toArray.size):acc'=its.reverse.toArray:=by
 refine Array.ext' ?_
 refine List.ext_getElem? fun j=>?_
 have hs:acc'.toList.length=its.length:=by have:=hacc.1;simpa using this
 by_cases hj:j < its.length
 ·have hj2:acc'.size=its.length:=by simpa using hs
  have hj':j < acc'.size:=by lia
  have h3:=hacc.2 j acc'[j] (Bad hj')
  rw[Array.getElem?_toList,Bad hj']
  rw[show its.reverse.toArray.toList=its.reverse from rfl,List.getElem?_reverse hj]
  simpa using h3.symm
 ·rw[Ayi (by lia),Ayi (by simp;lia)]
theorem Aat {pins:List (Addr×Obj)}{s1 s':Shared}{σ:St}{H1:Hp}{μ:List Addr}{ds:List D}{ys:List V}{its:List Value}{Q:VK}{o:Obj}{tk c':Nat}{acc':Array Value} (I1:Inv X pins σ H1 s1) (rs:Reps X.K H1 μ (·∈μ) ds ys) (ri:Vals ys its) (hz:ys.length<=sizeLine)
  (q:∀ a xs H',Same H1 H'->H1 a=none->H' a=some (.lst xs)->Reps X.K H' μ (nw μ a) ds.reverse xs->Q (.ref a) H')
  (hmv:Moved [(s1.heap.push o).objs.size,s1.heap.objs.size] (fun a b=>b=a) { s1 with heap:=(s1.heap.push o).push { cls:=.type "list",data:=.seq #[] },toks:=tk } s')
  (hS:s'.heap.get? (s1.heap.push o).objs.size=some { cls:=.type "list",dict:=none,data:=.seq acc' c',slots:=#[] })
  (hacc:ItemsOf (fun i v=>its.toArray[its.toArray.size - 1 - i]?=some v) acc' its.toArray.size):EP X pins σ Q (.ref (s1.heap.push o).objs.size) s':=by
 obtain⟨hp',g',d',tk',os'⟩:=s'
 have e1:g'=s1.gens:=hmv.gens
 have e2:d'=s1.drawn:=hmv.drawn
 have e3:os'=s1.os:=hmv.os
 subst e1 e2 e3
 have hacc':=Pm hacc
 subst hacc'
 have hSz:(s1.heap.push o).objs.size=s1.heap.objs.size+1:=Azu ..
 have hl:H1 (s1.heap.objs.size+1)=none:=I1.hok.fresh (Azw _)
 have kp:∀ b o,s1.heap.get? b=some o->hp'.get? b=some o:=fun b o e=>by
  have hb:=Axm e
  refine hmv.heap b o (fun z=>?_) (Axi _ (Axi _ e))
  rcases List.mem_cons.mp z with z|z
  ·have z':b=s1.heap.objs.size+1:=z.trans hSz
   rw[z'] at hb
   exact absurd hb (Nat.not_lt.mpr (Azw _))
  ·have z':b=s1.heap.objs.size:=List.mem_singleton.mp z
   rw[z'] at hb
   exact Ayd _ hb
 rw[hSz] at hS ⊢
 exact⟨.ref (s1.heap.objs.size+1),upd H1 (s1.heap.objs.size+1) (.lst ys.reverse),I1.laid (t':=tk') kp (Azw _) (show ObjOk X.prog X.w X.K _ hp' _ (.lst ys.reverse) from ⟨by simpa using hz,its.reverse,c',ri.reverse,hS⟩),rfl,
  q _ ys.reverse _ (Bf hl) hl Bn (rs.reverse.fresh hl)⟩
theorem Aj4 (hc:X.calm=true) (hg:Gl X "list") (hm:X.mg "list"=none) (hg':Gl X "reversed") (hm':X.mg "reversed"=none) (ha:PL X [e] g) (he:starEach [e] X.env=(false,eval e X.env)::starEach [] X.env) :
  PF X (.Call (.Name "list" p) [.Call (.Name "reversed" p') [e] [] pos'] [] pos) (Bt Ac7 g):=by
 intro pins s σ H Q I h
 obtain⟨env,μ,m,d,S,E,h,q⟩:=h
 obtain⟨xs,h1,h2⟩:=bind_some h
 refine Ayj (Dv I hg hm boot_list ?_ (by decide) (by decide))
 refine PyProof.Rows.callWith_type1 ?_ rfl rfl
 show wpAny _ _ (spliced ((false,eval (.Call (.Name "reversed" p') [e] [] pos') X.env)::backTo pos (starEach [] X.env))) _ _ s
 refine Calls.spliced_cons ?_
 refine Ayj (Dv I hg' hm' boot_reversed ?_ (by decide) (by decide))
 refine PyProof.Rows.callWith_type1 (thn (ha pos' pins s σ H (fun vs H1=>Same H H1/\Reps X.K H1 μ (·∈μ) xs vs) I ⟨env,μ,m,xs,S,E,h1,fun v H1 s1 r1=>⟨s1,r1⟩⟩) fun us s1 ⟨vs,H1,I1,r1,s1',rx⟩=>?_) he rfl
 match xs,h2 with
 |[d],h2 =>
  obtain⟨ds,h3,h4⟩:=bind_some h2
  cases h4
  obtain⟨v,rfl,r⟩:=rx.one
  obtain⟨a,ys,rfl,hq,rs⟩:=Nb (S.same s1') r h3
  obtain⟨u,rfl,r2⟩:=Iy r1
  cases r2
  have q':∀ a xs H',Same H1 H'->H1 a=none->H' a=some (.lst xs)->Reps X.K H' μ (nw μ a) ds.reverse xs->Q (.ref a) H':=fun a xs H' s2 hn hx rr=>q a xs H' (s1'.trans s2) (s1'.free hn) hx rr
  rcases hq with hq|hq
  ·obtain⟨its,ri,pl,hz⟩:=I1.list hq
   have hlen:=ri.length
   have hsz:its.toArray.size<=sizeLine:=by simp only[Axk];lia
   have hil:=pl.isList
   have hne:a≠s1.heap.objs.size:=Ax5 (by obtain⟨o,e,_⟩:=hil;exact Axm e)
   refine call_reversed_list hil ?_
   refine Calls.spliced_nil ?_
   exact RL.call_list (I.ok.hd hc) hne hsz ⟨_,Axw _ rfl,rfl,rfl⟩ (hil.at fun o e=>Axi _ e) fun s' acc' c' hmv hS hacc=>Aat I1 rs ri hz q' hmv hS hacc
  ·obtain⟨its,ri,pl,hz⟩:=I1.tuple hq
   have hlen:=ri.length
   have hz':ys.length<=2 ^ 24:=hz
   have hsz:its.toArray.size<=sizeLine:=by simp only[Axk];lia
   have hne:a≠s1.heap.objs.size:=Ax5 (by obtain⟨o,e,_⟩:=pl;exact Axm e)
   refine RV.call_new pl (by simp only[Axk];lia) ?_
   refine Calls.spliced_nil ?_
   exact RV.call_list (I.ok.hd hc) hne hsz ⟨_,Axw _ rfl,rfl,rfl⟩ (let ⟨o,ho,r⟩:=pl;⟨o,Axi _ ho,r⟩) fun s' acc' c' hmv hS hacc=>Aat I1 rs ri hz q' hmv hS hacc
theorem Atv (hc:X.calm=true) (hm:X.mg "list"=none) (hm':X.mg "reversed"=none) (ha:QL X [e] g) (hg:Gl X "list":=by unfold Gl;kernel_rfl) (hg':Gl X "reversed":=by unfold Gl;kernel_rfl) (he':By e=true:=by rfl) :
  QF X (.Call (.Name "list" p) [.Call (.Name "reversed" p') [e] [] pos'] [] pos) (Bt Ac7 g):=⟨Aj4 hc hg hm hg' hm' ha.out (Ax he')⟩
end
section
variable {X:Cx}{a e:Expr}{apos cpos:Pos}
end
section
variable {X:Cx}{a e:Expr}{apos cpos spos:Pos}
noncomputable def Ajd:List D->List D->Option (List D):=fun ds es=>match es with
 |[.lst zs]=>if ds.length+zs.length<=1000000 then some (ds++zs) else none
 |_=>none
def Aq4 (K:W.Frag):V->List V->Hp->VK->Prop:=fun x vs H Q=>∃ l b xs zs,x=.ref l/\vs=[.ref b]/\H l=some (.lst xs)/\SqL K H b zs/\xs.length+zs.length<=sizeLine/\Q .non (upd H l (.lst (xs++zs)))
theorem Aja:MtM X "list.extend" (Aq4 X.K):=by
 intro pins s σ H x vs v us Q I rx rv h
 obtain⟨l,b,xs,zs,rfl,rfl,hH,hB,hz,q⟩:=h
 cases rx
 obtain⟨u,rfl,ru⟩:=rv.one
 cases ru
 obtain⟨z,its,n,r,hl,e⟩:=I.lstM hH
 obtain⟨its2,r2,⟨o2,n2,e2,hc2⟩,z2⟩:=I.list hB
 have hl2:=r2.length
 have hsz:its.toArray.size+its2.toArray.size<=sizeLine:=by rw[Axk,Axk];lia
 have hlong:¬ (!its.toArray.isEmpty&&Builtin.List.listTooLong (its.toArray.size+its2.toArray.size))=true:=by
  rw[Ac5 hsz,Bool.and_false]
  exact Ax8
 obtain⟨hc2,hd2,hs2⟩:=hc2
 refine Aza F.slot_list_extend ⟨_,e,rfl⟩ F.entry_list_extend ?_ (F.args_list_extend_2 _ _)
 show wpAny _ _ (Builtin.List.listExtendWith (.ref l) (.ref b) .none) _ _ s
 unfold Builtin.List.listExtendWith
 refine Axh (Azl ⟨o2,e2,hc2⟩ ?_)
 rw[Axv (by simp)]
 unfold Builtin.List.listItems
 refine Axh (Axh (Az5 e2 hs2 (Axo ?_)))
 refine Axh (Axh (Az5 e rfl (Axo ?_)))
 rw[Axy hlong]
 refine Axh (Bae (hz:=by simp only[Axk,Array.size_append];lia) e rfl ?_)
 refine Axo ⟨_,rfl,?_⟩
 refine⟨.non,_,I.lset (its':=its++its2) hH e (by simp) (r.append r2) ?_,rfl,q⟩
 rw[Axt]
 lia
theorem Aos:Al0 X (Aq4 X.K) Ajd:=fun μ H a xs vs ds es fs Q h1 ha rs re h q=>by
 obtain⟨d,rfl⟩:=Afq (o:=fun es=>Ajd ds es) rfl (fun a _ _=>by cases a<;>rfl) h
 obtain⟨v,rfl,r⟩:=re.one
 cases r with
 |@lst zs b zs' hb hn rz =>
  unfold Ajd at h
  simp only at h
  split at h
  ·rename_i hl
   cases h
   exact⟨a,b,xs,zs',rfl,rfl,h1,.inl hb,by rw[<- rs.length,<- rz.length];have:sizeLine=16777216:=Ay3;lia,q _ (rs.append rz)⟩
  ·cases h
 |_=>exact Al h
theorem Af4 (hf:QD X a f) (ha:QL X [e] g) (hbase':Pw a=true:=by rfl) (hline:(apos.endLine == cpos.line)=true:=by kernel_rfl) (hs':By e=true:=by rfl) :
  QS X (.Expr (.Call (.Attribute a "extend" apos) [e] [] cpos) spos) (Aax Ajd f g):=⟨Z5 PySem.F.plainAttrs_list PySem.F.slot_list_extend PySem.F.type_list_extend Aja Aos hf.out ha.out (E4 hbase') (Jm (by rw[Ayt,hs'];rfl) rfl) hline (Ax hs') rfl⟩
end
end ML
end L2
end S_ML15
section S_ML19
namespace L2
namespace ML
open PySem PySem.Spec PyProof.Rows PySem.SeqAt
open PySem.W (KasT kas_sort katRev KatLex)
noncomputable def evO {α:Type} (c:Nat->Nat->Option Bool):KasT α->Option α
 |.ret a=>some a
 |.ask i j k=>(c i j).bind fun b=>evO c (k b)
theorem Ae4 {s:Shared} (hc:∀ i j b C,c i j=some b->C b s->cmp i j C s) :
  ∀ (t:KasT α) {a:α},evO c t=some a->Q a s->t.kasWp cmp Q s
 |.ret _,_,h,q=>by cases h;exact q
 |.ask i j k,a,h,q=>by
  obtain⟨b,h1,h2⟩:=bind_some h
  exact hc i j b _ h1 (Ae4 hc (k b) h2 q)
theorem Ai5 {prog:Program}{w:World}{A:Around}{s:Shared}{fl fin:Bool}{Q:Bool->Shared->Prop}{n1 n2:Nat} (hf:fin=decide (n1 < n2)) {us ws:List Value}{k:Bool} (h:LexAt A s us ws k) :
  ∀ i:Nat,0 < i->us.length+n2=ws.length+n1->Q k s->KatLex prog w A fl fin Q (us.zip ws) i s:=by
 induction h with
 |nil =>
  intro i hi hn q
  show Q fin s
  rw[hf,Ax3 (by simp at hn;lia)];exact q
 |short =>
  intro i hi hn q
  show Q fin s
  rw[hf,Ayl (by simp at hn;lia)];exact q
 |long =>
  intro i hi hn q
  show Q fin s
  rw[hf,Ax3 (by simp at hn;lia)];exact q
 |same he _ ih =>
  intro i hi hn q
  exact W.kat_cons (he prog w _ _ (W.kat_yes (ih (i+1) (Nat.succ_pos _) (by simp at hn;lia) q)))
 |diff he hk =>
  intro i hi hn q
  refine W.kat_cons (he prog w _ _ (W.kat_no ?_))
  rw[show (fl&&i == 0)=false by cases fl<;>simp;lia]
  exact W.kat_one _ _ (hk prog w _ _ q)
noncomputable def Afd:D->Bool
 |.tup (.int _::_)=>true
 |_=>false
theorem Rz {d:D} (h:Afd d=true):∃ i ds,d=.tup (.int i::ds):=by
 cases d with
 |tup es =>
  cases es with
  |nil=>exact Dq h
  |cons e ds =>
   cases e with
   |int i=>exact⟨i,ds,rfl⟩
   |_=>exact Dq h
 |_=>exact Dq h
section
variable {X:Cx}{pins:List (Addr×Obj)}{σ:St}{H:Hp}{s:Shared}{μ:List Addr}{B:Addr->Prop}
theorem Ai3 (I:Inv X pins σ H s) {E:Value->Shared->Prop} (r:Rep X.K H μ B (.tup (.int i::ds)) v) (r':Rep X.K H μ B (.tup (.int j::es)) v') (n:Be ds=true) (n':Be es=true) (ru:RelV v u) (ru':RelV v' u') (hu:A.units+Dm ds+Dm es+1 < cLine) (h:Ef (.int i::ds) (.int j::es)=some b) (q:Q b s):wpAny (model X.prog X.w) A (keyLt' (tuples' true) u u') Q E s:=by
 cases r with
 |tup h1 r1 =>
 cases r' with
 |tup h2 r2 =>
 cases ru
 cases ru'
 obtain⟨its,rv,⟨o,ho,hc,nn,hd⟩,hz⟩:=I.tuple h1
 obtain⟨its',rv',⟨o',ho',hc',nn',hd'⟩,hz'⟩:=I.tuple h2
 cases r1 with
 |cons x1 xs1 =>
 cases r2 with
 |cons x2 xs2 =>
 cases rv with
 |cons q1 qs1 =>
 cases rv' with
 |cons q2 qs2 =>
 have he:=Tz (A:=A) I x1 x2 rfl rfl q1 q2 (by rw[show dep (D.int j)=0 by simp[dep]];lia)
 cases x1
 cases x2
 obtain⟨t,rfl⟩:=q1
 obtain⟨t',rfl⟩:=q2
 refine W.kat_lt ho hd ho' hd' (W.kat_cons (he X.prog X.w _ _ ?_))
 rw[Ef] at h
 by_cases hdq:deq (.int i) (.int j)=true
 ·rw[Axv hdq] at h
  rw[hdq]
  exact W.kat_yes (Ai5 rfl (Jf (A:=A) I ds es xs1 xs2 n n' qs1 qs2 (by lia) h) 1 (by decide) (by simp;lia) q)
 ·rw[Axy hdq,ltD] at h
  cases h
  rw[Bool.eq_false_iff.mpr hdq]
  exact W.kat_no (oneLt_int q)
theorem Po (I:Inv X pins σ H s):∀ {ks:List D}{vs:List V}{us:List Value},Reps X.K H μ B ks vs->Vals vs us->ks.all Afd=true->∃ fs,W.KatTups s.heap us fs/\fs.length=us.length/\∀ f∈fs,∃ i t,f=Value.int i t
 |_,_,_,.nil,.nil,_=>⟨[],.nil,rfl,fun _ h=>nomatch h⟩
 |_,_,_,.cons r rs,.cons q qs,h=>by
  rw[Ayt,Ax4] at h
  obtain⟨i,ds,rfl⟩:=Rz h.1
  obtain⟨fs,h1,h2,h3⟩:=Po I rs qs h.2
  cases r with
  |tup e1 r1 =>
  cases q
  obtain⟨its,rv,⟨o,ho,hc,nn,hd⟩,hz⟩:=I.tuple e1
  cases r1 with
  |cons x1 _ =>
  cases rv with
  |cons q1 _ =>
  cases x1
  obtain⟨t,rfl⟩:=q1
  refine⟨.int i t::fs,W.KatTups.cons ho hc hd (by simp) h1,by simp[h2],fun f hf=>?_⟩
  rcases List.mem_cons.mp hf with rfl|hf
  ·exact⟨i,t,rfl⟩
  ·exact h3 f hf
theorem Inv.setPin {pre post:List (Addr×Obj)}{a:Addr}{o o':Obj}{h':Heap} (I:Inv X (pre++(a,o)::post) σ H s) (ha:X.s₀.heap.objs.size<=a) (hx:∀ p∈X.pn++(pre++post),p.1≠a)
  (k:∀ b u,b≠a->s.heap.get? b=some u->h'.get? b=some u) (ho:h'.get? a=some o') (hc:∀ v,o'.data≠.cell v):Inv X (pre++(a,o')::post) σ H { s with heap:=h' }:=by
 obtain⟨e,n,ne,nf,d⟩:=I.pin (a,o) (Axj _ (Axj _ (Axn ..)))
 have sub:∀ p∈pre++post,p∈pre++(a,o)::post:=fun p hp=>(List.mem_append.mp hp).elim (fun z=>Aye _ z) fun z=>Axj _ (Axl _ z)
 have I0:Inv X (pre++post) σ H s:=I.pins_of fun p hp=>I.pin p (Axj _ (sub p hp))
 have I1:=I0.turned (t':=s.toks) k n ne (.inr ha) (fun x c hl z=>by
  obtain⟨v,o2,e2,d2⟩:=I.cell x c hl
  rw[z] at e2
  rw[show s.heap.get? a=some o from e] at e2
  cases e2
  exact d v d2) hx
 refine I1.pins_of fun p hp=>?_
 rcases List.mem_append.mp hp with z|z
 ·exact I1.pin p (Axj _ (Aye _ z))
 ·rcases List.mem_cons.mp z with rfl|z
  ·exact⟨ho,n,ne,nf,hc⟩
  ·exact I1.pin p (Axj _ (Axj _ z))
theorem Inv.adopt (I:Inv X ((a,seqObj "list" its.toArray n)::pins) σ H s) (ha:X.s₀.heap.objs.size<=a) (hx:∀ p∈X.pn++pins,p.1≠a) (rv:Vals ys its) (hz:ys.length<=sizeLine) :
  Inv X pins σ (upd H a (.lst ys)) s:=by
 obtain⟨e,hn,ne,nf,d⟩:=I.pin (a,seqObj "list" its.toArray n) (Axj _ (Axn ..))
 have I0:Inv X pins σ H s:=I.pins_of fun p hp=>I.pin p (Axj _ (Axl _ hp))
 have up:∀ b u,H b=some u->upd H a (.lst ys) b=some u:=fun b u q=>by rw[Bb (Az q hn)];exact q
 refine I0.step (g':=s.gens) (t':=s.toks) (d':=s.drawn) (h':=s.heap) (ch:=[a]) (fun b hb=>?_) (fun b o _ _ _ q _=>q) (fun b o _ _ _ q _=>⟨o.slots,q⟩) (fun b o hc q z=>?_) (fun b o _ q=>⟨o,q⟩) (fun b xs q=>up _ _ q) (fun b o u q=>up _ _ q) (fun b ps q=>⟨#[],by rw[up _ _ q];simp⟩) (fun m q=>q) (fun b u q=>?_) I0.bare
 ·have e':b=a:=by simpa using hb
  subst e'
  refine⟨.inr ha,ne,fun x c hl z=>?_,hx⟩
  obtain⟨v,o2,e2,d2⟩:=I.cell x c hl
  rw[z] at e2
  have e3:s.heap.get? b=some (seqObj "list" its.toArray n):=e
  rw[e3] at e2
  cases e2
  exact d v d2
 ·rw[Bb (fun z=>hc (by simp[z]))];exact z
 ·by_cases hb:b=a
  ·subst hb
   rw[Bn] at q
   cases q
   exact⟨hz,its,n,rv,e⟩
  ·rw[Bb hb] at q
   exact (I0.hok b u q).stay (fun c v _ z=>z) (fun c z=>up _ _ z) (fun c xs z=>by
    rcases z with z|⟨o,z⟩
    ·exact .inl (up _ _ z)
    ·exact .inr ⟨o,up _ _ z⟩) fun c x w z=>up _ _ z
end
def Hr (fn:List D->Option D) (m:MH):List D->Option (List D)
 |[]=>some []
 |d::ds=>(C3 1 fn [d] m).bind fun k=>(Hr fn m ds).bind fun ks=>some (k::ks)
theorem Pn:∀ {ds ks:List D},Hr fn m ds=some ks->ks.length=ds.length
 |[],_,h=>by cases h;rfl
 |d::ds,_,h=>by
  obtain⟨k,h1,h⟩:=bind_some h
  obtain⟨ks,h2,h⟩:=bind_some h
  cases h
  rw[Ax1,Ax1,Pn h2]
section
variable {X:Cx}{pins:List (Addr×Obj)}{σ:St}{H:Hp}{s:Shared}{μ:List Addr}{m:MH}{k:Nat}{f:Addr}{fd:FuncData}{ps:List Str}{fn:List D->Option D}{A':Around}
theorem Ak6 {us:List Value}{vs:List V}{Q:VK} (F:FnOk X.prog X.w X.K X.mg X.base CX0 k f fd ps (spP X.K 1 fn)) (hr:Room k A') (he:Env0 X.prog X.w X.K X.mg X.base A' X.stack s H) (hb:Binds X.K fd ps []) (I:Inv X pins σ H s) (r:Vals vs us) (h:spP X.K 1 fn vs H Q E0) :
  wpAny (model X.prog X.w) A' (call (.ref f) us) (EP X pins σ Q) (fun _ _=>False) s:=by
 have hl:us.length=ps.length:=by rw[<- r.length];exact F.len _ _ _ _ h
 have hb':=hb s us I.kIn (by simpa using hl)
 rw[Axx] at hb'
 refine wpAny_call (codeAny_mono (F.run A' X.stack s H ⟨us,[]⟩ us vs Q E0 hr he hb' r h) fun r s' hq=>?_)
 cases r with
 |error e=>exact hq.elim
 |ok fl =>
  cases fl with
  |ret u=>exact I.after hq
  |next=>exact False.elim hq
  |brk=>exact False.elim hq
  |cont=>exact False.elim hq
def SK (X:Cx) (pins:List (Addr×Obj)) (σ:St) (H:Hp) (μ:List Addr) (kS D0:Addr) (e1:Nat) (keys:List D) (s':Shared):Prop :=
 ∃ H1 e kvs us,Same H H1/\Inv X ((kS,seqObj "list" (List.toArray us) e)::(D0,seqObj "list" #[] e1)::pins) σ H1 s'/\Vals kvs us/\Reps X.K H1 μ (·∈μ) keys kvs
theorem Ue {E:Value->Shared->Prop} (F:FnOk X.prog X.w X.K X.mg X.base CX0 k f fd ps (spP X.K 1 fn)) (hr:Room k A') (hA:∀ s H,Env0 X.prog X.w X.K X.mg X.base X.A X.stack s H->Env0 X.prog X.w X.K X.mg X.base A' X.stack s H) (hb:Binds X.K fd ps []) (S:Sim X.K H μ m) (hk:X.s₀.heap.objs.size<=kS) (hx:∀ p∈X.pn++pins,p.1≠kS) (hne:D0≠kS) (hbd:∀ x (s:Shared) (R:ForInStep PUnit->Shared->Prop),wpAny (model X.prog X.w) A' (call (.ref f) [x]) (fun k s1=>∃ us e,s1.heap.get? kS=some (seqObj "list" (List.toArray us) e)/\us.length < 128/\R (.yield ⟨⟩) { s1 with heap:=s1.heap.update kS (Obj.mapSeq (·.push k)) }) (fun _ _=>False) s->wpAny (model X.prog X.w) A' (body x ⟨⟩) R E s) :
  ∀ (ds:List D) {xs:List V}{us:List Value}{ks dn:List D}{s:Shared},Reps X.K H μ (·∈μ) ds xs->Vals xs us->Hr fn m ds=some ks->dn.length+ds.length < 128->SK X pins σ H μ kS D0 e1 dn s ->
   wpAny (model X.prog X.w) A' (forIn us PUnit.unit body) (fun _ s'=>SK X pins σ H μ kS D0 e1 (dn++ks) s') E s
 |[],xs,us,ks,dn,s,rs,rv,hK,hl,st=>by
  cases rs
  cases rv
  cases hK
  rw[List.forIn_nil,Axx]
  exact Axo st
 |d::ds,xs,us,ks,dn,s,rs,rv,hK,hl,st=>by
  cases rs with
  |@cons _ v _ vs r rs =>
  cases rv with
  |@cons _ u _ us ru rus =>
  obtain⟨key,h1,h⟩:=bind_some hK
  obtain⟨ks',h2,h⟩:=bind_some h
  cases h
  obtain⟨H1,e,kvs,ws,s1,I,rk,rks⟩:=st
  have S1:=S.same s1
  obtain⟨ds',h3,h4⟩:=bind_some h1
  split at h4
  ·rename_i hl1
   rw[List.forIn_cons]
   refine Axh (hbd u s _ (Ay2 (Ak6 (us:=[u]) (vs:=[v]) (Q:=fun v' H'=>Same H1 H'/\Rep X.K H' μ (·∈μ) key v') F hr (hA _ _ I.env0) hb I (.cons ru .nil) ⟨ds',key,Em S1 (.cons (r.same s1) .nil) h3,hl1,h4,fun v' H' s' r'=>⟨s',Rep.ofCall S1 r'⟩⟩) (fun kv s2 hq=>?_) fun _ _ z=>z))
   obtain⟨v',H2,I2,rv2,s2',r2⟩:=hq
   have pk:=I2.pin (kS,_) (Axj _ (Axn ..))
   have hln:=rks.length
   have hln2:=rk.length
   refine⟨ws,e,pk.1,by rw[Ax1] at hl;lia,?_⟩
   show wpAny (model X.prog X.w) A' (forIn us PUnit.unit body) _ E _
   rw[show dn++key::ks'=(dn++[key])++ks' by simp]
   refine Ue F hr hA hb S hk hx hne hbd ds rs rus h2 (by rw[Axt,Az0];rw[Ax1] at hl;lia) ?_
   have ea:(List.toArray ws).push kv=List.toArray (ws++[kv]):=by simp
   obtain⟨c2,hc2⟩:∃ c2,(s2.heap.update kS (Obj.mapSeq (·.push kv))).get? kS=some (seqObj "list" (List.toArray (ws++[kv])) c2):=⟨_,by rw[<- ea];exact get?_update_seq pk.1 (·.push kv)⟩
   refine⟨H2,c2,kvs++[v'],ws++[kv],s1.trans s2',?_,Vals.append rk (.cons rv2 .nil),Reps.append (rks.same s2') (.cons r2 .nil)⟩
   refine Inv.setPin (pre:=[]) I2 hk (fun p hp=>?_) (fun b o hb q=>(Ax2 _ _ (Ayw hb)).trans q) hc2 (fun v z=>by cases z)
   rcases List.mem_append.mp hp with z|z
   ·exact hx p (Aye _ z)
   ·rcases List.mem_cons.mp z with rfl|z
    ·exact hne
    ·exact hx p (Axj _ z)
  ·exact Al h4
end
def Mb (b:Bool) (ds ks:List D):Option (List D):=if ds.length < 2 then some ds else
 (evO (fun i j=>ltD ((katRev b ks).getD i .non) ((katRev b ks).getD j .non)) (kas_sort ds.length)).bind fun p=>some (katRev b (p.toList.map fun i=>(katRev b ds).getD i .non))
theorem Vals.getN (r:Vals xs us) (i:Nat):RelV (xs.getD i .non) (us.getD i Value.none):=by
 have hl:=r.length
 by_cases h:i < xs.length
 ·obtain⟨u,h1,h2⟩:=r.get (i:=i) (x:=xs[i]) (by simp[h])
  rw[Axp,Axp,h1,Axz h];exact h2
 ·rw[Axp,Axp,Ayi (by lia),Ayi (by lia)];rfl
theorem Reps.getN {K:W.Frag}{H:Hp}{μ:List Addr}{B:Addr->Prop}{ds:List D}{xs:List V} (r:Reps K H μ B ds xs) (i:Nat):Rep K H μ B (ds.getD i .non) (xs.getD i .non):=by
 have hl:=r.length
 by_cases h:i < ds.length
 ·obtain⟨v,h1,h2⟩:=r.get (i:=i) (d:=ds[i]) (by simp[h])
  rw[Axp,Axp,h1,Axz h];exact h2
 ·rw[Axp,Axp,Ayi (by lia),Ayi (by lia)];exact .non
theorem Vals.mapN (r:Vals xs us):∀ l:List Nat,Vals (l.map fun i=>xs.getD i .non) (l.map fun i=>us.getD i Value.none)
 |[]=>.nil
 |i::l=>.cons (Vals.getN r i) (Vals.mapN r l)
theorem Reps.mapN {K:W.Frag}{H:Hp}{μ:List Addr}{B:Addr->Prop}{ds:List D}{xs:List V} (r:Reps K H μ B ds xs):∀ l:List Nat,Reps K H μ B (l.map fun i=>ds.getD i .non) (l.map fun i=>xs.getD i .non)
 |[]=>.nil
 |i::l=>.cons (Reps.getN r i) (Reps.mapN r l)
theorem Vals.turn (r:Vals xs us) (b:Bool):Vals (katRev b xs) (katRev b us):=by
 cases b with
 |false=>exact r
 |true=>exact r.reverse
theorem Reps.turn {K:W.Frag}{H:Hp}{μ:List Addr}{B:Addr->Prop}{ds:List D}{xs:List V} (r:Reps K H μ B ds xs) (b:Bool):Reps K H μ B (katRev b ds) (katRev b xs):=by
 cases b with
 |false=>exact r
 |true=>exact r.reverse
theorem Aej {l:List α} (h:x∈katRev b l):x∈l:=by
 cases b with
 |false=>exact h
 |true=>exact List.mem_reverse.mp h
theorem Rr:∀ {ds:List D}{d:D},d∈ds->dep d<=Dm ds
 |_::_,_,.head _=>by rw[Dm];lia
 |_::_,_,.tail _ h=>by have:=Rr h;rw[Dm];lia
section
variable {X:Cx}{pins:List (Addr×Obj)}{σ:St}{H:Hp}{s:Shared}{μ:List Addr}{m:MH}{k:Nat}{f:Addr}{fd:FuncData}{ps:List Str}{fn:List D->Option D}{A':Around}
theorem Ab0 (I:Inv X pins σ H s) {ks:List D}{kvs:List V}{us:List Value} (rk:Vals kvs us) (rks:Reps X.K H μ (·∈μ) ks kvs) (hI:ks.all Afd=true) (hn:Be ks=true) (hd:Dm ks<=20) (hu:A'.units+50 < cLine) (b:Bool) (i j:Nat) (c:Bool) (C:Bool->Shared->Prop)
  (h:ltD ((katRev b ks).getD i .non) ((katRev b ks).getD j .non)=some c) (q:C c s):W.kas_ask X.prog X.w A' (tuples' true) (katRev b us) i j C s:=by
 have key:∀ i,(katRev b ks).getD i .non=.non\/(katRev b ks).getD i .non∈ks:=fun i=>by
  by_cases h:i < (katRev b ks).length
  ·right
   rw[Axp,Axz h]
   exact Aej (Aym h)
  ·left
   rw[Axp,Ayi (by lia)];rfl
 have r1:=Reps.getN (Reps.turn rks b) i
 have r2:=Reps.getN (Reps.turn rks b) j
 have v1:=Vals.getN (Vals.turn rk b) i
 have v2:=Vals.getN (Vals.turn rk b) j
 have k1:=key i
 have k2:=key j
 generalize (katRev b ks).getD i .non=x at h r1 k1
 generalize (katRev b ks).getD j .non=y at h r2 k2
 rcases k1 with rfl|k1
 ·simp[ltD] at h
 ·obtain⟨i1,ds,rfl⟩:=Rz (List.all_eq_true.mp hI _ k1)
  rcases k2 with rfl|k2
  ·simp[ltD] at h
  ·obtain⟨i2,es,rfl⟩:=Rz (List.all_eq_true.mp hI _ k2)
   have d1:=Rr k1
   have d2:=Rr k2
   have n1:=Dp hn k1
   have n2:=Dp hn k2
   rw[dep,Dm] at d1 d2
   rw[B6,Be,Ax4] at n1 n2
   rw[ltD] at h
   exact Ai3 I r1 r2 n1.2 n2.2 v1 v2 (by lia) h q
end
end ML
end L2
end S_ML19
section S_ML20
namespace L2
namespace ML
open PySem PySem.Spec PyProof.Rows PySem.SeqAt
open PySem.W (KasT kas_sort katRev KatLex)
section
variable {X:Cx}{pins:List (Addr×Obj)}{σ:St}{H H1:Hp}{s:Shared}{μ:List Addr}{m:MH}{k:Nat}{f:Addr}{fd:FuncData}{ps:List Str}{fn:List D->Option D}{A':Around}{kS D0:Addr}{b:Bool}{e e1:Nat}{P:PySem.Fin->Shared->Prop}{E:Value->Shared->Prop}
theorem Aj8 (h:∀ p∈X.pn++pl,p.1≠a) (hc:c≠a):∀ p∈X.pn++((c,o)::pl),p.1≠a:=fun p hp=>by
 rcases List.mem_append.mp hp with z|z
 ·exact h p (Aye _ z)
 ·rcases List.mem_cons.mp z with rfl|z
  ·exact hc
  ·exact h p (Axj _ z)
theorem Nc {st:SortSt}{us outv:List Value} (hout:(arrOf st).map (·.2)=List.toArray outv) (hz:outv.length < 128) (hkz:us.length < 128) (hf:failedOf st=none) (I:Inv X ((kS,seqObj "list" (List.toArray us) e)::(D0,seqObj "list" #[] e1)::pins) σ H1 s)
  (hk:X.s₀.heap.objs.size<=kS) (hD:X.s₀.heap.objs.size<=D0) (hx:∀ p∈X.pn++pins,p.1≠kS) (hy:∀ p∈X.pn++pins,p.1≠D0) (hne:D0≠kS)
  (fin:∀ s' c,Inv X ((D0,seqObj "list" (List.toArray (katRev b outv)) c)::pins) σ H1 s'->P (.done (.ret .none)) s'):wpAny (model X.prog X.w) A' (ksk_tail D0 b e1 (.ref kS) st) P E s:=by
 have pk:=I.pin (kS,seqObj "list" (List.toArray us) e) (Axj _ (Axn ..))
 obtain⟨ck,hck⟩:∃ ck,(s.heap.update kS (Obj.mapSeq fun _=>(#[]:Array Value))).get? kS=some (seqObj "list" #[] ck):=⟨_,get?_update_seq pk.1 fun _=>#[]⟩
 have Ia:=Inv.setPin (pre:=[]) I hk (Aj8 hx hne) (fun c o hc q=>(Ax2 _ _ (Ayw hc)).trans q) hck (fun v z=>by cases z)
 have Ib:Inv X ((D0,seqObj "list" #[] e1)::pins) σ H1 { s with heap:=s.heap.update kS (Obj.mapSeq fun _=>(#[]:Array Value)) }:=Ia.pins_of fun p hp=>Ia.pin p (Axj _ (Axl _ hp))
 have pd:=Ib.pin (D0,seqObj "list" #[] e1) (Axj _ (Axn ..))
 obtain⟨c2,hc2⟩:∃ c2,((s.heap.update kS (Obj.mapSeq fun _=>(#[]:Array Value))).update D0 (Obj.mapSeq fun _=>List.toArray (katRev b outv))).get? D0=some (seqObj "list" (List.toArray (katRev b outv)) c2):=⟨_,get?_update_seq pd.1 fun _=>List.toArray (katRev b outv)⟩
 have Ic:=Inv.setPin (pre:=[]) Ib hD hy (fun c o hc q=>(Ax2 _ _ (Ayw hc)).trans q) hc2 (fun v z=>by cases z)
 have hsz:(List.toArray (katRev b outv)).size=outv.length:=by rw[Axk,W.kat_len]
 have hline:sizeLine=16777216:=Ay3
 unfold ksk_tail
 try dsimp only
 rw[hout,W.kat_outs]
 refine Axh (listUpdate_at pk.1 rfl (Axh (wpAny_letGo (Axh (seqEpoch_at pd.1 rfl (Axh (listUpdate_at pd.1 rfl ?_ (Ax9 _) (by rw[hsz];lia))))))) (by rw[Axk];lia) (Ax9 _))
 rw[hf]
 simp only[bne_self_eq_false,Ayx,Bah]
 exact Axo (fin _ c2 Ic)
theorem Yz (i:Int) (t:Tok):W.Looks M h (typeOf (.int i t)) (.type "int"):=W.Looks.of_pure rfl
def Alz (X:Cx) (pins:List (Addr×Obj)) (σ:St) (μ:List Addr) (b:Bool) (ds ks out:List D) (A':Around):Prop :=
 ∀ ⦃kS D0:Addr⦄ ⦃e e1:Nat⦄ ⦃us its:List Value⦄ ⦃xs kvs:List V⦄ ⦃H1:Hp⦄ ⦃s:Shared⦄ ⦃P:PySem.Fin->Shared->Prop⦄ ⦃E:Value->Shared->Prop⦄,Inv X ((kS,seqObj "list" (List.toArray us) e)::(D0,seqObj "list" #[] e1)::pins) σ H1 s->X.s₀.heap.objs.size<=kS->X.s₀.heap.objs.size<=D0->(∀ p∈X.pn++pins,p.1≠kS)->(∀ p∈X.pn++pins,p.1≠D0)->D0≠kS->Vals xs its->Reps X.K H1 μ (·∈μ) ds xs->Vals kvs us->Reps X.K H1 μ (·∈μ) ks kvs ->
  (∀ s' c ys ws,Inv X ((D0,seqObj "list" (List.toArray ws) c)::pins) σ H1 s'->Vals ys ws->Reps X.K H1 μ (·∈μ) out ys->P (.done (.ret .none)) s')->wpAny (model X.prog X.w) A' (ksk_end D0 b its.toArray e1 (.ref kS) (List.toArray us)) P E s
theorem X8 {ds ks out:List D} (hl:ks.length=ds.length) (h64:ds.length < 64) (hI:ks.all Afd=true) (hn:Be ks=true) (hd:Dm ks<=20) (hu:A'.units+50 < cLine) (ho:Mb b ds ks=some out):Alz X pins σ μ b ds ks out A':=by
 intro kS D0 e e1 us its xs kvs H1 s P E I hk hD hx hy hne ri rs rk rks fin
 have l1:=ri.length
 have l2:=rs.length
 have l3:=rk.length
 have l4:=rks.length
 have lu:us.length=its.length:=by lia
 have told:∀ t:Sem PySem.Fin,wpAny (model X.prog X.w) A' t P E s->wpAny (model X.prog X.w) A' (if b=true then (do let _ <- rule "list.sort.reverse";t) else t) P E s:=fun t ht=>by
  split
  ·exact Axh (wpAny_rule ht)
  ·exact ht
 unfold ksk_end
 try dsimp only
 refine told _ ?_
 unfold Mb at ho
 by_cases h2:its.toArray.size < 2
 ·rw[Axv h2,Axv h2]
  rw[Axk] at h2
  rw[Axv (by lia)] at ho
  cases ho
  refine Axh (Axo ?_)
  rw[StateT.run_pure]
  refine Axh (Axo ?_)
  try dsimp only
  rw[W.kat_pairs b lu]
  refine Nc (outv:=katRev b its) (b:=b) ?_ (by rw[W.kat_len];lia) (by lia) rfl I hk hD hx hy hne fun s' c I'=>fin s' c xs its ?_ ri rs
  ·show (((List.toArray (katRev b us)).zip (List.toArray (katRev b its))).map (·.2))=_
   apply Array.toList_inj.mp
   rw[Array.toList_map,ksk_zip]
   exact List.map_snd_zip (by rw[W.kat_len,W.kat_len];lia)
  ·have e2:katRev b (katRev b its)=its:=by cases b<;>simp[katRev]
   rw[e2] at I'
   exact I'
 ·rw[Axy h2,Axy h2]
  rw[Axk] at h2
  rw[Axy (by lia)] at ho
  obtain⟨p,hp,ho⟩:=bind_some ho
  cases ho
  obtain⟨fs,ht,hfl,hfi⟩:=Po I rks rk hI
  refine Axh (W.kat_kind (T:=.type "int") ht (by lia) (fun v hv=>?_) (by decide) ?_)
  ·obtain⟨i,t,rfl⟩:=hfi v hv
   exact Yz i t
  rw[W.kat_pairs b lu]
  have lr:(katRev b us).length=(katRev b its).length:=by rw[W.kat_len,W.kat_len,lu]
  have hw:(kas_sort (katRev b its).length).kasWp (W.kas_ask X.prog X.w A' (tuples' true) (katRev b us)) (fun p' s'=>p'=p/\s'=s) s:=by
   rw[W.kat_len,show its.length=ds.length by lia]
   exact Ae4 (fun i j c C h q=>Ab0 I rk rks hI hn hd hu b i j c C h q) _ hp ⟨rfl,rfl⟩
  refine Axh (Ay2 (W.kat_run (Q:=fun st' s'=>s'=s/\p.size=(katRev b its).length/\arrOf st'=p.map (W.kas_item ((List.toArray (katRev b us)).zip (List.toArray (katRev b its))))/\failedOf st'=none) lr (by rw[W.kat_len];lia) (by rw[W.kat_len];lia)
   (fun p' st' s' a1 a2 a3 ⟨a4,a5⟩=>by subst a4;exact⟨a5,a1,a2,a3⟩) hw) ?_ fun _ _ z=>z)
  rintro ⟨⟨⟩,st'⟩ s' ⟨hs,hpz,har,hf⟩
  replace hs:s'=s:=hs
  subst hs
  try dsimp only
  refine Nc (b:=b) (W.kat_snds lr har) (by rw[Axq,Azo,hpz,W.kat_len];lia) (by lia) hf I hk hD hx hy hne fun s' c I'=>fin s' c (katRev b (p.toList.map fun i=>(katRev b xs).getD i .non)) _ I' ?_ ?_
  ·exact Vals.turn (Vals.mapN (Vals.turn ri b) _) b
  ·exact Reps.turn (Reps.mapN (Reps.turn rs b) _) b
theorem Xd {ds ks out:List D} (F:FnOk X.prog X.w X.K X.mg X.base CX0 k f fd ps (spP X.K 1 fn)) (hr:Room k A') (hA:∀ s H,Env0 X.prog X.w X.K X.mg X.base X.A X.stack s H->Env0 X.prog X.w X.K X.mg X.base A' X.stack s H) (hb:Binds X.K fd ps []) (I:Inv X ((D0,seqObj "list" its.toArray n)::pins) σ H s) (S:Sim X.K H μ m) (hD:X.s₀.heap.objs.size<=D0) (hy:∀ p∈X.pn++pins,p.1≠D0) (ri:Vals xs its) (rs:Reps X.K H μ (·∈μ) ds xs) (hK:Hr fn m ds=some ks) (h64:ds.length < 128) (hE:Alz X pins σ μ b ds ks out A') (fin:∀ s' H1 c ys ws,Same H H1->Inv X ((D0,seqObj "list" (List.toArray ws) c)::pins) σ H1 s'->Vals ys ws->Reps X.K H1 μ (·∈μ) out ys->P (.done (.ret .none)) s'):wpAny (model X.prog X.w) A' (ksk_tree D0 (.ref f) b) P E s:=by
 have l1:=ri.length
 have l2:=rs.length
 have hline:sizeLine=16777216:=Ay3
 have pd:=I.pin (D0,seqObj "list" its.toArray n) (Axj _ (Axn ..))
 have hd0:s.heap.get? D0=some (seqObj "list" its.toArray n):=pd.1
 have hdl:D0 < s.heap.objs.size:=Axm hd0
 obtain⟨e1,ho1⟩:∃ e1,(s.heap.update D0 (Obj.mapSeq fun _=>(#[]:Array Value))).get? D0=some (seqObj "list" #[] e1):=⟨_,get?_update_seq hd0 fun _=>#[]⟩
 have Ia:=Inv.setPin (pre:=[]) I hD hy (fun c o hc q=>(Ax2 _ _ (Ayw hc)).trans q) ho1 (fun v z=>by cases z)
 have hs2:s.heap.objs.size<=((s.heap.update D0 (Obj.mapSeq fun _=>(#[]:Array Value))).push (seqObj "tuple" its.toArray 0)).objs.size:=by rw[size_push',Heap.size_update];exact Azw _
 generalize hkS:((s.heap.update D0 (Obj.mapSeq fun _=>(#[]:Array Value))).push (seqObj "tuple" its.toArray 0)).objs.size=kS at hs2
 have Ib:=Ia.kept (t':=s.toks) (h':=((s.heap.update D0 (Obj.mapSeq fun _=>(#[]:Array Value))).push (seqObj "tuple" its.toArray 0)).push (seqObj "list" #[] 0)) fun c o q=>Axi _ (Axi _ q)
 have hx:∀ p∈X.pn++pins,p.1≠kS:=fun p hp=>Ax5 (Ax0 (Axm (I.pin p ((List.mem_append.mp hp).elim (fun z=>Aye _ z) fun z=>Axj _ (Axl _ z))).1) hs2)
 have hne:D0≠kS:=Ax5 (Ax0 hdl hs2)
 have hk:X.s₀.heap.objs.size<=kS:=Ax7 I.sz hs2
 have hgk:(((s.heap.update D0 (Obj.mapSeq fun _=>(#[]:Array Value))).push (seqObj "tuple" its.toArray 0)).push (seqObj "list" #[] 0)).get? kS=some (seqObj "list" #[] 0):=by rw[<- hkS];exact Axw _ rfl
 have Ic:Inv X ((kS,seqObj "list" (List.toArray []) 0)::(D0,seqObj "list" #[] e1)::pins) σ H { s with heap:=((s.heap.update D0 (Obj.mapSeq fun _=>(#[]:Array Value))).push (seqObj "tuple" its.toArray 0)).push (seqObj "list" #[] 0) }:=Ib.pins_of fun p hp=>by
  rcases List.mem_cons.mp hp with rfl|hp
  ·exact⟨hgk,I.hok.fresh hs2,Ayu (Ax0 I.lt hs2),I.nofs hs2,fun v z=>by cases z⟩
  ·exact Ib.pin p (Axj _ hp)
 unfold ksk_tree
 refine Axh (listItems_at hd0 rfl (Axh (listUpdate_at hd0 rfl (Axh (seqEpoch_at ho1 rfl (Axh (wpAny_newTuple (Axh (wpAny_newList (Ay5 ?_) (Ax9 _))) (by show its.length<=_;lia))))) (by rw[Axk];lia) (Ax9 _))))
 show wpAny (model X.prog X.w) A' (ksk_rest D0 (.ref f) b its.toArray e1 (.ref ((s.heap.update D0 (Obj.mapSeq fun _=>(#[]:Array Value))).push (seqObj "tuple" its.toArray 0)).objs.size)) P E { s with heap:=((s.heap.update D0 (Obj.mapSeq fun _=>(#[]:Array Value))).push (seqObj "tuple" its.toArray 0)).push (seqObj "list" #[] 0) }
 rw[hkS]
 unfold ksk_rest
 refine Axh (wpAny_rule ?_)
 first
  |rw[List.forIn_toArray]
  |rw[<- Array.forIn_toList]
 refine Axh (Ay2 (Ue (dn:=[]) F hr hA hb S hk hx hne (fun x s R hq=>?_) ds rs ri hK (by simpa using h64) ⟨H,0,[],[],Same.refl H,Ic,.nil,.nil⟩) (fun _ s' hq=>?_) fun _ _ z=>z)
 ·refine Axh (wpAny_attempt (Ay2 hq (fun kv s1 hkv=>?_) fun _ _ hF=>hF.elim))
  obtain⟨us,e,hu,hl,hR⟩:=hkv
  try dsimp only
  exact Axh (listUpdate_at hu rfl (Axo hR) (by rw[Axk];lia) (by rw[Array.size_push,Axk];lia))
 ·obtain⟨H1,e,kvs,us,s1,I3,rk,rks⟩:=hq
  rw[Bao] at rks
  have pk:=I3.pin (kS,seqObj "list" (List.toArray us) e) (Axj _ (Axn ..))
  try dsimp only
  refine Axh (listItems_at pk.1 rfl ?_)
  exact hE I3 hk hD hx hy hne ri (rs.same s1) rk rks fun s' c ys ws I' r1 r2=>fin s' H1 c ys ws s1 I' r1 r2
theorem Mg {l:Addr}{ds ks out:List D} (F:FnOk X.prog X.w X.K X.mg X.base CX0 k f fd ps (spP X.K 1 fn)) (hr:Room (k+2) X.A) (hb:Binds X.K fd ps []) (I:Inv X pins σ H s) (S:Sim X.K H μ m) (hL:s.heap.IsList l its.toArray) (ri:Vals xs its) (rs:Reps X.K H μ (·∈μ) ds xs) (ha1:argsOk "sorted" ⟨[.ref l],kw⟩) (ha2:∀ x,argsOk "list.sort" ⟨[.ref x],kw⟩) (ht:∀ x,Builtin.«list.sort» ⟨[.ref x],kw⟩=ksk_tree x (.ref f) b) (hK:Hr fn m ds=some ks) (h64:ds.length < 64) (hI:ks.all Afd=true) (hn:Be ks=true) (hd:Dm ks<=20) (ho:Mb b ds ks=some out) (hz0:out.length < 64) (q:∀ a ys H',Same H H'->H a=none->H' a=some (.lst ys)->Reps X.K H' μ (nw μ a) out ys->Q (.ref a) H'):wpAny (model X.prog X.w) X.A (call (.builtin "sorted") [.ref l] kw) (EP X pins σ Q) X.xe s:=by
 have l1:=ri.length
 have l2:=rs.length
 have hline:sizeLine=16777216:=Ay3
 refine call_function_entry_kw kind_sorted plain_sorted entry_sorted ha1 ?_
 unfold Builtin.«sorted»
 refine Axh (m:=checkCount "sorted" 1 1 _) (Axo (Axh (collect_list hL (Axh (wpAny_newList ?_ (by lia))) (by lia))))
 have hz:s.heap.objs.size<=((s.heap.push (seqObj "list" #[] 0)).update s.heap.objs.size (Obj.mapSeq (·++its.toArray))).objs.size:=by rw[Heap.size_update,size_push'];exact Azw _
 have kp:∀ c o,s.heap.get? c=some o->(((s.heap.push (seqObj "list" #[] 0)).update s.heap.objs.size (Obj.mapSeq (·++its.toArray))).push (seqObj "list" its.toArray 0)).get? c=some o:=fun c o h =>
  Axi _ ((Ax2 _ _ (Ayu (Axm h))).trans (Axi _ h))
 generalize hD0:((s.heap.push (seqObj "list" #[] 0)).update s.heap.objs.size (Obj.mapSeq (·++its.toArray))).objs.size=D0 at hz
 have hg:(((s.heap.push (seqObj "list" #[] 0)).update s.heap.objs.size (Obj.mapSeq (·++its.toArray))).push (seqObj "list" its.toArray 0)).get? D0=some (seqObj "list" its.toArray 0):=by rw[<- hD0];exact Axw _ rfl
 have I1:=I.kept (t':=s.toks) kp
 have hfree:H D0=none:=I.hok.fresh hz
 have hy:∀ p∈X.pn++pins,p.1≠D0:=fun p hp=>Ax5 (Ax0 (Axm (I.pin p hp).1) hz)
 have hD:X.s₀.heap.objs.size<=D0:=Ax7 I.sz hz
 have I2:Inv X ((D0,seqObj "list" its.toArray 0)::pins) σ H { s with heap:=((s.heap.push (seqObj "list" #[] 0)).update s.heap.objs.size (Obj.mapSeq (·++its.toArray))).push (seqObj "list" its.toArray 0) }:=I1.pins_of fun p hp=>by
  rcases List.mem_cons.mp hp with rfl|hp
  ·exact⟨hg,hfree,Ayu (Ax0 I.lt hz),I.nofs hz,fun v z=>by cases z⟩
  ·exact I1.pin p (Axj _ hp)
 show wpAny (model X.prog X.w) X.A.in1 _ _ _ { s with heap:=((s.heap.push (seqObj "list" #[] 0)).update s.heap.objs.size (Obj.mapSeq (·++its.toArray))).push (seqObj "list" its.toArray 0) }
 refine Axh (Ay5 (wpAny_call_entry_kw slot_list_sort ⟨_,hg,rfl⟩ entry_list_sort ?_ (ha2 _)))
 have ht':=ht D0
 show wpAny (model X.prog X.w) X.A.in1.in1 (Builtin.«list.sort» ⟨[.ref D0],kw⟩) _ _ _
 rw[ht']
 refine Xd (s:={ s with heap:=((s.heap.push (seqObj "list" #[] 0)).update s.heap.objs.size (Obj.mapSeq (·++its.toArray))).push (seqObj "list" its.toArray 0) }) F hr.in1.in1 (fun s H e=>e.in1.in1) hb I2 S hD hy ri rs hK (by lia) (X8 (Pn hK) h64 hI hn hd (by have:=hr.in1.in1.units;lia) ho) fun s' H1 c ys ws s1 I' r1 r2=>?_
 have hf1:H1 D0=none:=(I'.pin (D0,seqObj "list" (List.toArray ws) c) (Axj _ (Axn ..))).2.1
 have lo:ys.length<=sizeLine:=by have:=r2.length;lia
 exact⟨_,rfl,Axo ⟨_,rfl,.ref D0,upd H1 D0 (.lst ys),Inv.adopt I' hD hy r1 lo,rfl,q D0 ys _ (s1.trans (Bf hf1)) hfree Bn (r2.fresh hf1)⟩⟩
end
section
variable {X:Cx}{e:Expr}{pos p p' kp kp' cp:Pos}{x:Str}{k:Nat}{f:Addr}{fd:FuncData}{ps:List Str}{fn:List D->Option D}{b:Bool}
def C0 (fn:List D->Option D) (b:Bool):List D->MH->Option (List D):=fun xs m=>match xs with
 |[d]=>(sqL m d).bind fun ds=>(Hr fn m ds).bind fun ks=>(Mb b ds ks).bind fun out=>if ds.length < 64/\ks.all Afd=true/\Be ks=true/\Dm ks<=20/\out.length < 64 then some out else none
 |_=>none
theorem Adk {j} (F:FnOk X.prog X.w X.K X.mg X.base CX0 k f fd ps (spP X.K 1 fn)) (hr:Room (k+2) X.A) (hgf:Gl X x) (hmf:X.mg x=some (.ref f)) (hb:Binds X.K fd ps []) (hdb:(x == ("__debug__":Str))=false) (hg:Gl X "sorted") (hm:X.mg "sorted"=none) (ha:PL X [e] g) (he:starEach [e] X.env=(false,eval e X.env)::starEach [] X.env) :
  PF X (.Call (.Name "sorted" p) [e] [⟨some "key",.Name x p',kp⟩,⟨some "reverse",.Constant (.bool b) j cp,kp'⟩] pos) (Bt (C0 fn b) g):=by
 intro pins s σ H Q I h
 obtain⟨env,μ,m,d,S,E,h,q⟩:=h
 obtain⟨xs,h1,h2⟩:=bind_some h
 refine Ayj (Dv I hg hm boot_sorted ?_ (by decide) (by decide))
 refine PyProof.Rows.callWith_kw (thn (ha pos pins s σ H (fun vs H1=>Same H H1/\Reps X.K H1 μ (·∈μ) xs vs) I ⟨env,μ,m,xs,S,E,h1,fun v H1 s1 r1=>⟨s1,r1⟩⟩) fun us s1 ⟨vs,H1,I1,r1,s1',rx⟩=>?_) (by rw[he];rfl) (by rw[he];rfl) rfl rfl
 refine kws_cons (R0 I1 hgf hmf (kws_cons (wpAny_Constant_bool (kws_nil ?_))) hdb)
 match xs,h2 with
 |[d'],h2 =>
  obtain⟨ds,h3,h2⟩:=bind_some h2
  obtain⟨ks,h4,h2⟩:=bind_some h2
  obtain⟨out,h5,h2⟩:=bind_some h2
  split at h2
  ·rename_i hc
   cases h2
   obtain⟨v,rfl,r⟩:=rx.one
   obtain⟨a,ys,rfl,hq,rs⟩:=Lq (S.same s1') r h3
   obtain⟨u,rfl,r2⟩:=Iy r1
   cases r2
   obtain⟨its,ri,pl,hz⟩:=I1.list hq
   exact Mg F hr hb I1 (S.same s1') pl.isList ri rs (ksk_s2 _ _ _) (fun y=>ksk_l2 _ _ _) (fun y=>ksk_t2 _ _ _) h4 hc.1 hc.2.1 hc.2.2.1 hc.2.2.2.1 h5 hc.2.2.2.2 fun a ys H' s2 hn hx rr=>q a ys H' (s1'.trans s2) (s1'.free hn) hx rr
  ·exact Al h2
theorem Aob {j} (F:FnOk X.prog X.w X.K X.mg X.base CX0 k f fd ps (spP X.K 1 fn)) (hr:Room (k+2) X.A) (hmf:X.mg x=some (.ref f)) (hb:Binds X.K fd ps []) (hm:X.mg "sorted"=none) (ha:QL X [e] g) (hg:Gl X "sorted":=by unfold Gl;kernel_rfl) (hgf:Gl X x:=by unfold Gl;kernel_rfl) (hdb:(x == ("__debug__":Str))=false:=by decide) (he':By e=true:=by rfl) :
  QF X (.Call (.Name "sorted" p) [e] [⟨some "key",.Name x p',kp⟩,⟨some "reverse",.Constant (.bool b) j cp,kp'⟩] pos) (Bt (C0 fn b) g):=⟨Adk F hr hgf hmf hb hdb hg hm ha.out (Ax he')⟩
end
end ML
end L2
end S_ML20
section S_ML21
namespace L2
namespace ML
open PySem PySem.Spec PyProof.Rows
open PySem.Builtin PySem.Builtin.Str
section
variable {X:Cx}{a e:Expr}{apos cpos:Pos}
end
end ML
end L2
end S_ML21
section S_ML22
namespace L2
namespace ML
open PySem PySem.Spec PyProof.Rows
section
variable {X:Cx}{a e:Expr}{apos cpos:Pos}
end
section
variable {X:Cx}{e:Expr}{pos p p' kp p2 p3 p4:Pos}{x:Str}{k:Nat}{f:Addr}{fd:FuncData}{ps:List Str}{fn:List D->Option D}
theorem Zz (F:FnOk X.prog X.w X.K X.mg X.base CX0 k f fd ps (spP X.K 1 fn)) (hr:Room (k+2) X.A) (hgf:Gl X x) (hmf:X.mg x=some (.ref f)) (hb:Binds X.K fd ps []) (hdb:(x == ("__debug__":Str))=false) (hg:Gl X "sorted") (hm:X.mg "sorted"=none) (ha:PL X [e] g) (he:starEach [e] X.env=(false,eval e X.env)::starEach [] X.env) :
  PF X (.Call (.Name "sorted" p) [e] [⟨some "key",.Name x p',kp⟩] pos) (Bt (C0 fn false) g):=by
 intro pins s σ H Q I h
 obtain⟨env,μ,m,d,S,E,h,q⟩:=h
 obtain⟨xs,h1,h2⟩:=bind_some h
 refine Ayj (Dv I hg hm boot_sorted ?_ (by decide) (by decide))
 refine PyProof.Rows.callWith_kw (thn (ha pos pins s σ H (fun vs H1=>Same H H1/\Reps X.K H1 μ (·∈μ) xs vs) I ⟨env,μ,m,xs,S,E,h1,fun v H1 s1 r1=>⟨s1,r1⟩⟩) fun us s1 ⟨vs,H1,I1,r1,s1',rx⟩=>?_) (by rw[he];rfl) (by rw[he];rfl) rfl rfl
 refine kws_cons (R0 I1 hgf hmf (kws_nil ?_) hdb)
 match xs,h2 with
 |[d'],h2 =>
  obtain⟨ds,h3,h2⟩:=bind_some h2
  obtain⟨ks,h4,h2⟩:=bind_some h2
  obtain⟨out,h5,h2⟩:=bind_some h2
  split at h2
  ·rename_i hc
   cases h2
   obtain⟨v,rfl,r⟩:=rx.one
   obtain⟨a,ys,rfl,hq,rs⟩:=Lq (S.same s1') r h3
   obtain⟨u,rfl,r2⟩:=Iy r1
   cases r2
   obtain⟨its,ri,pl,hz⟩:=I1.list hq
   exact Mg F hr hb I1 (S.same s1') pl.isList ri rs (ksk_s1 _ _) (fun y=>ksk_l1 _ _) (fun y=>ksk_t1 _ _) h4 hc.1 hc.2.1 hc.2.2.1 hc.2.2.2.1 h5 hc.2.2.2.2 fun a ys H' s2 hn hx rr=>q a ys H' (s1'.trans s2) (s1'.free hn) hx rr
  ·exact Al h2
theorem Aie (F:FnOk X.prog X.w X.K X.mg X.base CX0 k f fd ps (spP X.K 1 fn)) (hr:Room (k+2) X.A) (hmf:X.mg x=some (.ref f)) (hb:Binds X.K fd ps []) (hm:X.mg "sorted"=none) (ha:QL X [e] g) (hg:Gl X "sorted":=by unfold Gl;kernel_rfl) (hgf:Gl X x:=by unfold Gl;kernel_rfl) (hdb:(x == ("__debug__":Str))=false:=by decide) (he':By e=true:=by rfl) :
  QF X (.Call (.Name "sorted" p) [e] [⟨some "key",.Name x p',kp⟩] pos) (Bt (C0 fn false) g):=⟨Zz F hr hgf hmf hb hdb hg hm ha.out (Ax he')⟩
end
section
variable {X:Cx}{pins:List (Addr×Obj)}{σ:St}{H:Hp}{s:Shared}{pos:Pos}
end
section
variable {X:Cx}{e:Expr}{es:List Expr}{pos p:Pos}{x:Str}
open Classical in
end
section
variable {X:Cx}{e:Expr}{es:List Expr}{pos p:Pos}{x:Str}
def Oq (m:MH):D->Option D
 |.fn i l=>some (.fn i l)
 |.dks ks vs=>if Be vs=true then some (.dks ks vs) else none
 |.fz φ ss ps is=>some (.fz φ ss ps is)
 |d=>C1 m d
def Dl (m:MH):List D->Option (List D)
 |[]=>some []
 |d::ds=>(Oq m d).bind fun d'=>(Dl m ds).bind fun ds'=>some (d'::ds')
theorem Aa9 {K:W.Frag}{H:Hp}{μ:List Addr}{m:MH} (S:Sim K H μ m) {d d':D}{v:V} (r:Rep K H μ (·∈μ) d v) (h:Oq m d=some d'):Rep K H [] (fun _=>False) d' v:=by
 cases r with
 |fn hf=>cases h;exact .fn hf
 |fz h1 h2 h3=>cases h;exact .fz h1 h2 h3
 |dks h1 h2 h3 h4 =>
  unfold Oq at h
  simp only at h
  split at h
  ·rename_i hn
   cases h
   exact .dks h1 (fun z=>z) h3 (h4.noref (fun _ _ _ _ z=>z) hn)
  ·exact Al h
 |non=>exact (Br S .non h).1
 |bl b=>exact (Br S (.bl b) h).1
 |int b=>exact (Br S (.int b) h).1
 |str b ok=>exact (Br S (.str b ok) h).1
 |tup h1 h2=>exact (Br S (.tup h1 h2) h).1
 |lst h1 h2 h3=>exact (Br S (.lst h1 h2 h3) h).1
 |kl h1 h2=>exact (Br S (.kl h1 h2) h).1
 |dic h1 h2 h3 h4=>exact (Br S (.dic h1 h2 h3 h4) h).1
 |ref h1=>exact (Br S (.ref h1) h).1
theorem Iq {K:W.Frag}{H:Hp}{μ:List Addr}{m:MH} (S:Sim K H μ m):∀ {ds ds':List D}{vs:List V},Reps K H μ (·∈μ) ds vs->Dl m ds=some ds'->Reps K H [] (fun _=>False) ds' vs
 |_,_,_,.nil,h=>by cases h;exact .nil
 |_,_,_,.cons r rs,h=>by
  unfold Dl at h
  obtain⟨d',h1,h⟩:=bind_some h
  obtain⟨ds',h2,h⟩:=bind_some h
  cases h
  exact .cons (Aa9 S r h1) (Iq S rs h2)
def Ie (n:Nat) (fn:List D->Option D):List D->MH->Option D:=fun ds m=>(Dl m ds).bind fun ds'=>if ds'.length=n then fn ds' else none
variable {ex:Expr}{n:Nat}{fn:List D->Option D}{g:FL}{E:XK}
theorem Ta (hp:PE X ex (Arn (spP X.K n fn) [] E (tL X.K g))):PD X ex (Ay (Ie n fn) g):=PE.imp hp fun σ H Q ⟨env,μ,m,d,S,E,h,q⟩=>by
 obtain⟨ds,h1,h⟩:=bind_some h
 obtain⟨ds',h2,h⟩:=bind_some h
 split at h
 ·rename_i hl
  exact⟨env,μ,m,ds,S,E,h1,fun vs H1 s1 rs=>⟨ds',d,by rw[Axx];exact Iq (S.same s1) rs h2,hl,h,fun v H' s' r=>q v H' (s1.trans s') (Rep.ofCall (S.same s1) r)⟩⟩
 ·exact Al h
end
section
variable {prog:Program}{w:World}{A:Around}{E:Value->Shared->Prop}{s:Shared}
end
section
variable {X:Cx}{pins:List (Addr×Obj)}{σ:St}{H:Hp}{s:Shared}{μ:List Addr}{m:MH}{k:Nat}{f:Addr}{fd:FuncData}{ps:List Str}{fn:List D->Option D}{b:Bool}
end
section
variable {X:Cx}{e:Expr}{pos p p' kp kp' cp:Pos}{x:Str}{k:Nat}{f:Addr}{fd:FuncData}{ps:List Str}{fn:List D->Option D}{b:Bool}
end
section
variable {X:Cx}{pins:List (Addr×Obj)}{σ:St}{H:Hp}{s:Shared}{h':Heap}
end
section
variable {X:Cx}{e:Expr}{es:List Expr}{pos p tp:Pos}{x1:Nat}{elts:List Expr}
end
section
variable {X:Cx}{a b c e:Expr}{es:List Expr}{pos p p':Pos}{x:Str}
theorem Ad3 {fd:FuncData} (F:FnOk X.prog X.w X.K X.mg X.base CX0 k f fd ps (spP X.K n fn)) (hr:Room k X.A) (hm:X.mg x=some (.ref f)) (hk:W.keepIn X.K (.ref f)=true) (hb:Binds X.K fd ps []) (ha:QL X (e::es) g) (hg:Gl X x:=by unfold Gl;kernel_rfl) (hdb:(x == ("__debug__":Str))=false:=by decide) (he':By e=true:=by rfl) (hpl':es.all By=true:=by rfl) :
  QD X (.Call (.Name x p) (e::es) [] pos) (Ay (Ie n fn) g):=⟨Ta (N4 F hr hg hm hk hb .nil Adf ha.out hdb (Ax he') (El hpl'))⟩
end
theorem Ab7 (i j:Nat) (hij:i≠j):∀ d d' env e1,G6 2 (Bv (Au i) (Bv (Au j) L3)) d env=some e1->G6 2 (Bv (Au i) (Bv (Au j) L3)) d' e1=G6 2 (Bv (Au i) (Bv (Au j) L3)) d' env:=fun d d' env e1 h=>by
 have he:∃ a b,e1=(env.set i (some a)).set j (some b):=by
  cases d with
  |tup ds =>
   match ds,h with
   |[a,b],h =>
    have h:some ((env.set i (some a)).set j (some b))=some e1:=h
    cases h
    exact⟨a,b,rfl⟩
   |[],h=>exact absurd h (by simp[G6])
   |[_],h=>exact absurd h (by simp[G6])
   |_::_::_::_,h=>exact absurd h (by simp[G6])
  |_=>exact absurd h (by simp[G6])
 obtain⟨a,b,rfl⟩:=he
 cases d' with
 |tup ds =>
  match ds with
  |[a',b'] =>
   show some ((((env.set i (some a)).set j (some b)).set i (some a')).set j (some b'))=some ((env.set i (some a')).set j (some b'))
   rw[List.set_comm _ _ hij.symm,List.set_set,List.set_comm _ _ hij,List.set_comm _ _ hij,List.set_set]
   exact Ay9 some (List.set_comm _ _ hij.symm)
  |[]=>rfl
  |[_]=>rfl
  |_::_::_::_=>simp[G6]
 |_=>rfl
section
variable {X:Cx}{st:Stmt}{sts:List Stmt}
end
section
variable {X:Cx}{o' a:Expr}{apos cpos:Pos}{T:String}{id:String}
end
section
variable {X:Cx}{pins:List (Addr×Obj)}{σ:St}{H:Hp}{s:Shared}{h':Heap}
end
section
variable {X:Cx}{e e2:Expr}{es:List Expr}{pos p tp:Pos}{x1:Nat}{elts:List Expr}
end
section
variable {X:Cx}{e ex:Expr}{es:List Expr}{pos p:Pos}{x:Str}{n:Nat}{fn:List D->Option D}{g:FL}{E:XK}
end
section
variable {X:Cx}{tg elt iter:Expr}{ifs:List Expr}{scope:Scope}{fw:FW}{g:FG}{t:FB}{fe:FE}{x:Str}{pos p' spos:Pos}
end
section
variable {X:Cx}{e:Expr}{es:List Expr}{pos p:Pos}{x:Str}
open Classical in
end
structure FD (K:W.Frag) (mg:Str->Option Value) (x:Str) (st:Stmt) (ps:List Str):Prop where
 ex:∃ a fd,mg x=some (.ref a)/\Fun K x x st a fd/\Binds K fd ps []
structure Cl (P:Program) (w:World) (K:W.Frag) (mg:Str->Option Value) (base:Heap) (k:Nat) (x:Str) (n:Nat) (fn:List D->Option D):Prop where
 ex:∃ a fd ps,FnOk P w K mg base CX0 k a fd ps (spP K n fn)/\mg x=some (.ref a)/\W.keepIn K (.ref a)=true/\Binds K fd ps []
abbrev BH (x:Str) (st:Stmt) (ps:List Str):Prop:=∀ (kV doc pm:Value) (an:Option Addr) (cdv ct:Value) (us:List Value),us.length=ps.length->bindArgs (W.fnOf x x (Gk st) (C5 st) (Bc st) .none kV doc pm an cdv ct) ⟨us,[]⟩=pure (ps.zip us)
theorem of1 {P:List Value->Prop} (h:∀ a,P [a]):∀ us:List Value,us.length=1->P us:=by
 intro us e
 cases us with
 |nil=>cases e
 |cons a us =>
  cases us with
  |nil=>exact h a
  |cons _ _=>cases e
theorem of2 {P:List Value->Prop} (h:∀ a b,P [a,b]):∀ us:List Value,us.length=2->P us:=by
 intro us e
 cases us with
 |nil=>cases e
 |cons a us=>exact of1 (P:=fun us=>P (a::us)) (h a) us (Nat.succ.inj e)
theorem of3 {P:List Value->Prop} (h:∀ a b c,P [a,b,c]):∀ us:List Value,us.length=3->P us:=by
 intro us e
 cases us with
 |nil=>cases e
 |cons a us=>exact of2 (P:=fun us=>P (a::us)) (h a) us (Nat.succ.inj e)
structure FM (K:W.Frag) (x:Str) (st:Stmt):Prop where
 ex:∃ a fd,W.nsIn K mainGlobals x=some (some (.ref a))/\Fun K x x st a fd
theorem fm_mk {K:W.Frag}{x:Str}{st:Stmt}{f:Addr}{oc:Value}{od an:Option Addr}{osl:Array (Option Value)}{kV doc pm cdv ct:Value} (n:W.nsIn K mainGlobals x=some (some (.ref f))) (l:K.lookup f=some ⟨oc,od,.func (W.fnOf x x (Gk st) (C5 st) (Bc st) .none kV doc pm an cdv ct),osl⟩)
  (c:W.codeIn K cdv x=true) (k:W.keepIn K (.ref f)=true):FM K x st:=⟨f,_,n,Ae8 l c k⟩
theorem FM.fd {K:W.Frag}{h:Heap}{mg:Str->Option Value}{x:Str}{st:Stmt}{ps:List Str} (F:FM K x st) (X:K.In h) (G:h.Ns mainGlobals mg)
  (hb:BH x st ps):FD K mg x st ps:=by
 obtain⟨a,fd,n,F⟩:=F.ex
 exact⟨a,fd,W.mg_of X G n,F,F.binds hb⟩
theorem FM.fd1 {K:W.Frag}{h:Heap}{mg:Str->Option Value}{x a:Str}{st:Stmt} (F:FM K x st) (X:K.In h) (G:h.Ns mainGlobals mg) (hb:BH x st [a]:=by exact fun _ _ _ _ _ _=>of1 fun _=>rfl):FD K mg x st [a]:=F.fd X G hb
theorem FM.fd2 {K:W.Frag}{h:Heap}{mg:Str->Option Value}{x a b:Str}{st:Stmt} (F:FM K x st) (X:K.In h) (G:h.Ns mainGlobals mg) (hb:BH x st [a,b]:=by exact fun _ _ _ _ _ _=>of2 fun _ _=>rfl):FD K mg x st [a,b]:=F.fd X G hb
theorem FM.fd3 {K:W.Frag}{h:Heap}{mg:Str->Option Value}{x a b c:Str}{st:Stmt} (F:FM K x st) (X:K.In h) (G:h.Ns mainGlobals mg) (hb:BH x st [a,b,c]:=by exact fun _ _ _ _ _ _=>of3 fun _ _ _=>rfl):FD K mg x st [a,b,c]:=F.fd X G hb
theorem FM.fd4 {K:W.Frag}{h:Heap}{mg:Str->Option Value}{x a b c d:Str}{st:Stmt} (F:FM K x st) (X:K.In h) (G:h.Ns mainGlobals mg) (hb:BH x st [a,b,c,d]:=by exact fun _ _ _ _ _ _ us hl=>match us,hl with|[_,_,_,_],_=>rfl):FD K mg x st [a,b,c,d]:=F.fd X G hb
theorem FM.fd5 {K:W.Frag}{h:Heap}{mg:Str->Option Value}{x a b c d e:Str}{st:Stmt} (F:FM K x st) (X:K.In h) (G:h.Ns mainGlobals mg) (hb:BH x st [a,b,c,d,e]:=by exact fun _ _ _ _ _ _ us hl=>match us,hl with|[_,_,_,_,_],_=>rfl):FD K mg x st [a,b,c,d,e]:=F.fd X G hb
section
variable {P:Program}{w:World}{K:W.Frag}{mg:Str->Option Value}{base:Heap}{x:Str}{st:Stmt}{ps:List Str}{k n:Nat}{tabs:List (Addr×Str)}{p:Addr}
theorem Ey (N:List Str) (T:FD K mg x st ps) (g:FS) (fn:List D->Option D)
  (hbody:∀ (f:Addr) (cdv:Value) (A:Around) (outer:List Env) (s:Shared) (H:Hp) (E:XK),Room k (A.deeper (envOfC x (Bc st) s.heap.objs.size f cdv))->N.Nodup ->
   QSs (X3 CX0 P w K mg base N x (Bc st) f cdv A outer s H E).nox (C5 st) g) (hfn:fn=Hv N.length g:=by rfl) (hn:ps.length=n:=by rfl) (S:FnScope N ps (Bc st):=by exact⟨rfl,rfl,rfl,by decide +kernel,rfl,by decide +kernel,by decide +kernel⟩):Cl P w K mg base (k+1) x n fn:=by
 obtain⟨a,fd,m,F,b⟩:=T.ex
 exact⟨a,fd,ps,Avc F S g fn hfn hn fun cdv A outer s H E hr=>hbody a cdv A outer s H E hr S.nd,m,F.kp,b⟩
end
section
variable {X:Cx}{e:Expr}{es:List Expr}{pos p p' cp:Pos}{x:Str}{k j n:Nat}{fn:List D->Option D}{g:FL}{tabs:List (Addr×Str)}{kp kp':Pos}{b:Bool}
theorem q_c (F:Cl X.prog X.w X.K X.mg X.base k x n fn) (hr:Room j X.A) (ha:QL X (e::es) g) (hk:k<=j:=by decide) (hg:Gl X x:=by unfold Gl;kernel_rfl) (hdb:(x == ("__debug__":Str))=false:=by decide) (he':By e=true:=by rfl) (hpl':es.all By=true:=by rfl) :
  QD X (.Call (.Name x p) (e::es) [] pos) (Ay (C3 n fn) g):=by
 obtain⟨a,fd,ps,F,m,kp,b⟩:=F.ex
 exact Akx F (hr.mono hk) m kp b ha hg hdb he' hpl'
theorem Aai (F:Cl X.prog X.w X.K X.mg X.base k x n fn) (hr:Room j X.A) (ha:QL X (e::es) g) (hk:k<=j:=by decide) (hg:Gl X x:=by unfold Gl;kernel_rfl) (hdb:(x == ("__debug__":Str))=false:=by decide) (he':By e=true:=by rfl) (hpl':es.all By=true:=by rfl) :
  QF X (.Call (.Name x p) (e::es) [] pos) (Bt (Gc n fn) g):=by
 obtain⟨a,fd,ps,F,m,kp,b⟩:=F.ex
 exact Akz F (hr.mono hk) m kp b ha hg hdb he' hpl'
theorem Aup (F:Cl X.prog X.w X.K X.mg X.base k x n fn) (hr:Room j X.A) (ha:QL X (e::es) g) (hk:k<=j:=by decide) (hg:Gl X x:=by unfold Gl;kernel_rfl) (hdb:(x == ("__debug__":Str))=false:=by decide) (he':By e=true:=by rfl) (hpl':es.all By=true:=by rfl) :
  QD X (.Call (.Name x p) (e::es) [] pos) (Ay (Ie n fn) g):=by
 obtain⟨a,fd,ps,F,m,kp,b⟩:=F.ex
 exact Ad3 F (hr.mono hk) m kp b ha hg hdb he' hpl'
theorem Aqx (F:Cl X.prog X.w X.K X.mg X.base k x 1 fn) (hr:Room j X.A) (hm:X.mg "sorted"=none) (ha:QL X [e] g) (hk:k+2<=j:=by decide) (hg:Gl X "sorted":=by unfold Gl;kernel_rfl) (hgf:Gl X x:=by unfold Gl;kernel_rfl) (hdb:(x == ("__debug__":Str))=false:=by decide) (he':By e=true:=by rfl) :
  QF X (.Call (.Name "sorted" p) [e] [⟨some "key",.Name x p',kp⟩] pos) (Bt (C0 fn false) g):=by
 obtain⟨a,fd,ps,F,m,kp,b⟩:=F.ex
 exact Aie F (hr.mono hk) m b hm ha hg hgf hdb he'
theorem Auq {i} (F:Cl X.prog X.w X.K X.mg X.base k x 1 fn) (hr:Room j X.A) (hm:X.mg "sorted"=none) (ha:QL X [e] g) (hk:k+2<=j:=by decide) (hg:Gl X "sorted":=by unfold Gl;kernel_rfl) (hgf:Gl X x:=by unfold Gl;kernel_rfl) (hdb:(x == ("__debug__":Str))=false:=by decide) (he':By e=true:=by rfl) :
  QF X (.Call (.Name "sorted" p) [e] [⟨some "key",.Name x p',kp⟩,⟨some "reverse",.Constant (.bool b) i cp,kp'⟩] pos) (Bt (C0 fn b) g):=by
 obtain⟨a,fd,ps,F,m,kp,b⟩:=F.ex
 exact Aob F (hr.mono hk) m b hm ha hg hgf hdb he'
end
end ML
end L2
end S_ML22
section S_TS1
open Lean in
set_option hygiene false in
local macro_rules|`(tactic| sizeOf_list_dec)=>do
 let n (s:String):TSyntax `ident:=mkIdent (mkPrivateNameCore `PySem.Builtin.List.W1All (Name.str `PySem.Builtin s))
 `(tactic| delta $(n "gallop"))
namespace L2
namespace TS
open PySem PySem.W PySem.Calls PyProof.Rows
section
variable {σ:Type}{M:Model}{A:Around}{E:Value->Shared->Prop}
end
section
variable {prog:Program}{w:World}{A:Around}{E:Value->Shared->Prop}{κ:SortKind}{it:Array Keyed}
variable {N:Nat}{c:Nat->Nat->Bool}{J:Shared->Prop}
end
end TS
end L2
end S_TS1
section S_TS2
namespace L2
namespace TS
open PySem PySem.W PySem.Calls PyProof.Rows
section
variable {prog:Program}{w:World}{A:Around}{E:Value->Shared->Prop}{κ:SortKind}{it:Array Keyed}{N:Nat}{c:Nat->Nat->Bool}{J:Shared->Prop}
variable {X Y O:List Nat}{ia ib:Nat}
end
end TS
end L2
end S_TS2
section S_TS3
open Lean in
set_option hygiene false in
local macro_rules|`(tactic| sizeOf_list_dec)=>do
 let n (s:String):TSyntax `ident:=mkIdent (mkPrivateNameCore `PySem.Builtin.List.W1All (Name.str `PySem.Builtin s))
 `(tactic| delta $(n "mergeLo"))
namespace L2
namespace TS
open PySem PySem.W PySem.Calls PyProof.Rows
section
variable {prog:Program}{w:World}{A:Around}{E:Value->Shared->Prop}{κ:SortKind}{it:Array Keyed}{N:Nat}{c:Nat->Nat->Bool}{J:Shared->Prop}
end
end TS
end L2
end S_TS3
section S_TS4
namespace L2
namespace TS
open PySem PySem.W PySem.Calls PyProof.Rows
section
variable {c:Nat->Nat->Bool}
variable {X Y O:List Nat}{na nb:Nat}
end
end TS
end L2
end S_TS4
section S_TS5
open Lean in
set_option hygiene false in
local macro_rules|`(tactic| sizeOf_list_dec)=>do
 let n (s:String):TSyntax `ident:=mkIdent (mkPrivateNameCore `PySem.Builtin.List.W1All (Name.str `PySem.Builtin s))
 `(tactic| delta $(n "mergeHi"))
namespace L2
namespace TS
open PySem PySem.W PySem.Calls PyProof.Rows
section
variable {prog:Program}{w:World}{A:Around}{E:Value->Shared->Prop}{κ:SortKind}{it:Array Keyed}{N:Nat}{c:Nat->Nat->Bool}{J:Shared->Prop}
end
end TS
end L2
end S_TS5
section S_TS6
open Lean in
set_option hygiene false in
local macro_rules|`(tactic| sizeOf_list_dec)=>do
 let n (s:String):TSyntax `ident:=mkIdent (mkPrivateNameCore `PySem.Builtin.List.W1All (Name.str `PySem.Builtin s))
 `(tactic| delta $(n "mergeAt"))
namespace L2
namespace TS
open PySem PySem.W PySem.Calls PyProof.Rows
section
variable {prog:Program}{w:World}{A:Around}{E:Value->Shared->Prop}{κ:SortKind}{it:Array Keyed}{N:Nat}{c:Nat->Nat->Bool}{J:Shared->Prop}
end
end TS
end L2
end S_TS6
section S_TS7
namespace L2
namespace TS
open PySem PySem.W PySem.Calls PyProof.Rows
section
variable {α:Type}
end
section
variable {prog:Program}{w:World}{A:Around}{E:Value->Shared->Prop}{κ:SortKind}{it:Array Keyed}{N:Nat}{c:Nat->Nat->Bool}{J:Shared->Prop}
end
end TS
end L2
end S_TS7
section S_TS8
namespace L2
namespace TS
open PySem PySem.W PySem.Calls PyProof.Rows
section
variable {prog:Program}{w:World}{A:Around}{E:Value->Shared->Prop}{κ:SortKind}{it:Array Keyed}{n:Nat}{c:Nat->Nat->Bool}{J:Shared->Prop}
end
end TS
end L2
end S_TS8
section S_ML35
namespace L2
namespace ML
open PySem PySem.Spec PyProof.Rows PySem.SeqAt
open PySem.W (KasT kas_sort katRev KatLex)
open Classical in
section
variable {X:Cx}{pins:List (Addr×Obj)}{σ:St}{H H1:Hp}{s:Shared}{μ:List Addr}{m:MH}{k:Nat}{f:Addr}{fd:FuncData}{ps:List Str}{fn:List D->Option D}{A':Around}
end
section
variable {X:Cx}{e:Expr}{pos p p' kp kp' cp:Pos}{x:Str}{k:Nat}{f:Addr}{fd:FuncData}{ps:List Str}{fn:List D->Option D}{b:Bool}
end
section
variable {X:Cx}{e:Expr}{es:List Expr}{pos p p' cp:Pos}{x:Str}{k j n:Nat}{fn:List D->Option D}{g:FL}{tabs:List (Addr×Str)}{kp kp':Pos}{b:Bool}
end
section
variable {X:Cx}{e:Expr}{pos p':Pos}{x:Str}{i:Nat}{f:FE}
end
end ML
end L2
end S_ML35
section S_TX1
namespace L2
namespace TX
open PySem PySem.Spec PyProof.Rows
section
variable {prog:Program}{w:World}{A:Around}{E:Value->Shared->Prop}{s:Shared}
end
end TX
end L2
end S_TX1
section S_TX2
namespace L2
namespace TX
open PySem PySem.Spec PyProof.Rows
section
variable {prog:Program}{w:World}{A:Around}{R:Result->Shared->Prop}{I:Addr}{fp wr:List Addr}{G:Array GenState->Array GenState->Prop}{n:Nat}{P:Nat->Value->Prop}{St:Nat->Shared->Prop}
end
section
variable {prog:Program}{w:World}{A:Around}{E:Value->Shared->Prop}{s:Shared}
end
end TX
end L2
end S_TX2
section S_TX3
open Lean in
set_option hygiene false in
local macro_rules|`(tactic| sizeOf_list_dec)=>do
 let n (s:String):TSyntax `ident:=mkIdent (mkPrivateNameCore `PySem.SetOps (Name.str `PySem s))
 `(tactic| delta $(n "drawn"))
open Lean in
set_option hygiene false in
local macro_rules|`(tactic| array_get_dec)=>do
 let n (s:String):TSyntax `ident:=mkIdent (mkPrivateNameCore `PySem.SetOps (Name.str `PySem s))
 `(tactic| delta $(n "mustBeLedForItsPlaces"))
namespace L2
namespace TX
open PySem PySem.Spec PyProof.Rows
section
variable {prog:Program}{w:World}{A:Around}{E:Value->Shared->Prop}{s:Shared}
end
end TX
end L2
end S_TX3
section S_TX4
open Lean in
set_option hygiene false in
local macro_rules|`(tactic| sizeOf_list_dec)=>do
 let n (s:String):TSyntax `ident:=mkIdent (mkPrivateNameCore `PySem.SetOps (Name.str `PySem s))
 `(tactic| delta $(n "drawn"))
open Lean in
set_option hygiene false in
local macro_rules|`(tactic| array_get_dec)=>do
 let n (s:String):TSyntax `ident:=mkIdent (mkPrivateNameCore `PySem.SetOps (Name.str `PySem s))
 `(tactic| delta $(n "mustBeLedForItsPlaces"))
namespace L2
namespace TX
open PySem PySem.Spec PyProof.Rows
section
variable {prog:Program}{w:World}{A:Around}{E:Value->Shared->Prop}{s:Shared}
end
end TX
end L2
end S_TX4
section S_TX5
open Lean in
set_option hygiene false in
local macro_rules|`(tactic| sizeOf_list_dec)=>do
 let n (s:String):TSyntax `ident:=mkIdent (mkPrivateNameCore `PySem.SetOps (Name.str `PySem s))
 `(tactic| delta $(n "drawn"))
namespace L2
namespace TX
open PySem PySem.Spec PyProof.Rows
section
variable {prog:Program}{w:World}{A:Around}{E:Value->Shared->Prop}{s:Shared}
end
end TX
end L2
end S_TX5
section S_TX6
namespace L2
namespace TX
open PySem PySem.Spec PyProof.Rows
section
variable {prog:Program}{w:World}{A:Around}{E:Value->Shared->Prop}{s:Shared}
end
end TX
end L2
end S_TX6
section S_TX7
namespace L2
namespace TX
open PySem PySem.Spec PyProof.Rows
section
variable {prog:Program}{w:World}{A:Around}{E:Value->Shared->Prop}{s:Shared}
end
end TX
end L2
end S_TX7
section S_DX1
namespace L2
namespace TX
open PySem PySem.Spec PyProof.Rows
section
variable {prog:Program}{w:World}{A:Around}{E:Value->Shared->Prop}{s:Shared}
theorem Aei:typeLookup (.type "tuple") "keys"=pure none:=by rw[Ay8,Ayo];kernel_rfl
theorem Vu {a:Addr}{o:Obj}{xs:Array Value}{k:Nat}{Q:Option Value->Shared->Prop} (hx:s.heap.get? a=some o) (hc:o.cls=.type "tuple") (hdat:o.data=.seq xs k) (hd:o.dict=none) (hA:A.handled=none)
  (h:∀ h' tk,(∀ b ob,s.heap.get? b=some ob->h'.get? b=some ob)->Q none { s with heap:=h',toks:=tk }):wpAny (model prog w) A (getAttr? (.ref a) "keys") Q E s:=by
 obtain⟨c,dct,dat,sl⟩:=o
 simp only at hc hdat hd
 subst hc hdat hd
 obtain⟨hp,g,d,tk,os⟩:=s
 have hT:∀ tk',(⟨hp,g,d,tk',os⟩:Shared).TypeIs (.ref a) "tuple":=fun _=>⟨_,hx,rfl⟩
 have f1:=sub_AttributeError
 have f3:=PySem.F.slot_tuple_getattribute.lookup
 have f4:=PySem.F.slot_tuple_getattribute.bind (.ref a)
 have f5:=am_tuple_getattr_none
 unfold getAttr? getAttrBy? getAttrBy
 repeat (any_goals (first|assumption|exact hT _|((with_reducible show wpAny _ _ (call (Value.builtin "tuple.__getattribute__") _ _) _ _ _);refine call_meets PySem.F.slot_tuple_getattribute (hT _) am_entry_tuple_getattribute (PySem.F.args_tuple_getattribute_2 _ _) (meets_getattribute_miss_tuple a xs k sl "keys" _ Aei (by decide +kernel) (by decide +kernel)) ⟨hx,hA,fun h' tk' e hx'=>?_⟩)|wp_step))
 obtain⟨t',u',he⟩:=hx'.there
 show wpAny _ _ (getattributeRaised _ _ _ _ _ _ _) _ _ _
 unfold getattributeRaised
 repeat (any_goals (first|assumption|wp_step))
 exact h _ _ hx'.keeps
end
end TX
end L2
end S_DX1
section S_DX2
namespace L2
namespace TX
open PySem PySem.Spec PyProof.Rows
theorem O9:entryFor table "dict.update.loop"=some Builtin.«dict.update.loop»:=entryFor_of_tree (by kernel_rfl)
theorem He:plainId "dict.update.loop"=true:=by decide +kernel
structure Fills (prog:Program) (w:World) (A:Around) (d:Addr) (wr:List Addr) (n:Nat) (P:Nat->Value->Prop) (C:Heap->Prop) (Dn:Nat->Heap->Prop):Prop where
 pair:∀ i v h,i < n->P i v->C h->∃ (a:Addr) (o:Obj) (c:Nat) (k x:Value),v=.ref a/\h.get? a=some o/\o.cls=.type "tuple"/\o.data=.seq #[k,x] c /\
  ∀ (s:Shared) (Q:Unit->Shared->Prop) (E:Value->Shared->Prop),s.heap=h->Dn i h->(∀ h' tk,s.toks<=tk->Heap.SameBut d s.heap h'->Dn (i+1) h'->Q () { s with heap:=h',toks:=tk })->wpAny (model prog w) A (dictSet d k x) Q E s
 cKeep:∀ h h',C h->(∀ b o,b≠d->b∉wr->h.get? b=some o->h'.get? b=some o)->C h'
 dKeep:∀ i h h',Dn i h->(∀ b o,b∉wr->h.get? b=some o->h'.get? b=some o)->Dn i h'
section
variable {prog:Program}{w:World}{A:Around}{E:Value->Shared->Prop}{R:Result->Shared->Prop}{I:Addr}{fp wr:List Addr}{G:Array GenState->Array GenState->Prop}{n:Nat}{P:Nat->Value->Prop}{St:Nat->Shared->Prop}{C:Heap->Prop}{Dn:Nat->Heap->Prop}
theorem N3 {s:Shared}{a:Addr}{o:Obj}{c:Nat}{k x:Value}{Q:List Value->Shared->Prop} (ho:s.heap.get? a=some o) (hc:o.cls=.type "tuple") (hd:o.data=.seq #[k,x] c) (h:Q [k,x] s):wpAny (model prog w) A (Builtin.Dict.pairItems (.ref a)) Q E s:=by
 unfold Builtin.Dict.pairItems
 refine Axh (Azl (T:="tuple") ⟨o,ho,hc⟩ ?_)
 rw[Axv (by decide)]
 refine Axh (Az5 ho hd ?_)
 exact Axo h
theorem X6 (W:WalksS prog w A.in1 I fp wr G n P St) (d:Addr) (hdf:d∉fp) (F:Fills prog w A.in1 d wr n P C Dn) (res:Value) :
  ∀ (k i:Nat) (s:Shared),n - i=k->i<=n->St i s->C s.heap->Dn i s.heap->(∀ s',Moved (d::wr) G s s'->Dn n s'.heap->R (.ok (.ret res)) s') ->
   codeAny (model prog w) A (.builtin "dict.update.loop" ⟨[.ref d,.ref I,rawInt i,res],[]⟩) R s:=by
 have hdw:d∉wr:=fun h=>hdf (W.sub _ h)
 have hsub:∀ b∈wr,b∈d::wr:=fun b hb=>Axl _ hb
 intro k
 induction k with
 |zero =>
  intro i s hk hi hst hC hD hR
  have hin:i=n:=by lia
  subst hin
  refine codeAny_builtin O9 ?_
  rw[Around.under_plainId He _]
  show wpAny _ A.in1 (pyNext (.ref I) >>= _) _ _ s
  refine Axh (W.done s _ _ hst fun s' hm=>?_)
  show wpAny _ A.in1 (Builtin.Dict.addKeywords d [] >>= fun _=>ret res) _ _ s'
  refine Axh (Axo ?_)
  exact Axo (hR s' (hm.mono hsub) (F.dKeep _ _ _ hD fun b o hb e=>hm.heap b o hb e))
 |succ k ih =>
  intro i s hk hi hst hC hD hR
  have hlt:i < n:=by lia
  refine codeAny_builtin O9 ?_
  rw[Around.under_plainId He _]
  show wpAny _ A.in1 (pyNext (.ref I) >>= _) _ _ s
  refine Axh (W.item i s _ _ hlt hst fun v s' hP hst' hm=>?_)
  have hC':C s'.heap:=F.cKeep _ _ hC fun b o _ hb e=>hm.heap b o hb e
  have hD':Dn i s'.heap:=F.dKeep _ _ _ hD fun b o hb e=>hm.heap b o hb e
  obtain⟨a,o,c,kv,xv,rfl,ho,hc,hd,hset⟩:=F.pair i v s'.heap hlt hP hC'
  refine Axh (Ay5 (Axh (wpAny_tryCatch (N3 ho hc hd ?_))))
  refine Ay5 (hset s' _ _ rfl hD' fun h' tk htk hsb hD2=>?_)
  refine Axo ⟨plainId_quiet He _,?_⟩
  refine ih (i+1) _ (by lia) hlt (W.frame _ s' _ _ hst' htk fun b hb o e=>?_) (F.cKeep _ _ hC' fun b o hb _ e=>(hsb.2 b hb).trans e) hD2 fun s'' hm'' hD''=>?_
  ·exact (hsb.2 b (fun h:b=d=>hdf (by rw[<- h];exact hb))).trans e
  ·refine hR s'' (Moved.trans W.gtrans ((hm.mono hsub).then_heap htk fun b o hb e=>?_) hm'') hD''
   exact (hsb.2 b (fun h:b=d=>hb (by rw[h];exact Axn))).trans e
end
end TX
end L2
end S_DX2
section S_DX3
namespace L2
namespace TX
open PySem PySem.Spec PyProof.Rows
section
variable {prog:Program}{w:World}{A:Around}{E:Value->Shared->Prop}{s:Shared}{C:Heap->Prop}{Dn:Nat->Heap->Prop}
noncomputable def Mj:Obj:={ cls:=.type "dict",data:=.dict #[] }
theorem dict_tuple {t:Addr}{o:Obj}{items:Array Value}{c:Nat}{Q:Value->Shared->Prop} (hh:A.handled=none) (ho:s.heap.get? t=some o) (hc:o.cls=.type "tuple") (hdat:o.data=.seq items c) (hd:o.dict=none)
  (F:∀ I,s.heap.objs.size < I->Fills prog w A.in1.in1 s.heap.objs.size [I] items.size (fun i v=>items[i]?=some v) C Dn)
  (hC:∀ h,(∀ b ob,s.heap.get? b=some ob->h.get? b=some ob)->C h) (hD:∀ h,h.get? s.heap.objs.size=some Mj->Dn 0 h)
  (h:∀ h' tk,(∀ b ob,s.heap.get? b=some ob->h'.get? b=some ob)->Dn items.size h'->Q (.ref s.heap.objs.size) { s with heap:=h',toks:=tk }) :
  wpAny (model prog w) A (call (.type "dict") [.ref t]) Q E s:=by
 refine callType_codes (Q₁:=fun obj s₁=>obj=.ref s.heap.objs.size/\s₁={ s with heap:=s.heap.push Mj }) PySem.F.kt_called_dict (PySem.F.kt_typeCall_dict_1 _) PySem.F.entry_dict_init (kt_code_dict_new _ ⟨rfl,rfl⟩) ?_
 rintro obj s₁ ⟨rfl,rfl⟩
 have hlt:t < s.heap.objs.size:=Axm ho
 have hg:(s.heap.push Mj).get? s.heap.objs.size=some Mj:=Axw _ rfl
 have hT:Shared.TypeIs { s with heap:=s.heap.push Mj } (.ref s.heap.objs.size) "dict":=⟨_,hg,rfl⟩
 have ho1:(s.heap.push Mj).get? t=some o:=Axi _ ho
 refine⟨hT,PySem.F.args_dict_init_2 _ _,?_⟩
 unfold Builtin.«dict.__init__»
 refine Axh ?_
 unfold Builtin.Dict.selfAndRest
 refine Axh (wpAny_notOrdered_dict hT ?_)
 show wpAny _ _ (pure (s.heap.objs.size,[Value.ref t])) _ _ _
 refine Axo ?_
 show wpAny _ _ (Builtin.Dict.updateFrom "dict.__init__" s.heap.objs.size (.ref t) [] .none) _ _ _
 unfold Builtin.Dict.updateFrom
 refine Axh (Azl (T:="tuple") ⟨o,ho1,hc⟩ ?_)
 rw[Axv (by decide)]
 refine Axh (Vu ho1 hc hdat hd hh fun h1 tk1 hk1=>?_)
 rw[Axv (show (none:Option Value).isNone=true from rfl)]
 refine Axh (wpAny_rule ?_)
 have ht1:h1.IsTuple t items:=⟨o,hk1 _ _ ho1,hc,c,hdat⟩
 refine Axh (wpAny_pyIter_tuple ht1 ?_)
 have hI:s.heap.objs.size < h1.objs.size:=Axm (hk1 _ _ hg)
 have htI:t≠h1.objs.size:=Ax5 (Nat.lt_trans hlt hI)
 have kp:∀ b ob,s.heap.get? b=some ob->(h1.push { cls:=.type "tuple_iterator",data:=.fields #[.ref t,.int 0 0] }).get? b=some ob:=fun b ob e=>Axi _ (hk1 _ _ (Axi _ e))
 refine Axo ⟨plainId_quiet He _,?_⟩
 refine X6 ((Walks.tuple (A:=A.in1.in1) hh h1.objs.size t htI items).toS) s.heap.objs.size (by
  simp only[Ay0,Ays,or_false,not_or]
  exact⟨Ax5 hI,Ayu hlt⟩) (F h1.objs.size hI) .none items.size 0 _ (by lia) (Ax9 _) ⟨⟨_,Axw _ rfl,rfl,rfl⟩,ht1.push _⟩ (hC _ kp) (hD _ (Axi _ (hk1 _ _ hg))) fun s' hm hD'=>?_
 obtain⟨h',g',d',tk',os'⟩:=s'
 have eg:g'=s.gens:=hm.gens
 have ed:d'=s.drawn:=hm.drawn
 have eo:os'=s.os:=hm.os
 subst eg;subst ed;subst eo
 refine⟨rfl,h h' tk' (fun b ob e=>?_) hD'⟩
 refine hm.heap b ob (fun hb=>?_) (kp b ob e)
 have hb':=Axm e
 rcases List.mem_cons.mp hb with rfl|hb
 ·exact absurd hb' (Ayd _)
 ·rw[List.mem_singleton.mp hb] at hb'
  exact absurd (Nat.lt_trans hI hb') (Ayd _)
end
end TX
end L2
end S_DX3
section S_ML36
namespace L2
namespace ML
open PySem PySem.Spec PyProof.Rows
abbrev Akr (kvs:List (Key×V)) (k:Key) (v:V):List (Key×V):=if kvs.any (fun kv=>kv.1=k) then kvs.map (fun kv=>if kv.1=k then (kv.1,v) else kv) else kvs++[(k,v)]
theorem KV.any {kvs:List (Key×V)}{us:List (Key×Value)} (r:KV kvs us) (k:Key):kvs.any (fun kv=>kv.1=k)=us.any (fun kv=>kv.1=k):=by
 induction r with
 |nil=>rfl
 |cons h t ih=>rw[Azk,Azk,ih,h.1]
theorem KV.put {kvs:List (Key×V)}{us:List (Key×Value)} (r:KV kvs us) (k:Key) {y:V}{u:Value} (ry:RelV y u):KV (Akr kvs k y) (stored us k u):=by
 have e0:=KV.any r k
 have c1:KV (kvs.map fun kv=>if kv.1=k then (kv.1,y) else kv) (us.map fun kv=>if kv.1=k then (kv.1,u) else kv):=by
  clear e0
  induction r with
  |nil=>exact .nil
  |@cons p q ps qs h t ih =>
   refine .cons ?_ ih
   dsimp only
   by_cases e:p.1=k
   ·rw[Axv e,Axv (h.1.symm.trans e)];exact⟨h.1,ry⟩
   ·rw[Axy e,Axy (fun z=>e (h.1.trans z))];exact h
 have c2:KV (kvs++[(k,y)]) (us++[(k,u)]):=by
  clear e0 c1
  induction r with
  |nil=>exact .cons ⟨rfl,ry⟩ .nil
  |cons h t ih=>exact .cons h ih
 unfold Akr stored
 rw[e0]
 split
 ·exact c1
 ·exact c2
noncomputable def Agv (kvs:List (Key×V)) (k:Key):Option V:=(kvs.find? fun kv=>kv.1=k).map (·.2)
theorem KV.val {kvs:List (Key×V)}{us:List (Key×Value)} (r:KV kvs us) (k:Key):Al2 (Agv kvs k) (valueAt us k):=by
 induction r with
 |nil=>exact True.intro
 |@cons p q ps qs h t ih =>
  unfold Agv valueAt at ih ⊢
  rw[Azt,Azt]
  by_cases e:p.1=k
  ·have e':q.1=k:=h.1.symm.trans e
   simp only[e,e',decide_true]
   exact h.2
  ·have e':¬ q.1=k:=fun z=>e (h.1.trans z)
   simp only[e,e',decide_false]
   exact ih
noncomputable def Ace:List Str->List D->Str->Option D
 |k::ks,v::vs,x=>if k=x then some v else Ace ks vs x
 |_,_,_=>none
noncomputable def Ar7:List Str->List D->Str->D->List D
 |k::ks,v::vs,x,y=>(if k=x then y else v)::Ar7 ks vs x y
 |_,vs,_,_=>vs
def Aad (ks:List Str) (vs:List D) (x:Str) (y:D):List Str×List D:=if x∈ks then (ks,Ar7 ks vs x y) else (ks++[x],vs++[y])
section
variable {K:W.Frag}{H:Hp}{μ:List Addr}{B:Addr->Prop}
inductive RS (K:W.Frag) (H:Hp) (μ:List Addr) (B:Addr->Prop) (ks:List Str) (vs:List D) (kvs:List (Key×V)):Prop
 |mk (h1:ks.map Sum.inr=kvs.map (·.1)) (h2:Reps K H μ B vs (kvs.map (·.2)))
theorem RS.cons_inv {k:Str}{ks:List Str}{vs:List D}{kvs:List (Key×V)} (r:RS K H μ B (k::ks) vs kvs):∃ v vs' p kvs',vs=v::vs'/\kvs=p::kvs'/\p.1=.inr k/\Rep K H μ B v p.2/\RS K H μ B ks vs' kvs':=by
 obtain⟨h1,h2⟩:=r
 cases kvs with
 |nil=>simp at h1
 |cons p kvs =>
  rw[Axs,Axs] at h1
  obtain⟨e1,e2⟩:=List.cons.inj h1
  rw[Axs] at h2
  cases h2 with
  |cons r rs=>exact⟨_,_,p,kvs,rfl,rfl,e1.symm,r,e2,rs⟩
theorem RS.nil_inv {vs:List D}{kvs:List (Key×V)} (r:RS K H μ B [] vs kvs):vs=[]/\kvs=[]:=by
 obtain⟨h1,h2⟩:=r
 cases kvs with
 |nil=>cases h2;exact⟨rfl,rfl⟩
 |cons p kvs=>simp at h1
theorem RS.any {ks:List Str}{vs:List D}{kvs:List (Key×V)} (r:RS K H μ B ks vs kvs) (x:Str):kvs.any (fun kv=>kv.1=.inr x)=decide (x∈ks):=by
 induction ks generalizing vs kvs with
 |nil=>obtain⟨rfl,rfl⟩:=r.nil_inv;rfl
 |cons k ks ih =>
  obtain⟨v,vs,p,kvs,rfl,rfl,e,_,r⟩:=r.cons_inv
  rw[Azk,ih r,e]
  by_cases q:x=k
  ·subst q;simp
  ·have:¬ (Sum.inr k:Key)=Sum.inr x:=fun z=>q (Sum.inr.inj z).symm
   simp[q,Ayw q]
theorem RS.get {ks:List Str}{vs:List D}{kvs:List (Key×V)} (r:RS K H μ B ks vs kvs) {x:Str}{z:D} (h:Ace ks vs x=some z):∃ v,Agv kvs (.inr x)=some v/\Rep K H μ B z v:=by
 induction ks generalizing vs kvs with
 |nil=>cases h
 |cons k ks ih =>
  obtain⟨v,vs,p,kvs,rfl,rfl,e,rv,r⟩:=r.cons_inv
  rw[Ace] at h
  unfold Agv
  rw[Azt]
  by_cases q:k=x
  ·rw[Axv q] at h
   cases h
   subst q
   simp only[e,decide_true]
   exact⟨_,rfl,rv⟩
  ·rw[Axy q] at h
   have:¬ (Sum.inr k:Key)=Sum.inr x:=fun z=>q (Sum.inr.inj z)
   simp only[e,this,decide_false]
   exact ih r h
theorem RS.put {ks:List Str}{vs:List D}{kvs:List (Key×V)} (r:RS K H μ B ks vs kvs) (x:Str) {y:D}{v:V} (ry:Rep K H μ B y v):RS K H μ B (Aad ks vs x y).1 (Aad ks vs x y).2 (Akr kvs (.inr x) v):=by
 unfold Aad Akr
 rw[r.any x]
 by_cases q:x∈ks
 ·rw[Axv q,Axv (by simpa using q)]
  clear q
  induction ks generalizing vs kvs with
  |nil=>obtain⟨rfl,rfl⟩:=r.nil_inv;exact r
  |cons k ks ih =>
   obtain⟨w,vs,p,kvs,rfl,rfl,e,rv,r⟩:=r.cons_inv
   obtain⟨i1,i2⟩:=ih r
   refine⟨?_,?_⟩
   ·rw[Axs,Axs,Axs,i1]
    congr 1
    split<;>exact e.symm
   ·show Reps K H μ B (Ar7 (k::ks) (w::vs) x y) _
    rw[Ar7,Axs,Axs]
    refine .cons ?_ i2
    by_cases q:k=x
    ·subst q;rw[Axv rfl,Axv e];exact ry
    ·rw[Axy q,Axy (fun z=>q (Sum.inr.inj (e.symm.trans z)))];exact rv
 ·rw[Axy q,Axy (by simpa using q)]
  obtain⟨h1,h2⟩:=r
  refine⟨?_,?_⟩
  ·rw[Ayc,Ayc,h1];rfl
  ·rw[Ayc];exact h2.append (.cons ry .nil)
end
noncomputable def X7 (m:MH):D->Option (List Str×List D)
 |.dks ks vs=>some (ks,vs)
 |.ref n=>match m[n]? with
  |some (.dcs ks vs)=>some (ks,vs)
  |_=>none
 |_=>none
def Zg:D->D->MH->Option D:=fun x y m=>(X7 m x).bind fun kv=>match y with
 |.str k=>Ace kv.1 kv.2 k
 |_=>none
def Aje:D->D->MH->Option D:=fun x y m=>(X7 m y).bind fun kv=>match x with
 |.str k=>some (.bl (decide (k∈kv.1)))
 |_=>none
def R9:D->D->MH->Option D:=fun x y m=>(X7 m y).bind fun kv=>match x with
 |.str k=>some (.bl (!decide (k∈kv.1)))
 |_=>none
section
variable {K:W.Frag}{H:Hp}{μ:List Addr}{B:Addr->Prop}
theorem Ru (S:Sim K H μ m) {d:D} (r:Rep K H μ (·∈μ) d v) (h:X7 m d=some (ks,vs)):∃ a kvs,v=.ref a/\Rd H a (.dK kvs)/\RS K H μ (·∈μ) ks vs kvs:=by
 cases r with
 |dks h1 h2 h3 h4=>cases h;exact⟨_,_,rfl,h1,h3,h4⟩
 |@ref n a e =>
  unfold X7 at h
  cases q:m[n]? with
  |none=>simp[q] at h
  |some o =>
   simp only[q] at h
   cases o with
   |lst _=>exact Al h
   |dct _ _=>exact Al h
   |dcs ks vs =>
    cases h
    obtain⟨kvs,q1,q2,q3⟩:=S.obj n a _ e q
    exact⟨a,kvs,rfl,.inl q1,q2,q3⟩
 |_=>exact Al h
end
section
variable {X:Cx}{pins:List (Addr×Obj)}{σ:St}{H:Hp}{s:Shared}{a:Addr}
theorem Ah4 (I:Inv X pins σ H s) (e:Rd H a (.dK kvs)):kvs.length<=sizeLine/\(a == sysModules)=false/\∃ us,KV kvs us/\s.heap.DictOf (Gr X.prog X.w) a us :=
 (show ObjOk X.prog X.w X.K H s.heap a (.dK kvs) from e.ok I.hok)
end
section
variable {X:Cx}{a b c e:Expr}{es:List Expr}{pos p p':Pos}{x:Str}
theorem Aju {f g:FE} (ha:PD X a f) (hb:PD X b g) (hs:Jq b):PD X (.Subscript a b pos) (f2 Zg f g):=by
 intro pins s σ H Q I ⟨env,μ,m,z,S,E,h,q⟩
 obtain⟨d1,h1,h⟩:=bind_some h
 obtain⟨d2,h2,h⟩:=bind_some h
 obtain⟨kv,h3,h⟩:=bind_some h
 refine Subscript_ (Arx ha hb I (show tE X.K f σ H fun x H1=>tE X.K g σ H1 fun y H2=>Same H H2/\Rep X.K H2 μ (·∈μ) d1 x/\Rep X.K H2 μ (·∈μ) d2 y from ⟨env,μ,m,d1,S,E,h1,fun v H1 s1 r1=>⟨env,μ,m,d2,S.same s1,E.same s1,h2,fun u H2 s2 r2=>⟨s1.trans s2,r1.same s2,r2⟩⟩⟩) fun v u s2 x y H2 I2 rx ry q2=>?_)
 obtain⟨sm,r1,r2⟩:=q2
 cases r2 with
 |str k ok =>
  obtain⟨ad,kvs,rfl,hd,rs⟩:=Ru (S.same sm) r1 (by rw[h3])
  obtain⟨w,hw,rw'⟩:=rs.get h
  cases rx
  obtain⟨t,rfl⟩:=ry
  obtain⟨z1,hm,us,rel,dd⟩:=Ah4 I2 hd
  have q3:=KV.val rel (.inr k)
  rw[hw] at q3
  cases q4:valueAt us (.inr k) with
  |none=>rw[q4] at q3;exact (show False from q3).elim
  |some w' =>
   rw[q4] at q3
   refine subscriptTail_builtinR (x:=w') dd.typeIs slot_dict_getitem.lookup (wpAny_getItem_of (G8 k t) dd.mapOf q4 ?_) (hs _ _)
   exact⟨rfl,w,H2,I2.tok _,q3,q w H2 sm rw'⟩
 |_=>exact Al h
theorem Pz:OpM X (compareOp .In) Aje:=by
 intro pins s σ H μ m x y z v u v' u' Q I S rx ry r1 r2 e q
 obtain⟨kv,h3,h⟩:=bind_some e
 cases rx with
 |str k ok =>
  cases h
  obtain⟨ad,kvs,rfl,hd,rs⟩:=Ru S ry (by rw[h3])
  obtain⟨t,rfl⟩:=r1
  cases r2
  obtain⟨z1,hm,us,rel,dd⟩:=Ah4 I hd
  refine wpAny_in_of (knd:=Gr X.prog X.w) (k:=.inr k) (G8 k t) hm dd.mapOf ?_
  have q3:=Aar (KV.val rel (.inr k))
  have q5:(Agv kvs (.inr k)).isSome=decide (k∈kv.1):=by
   rw[<- rs.any k]
   unfold Agv
   rw[Option.isSome_map,Azc,List.find?_isSome,List.any_eq_true]
  rw[<- q3,q5]
  exact⟨.bl _,H,I.tok _,rfl,q _ H (Same.refl H) (.bl _)⟩
 |_=>exact Al h
end
noncomputable def Il:List D->Option (List (Str×D))
 |[]=>some []
 |.tup [.str k,v]::ds=>(Il ds).bind fun r=>some ((k,v)::r)
 |_=>none
def O8 (ps:List (Str×D)):List Str×List D:=ps.foldl (fun a p=>Aad a.1 a.2 p.1 p.2) ([],[])
def Ld:List D->MH->Option D:=fun xs _=>match xs with
 |[.tup ds]=>(Il ds).bind fun ps=>some (.dks (O8 ps).1 (O8 ps).2)
 |_=>none
abbrev Q4:=Str×D×V×Value
def fD (T:List Q4):List Str×List D:=T.foldl (fun a q=>Aad a.1 a.2 q.1 q.2.1) ([],[])
noncomputable def fV (T:List Q4):List (Key×V):=T.foldl (fun l q=>Akr l (.inr q.1) q.2.2.1) []
noncomputable def fU (T:List Q4):List (Key×Value):=T.foldl (fun l q=>stored l (.inr q.1) q.2.2.2) []
theorem Ah5 (T:List Q4) (q:Q4):fU (T++[q])=stored (fU T) (.inr q.1) q.2.2.2:=by unfold fU;rw[List.foldl_append];rfl
theorem Xa (l:List (Key×Value)) (k:Key) (v:Value):(stored l k v).length<=l.length+1:=by
 unfold stored
 split
 ·rw[Axq];lia
 ·simp
theorem Ae6 (T:List Q4):(fU T).length<=T.length:=by
 have go:∀ (T:List Q4) (l:List (Key×Value)),(T.foldl (fun l q=>stored l (.inr q.1) q.2.2.2) l).length<=l.length+T.length:=by
  intro T
  induction T with
  |nil=>intro l;simp
  |cons q T ih=>intro l;have h1:=ih (stored l (.inr q.1) q.2.2.2);have h2:=Xa l (.inr q.1) q.2.2.2;simp only[List.foldl_cons,Ax1];lia
 have:=go T []
 simpa [fU] using this
theorem Atu {K:W.Frag}{H:Hp}{μ:List Addr}{B:Addr->Prop} (T:List Q4) (hT:∀ q∈T,Rep K H μ B q.2.1 q.2.2.1/\RelV q.2.2.1 q.2.2.2):RS K H μ B (fD T).1 (fD T).2 (fV T)/\KV (fV T) (fU T):=by
 have go:∀ (T:List Q4) (a:List Str×List D) (l:List (Key×V)) (u:List (Key×Value)),(∀ q∈T,Rep K H μ B q.2.1 q.2.2.1/\RelV q.2.2.1 q.2.2.2)->RS K H μ B a.1 a.2 l->KV l u ->
   RS K H μ B (T.foldl (fun a q=>Aad a.1 a.2 q.1 q.2.1) a).1 (T.foldl (fun a q=>Aad a.1 a.2 q.1 q.2.1) a).2 (T.foldl (fun l q=>Akr l (.inr q.1) q.2.2.1) l)/\KV (T.foldl (fun l q=>Akr l (.inr q.1) q.2.2.1) l) (T.foldl (fun l q=>stored l (.inr q.1) q.2.2.2) u):=by
  intro T
  induction T with
  |nil=>intro a l u _ h1 h2;exact⟨h1,h2⟩
  |cons q T ih =>
   intro a l u hT h1 h2
   have hq:=hT q (Axn ..)
   exact ih _ _ _ (fun q hq=>hT q (Axl _ hq)) (h1.put q.1 hq.1) (KV.put h2 (.inr q.1) hq.2)
 exact go T ([],[]) [] [] hT ⟨rfl,.nil⟩ .nil
section
variable {X:Cx}{pins:List (Addr×Obj)}{σ:St}{H:Hp}{s:Shared}{μ:List Addr}{B:Addr->Prop}
theorem V0 (I:Inv X pins σ H s):∀ {ds:List D}{xs:List V}{its:List Value}{ps:List (Str×D)},Reps X.K H μ B ds xs->Vals xs its->Il ds=some ps ->
  ∃ T:List Q4,ps=T.map (fun q=>(q.1,q.2.1))/\T.length=its.length/\(∀ q∈T,Rep X.K H μ B q.2.1 q.2.2.1/\RelV q.2.2.1 q.2.2.2) /\
   ∀ (i:Nat) (v:Value),its[i]?=some v->∃ (q:Q4) (a:Addr) (o:Obj) (c t:Nat),T[i]?=some q/\v=.ref a/\s.heap.get? a=some o/\o.cls=.type "tuple"/\o.data=.seq #[.str q.1 t,q.2.2.2] c:=by
 intro ds
 induction ds with
 |nil=>intro xs its ps r rv h;cases r;cases rv;cases h;exact⟨[],rfl,rfl,(fun _ h=>absurd h (by simp)),fun i v h=>absurd h (by simp)⟩
 |cons d ds ih =>
  intro xs its ps r rv h
  cases r with
  |cons r rs =>
  cases rv with
  |cons rv1 rvs =>
  match d,r,h with
  |.tup [.str k,w],r,h =>
   obtain⟨ps',h1,h2⟩:=bind_some h
   cases h2
   obtain⟨T,e1,e2,e3,e4⟩:=ih rs rvs h1
   cases r with
   |@tup _ a zs hq rs' =>
    obtain⟨its',rz,⟨o,ho,hc,n,hd⟩,_⟩:=I.tuple hq
    cases rs' with
    |cons ra rs' =>
    cases rs' with
    |@cons _ vb _ _ rb rs' =>
    cases rs'
    cases ra
    cases rz with
    |cons ra1 rz =>
    cases rz with
    |@cons _ ub _ _ rb1 rz =>
    cases rz
    obtain⟨t,rfl⟩:=ra1
    cases rv1
    refine⟨(k,w,vb,ub)::T,by rw[Axs,<- e1],by rw[Ax1,Ax1,e2],fun q hq=>?_,fun i v hv=>?_⟩
    ·rcases List.mem_cons.mp hq with rfl|hq
     ·exact⟨rb,rb1⟩
     ·exact e3 q hq
    ·cases i with
     |zero=>simp at hv;subst hv;exact⟨_,a,o,n,t,rfl,rfl,ho,hc,hd⟩
     |succ i =>
      rw[Ay1] at hv
      obtain⟨q,a',o',c',t',h1,h2⟩:=e4 i v hv
      exact⟨q,a',o',c',t',by rw[Ay1];exact h1,h2⟩
theorem Ab3 (hr:Room k X.A):L0 X (.type "dict") Ld:=by
 intro pins s σ H μ m xs z vs us Q I S rx rv e q
 match xs,e with
 |[.tup ds],e =>
  obtain⟨ps,h1,h2⟩:=bind_some e
  cases h2
  obtain⟨v,rfl,r⟩:=rx.one
  obtain⟨u,rfl,ru⟩:=Iy rv
  cases r with
  |@tup _ t zs hq rs =>
  cases ru
  obtain⟨its,rz,⟨o,ho,hc,n,hd,hdn⟩,hz⟩:=I.tupleD hq
  obtain⟨T,e1,e2,e3,e4⟩:=V0 I rs rz h1
  have ep:O8 ps=fD T:=by rw[e1];unfold O8 fD;rw[List.foldl_map]
  obtain⟨f1,f2⟩:=Atu T e3
  have hline:sizeLine=16777216:=Ay3
  have lz:=rz.length
  have hb:∀ b ob,s.heap.get? b=some ob->b < s.heap.objs.size:=fun b ob e=>Axm e
  refine TX.dict_tuple (C:=fun h=>∀ b ob,s.heap.get? b=some ob->h.get? b=some ob) (Dn:=fun i h=>h.DictOf (Gr X.prog X.w) s.heap.objs.size (fU (T.take i))) hr.hd ho hc hd hdn (fun Ia hI=>⟨fun i v h hi hv hC=>?_,fun h h' hC hk b ob e=>?_,fun i h h' hD hk=>?_⟩) (fun h hk=>hk) (fun h hg=>?_) (fun h' tk hk hD=>?_)
  ·obtain⟨q,a,o',c,t',q1,q2,q3,q4,q5⟩:=e4 i v (by simpa using hv)
   refine⟨a,o',c,_,_,q2,hC _ _ q3,q4,q5,fun s' Q' E' hs hD hQ=>?_⟩
   have et:T.take (i+1)=T.take i++[q]:=by rw[List.take_add_one,q1];rfl
   have hl:=Ae6 (T.take i)
   have hl2:=List.length_take_le i T
   have hl3:its.toArray.size=its.length:=by simp
   rw[<- hs] at hD
   refine wpAny_dictSet_pairs (knd:=Gr X.prog X.w) (k:=.inr q.1) (hsz:=by lia) (G8 q.1 t') hD fun h' hd' hs'=>?_
   refine hQ h' _ (Azw _) hs' ?_
   rw[et,Ah5]
   exact hd'
  ·refine hk b ob (Ax5 (hb b ob e)) ?_ (hC b ob e)
   intro hm
   rw[List.mem_singleton.mp hm] at e
   exact absurd (Nat.lt_trans hI (hb _ _ e)) (Ayd _)
  ·obtain⟨od,es,ep,h0,r⟩:=hD
   exact⟨od,es,ep,hk _ _ (by simp;exact Ax5 hI) h0,r⟩
  ·refine⟨_,_,_,hg,⟨rfl,rfl,rfl⟩,rfl,?_,?_,?_⟩
   ·intro e he;simp at he
   ·exact .nil
   ·exact Azx
  ·have I1:Inv X pins σ H { s with heap:=h',toks:=tk }:=I.kept hk
   have eT:T.take its.toArray.size=T:=Azg (by simp[e2])
   rw[eT] at hD
   have hn:H s.heap.objs.size=none:=I.fresh
   have lf:(fV T).length=(fU T).length:=Paired.length f2
   have hl:=Ae6 T
   have I2:Inv X pins σ (upd H s.heap.objs.size (.dK (fV T))) { s with heap:=h',toks:=tk }:=I.laid (a:=s.heap.objs.size) (o:=.dK (fV T)) (t':=tk) hk (Axu _) ⟨by lia,beq_eq_false_iff_ne.mpr (Ayw (Ax5 (Ai0 I))),fU T,f2,hD⟩
   refine⟨.ref s.heap.objs.size,_,I2,rfl,q _ _ (Bf hn) ?_⟩
   obtain⟨g1,g2⟩:=f1
   rw[ep]
   exact .dks (.inl Bn) (S.nnone hn) g1 (g2.same (Bf hn))
theorem Zq:OpM X (compareOp .NotIn) R9:=by
 intro pins s σ H μ m x y z v u v' u' Q I S rx ry r1 r2 e q
 obtain⟨kv,h3,h⟩:=bind_some e
 cases rx with
 |str k ok =>
  cases h
  obtain⟨ad,kvs,rfl,hd,rs⟩:=Ru S ry (by rw[h3])
  obtain⟨t,rfl⟩:=r1
  cases r2
  obtain⟨z1,hm,us,rel,dd⟩:=Ah4 I hd
  refine wpAny_notIn_of (knd:=Gr X.prog X.w) (k:=.inr k) (G8 k t) hm dd.mapOf ?_
  have q3:=Aar (KV.val rel (.inr k))
  have q5:(Agv kvs (.inr k)).isSome=decide (k∈kv.1):=by
   rw[<- rs.any k]
   unfold Agv
   rw[Option.isSome_map,Azc,List.find?_isSome,List.any_eq_true]
  rw[<- q3,q5]
  exact⟨.bl _,H,I.tok _,rfl,q _ H (Same.refl H) (.bl _)⟩
 |_=>exact Al h
end
section
variable {X:Cx}{e:Expr}{pos p p2 pos2:Pos}{k:Nat}{g:FL}
end
section
variable {X:Cx}{a b e:Expr}{pos p p2 pos2:Pos}{k:Nat}{g:FL}{f h:FE}
theorem N8 (hr:Room k X.A) (hm:X.mg "dict"=none) (ha:QL X [e] g) (hg:Gl X "dict":=by unfold Gl;kernel_rfl) (he':By e=true:=by rfl):QD X (.Call (.Name "dict" p) [e] [] pos) (Ay Ld g):=⟨Li (Ab3 hr) hg hm (by decide +kernel) ha.out (by decide) (by decide) (Ax he') rfl⟩
theorem Aaj (ha:QD X a f) (hb:QD X b h) (hs':Ar4 b=true:=by rfl):QD X (.Subscript a b pos) (f2 Zg f h):=⟨Aju ha.out hb.out (Nr hs')⟩
end
section
variable {X:Cx}{e e':Expr}{pos p:Pos}{g:FL}
end
section
variable {X:Cx}{a e:Expr}{apos cpos:Pos}
end
section
variable {X:Cx}{a b c e:Expr}{es:List Expr}{pos p p' apos cpos dp:Pos}{x:Str}{i:Nat}
end
section
variable {X:Cx}{a b c e:Expr}{es:List Expr}{pos p p' dp:Pos}{x:Str}{i:Nat}{g:FL}
end
end ML
end L2
end S_ML36
section S_TY1
namespace L2
namespace TY
open PySem PySem.SetTable
end TY
end L2
end S_TY1
section S_TY2
namespace L2
namespace TY
open PySem PySem.SetTable
end TY
end L2
end S_TY2
section S_TY3
namespace L2
namespace TY
open PySem PySem.SetTable
end TY
end L2
end S_TY3
section S_TY4
namespace L2
namespace TY
open PySem PySem.Spec PyProof.Rows
section
variable {prog:Program}{w:World}{ds:List PyData}
end
end TY
end L2
end S_TY4
section S_TY5
namespace L2
namespace TY
open PySem PySem.Spec PyProof.Rows
section
variable {prog:Program}{w:World}{A:Around}{E:Value->Shared->Prop}{s:Shared}
end
end TY
end L2
end S_TY5
section S_TY6
namespace L2
namespace TY
open PySem PySem.Spec PyProof.Rows L2.TX
section
variable {prog:Program}{w:World}{A:Around}{R:Result->Shared->Prop}{I:Addr}{fp wr:List Addr}{G:Array GenState->Array GenState->Prop}{n:Nat}{P:Nat->Value->Prop}{St:Nat->Shared->Prop}
end
section
variable {prog:Program}{w:World}{A:Around}{E:Value->Shared->Prop}{s:Shared}
end
end TY
end L2
end S_TY6
section S_ML41
namespace L2
namespace ML
open PySem PySem.Spec PyProof.Rows
section
variable {X:Cx}{e:Expr}{pos p p2 pos2:Pos}{k:Nat}{g:FL}
end
section
variable {X:Cx}{e:Expr}{pos p p2 p3 p4:Pos}
end
section
variable {P:Program}{w:World}{K:W.Frag}{mg:Str->Option Value}{base:Heap}{x:Str}{st:Stmt}{ps:List Str}{k n:Nat}
end
section
variable {X:Cx}{e:Expr}{es:List Expr}{pos p:Pos}{x:Str}{k j n:Nat}{fn:List D->Option D}{g:FL}
end
end ML
end L2
end S_ML41
section S_EX1
namespace L2
open PySem PySem.Spec PyProof.Rows
end L2
end S_EX1
section S_EX2
namespace L2
open PySem PySem.Spec PyProof.Rows
section
variable {X:Cx}{pins:List (Addr×Obj)}{σ:St}{H:Hp}{s s':Shared}
end
end L2
end S_EX2
section S_EX3
namespace L2
namespace ML
open PySem PySem.Spec PyProof.Rows
section
variable {X:Cx}{e:Expr}{es:List Expr}{b₀:Stmt}{suite:List Stmt}{pos xpos cpos p tp hpos:Pos}{fx' t n nm:Str}{g:FL}{gb:FS}
end
end ML
end L2
end S_EX3
section S_EX4
namespace L2
namespace ML
open PySem PySem.Spec PySem.Calls PyProof.Rows PySem.W Builtin Builtin.ObjectAttr Builtin.Getset_descriptor
section
variable {prog:Program}{w:World}{A:Around}{E:Value->Shared->Prop}{s:Shared}{K:W.Frag}{x C:Addr}{o:Obj}
end
end ML
end L2
end S_EX4
section S_EX5
namespace L2
open PySem
namespace ML
open PySem PySem.Spec PySem.Calls PyProof.Rows
section
variable {X:Cx}{a:Stmt}{rest body:List Stmt}{ga:FS}{gb:Bg->MH->Bool}{fc:FB}{c:Expr}{pos:Pos}
end
section
variable {P:Program}{w:World}{K:W.Frag}{mg:Str->Option Value}{base:Heap}{N:List Str}{qual:Str}{scope:Scope}{f C:Addr}{cd:Value}{A:Around}{outer:List Env}{s0:Shared}{H0:Hp}{E0:XK}
end
section
variable {Y:Cx}{e:Expr}{es:List Expr}{b₀:Stmt}{suite:List Stmt}{pos xpos cpos p tp hpos:Pos}{x t n nm:Str}{g:FL}{gb:FS}{k i np j:Nat}{fx:List D->Bool}
end
end ML
end L2
end S_EX5
section S_EX6
namespace L2
namespace ML
open PySem PySem.Spec PySem.Calls PyProof.Rows
open Classical in
section
variable {X:Cx}{e:Expr}{es:List Expr}{pos p p':Pos}{f:FE}{nm y:Str}{b:Bool}
end
end ML
end L2
end S_EX6
section S_EX7
namespace L2
namespace ML
open PySem PySem.Spec PyProof.Rows
section
variable {X:Cx}{e:Expr}{es:List Expr}{pos p p' cpos:Pos}{x y:Str}{k j n i:Nat}{fn:List D->Option D}{g:FL}
end
abbrev FEm:=Bg->MH->Option (D×MH)
abbrev FLm:=Bg->MH->Option (List D×MH)
abbrev FBm:=Bg->MH->Option (Bool×MH)
inductive tEm (K:W.Frag) (f:FEm) (σ:St) (H:Hp) (Q:VK):Prop
 |mk (env:Bg) (μ:List Addr) (m:MH) (d:D) (m':MH) (S:Sim K H μ m) (E:EnvRep K H μ σ env) (h:f env m=some (d,m')) (q:∀ v H' μ',Step H μ H' μ'->Sim K H' μ' m'->Rep K H' μ' (·∈μ') d v->Q v H')
inductive tLm (K:W.Frag) (f:FLm) (σ:St) (H:Hp) (Q:List V->Hp->Prop):Prop
 |mk (env:Bg) (μ:List Addr) (m:MH) (ds:List D) (m':MH) (S:Sim K H μ m) (E:EnvRep K H μ σ env) (h:f env m=some (ds,m')) (q:∀ vs H' μ',Step H μ H' μ'->Sim K H' μ' m'->Reps K H' μ' (·∈μ') ds vs->Q vs H')
inductive tBm (K:W.Frag) (f:FBm) (σ:St) (H:Hp) (Q:Bool->Hp->Prop):Prop
 |mk (env:Bg) (μ:List Addr) (m:MH) (b:Bool) (m':MH) (S:Sim K H μ m) (E:EnvRep K H μ σ env) (h:f env m=some (b,m')) (q:∀ H' μ',Step H μ H' μ'->Sim K H' μ' m'->Q b H')
abbrev PDm (X:Cx) (e:Expr) (f:FEm):Prop:=PE X e (tEm X.K f)
abbrev PLm (X:Cx) (es:List Expr) (f:FLm):Prop:=PA X es (tLm X.K f)
abbrev PBm (X:Cx) (e:Expr) (f:FBm):Prop:=PT X e (tBm X.K f)
noncomputable def fM (f:FE):FEm:=fun env m=>(f env m).bind fun d=>some (d,m)
noncomputable def f2m (o:D->D->MH->Option D) (f g:FEm):FEm:=fun env m=>(f env m).bind fun x=>(g env x.2).bind fun y=>(o x.1 y.1 y.2).bind fun d=>some (d,y.2)
noncomputable def As:FLm:=fun _ m=>some ([],m)
noncomputable def Ab (f:FEm) (g:FLm):FLm:=fun env m=>(f env m).bind fun x=>(g env x.2).bind fun y=>some (x.1::y.1,y.2)
noncomputable def D6 (g:FLm):FEm:=fun env m=>(g env m).bind fun x=>if x.1.length<=1000000 then some (.tup x.1,x.2) else none
def D5 (f:FEm):FBm:=fun env m=>(f env m).bind fun x=>(asB x.1).bind fun b=>some (b,x.2)
noncomputable def fBm (f:FB):FBm:=fun env m=>(f env m).bind fun b=>some (b,m)
noncomputable def Ca (i:Nat) (f:FEm):FS:=fun env m=>(f env m).bind fun x=>some (.nx (env.set i (some x.1)) x.2)
noncomputable def Ma (f:FEm):FS:=fun env m=>(f env m).bind fun x=>some (.rt x.1 x.2)
noncomputable def Ea (f:FEm):FS:=fun env m=>(f env m).bind fun x=>some (.nx env x.2)
noncomputable def Ot (t:FBm) (f g:FS):FS:=fun env m=>(t env m).bind fun x=>if x.1=true then f env x.2 else g env x.2
section
variable {X:Cx}{a b c e:Expr}{es:List Expr}{pos p':Pos}{f g:FEm}{gl:FLm}
theorem Aqe {f:FE} (h:PD X e f):PDm X e (fM f):=PE.imp h fun σ H Q ⟨env,μ,m,d,m',S,E,h,q⟩=>by
 obtain⟨d',h1,h⟩:=bind_some h
 cases h
 exact⟨env,μ,m,d,S,E,h1,fun v H' s r=>q v H' μ (.of_same s) (S.same s) r⟩
theorem Apx {f:FB} (h:PB X e f):PBm X e (fBm f):=fun pins s σ H Q I ⟨env,μ,m,d,m',S,E,h',q⟩=>by
 obtain⟨d',h1,h'⟩:=bind_some h'
 cases h'
 exact h pins s σ H Q I ⟨env,μ,m,d,S,E,h1,fun H' s=>q H' μ (.of_same s) (S.same s)⟩
theorem Aka:PLm X [] As:=fun pos pins s σ H Q I ⟨env,μ,m,ds,m',S,E,h,q⟩=>by
 cases h
 exact Zw pos pins s σ H Q I (q [] H μ .refl S .nil)
theorem Ado (ha:PDm X e f) (hr:PLm X es gl) (hs:starEach (e::es) X.env=(false,eval e X.env)::starEach es X.env):PLm X (e::es) (Ab f gl):=fun pos pins s σ H Q I ⟨env,μ,m,ds,m',S,E,h,q⟩=>by
 obtain⟨x,h1,h⟩:=bind_some h
 obtain⟨y,h2,h⟩:=bind_some h
 cases h
 refine N2 ha hr hs pos pins s σ H Q I ⟨env,μ,m,x.1,x.2,S,E,h1,fun v H1 μ1 st1 S1 r1=>?_⟩
 exact⟨env,μ1,x.2,y.1,y.2,S1,E.step S st1,h2,fun vs H2 μ2 st2 S2 r2=>q _ H2 μ2 (st1.trans st2 (st1.none S S1)) S2 (.cons (r1.step S1 st2) r2)⟩
theorem Ajz {x1} (h:PLm X es gl):PDm X (.Tuple es x1 pos) (D6 gl):=PE.imp (Afw h) fun σ H Q ⟨env,μ,m,d,m',S,E,h,q⟩=>by
 obtain⟨x,h1,h⟩:=bind_some h
 split at h
 ·rename_i hl
  cases h
  exact⟨env,μ,m,x.1,x.2,S,E,h1,fun vs H1 μ1 st1 S1 r1=>⟨by rw[<- r1.length];exact big hl,fun p hp=>q _ _ μ1 (st1.trans (.of_same (Bf hp)) (st1.none S S1)) (S1.same (Bf hp)) (.tup (.inl (.inl Bn)) (r1.same (Bf hp)))⟩⟩
 ·cases h
theorem Ahx {k:Value->Value->Sem Value}{o:D->D->MH->Option D}{pins:List (Addr×Obj)}{σ:St}{Q:VK} (ho:OpM X k o) (ha:PDm X a f) (hb:PDm X b g) {s:Shared}{H:Hp} (I:Inv X pins σ H s) (h:tEm X.K (f2m o f g) σ H Q) :
  wpAny (model X.prog X.w) X.A (eval a X.env) (fun v s₁=>wpAny (model X.prog X.w) X.A (eval b X.env) (fun u s₂=>wpAny (model X.prog X.w) X.A (k v u) (EP X pins σ Q) X.xe s₂) X.xe s₁) X.xe s:=by
 obtain⟨env,μ,m,d,m',S,E,h,q⟩:=h
 obtain⟨x,h1,h⟩:=bind_some h
 obtain⟨y,h2,h⟩:=bind_some h
 obtain⟨z,h3,h⟩:=bind_some h
 cases h
 refine thn (ha pins s σ H (fun v H1=>∃ μ1,Step H μ H1 μ1/\Sim X.K H1 μ1 x.2/\Rep X.K H1 μ1 (·∈μ1) x.1 v) I ⟨env,μ,m,x.1,x.2,S,E,h1,fun v H1 μ1 st1 S1 r1=>⟨μ1,st1,S1,r1⟩⟩) fun v' s1 ⟨v,H1,I1,r1,μ1,st1,S1,rx⟩=>?_
 refine thn (hb pins s1 σ H1 (fun u H2=>∃ μ2,Step H1 μ1 H2 μ2/\Sim X.K H2 μ2 y.2/\Rep X.K H2 μ2 (·∈μ2) y.1 u) I1 ⟨env,μ1,x.2,y.1,y.2,S1,E.step S st1,h2,fun v H1 μ1 st1 S1 r1=>⟨μ1,st1,S1,r1⟩⟩) fun u' s2 ⟨u,H2,I2,r2,μ2,st2,S2,ry⟩=>?_
 have st:=st1.trans st2 (st1.none S S1)
 exact ho pins s2 σ H2 μ2 y.2 x.1 y.1 _ v u v' u' Q I2 S2 (rx.step S1 st2) ry r1 r2 h3 fun w H3 s3 r3=>q w H3 μ2 (st.trans (.of_same s3) (st.none S S2)) (S2.same s3) r3
theorem Ajw {op}{o:D->D->MH->Option D} (ho:OpM X (binaryOp op) o) (ha:PDm X a f) (hb:PDm X b g):PDm X (.BinOp a op b pos) (f2m o f g):=fun pins s σ H Q I h=>wpAny_BinOp (Ahx ho ha hb I h)
theorem Ajx {op}{o:D->D->MH->Option D} (ho:OpM X (compareOp op) o) (ha:PDm X a f) (hb:PDm X b g) (hm:behindInMarks op b=false):PDm X (.Compare a [op] [b] pos) (f2m o f g):=fun pins s σ H Q I h=>wpAny_Compare1 (Ahx ho ha hb I h) hm
theorem tBm.val {K:W.Frag}{f:FEm}{σ:St}{H:Hp}{Q:Bool->Hp->Prop} (h:tBm K (D5 f) σ H Q):tEm K f σ H fun x H'=>∃ k,x=.bl k/\Q k H':=by
 obtain⟨env,μ,m,b,m',S,E,h,q⟩:=h
 obtain⟨x,h1,h⟩:=bind_some h
 obtain⟨b',h2,h⟩:=bind_some h
 cases h
 obtain⟨d,m1⟩:=x
 cases Ja h2
 exact⟨env,μ,m,_,_,S,E,h1,fun v H' μ' st S' r=>by cases r;exact⟨_,rfl,q H' μ' st S'⟩⟩
theorem Ajq {op}{o:D->D->MH->Option D} (ho:OpM X (compareOp op) o) (ha:PDm X a f) (hb:PDm X b g) (hm:behindInMarks op b=false):PBm X (.Compare a [op] [b] pos) (D5 (f2m o f g)):=by
 intro pins s σ H Q I h
 refine wpAny_isTrue_Compare1 (thn (Ahx ho ha hb I h.val) fun v s1 h1=>thn h1 fun u s2 h2=>thn h2 fun c s3 ⟨x,H1,I1,r1,k,e,q⟩=>?_) hm
 subst e
 cases r1
 exact Aze ⟨H1,I1,q⟩
theorem Aab {i:Nat}{x:Str} (hN:X.N.Nodup) (hi:X.N[i]?=some x) (hx:Loc X.env.scope x) (he:PDm X e f) (hs:swapsWith e (some (.Name x p')) pos.line X.env=pure false) (hf:X.fn x=true\/X.env.scope.names.lookup x=some .local) :
  PSD X (.Assign [.Name x p'] e pos) (Ca i f):=PS.imp (Z4 hN hi hx he hs hf) fun D σ H ⟨env,μ,m,o,S,E,h,q⟩=>by
 obtain⟨x,h1,h2⟩:=bind_some h
 cases h2
 exact⟨env,μ,m,x.1,x.2,S,E,h1,fun v H' μ' st S' r=>q _ H' μ' st S' ((E.step S st).set i r)⟩
theorem Akl (he:PDm X e f):PSD X (.Return (some e) pos) (Ma f):=PS.imp (Z3 he) fun D σ H ⟨env,μ,m,o,S,E,h,q⟩=>by
 obtain⟨x,h1,h2⟩:=bind_some h
 cases h2
 exact⟨env,μ,m,x.1,x.2,S,E,h1,fun v H' μ' st S' r=>q v H' μ' st S' r⟩
theorem Adw (he:PDm X e f) (hs:swapsWith e none pos.line X.env=pure false):PSD X (.Expr e pos) (Ea f):=PS.imp (Tc he hs) fun D σ H ⟨env,μ,m,o,S,E,h,q⟩=>by
 obtain⟨x,h1,h2⟩:=bind_some h
 cases h2
 exact⟨env,μ,m,x.1,x.2,S,E,h1,fun v H' μ' st S' r=>q σ H' μ' st S' (E.step S st)⟩
theorem Aqs {t:FBm}{f g:FS}{sa sb:List Stmt} (hc:PBm X c t) (ha:Tp X sa f) (hb:Tp X sb g):PSD X (.If c sa sb pos) (Ot t f g):=PS.imp (Aqq hc ha hb) fun D σ H ⟨env,μ,m,o,S,E,h,q⟩=>by
 obtain⟨x,h1,h⟩:=bind_some h
 refine⟨env,μ,m,x.1,x.2,S,E,h1,fun H' μ' st S'=>?_⟩
 have E':=E.step S st
 have fin:=q.step S S' st
 by_cases hx:x.1=true
 ·rw[Axv hx] at h ⊢;exact⟨env,μ',x.2,o,S',E',h,fin⟩
 ·rw[Axy hx] at h ⊢;exact⟨env,μ',x.2,o,S',E',h,fin⟩
end
section
variable {K:W.Frag}{H H':Hp}{μ μ':List Addr}{B B':Addr->Prop}{m:MH}
end
section
variable {K:W.Frag}{H H':Hp}{μ μ':List Addr}{B B':Addr->Prop}{m:MH}
theorem Nn {N:List Str}{ds:List D}{vs:List V} (r:Reps K H μ (·∈μ) ds vs):EnvRep K H μ (Hk N vs) (ds.map some++List.replicate (N.length - ds.length) none):=by
 refine⟨by unfold Hk;simp[r.length],fun i d e=>?_⟩
 by_cases hi:i < ds.length
 ·rw[Axr (by simpa using hi),Ax6] at e
  cases q:ds[i]? with
  |none=>rw[q] at e;cases e
  |some d' =>
   rw[q] at e
   cases e
   obtain⟨v,h1,h2⟩:=r.get q
   refine⟨v,?_,h2⟩
   unfold Hk
   rw[Axr (by simpa [r.length] using hi),Ax6,h1]
   rfl
 ·rw[Ayp (by simpa using hi),Azd] at e
  split at e<;>cases e
end
section
variable {P:Program}{w:World}{K:W.Frag}{mg:Str->Option Value}{base:Heap}{x:Str}{st:Stmt}{ps:List Str}{k n:Nat}
end
section
variable {X:Cx}{e:Expr}{es:List Expr}{pos p:Pos}{x:Str}{k j n:Nat}{fn:List D->List D->Option (D×List D)}{g:FLm}
end
theorem tEm.bin {K:W.Frag}{f g:FEm}{o:D->D->MH->Option D}{σ:St}{H:Hp}{Q:VK} (h:tEm K (f2m o f g) σ H Q)
  (r:R2) (hr:∀ μ m x y z v u H' (Q:VK),Sim K H' μ m->Rep K H' μ (·∈μ) x v->Rep K H' μ (·∈μ) y u->o x y m=some z->(∀ w H2,Same H' H2->Rep K H2 μ (·∈μ) z w->Q w H2)->r v u H' Q) :
  tOp r (tEm K f) (tEm K g) σ H Q:=by
 obtain⟨env,μ,m,d,m',S,E,h,q⟩:=h
 obtain⟨x,hx,h⟩:=bind_some h
 obtain⟨y,hy,h⟩:=bind_some h
 obtain⟨z,hz,h⟩:=bind_some h
 cases h
 refine⟨env,μ,m,x.1,x.2,S,E,hx,fun v H1 μ1 st1 S1 r1=>⟨env,μ1,x.2,y.1,y.2,S1,E.step S st1,hy,fun u H2 μ2 st2 S2 r2=>?_⟩⟩
 have st:=st1.trans st2 (st1.none S S1)
 exact hr μ2 y.2 x.1 y.1 d v u H2 Q S2 (r1.step S1 st2) r2 hz fun w H3 s3 r3=>q w H3 μ2 (st.trans (.of_same s3) (st.none S S2)) (S2.same s3) r3
noncomputable def Mm (o:List D->MH->Option D) (g:FLm):FEm:=fun env m=>(g env m).bind fun x=>(o x.1 x.2).bind fun d=>some (d,x.2)
noncomputable def X9 (g:FLm):FEm:=fun env m=>(g env m).bind fun x=>if x.1.length<=1000000 then some (.lst x.1,x.2) else none
noncomputable def An8 (t:FBm) (f g:FEm):FEm:=fun env m=>(t env m).bind fun x=>if x.1=true then f env x.2 else g env x.2
noncomputable def L5 (t u:FBm):FBm:=fun env m=>(t env m).bind fun x=>if x.1=true then u env x.2 else some (false,x.2)
noncomputable def Alu (t u:FBm):FBm:=fun env m=>(t env m).bind fun x=>if x.1=true then some (true,x.2) else u env x.2
noncomputable def Rb (f:FEm) (g:FG):FS:=fun env m=>(f env m).bind fun x=>(g x.1 env).bind fun env'=>some (.nx env' x.2)
noncomputable def Lm (g:FLm) (t:FG) (b:FS):FS:=fun env m=>(g env m).bind fun x=>match x.1 with
 |[.int j]=>if -(2 ^ 62)<=j/\j < 2 ^ 62 then Ij B0 t b (Dc 0 j.toNat) env x.2 else none
 |_=>none
noncomputable def L9 (o:List D->List D->Option (List D)) (f:FE) (g:FLm):FS:=fun env m=>(f env m).bind fun d=>match d with
 |.ref n=>(match m[n]? with
  |some (.lst _)=>(g env m).bind fun x=>(match x.2[n]? with
   |some (.lst ds)=>(o ds x.1).bind fun fs=>some (.nx env (x.2.set n (.lst fs)))
   |_=>none)
  |_=>none)
 |_=>none
def Gz (f:FEm) (fo:FE) (fi:FEm):FS:=fun env m=>(f env m).bind fun x=>(fo env x.2).bind fun o=>(fi env x.2).bind fun y=>match o,y.1 with
 |.ref n,.int k=>(match y.2[n]? with
  |some (.lst ds)=>(ixN ds.length k).bind fun j=>some (.nx env (y.2.set n (.lst (ds.set j x.1))))
  |_=>none)
 |_,_=>none
section
variable {X:Cx}{a b c e o' tg:Expr}{es rest:List Expr}{pos p p' cpos apos spos:Pos}{x:Str}{f g:FEm}{gl:FLm}{id T:String}
theorem Aqd (ha:PDm X a f) (hb:PDm X b g) (hs:Jq b):PDm X (.Subscript a b pos) (f2m oIx f g):=PE.imp (Aqi Afc ha hb hs) fun σ H Q h=>tEm.bin h _ Afs
theorem Ann {k:Value}{o:List D->MH->Option D}{pins:List (Addr×Obj)}{σ:St}{Q:VK} (ho:L0 X k o) (ha:PLm X es gl) {s:Shared}{H:Hp} (I:Inv X pins σ H s) (h:tEm X.K (Mm o gl) σ H Q) :
  wpAny (model X.prog X.w) X.A (spliced (backTo pos (starEach es X.env))) (fun us s1=>wpAny (model X.prog X.w) X.A (call k us) (EP X pins σ Q) X.xe s1) X.xe s:=by
 obtain⟨env,μ,m,d,m',S,E,h,q⟩:=h
 obtain⟨x,h1,h⟩:=bind_some h
 obtain⟨z,h2,h⟩:=bind_some h
 cases h
 refine thn (ha pos pins s σ H (fun vs H1=>∃ μ1,Step H μ H1 μ1/\Sim X.K H1 μ1 x.2/\Reps X.K H1 μ1 (·∈μ1) x.1 vs) I ⟨env,μ,m,x.1,x.2,S,E,h1,fun v H1 μ1 st1 S1 r1=>⟨μ1,st1,S1,r1⟩⟩) fun us s1 ⟨vs,H1,I1,r1,μ1,st1,S1,rx⟩=>?_
 exact ho pins s1 σ H1 μ1 x.2 x.1 _ vs us Q I1 S1 rx r1 h2 fun w H2 s2 r2=>q w H2 μ1 (st1.trans (.of_same s2) (st1.none S S1)) (S1.same s2) r2
theorem V3 {o:List D->MH->Option D} (hc:L0 X (.type T) o) (hg:Gl X x) (hm:X.mg x=none) (hv:bootBuiltins x=some (.type T)) (ha:PLm X (e::es) gl) (hn:x≠"__name__") (hdb:(x == ("__debug__":Str))=false) (he:starEach (e::es) X.env=(false,eval e X.env)::starEach es X.env) (hpl:(backTo pos (starEach es X.env)).any (·.1)=false):PDm X (.Call (.Name x p) (e::es) [] pos) (Mm o gl):=by
 intro pins s σ H Q I h
 refine Ayj (Dv I hg hm hv ?_ hn hdb)
 exact PyProof.Rows.callWith_type1 (Ann hc ha I h) he hpl
theorem Ajy (h:PLm X es gl):PDm X (.List es pos) (X9 gl):=PE.imp (Afv h) fun σ H Q ⟨env,μ,m,d,m',S,E,h,q⟩=>by
 obtain⟨x,h1,h⟩:=bind_some h
 split at h
 ·rename_i hl
  cases h
  exact⟨env,μ,m,x.1,x.2,S,E,h1,fun vs H1 μ1 st1 S1 r1=>⟨by rw[<- r1.length];exact big hl,fun p hp=>q _ _ μ1 (st1.trans (.of_same (Bf hp)) (st1.none S S1)) (S1.same (Bf hp)) (.lst (.inl Bn) (S1.nnone hp) (r1.same (Bf hp)))⟩⟩
 ·cases h
theorem Aqc {t:FBm} (hc:PBm X c t) (ha:PDm X a f) (hb:PDm X b g):PDm X (.IfExp c a b pos) (An8 t f g):=PE.imp (Up hc ha hb) fun σ H Q ⟨env,μ,m,z,m',S,E,h,q⟩=>by
 obtain⟨x,h1,h2⟩:=bind_some h
 refine⟨env,μ,m,x.1,x.2,S,E,h1,fun H1 μ1 st1 S1=>?_⟩
 by_cases hx:x.1=true
 ·rw[Axv hx] at h2 ⊢
  exact⟨env,μ1,x.2,z,m',S1,E.step S st1,h2,fun v H2 μ2 st2 S2 r2=>q v H2 μ2 (st1.trans st2 (st1.none S S1)) S2 r2⟩
 ·rw[Axy hx] at h2 ⊢
  exact⟨env,μ1,x.2,z,m',S1,E.step S st1,h2,fun v H2 μ2 st2 S2 r2=>q v H2 μ2 (st1.trans st2 (st1.none S S1)) S2 r2⟩
abbrev Aeo (X:Cx) (e:Expr) (f:FBm):Prop:=PW X e (tBm X.K f)
theorem Ad1 {t:FBm} (ha:PBm X a t):Aeo X (.BoolOp .And [a] pos) t:=Aae ha
theorem Aku {t u:FBm} (ha:PBm X a t) (hb:Aeo X (.BoolOp .And (b::rest) pos) u):Aeo X (.BoolOp .And (a::b::rest) pos) (L5 t u):=PW.imp (Af0 ha hb) fun σ H Q ⟨env,μ,m,z,m',S,E,h,q⟩=>by
 obtain⟨x,h1,h2⟩:=bind_some h
 refine⟨env,μ,m,x.1,x.2,S,E,h1,fun H1 μ1 st1 S1=>?_⟩
 by_cases hx:x.1=true
 ·rw[Axv hx] at h2 ⊢
  exact⟨env,μ1,x.2,z,m',S1,E.step S st1,h2,fun H2 μ2 st2 S2=>q H2 μ2 (st1.trans st2 (st1.none S S1)) S2⟩
 ·rw[Axy hx] at h2 ⊢
  cases h2
  exact q H1 μ1 st1 S1
theorem Adg {op}{t:FBm} (h:Aeo X (.BoolOp op es pos) t):PBm X (.BoolOp op es pos) t:=h.pt
theorem Akk {g:FG} (he:PDm X e f) (hg:PGD X tg g) (hs:swapsWithSole [tg] e pos.line X.env=pure false) (hw:swappedStores [tg] e X.env=pure none) (h1:(assignEach [tg] X.env).map (·.2)=[assign tg X.env]) :
  PSD X (.Assign [tg] e pos) (Rb f g):=PS.imp (Uq he hg hs hw h1) fun D σ H ⟨env,μ,m,o,S,E,h,q⟩=>by
 obtain⟨x,h1,h2⟩:=bind_some h
 obtain⟨env',hg',h3⟩:=bind_some h2
 cases h3
 exact⟨env,μ,m,x.1,x.2,S,E,h1,fun v H' μ' st S' r=>⟨env,μ',x.2,x.1,env',S',E.step S st,r,hg',fun σ' E'=>q σ' H' μ' st S' E'⟩⟩
theorem Adx {t:FG}{b:FS}{body:List Stmt} (hp:PassesOwn (model X.prog X.w) X.A X.env X.xe) (hc:X.calm=true) (hg:Gl X "range") (hm:X.mg "range"=none) (ha:PLm X [a] gl) (hs:starEach [a] X.env=[(false,eval a X.env)]) (ht:PGD X tg t) (hb:Tp X body b)
  (hs':∀ x,foldedSetIterable (.Call (.Name "range" p) [a] [] pos) X.env x=pure x):PSD X (.For tg (.Call (.Name "range" p) [a] [] pos) body [] spos) (Lm gl t b):=PS.imp (Afy hp hc (P0 hg hm ha hs) ht hb hs') fun D σ H ⟨env,μ,m,o,S,E,h,q⟩=>by
 obtain⟨⟨ds,m1⟩,h1,h2⟩:=bind_some h
 refine⟨env,μ,m,ds,m1,S,E,h1,fun vs H' μ' st S' rs=>?_⟩
 simp only at h2
 split at h2
 ·rename_i j
  split at h2
  ·rename_i hc
   obtain⟨v,rfl,r⟩:=rs.one
   cases r
   exact⟨j,rfl,hc.1,hc.2,T5 Rf S' (E.step S st) trivial h2 (q.step S S' st)⟩
  ·cases h2
 ·cases h2
theorem Aaa {r:V->List V->Hp->VK->Prop}{o:List D->List D->Option (List D)}{f:FE}{name:Str} (pa:PlainAttrs "list") (slot:Slot "list" name id) (hty:typeOf (.builtin id)=pure (.type "method_descriptor")) (hm:MtR X id r) (ho:Al0 X r o) (hf:PD X o' f) (ha:PLm X (e::es) gl)
  (hbase:attributeBase o' name X.env (eval o' X.env)=eval o' X.env)
  (hfew:((backTo cpos (starEach (e::es) X.env)).all (fun x=>!x.1)&&(backToKw cpos (keywordEach [] X.env)).all (fun x=>x.1.isSome)
   &&decide ((e::es).length+([]:List Keyword).length+(if ([]:List Keyword).isEmpty then 0 else 1) < 30))=true)
  (hline:(apos.endLine == cpos.line)=true) (hs:starEach (e::es) X.env=(false,eval e X.env)::starEach es X.env) (hplain:(backTo cpos (starEach es X.env)).any (·.1)=false) :
  PSD X (.Expr (.Call (.Attribute o' name apos) (e::es) [] cpos) spos) (L9 o f gl):=PS.imp (Tc (Aqg pa slot hty hm hf ha hbase hfew hline hs hplain)) fun D σ H ⟨env,μ,m,ob,S,E,h,q⟩=>by
 obtain⟨d,h1,h⟩:=bind_some h
 refine⟨env,μ,m,d,S,E,h1,fun v H1 s1 r1=>?_⟩
 cases r1 with
 |@ref n a e =>
  simp only at h
  obtain⟨ds0,q0,h⟩:∃ ds0,m[n]?=some (.lst ds0)/\((gl env m).bind fun x=>(match x.2[n]? with
   |some (.lst ds)=>(o ds x.1).bind fun fs=>some (.nx env (x.2.set n (.lst fs)))
   |_=>none))=some ob:=by
   cases q0:m[n]? with
   |none=>simp[q0] at h
   |some mo =>
    simp only[q0] at h
    cases mo with
    |dcs _ _=>cases h
    |dct _ _=>cases h
    |lst ds0=>exact⟨ds0,rfl,h⟩
  obtain⟨y,h2,h⟩:=bind_some h
  cases q':y.2[n]? with
  |none=>simp[q'] at h
  |some mo =>
   simp only[q'] at h
   cases mo with
   |dcs _ _=>cases h
   |dct _ _=>cases h
   |lst ds =>
    simp only at h
    obtain⟨fs,h3,h⟩:=bind_some h
    cases h
    obtain⟨xs0,e0,_⟩:=(S.same s1).obj n a _ e q0
    refine⟨.inl ⟨rfl,xs0,SqL.of e0⟩,env,μ,m,y.1,y.2,S.same s1,E.same s1,h2,fun vs H2 μ2 st2 S2 r2=>?_⟩
    have e2:=st2.ix e
    obtain⟨xs,e1,rs⟩:=S2.obj n a _ e2 q'
    refine ho μ2 H2 a xs vs ds y.1 fs _ e1 (Aya e2) rs r2 h3 fun ys ry=>?_
    obtain⟨st3,S3,up⟩:=S2.write e2 q' ry
    have stA:=(Step.of_same s1 (μ:=μ)).trans st2 (fun c hc=>s1.free hc)
    have stB:=stA.trans st3 (stA.none S S2)
    exact q σ _ μ2 stB S3 (E.step S stB)
 |_=>exact Al h
theorem Aac {fo:FE} (he:PDm X e f) (ho:PD X a fo) (hi:PDm X b g)
  (ha:∀ v,assign (.Subscript a b p) X.env v=(do
   let ov <- holding [v] (eval a X.env)
   let iv <- holding [v,ov] (eval b X.env)
   standAt p
   holding [v,ov,iv] (setItem ov iv v)
   release [v,ov,iv] [])) (hs:swapsWithSole [.Subscript a b p] e pos.line X.env=pure false) (hw:swappedStores [.Subscript a b p] e X.env=pure none) (h1:(assignEach [.Subscript a b p] X.env).map (·.2)=[assign (.Subscript a b p) X.env]) :
  PSD X (.Assign [.Subscript a b p] e pos) (Gz f fo g):=PS.imp (Uq he (Afx ho hi Ux ha) hs hw h1) fun D σ H ⟨env,μ,m,ob,S,E,h,q⟩=>by
 obtain⟨x,h1,h⟩:=bind_some h
 obtain⟨o,h2,h⟩:=bind_some h
 obtain⟨y,h3,h⟩:=bind_some h
 refine⟨env,μ,m,x.1,x.2,S,E,h1,fun v H1 μ1 st1 S1 r1=>⟨env,μ1,x.2,o,S1,E.step S st1,h2,fun u H2 s2 r2=>⟨env,μ1,x.2,y.1,y.2,S1.same s2,(E.step S st1).same s2,h3,fun w H3 μ3 st3 S3 r3=>?_⟩⟩⟩
 have stA:=st1.trans (.of_same s2) (st1.none S S1)
 have SA:=S1.same s2
 have stB:=stA.trans st3 (stA.none S SA)
 have r2':=r2.step SA st3
 obtain⟨n,rfl⟩:∃ n,o=.ref n:=by
  cases o with
  |ref n=>exact⟨n,rfl⟩
  |_=>cases h
 obtain⟨i,m3⟩:=y
 obtain⟨k,rfl⟩:∃ k,i=.int k:=by
  cases i with
  |int k=>exact⟨k,rfl⟩
  |_=>cases h
 cases r3
 cases r2' with
 |@ref _ c e =>
  simp only at h
  cases q':m3[n]? with
  |none=>simp[q'] at h
  |some mo =>
   simp only[q'] at h
   cases mo with
   |dcs _ _=>cases h
   |dct _ _=>cases h
   |lst ds =>
    simp only at h
    obtain⟨j,h4,h⟩:=bind_some h
    cases h
    obtain⟨xs,e1,rs⟩:=S3.obj n c _ e q'
    refine⟨c,xs,k,j,rfl,rfl,e1,by rw[<- rs.length];exact h4,?_⟩
    obtain⟨st,S4,up⟩:=S3.write e q' (rs.set ((r1.same s2).step SA st3) j)
    have stC:=stB.trans st (stB.none S S3)
    exact q σ _ μ3 stC S4 (E.step S stC)
end
open Classical
noncomputable section
noncomputable def Ep (g:FG) (t:FB) (fe:FEm) (env:Bg):List D->MH->Option (List D×MH)
 |[],m=>some ([],m)
 |d::ds,m=>(g d env).bind fun env1=>(t env1 m).bind fun b=>if b=true then (fe env1 m).bind fun x=>(Ep g t fe env ds x.2).bind fun y=>some (x.1::y.1,y.2) else Ep g t fe env ds m
def Mn (cap:List Nat) (k:Nat) (fw:FW) (g:FG) (t:FB) (fe:FEm):FLm:=fun env m=>(fw env m).bind fun w=>if (∀ m',w.chk m')/\w.all.length<=1000000 then Ep g t fe (Os cap k env) w.all m else none
section
variable {X:Cx}{elt tg iter:Expr}{ifs:List Expr}{scope:Scope}{pos:Pos}{cap:List Nat}{N':List Str}{fw:FW}{g:FG}{t:FB}{fe:FEm}
structure CompEndM (X:Cx) (pins:List (Addr×Obj)) (σ:St) (H:Hp) (μ:List Addr) (zs:List D) (m':MH) (D C:Addr) (s':Shared):Prop where
 out:∃ H3 H' μ' ys,Step H μ H3 μ'/\Sim X.K H3 μ' m'/\Same H3 H'/\H3 D=none/\H' D=some (.lst ys)/\Reps X.K H' μ' (nw μ' D) zs ys/\Inv X pins σ H' s'/\H' C=none/\∀ σ' s'' h',Inv X pins σ' H' s''->Heap.SameBut C s''.heap h'->Inv X pins σ' H' { s'' with heap:=h' }
 ns:∃ m,s'.heap.Ns C m
 lc:C≠X.env.locals
 cc:∀ x c,X.env.cells.lookup x=some c->c≠C
inductive CIm (Y:Cx) (μ:List Addr) (fp:List Addr) (tn:Nat->Heap->Prop) (Dd:Addr) (H2:Hp) (g:FG) (e0:Bg) (src:Hp->List Addr->MH->Prop) (cd:Nat->MH->Option (List D×MH)) (n:Nat) (zs:List D) (m':MH) (s:Shared):Nat->Prop where
 |mk {i:Nat}{H3:Hp}{μ3:List Addr}{m3:MH}{σ3:St}{env3:Bg}{ys:List V}{its:List Value}{na:Nat}{dn rs:List D}:i<=n->Inv Y [] σ3 H3 s->tn i s.heap->(∀ b∈fp,H3 b=none)->Step H2 μ H3 μ3->Sim Y.K H3 μ3 m3->src H3 μ3 m3->H3 Dd=none->EnvRep Y.K H3 μ3 σ3 env3->(∀ d,g d env3=g d e0) ->
  s.heap.get? Dd=some { cls:=.type "list",data:=.seq its.toArray na }->Vals ys its->Reps Y.K H3 μ3 (·∈μ3) dn ys->cd i m3=some (rs,m')->dn++rs=zs->dn.length<=i->CIm Y μ fp tn Dd H2 g e0 src cd n zs m' s (n - i)
theorem Vd (ok:CompOk X scope cap N') (hc:X.calm=true) (hi:PW' X tg iter fw) (hg2:∀ d d' env e1,g d env=some e1->g d' e1=g d' env)
  {Φ:Hp->Prop} (hΦ:∀ {pins:List (Addr×Obj)}{σ:St}{H:Hp}{s:Shared},Inv X pins σ H s->Φ H) (hg:∀ cl C s₀ H₀ ex pn,Φ H₀->PGD (A0 X N' scope cl C s₀ H₀ ex pn) tg g) (ht:∀ cl C s₀ H₀ ex pn,Φ H₀->PTs (A0 X N' scope cl C s₀ H₀ ex pn) ifs t) (he:∀ cl C s₀ H₀ ex pn,Φ H₀->PDm (A0 X N' scope cl C s₀ H₀ ex pn) elt fe)
  (hs:∀ x,foldedSetIterable iter X.env x=pure x) {use:Option (Value->Sem Unit)}{ipos:Pos}{pins:List (Addr×Obj)}{s:Shared}{σ:St}{H:Hp}{Q:Value->Shared->Prop} (I:Inv X pins σ H s) {env:Bg}{μ:List Addr}{m m':MH}{zs:List D}
  (S:Sim X.K H μ m) (E:EnvRep X.K H μ σ env) (h:Mn cap (N'.length - cap.length) fw g t fe env m=some (zs,m'))
  (hQ:∀ D C s',CompEndM X pins σ H μ zs m' D C s'->compPost (model X.prog X.w) X.A X.xe use Q (.ref D) C (.ok .next) s') :
  wpAny (model X.prog X.w) X.A (comprehension (.ListComp elt [⟨tg,iter,ifs,0⟩] scope pos) scope X.env ipos (newList []) false (eval iter X.env) use) Q X.xe s:=by
 obtain⟨w,h1,h⟩:=bind_some h
 split at h
 rotate_left
 ·cases h
 rename_i hck
 obtain⟨hck,hsz⟩:=hck
 have hfr:∀ y∈scope.names,y.2=.free->∃ c,X.env.cells.lookup y.1=some c:=fun y hy hf=>I.ok.has y.1 (ok.free y hy hf)
 obtain⟨cl0,hclos,hcl0,hcl20⟩:=G4 hfr
 refine wpAny_comprehension_free (g:=⟨tg,iter,ifs,0⟩) (gs:=[]) rfl hs hclos ok.kind ok.names (thn (hi pins s σ H (fun J H2=>∃ src,Same H H2/\Src X.K J w.all w.chk src/\src H2 μ m) I ⟨env,μ,m,w,S,E,h1,fun H' J src s1 hsrc h0=>⟨src,s1,hsrc,h0⟩⟩) fun v s1 h2=>thn h2 fun itv s2 h3=>?_)
 obtain⟨it,fp,tn,J,H2,e,I2,T,st2,f2,src,hS2,hsrc,h0⟩:=h3
 subst e
 refine Ayq (Lb fun h₁ hns₁ hsb₁ heq₁=>?_)
 dsimp only at hns₁ hsb₁ heq₁ ⊢
 generalize hHp:s2.heap.push { cls:=.type "list",dict:=none,data:=.seq ([]:List Value).toArray }=HP at hns₁ hsb₁ heq₁ ⊢
 have hCs:HP.objs.size=s2.heap.objs.size+1:=by rw[<- hHp,Azu]
 have hDC:s2.heap.objs.size≠HP.objs.size:=by rw[hCs];exact Ax5 (Bam _)
 have hCle:s2.heap.objs.size<=HP.objs.size:=by rw[hCs];exact Azw _
 have below:∀ b,b < s2.heap.objs.size->b≠HP.objs.size/\b≠s2.heap.objs.size:=fun b hb=>⟨by rw[hCs];exact Ax5 (Azb hb),Ax5 hb⟩
 have hkp:∀ b o,s2.heap.get? b=some o->h₁.get? b=some o:=fun b o e=>hsb₁ b o (hHp ▸ Axi _ e)
 have hacc:h₁.get? s2.heap.objs.size=some { cls:=.type "list",data:=.seq ([]:List Value).toArray 0 }:=hsb₁ _ _ (hHp ▸ Axw _ rfl)
 have hDn:H2 s2.heap.objs.size=none:=I2.hok.fresh (Axu _)
 have hCn:H2 HP.objs.size=none:=I2.hok.fresh hCle
 have fo:∀ b∈fp,∃ o,s2.heap.get? b=some o:=fun b hb=>let ⟨o,e,_⟩:=T.obj _ _ st2 b hb;⟨o,e⟩
 have fdc:∀ b∈fp,b≠HP.objs.size/\b≠s2.heap.objs.size:=fun b hb=>let ⟨o,e⟩:=fo b hb;below b (Axm e)
 have hsz1:(HP.push { cls:=.type "dict",data:=.dict #[] }).objs.size=HP.objs.size+1:=Azu ..
 obtain⟨c1,c2,c3⟩:=Tu scope.names (HP.push { cls:=.type "dict",data:=.dict #[] }) cl0 (fun x c e=>by
  obtain⟨v,oc,ho,_⟩:=I2.cell x c (hcl0 x c e)
  rw[hsz1,hCs]
  exact Azb (Azb (Axm ho))) (fun x y c e1 e2=>I2.ok.inj x y c (hcl0 x c e1) (hcl0 y c e2))
 rw[hsz1,<- heq₁] at c1
 rw[hsz1] at c2 c3
 generalize hcle:cellsFrom (HP.objs.size+1) scope.names cl0=cl at *
 have hcl:∀ x c,cl.lookup x=some c->(X.env.cells.lookup x=some c/\scope.names.lookup x≠some .cell)\/(scope.names.lookup x=some .cell/\HP.objs.size < c/\h₁.IsCell c none/\H2 c=none):=fun x c e=>by
  rcases c1 x c e with ⟨z,w⟩|⟨z1,z2,z3⟩|⟨_,_,z⟩
  ·exact .inl ⟨hcl0 x c z,fun q=>w (Ayg q)⟩
  ·exact .inr ⟨ok.cell _ z1 rfl,z2,z3,I2.hok.fresh (Ax7 hCle (Azi z2))⟩
  ·exact z.elim
 have hcl2:∀ x,((x,NameKind.free)∈scope.names\/(x,NameKind.cell)∈scope.names)->∃ c,cl.lookup x=some c:=fun x e=>c3 x (e.elim (fun z=>.inr (hcl20 x z)) .inl)
 generalize hDd:s2.heap.objs.size=Dd at *
 generalize hCc:HP.objs.size=C at *
 have Y0:Inv (A0 X N' scope cl C s2 H2 fp (X.pn++pins)) [] (capσ cap (N'.length - cap.length) σ) H2 { s2 with heap:=h₁,toks:=s2.toks } :=
  Tw (ys:=[]) ok I2 f2 fo hcl c2 hcl2 (by rw[hDd];exact hCle) ⟨_,hns₁⟩ hkp (fun _ _ _ n=>n) (Same.refl _) hCn (I2.hok.kept hkp)
 -- what stays true of the iterator's objects in the block
 have fpY:∀ {H':Hp}{ps:List (Addr×Obj)},(∀ b∈fp,H' b=none)->(∀ p∈ps,p.1∉fp)->∀ b∈fp,Abj (A0 X N' scope cl C s2 H2 fp (X.pn++pins)) ps H' b:=fun {H' ps} hn hps b hb=>by
  obtain⟨q0,q1,q2,q3,q4,q5⟩:=f2 b hb
  refine⟨hn b hb,(fdc b hb).1,fun z=>?_,.inl hb,fun x c e=>?_,fun p hp z=>?_⟩
  rotate_left
  ·rcases hcl x c e with ⟨z,_⟩|⟨_,z,_⟩
   ·exact q4 x c z
   ·obtain⟨o,e'⟩:=fo b hb
    exact Ayu (Ax0 (by have:=Axm e';rw[hDd] at this;exact this) (Ax7 hCle (Azi z)))
  rotate_left
  ·have z:b∈X.env.locals::X.fs:=I2.stkSub b z
   rcases List.mem_cons.mp z with z|z
   ·exact q1 z
   ·exact q2 z
  ·rcases List.mem_append.mp hp with hp|hp
   ·exact q5 p hp z
   ·exact hps p hp (by rw[z];exact hb)
 have key:∀ s₃:Shared,s₃={ s2 with heap:=h₁,toks:=s2.toks } ->
   codeAny (model X.prog X.w) X.A (.compLoop (.ListComp elt [⟨tg,iter,ifs,0⟩] scope pos) 0 (.ref it) (.ref Dd) (compEnvC scope cl C X.env)) (compPost (model X.prog X.w) X.A X.xe use Q (.ref Dd) C) s₃:=by
  rintro s₃ rfl
  refine Ig (fun k s=>CIm (A0 X N' scope cl C s2 H2 fp (X.pn++pins)) μ fp tn Dd H2 g (Os cap (N'.length - cap.length) env) src (fun i m=>Ep g t fe (Os cap (N'.length - cap.length) env) (w.all.drop i) m) w.all.length zs m' s k) ?_ w.all.length
   (.mk (ys:=[]) (dn:=[]) (Ax9 _) Y0 (T.keep _ _ _ st2 fun b hb o e=>hkp b o e) (fun b hb=>(f2 b hb).1) Step.refl (S.same hS2) h0 hDn (Ts (E.same hS2) cap _) (fun _=>rfl) hacc .nil .nil (by simpa using h) rfl (Ax9 _))
  intro k s3 ci
  cases ci with
  |@mk i H3 μ3 m3 σ3 env3 ys its na dn rs hi' I3 st3 fr3 s3' S3 src3 hD3 E3 hg3 ha3 rv3 rr3 hc3 hz3 hl3 =>
  have hDfp:Dd∉fp:=fun z=>(fdc Dd z).2 rfl
  have hDne:Dd≠(A0 X N' scope cl C s2 H2 fp (X.pn++pins)).env.locals:=hDC
  have hDcell:∀ x c,(A0 X N' scope cl C s2 H2 fp (X.pn++pins)).env.cells.lookup x=some c->c≠Dd:=fun x c e z=>by
   rcases hcl x c e with ⟨w,_⟩|⟨_,w,_⟩
   ·obtain⟨v,oc,ho,_⟩:=I2.cell x c w
    exact absurd (Axm ho) (by rw[z,hDd];exact Ayd _)
   ·exact absurd w (by rw[z];exact Nat.not_lt.mpr hCle)
  have hDpn:∀ p∈X.pn++pins,p.1≠Dd:=fun p hp z=>absurd (Axm (I2.pin p hp).1) (by rw[z,hDd];exact Ayd _)
  have hDs:s2.heap.objs.size<=Dd:=Nat.le_of_eq hDd
  have hDfs:Dd∉(A0 X N' scope cl C s2 H2 fp (X.pn++pins)).fs:=fun z=>by
   have z:Dd∈X.env.locals::X.fs:=I2.stkSub Dd z
   rcases List.mem_cons.mp z with z|z
   ·exact absurd I2.lt (by rw[<- z,hDd];exact Ayd _)
   ·exact I2.nofs hDs z
  have I3p:Inv (A0 X N' scope cl C s2 H2 fp (X.pn++pins)) [(Dd,{ cls:=.type "list",data:=.seq its.toArray na })] σ3 H3 s3:=I3.pins_of fun p hp=>by
   have e:p=(Dd,{ cls:=.type "list",data:=.seq its.toArray na }):=by simpa using hp
   subst e
   exact⟨ha3,hD3,hDne,hDfs,fun v z=>by cases z⟩
  have pfp:∀ p∈[(Dd,({ cls:=.type "list",data:=.seq its.toArray na }:Obj))],p.1∉fp:=fun p hp=>by
   have e:p=(Dd,{ cls:=.type "list",data:=.seq its.toArray na }):=by simpa using hp
   subst e
   exact hDfp
  by_cases hlt:i < w.all.length
  ·have hd:w.all.drop i=w.all[i]::w.all.drop (i+1):=Ayv hlt
   rw[hd] at hc3
   unfold Ep at hc3
   obtain⟨env4,e4,hc3⟩:=bind_some hc3
   obtain⟨tb,e5,hc3⟩:=bind_some hc3
   obtain⟨go,yl⟩:=hsrc.go H3 μ3 m3 i w.all[i] S3 src3 (hck m3) (by simp[hlt])
   refine thn (T.item (A0 X N' scope cl C s2 H2 fp (X.pn++pins)) rfl rfl rfl hc i _ s3 σ3 H3 _ I3p (fpY fr3 pfp) st3 go) fun r s4 ⟨u,hr,h4⟩=>?_
   subst hr
   refine thn h4 fun _ s5 ⟨x,H5,I5,r5,y5,st5,fr5⟩=>?_
   obtain⟨s5',rx5⟩:=yl x H5 y5
   have S5:=S3.same s5'
   have E5:=E3.same s5'
   have I5':=I5.pinned (fpY fr5 pfp) (T.obj _ _ st5)
   generalize hps:[(Dd,({ cls:=.type "list",data:=.seq its.toArray na }:Obj))]++M3 fp s5.heap=ps at I5'
   have pacc:(Dd,({ cls:=.type "list",data:=.seq its.toArray na }:Obj))∈ps:=by rw[<- hps];exact Aye _ (by simp)
   have pits:∀ b o,b∈fp->s5.heap.get? b=some o->(b,o)∈ps:=fun b o hb e=>by rw[<- hps];exact Axj _ (E9 hb e)
   refine thn (hg cl C s2 H2 fp (X.pn++pins) (hΦ I2) ps s5 σ3 H5 x u (fun σ' H'=>H'=H5/\EnvRep X.K H5 μ3 σ' env4) I5' r5 ⟨env3,μ3,m3,_,env4,S5,E5,rx5,by rw[hg3];exact e4,fun σ' E'=>⟨rfl,E'⟩⟩) fun _ s6 ⟨σ6,H6,I6,eH6,E6⟩=>?_
   subst eH6
   refine thn (ht cl C s2 H2 fp (X.pn++pins) (hΦ I2) ps s6 σ6 H6 (fun b H'=>b=tb/\Same H6 H') I6 ⟨env4,μ3,m3,tb,S5,E6,e5,fun H' s=>⟨rfl,s⟩⟩) fun ok s7 ⟨H7,I7,eb,s7'⟩=>?_
   subst eb
   have S7:=S5.same s7'
   have E7:=E6.same s7'
   have stA:Step H2 μ H7 μ3:=s3'.trans (.of_same (s5'.trans s7')) (s3'.none (S.same hS2) S3)
   have src7:src H7 μ3 m3:=hsrc.keep _ _ _ _ _ _ src3 S3 (.of_same (s5'.trans s7')) S7
   have hg4:∀ d,g d env4=g d (Os cap (N'.length - cap.length) env):=fun d=>by rw[hg2 _ d _ _ e4]
   cases ok with
   |false =>
    rw[Axy Ax8] at hc3
    have pin7:=fun p hp=>I7.pin p (Axj _ hp)
    refine Ary ⟨w.all.length - (i+1),by lia,.mk hlt (I7.pins_of (fun p hp=>by simp at hp)) (T.keep _ _ _ st5 fun b hb o e=>(pin7 (b,o) (pits b o hb e)).1) (fun b hb=>?_) stA S7 src7 (pin7 _ pacc).2.1 E7 hg4 (pin7 _ pacc).1 rv3 (rr3.same (s5'.trans s7')) hc3 hz3 (Nat.le_succ_of_le hl3)⟩
    obtain⟨o,e,_⟩:=T.obj _ _ st5 b hb
    exact (pin7 (b,o) (pits b o hb e)).2.1
   |true =>
    rw[Axv rfl] at hc3
    obtain⟨y,e6,hc3⟩:=bind_some hc3
    obtain⟨rs',e7,hc3⟩:=bind_some hc3
    obtain⟨e8',e9'⟩:=Prod.mk.inj (Ayk hc3)
    subst e8'
    have e7:Ep g t fe (Os cap (N'.length - cap.length) env) (w.all.drop (i+1)) y.2=some (rs'.1,m'):=by rw[e7,<- e9']
    refine Arz (thn (he cl C s2 H2 fp (X.pn++pins) (hΦ I2) ps s7 σ6 H7 (fun v H'=>∃ μ8,Step H7 μ3 H' μ8/\Sim X.K H' μ8 y.2/\Rep X.K H' μ8 (·∈μ8) y.1 v) I7 ⟨env4,μ3,m3,y.1,y.2,S7,E7,e6,fun v H' μ8 st S r=>⟨μ8,st,S,r⟩⟩) fun u8 s8 ⟨x8,H8,I8,r8,μ8,st8,S8,rx8⟩=>?_)
    have pin8:=fun p hp=>I8.pin p (Axj _ hp)
    have e8:=(pin8 _ pacc).1
    have hil:its.length<=i:=by rw[<- rv3.length,<- rr3.length];exact hl3
    have hsl:sizeLine=16777216:=Ay3
    refine call_meets F.slot_list_append ⟨_,e8,rfl⟩ F.entry_list_append (F.args_list_append_2 _ _) (PySem.list_append Dd its.toArray na u8 (by rw[Axk];lia)) ⟨e8,?_⟩
    obtain⟨na',q9⟩:∃ na',(s8.heap.update Dd (Obj.mapSeq fun a=>a.push u8)).get? Dd=some { cls:=.type "list",data:=.seq (its++[u8]).toArray na' }:=by
     have q9:=PySem.IsL.update e8 (fun a=>a.push u8)
     have ea:(its.toArray.push u8)=(its++[u8]).toArray:=by simp
     rw[ea] at q9
     exact⟨_,q9⟩
    have I8':Inv (A0 X N' scope cl C s2 H2 fp (X.pn++pins)) [] σ6 H8 s8:=I8.pins_of (fun p hp=>by simp at hp)
    have I9:=I8'.turned (it:=Dd) (t':=s8.toks) (h':=s8.heap.update Dd (Obj.mapSeq fun a=>a.push u8)) (fun b o hb e=>(Ax2 s8.heap _ (Ayw hb)).trans e) (pin8 _ pacc).2.1 hDne (.inr hDs) hDcell (fun p hp=>hDpn p (by
     have hp:p∈(X.pn++pins)++[]:=hp
     simpa using hp))
    refine⟨w.all.length - (i+1),by lia,.mk (na:=na') hlt I9 (T.keep _ _ _ st5 fun b hb o e=>?_) (fun b hb=>?_) (stA.trans st8 (stA.none (S.same hS2) S7)) S8 (hsrc.keep _ _ _ _ _ _ src7 S7 st8 S8) (pin8 _ pacc).2.1 (E7.step S7 st8) hg4 ?_ (rv3.append (.cons r8 .nil)) (((rr3.same (s5'.trans s7')).step S7 st8).append (.cons rx8 .nil)) e7 (by rw[<- hz3];simp) (by rw[Axt];simp;lia)⟩
    ·exact (Ax2 s8.heap _ (Ayw (fdc b hb).2)).trans (pin8 (b,o) (pits b o hb e)).1
    ·obtain⟨o,e,_⟩:=T.obj _ _ st5 b hb
     exact (pin8 (b,o) (pits b o hb e)).2.1
    ·exact q9
  ·have e:i=w.all.length:=by lia
   subst e
   rw[List.drop_length] at hc3
   obtain⟨e8',e9'⟩:=Prod.mk.inj (Ayk hc3)
   subst e8' e9'
   rw[Axx] at hz3
   subst hz3
   refine thn (T.done (A0 X N' scope cl C s2 H2 fp (X.pn++pins)) rfl rfl rfl hc _ _ s3 σ3 H3 _ I3p (fpY fr3 pfp) st3 (hsrc.stop H3 μ3 m3 S3 src3 (hck m3))) fun r s4 ⟨hr,I4⟩=>?_
   subst hr
   have e4:=(I4.pin (Dd,_) (Axj _ (List.mem_singleton.mpr rfl))).1
   have hyl:ys.length<=sizeLine:=by rw[<- rr3.length];exact big (Ax7 hl3 hsz)
   have inv:∀ h',(∀ b o,b≠C->s4.heap.get? b=some o->h'.get? b=some o)->Inv X pins σ (upd H3 Dd (.lst ys)) { s4 with heap:=h' }:=fun h' hk=>by
    have nC:∀ b o,s2.heap.get? b=some o->b≠C/\b≠Dd:=fun b o e=>below b (by rw[<- hDd];exact Axm e)
    have un:Un (frs X.stack) fp H2 H3 s2.heap s4.heap:=I4.base
    refine I2.call' (s':={ s4 with heap:=h' }) (ch:=fp) I4.os ⟨fun b o e n hb hx=>hk b o (nC b o e).1 (un.keep b o e n hb hx),fun b o e n hb hx=>?_,fun b o e n hx=>?_,fun b o e hx=>?_,fun b xs e=>?_,fun b o v e=>?_,fun b ps e=>?_⟩ (fun b v e=>?_) I4.bare fun b hb=>?_
    ·obtain⟨sl,q⟩:=un.slot b o e n hb hx
     exact⟨sl,hk b _ (nC b o e).1 q⟩
    ·rw[Bb (nC b o e).2];exact un.free b o e n hx
    ·obtain⟨o',q⟩:=un.there b o e hx
     exact⟨o',hk b _ (nC b o e).1 q⟩
    ·rw[Bb (Az e hDn)];exact un.tups b xs e
    ·rw[Bb (Az e hDn)];exact un.frzs b o v e
    ·obtain⟨more,q⟩:=un.tbls b ps e
     exact⟨more,by rw[Bb (Az e hDn)];exact q⟩
    ·have hCfree:H3 C=none:=I4.free
     by_cases hbD:b=Dd
     ·subst hbD
      rw[Bn] at e
      cases e
      exact⟨hyl,its,na,rv3,hk _ _ hDC e4⟩
     ·rw[Bb hbD] at e
      refine (I4.hok b v e).stay (fun c o hc q=>hk c o ?_ q) (fun c q=>by rw[Bb (Az q hD3)];exact q) (fun c xs q=>Rd.upd_none hD3 q) fun c x u q=>by rw[Bb (Az q hD3)];exact q
      rcases hc with rfl|hc
      ·exact Az e hCfree
      ·exact Az hc hCfree
    ·obtain⟨q0,q1,q2,q3,q4,q5⟩:=f2 b hb
     exact⟨q3,q1,q4,q5⟩
   have hCl:C≠X.env.locals:=fun z=>absurd I2.lt (by rw[<- z,hDd];exact Nat.not_lt.mpr hCle)
   have hCc':∀ x c,X.env.cells.lookup x=some c->c≠C:=fun x c e z=>by
    obtain⟨v,oc,ho,_⟩:=I2.cell x c e
    exact absurd (Axm ho) (by rw[z,hDd];exact Nat.not_lt.mpr hCle)
   refine hQ Dd C s4 ⟨⟨H3,upd H3 Dd (.lst ys),μ3,ys,(Step.of_same hS2).trans s3' (fun c hc=>hS2.free hc),S3,Bf hD3,hD3,Bn,rr3.fresh hD3,inv s4.heap fun _ _ _ e=>e,by rw[Bb hDC.symm];exact I4.free,fun σ' s'' h' J sb=>?_⟩,?_,hCl,hCc'⟩
   ·exact J.turned (it:=C) (t':=s''.toks) (fun b o hb e=>(sb.2 b hb).trans e) (by rw[Bb hDC.symm];exact I4.free) hCl (.inr (Ax7 I2.sz (by rw[hDd];exact hCle))) hCc' fun p hp z=>absurd (Axm (I2.pin p hp).1) (by rw[z,hDd];exact Nat.not_lt.mpr hCle)
   obtain⟨m',hm,_⟩:=I4.loc
   exact⟨m',hm⟩
 exact codeAny_compStart_list (key _ rfl) (T.self _ 0 _ _ _ (T.keep _ _ _ st2 fun b hb o e=>hkp b o e) (key _ rfl))
variable {x:Str}{p' spos:Pos}{i:Nat}
noncomputable def Aay (i:Nat) (f:FLm):FS:=fun env m=>(f env m).bind fun x=>some (.nx (env.set i (some (.ref x.2.length))) (x.2++[.lst x.1]))
theorem Ady (ok:CompOk X scope cap N') (hc:X.calm=true) (hi:PW' X tg iter fw) (hg2:∀ d d' env e1,g d env=some e1->g d' e1=g d' env)
  (hg:∀ cl C s₀ H₀ ex pn,PGD (A0 X N' scope cl C s₀ H₀ ex pn) tg g) (ht:∀ cl C s₀ H₀ ex pn,PTs (A0 X N' scope cl C s₀ H₀ ex pn) ifs t) (he:∀ cl C s₀ H₀ ex pn,PDm (A0 X N' scope cl C s₀ H₀ ex pn) elt fe)
  (hs:∀ x,foldedSetIterable iter X.env x=pure x) (hsw:swapsWith (.ListComp elt [⟨tg,iter,ifs,0⟩] scope pos) (some (.Name x p')) spos.line X.env=pure true) (hN:X.N.Nodup) (hn:X.N[i]?=some x) (hx:Loc X.env.scope x) (hf:X.fn x=true\/X.env.scope.names.lookup x=some .local) :
  PSD X (.Assign [.Name x p'] (.ListComp elt [⟨tg,iter,ifs,0⟩] scope pos) spos) (Aay i (Mn cap (N'.length - cap.length) fw g t fe)):=by
 intro pins s σ H Dn I ⟨env,μ,m,o,S,E,h,q⟩
 obtain⟨z,h1,h2⟩:=bind_some h
 cases h2
 rw[exec_Assign_Name_used _ _ _ _ hsw]
 refine Axh (wpAny_standAt (Axh ?_))
 show wpAny _ X.A (do let _ <- comprehension (.ListComp elt [⟨tg,iter,ifs,0⟩] scope pos) scope X.env _ (newList []) false (eval iter X.env) (some (assign (.Name x p') X.env))) _ _ s
 refine Axh (Ay2 (Vd ok hc hi hg2 (Φ:=fun _=>True) (fun _=>trivial) (fun cl C s₀ H₀ ex pn _=>hg cl C s₀ H₀ ex pn) (fun cl C s₀ H₀ ex pn _=>ht cl C s₀ H₀ ex pn) (fun cl C s₀ H₀ ex pn _=>he cl C s₀ H₀ ex pn) hs (use:=some (assign (.Name x p') X.env)) (Q:=fun _ s'=>SP X pins Dn .next s') I S E h1 fun D C s' ⟨⟨H3,H',μ',ys,st,S3,h1,h2,h3,h4,h5,h6,h7⟩,⟨mm,hm⟩,lc,cc⟩=>?_) (fun _ s' hq=>Axo (Axo hq)) fun _ _ e=>e)
 show wpAny _ X.A (assign (.Name x p') X.env (.ref D)) _ _ _
 refine wpAny_assign_Name (Lr (v:=.ref D) h5 hN hn hx rfl (fun s'' I'' ⟨a,sb,ha⟩=>?_) hf)
 obtain⟨st2,S4⟩:=S3.push h1 h2 h3 h4
 have st3:=st.trans st2 (st.none S S3)
 refine⟨mm,hm.sameBut sb ?_,fun h' sb'=>⟨_,H',h7 _ s'' h' I'' sb',q _ H' _ st3 S4 ((E.step S st3).set i (Oi S3.len))⟩⟩
 rcases ha with ha|ha
 ·rw[ha];exact lc
 ·exact (cc x a ha).symm
end
end
end ML
end L2
end S_EX7
section S_EF6
namespace L2
namespace ML
open PySem PySem.Spec PyProof.Rows
structure QDm (X:Cx) (e:Expr) (f:FEm):Prop where out:PDm X e f
structure QLm (X:Cx) (e:List Expr) (f:FLm):Prop where out:PLm X e f
structure QBm (X:Cx) (e:Expr) (f:FBm):Prop where out:PBm X e f
structure QWBm (X:Cx) (e:Expr) (f:FBm):Prop where out:Aeo X e f
section
variable {X:Cx}{a b c e tg:Expr}{es:List Expr}{pos p p' apos cpos spos:Pos}{x:Str}{f g:FEm}{gl:FLm}{t u:FBm}{i k j n:Nat}{o:D->D->MH->Option D}
theorem Ai {f:FE} (h:QD X e f):QDm X e (fM f):=⟨Aqe h.out⟩
theorem P2 {f:FB} (h:QB X e f):QBm X e (fBm f):=⟨Apx h.out⟩
theorem Ar:QLm X [] As:=⟨Aka⟩
theorem Aj (ha:QDm X e f) (hr:QLm X es gl) (hs':By e=true:=by rfl):QLm X (e::es) (Ab f gl):=⟨Ado ha.out hr.out (Ax hs')⟩
theorem E2 {x1} (h:QLm X es gl):QDm X (.Tuple es x1 pos) (D6 gl):=⟨Ajz h.out⟩
theorem Aq1 (h:QLm X es gl):QDm X (.List es pos) (X9 gl):=⟨Ajy h.out⟩
theorem Im {op} (ho:OpM X (binaryOp op) o) (ha:QDm X a f) (hb:QDm X b g):QDm X (.BinOp a op b pos) (f2m o f g):=⟨Ajw ho ha.out hb.out⟩
theorem Aqz {op} (ho:OpM X (compareOp op) o) (ha:QDm X a f) (hb:QDm X b g) (hm':Eu b=true:=by rfl):QDm X (.Compare a [op] [b] pos) (f2m o f g):=⟨Ajx ho ha.out hb.out (E8 hm')⟩
theorem Gx {op} (ho:OpM X (compareOp op) o) (ha:QDm X a f) (hb:QDm X b g) (hm':Eu b=true:=by rfl):QBm X (.Compare a [op] [b] pos) (D5 (f2m o f g)):=⟨Ajq ho ha.out hb.out (E8 hm')⟩
theorem L7 (ha:QDm X a f) (hb:QDm X b g) (hs':Ar4 b=true:=by rfl):QDm X (.Subscript a b pos) (f2m oIx f g):=⟨Aqd ha.out hb.out (Nr hs')⟩
theorem Aq0 (hm:X.mg "int"=none) (ha:QLm X [e] gl) (hg:Gl X "int":=by unfold Gl;kernel_rfl) (he':By e=true:=by rfl):QDm X (.Call (.Name "int" p) [e] [] pos) (Mm Abg gl):=⟨V3 Aew hg hm (by decide +kernel) ha.out (by decide) (by decide) (Ax he') rfl⟩
theorem Aus (hc:QBm X c t) (ha:QDm X a f) (hb:QDm X b g):QDm X (.IfExp c a b pos) (An8 t f g):=⟨Aqc hc.out ha.out hb.out⟩
theorem Of (ha:QBm X a t):QWBm X (.BoolOp .And [a] pos) t:=⟨Ad1 ha.out⟩
theorem Oe (ha:QBm X a t) (hb:QWBm X (.BoolOp .And (b::es) pos) u):QWBm X (.BoolOp .And (a::b::es) pos) (L5 t u):=⟨Aku ha.out hb.out⟩
theorem Jj {op} (h:QWBm X (.BoolOp op es pos) t):QBm X (.BoolOp op es pos) t:=⟨Adg h.out⟩
theorem Bz (hN:X.N.Nodup) (he:QDm X e f) (hi:X.N[i]?=some x:=by kernel_rfl) (hx:Loc X.env.scope x:=by exact Azp (by kernel_rfl)) (hs':Iw e=true:=by rfl) (hf:X.fn x=true\/X.env.scope.names.lookup x=some .local:=by exact Azp (by kernel_rfl)) :
  QS X (.Assign [.Name x p'] e pos) (Ca i f):=⟨Aab hN hi hx he.out (G0 hs') hf⟩
theorem Jk (hN:X.N.Nodup) (he:QDm X e f) (hi:X.N[i]?=some x:=by kernel_rfl) (hx:Loc X.env.scope x:=by exact Or.inr (by kernel_rfl)) (hs':Iw e=true:=by rfl) (hf:X.fn x=true\/X.env.scope.names.lookup x=some .local:=by exact Azp (by kernel_rfl)) :
  QS X (.Assign [.Name x p'] e pos) (Ca i f):=⟨Aab hN hi hx he.out (G0 hs') hf⟩
theorem Od (he:QDm X e f):QS X (.Return (some e) pos) (Ma f):=⟨Akl he.out⟩
theorem Eh (he:QDm X e f) (hs:swapsWith e none pos.line X.env=pure false:=by rfl):QS X (.Expr e pos) (Ea f):=⟨Adw he.out hs⟩
theorem Gh {f g:FS}{sa sb:List Stmt} (hc:QBm X c t) (ha:QSs X sa f) (hb:QSs X sb g):QS X (.If c sa sb pos) (Ot t f g):=⟨Aqs hc.out ha.out hb.out⟩
theorem Ob {g:FG} (he:QDm X e f) (hg:QG X tg g) (hs':Iw e=true:=by rfl) (hw:swappedStores [tg] e X.env=pure none:=by kernel_rfl) (h1:(assignEach [tg] X.env).map (·.2)=[assign tg X.env]:=by kernel_rfl):QS X (.Assign [tg] e pos) (Rb f g):=⟨Akk he.out hg.out (Jn hs') hw h1⟩
theorem Oc {t:FG}{b:FS}{body:List Stmt} (hp:PassesOwn (model X.prog X.w) X.A X.env X.xe) (hc:X.calm=true) (hm:X.mg "range"=none) (ha:QLm X [a] gl) (ht:QG X tg t) (hb:QSs X body b) (hg:Gl X "range":=by unfold Gl;kernel_rfl) (hs':By a=true:=by rfl) (hs2':Eu (.Call (.Name "range" p) [a] [] pos)=true:=by rfl) :
  QS X (.For tg (.Call (.Name "range" p) [a] [] pos) body [] spos) (Lm gl t b):=⟨Adx hp hc hg hm ha.out (Ax hs') ht.out hb.out (Do hs2')⟩
theorem Aal {f:FE} (hf:QD X a f) (ha:QLm X [e] gl) (hbase':Pw a=true:=by rfl) (hline:(apos.endLine == cpos.line)=true:=by kernel_rfl) (hs':By e=true:=by rfl) :
  QS X (.Expr (.Call (.Attribute a "append" apos) [e] [] cpos) spos) (L9 Ze f gl):=⟨Aaa PySem.F.plainAttrs_list PySem.F.slot_list_append PySem.F.type_list_append Pt Afi hf.out ha.out (E4 hbase') (Jm (by rw[Ayt,hs'];rfl) rfl) hline (Ax hs') rfl⟩
theorem P3 {fo:FE} (he:QDm X e f) (ho:QD X a fo) (hi:QDm X b g) (ha:∀ v,assign (.Subscript a b p) X.env v=(do
   let ov <- holding [v] (eval a X.env)
   let iv <- holding [v,ov] (eval b X.env)
   standAt p
   holding [v,ov,iv] (setItem ov iv v)
   release [v,ov,iv] []):=by intro v;rfl) (hs':Iw e=true:=by rfl) (hw:swappedStores [.Subscript a b p] e X.env=pure none:=by kernel_rfl) (h1:(assignEach [.Subscript a b p] X.env).map (·.2)=[assign (.Subscript a b p) X.env]:=by kernel_rfl) :
  QS X (.Assign [.Subscript a b p] e pos) (Gz f fo g):=⟨Aac he.out ho.out hi.out ha (Jn hs') hw h1⟩
end
section
variable {X:Cx}{elt tg iter:Expr}{ifs:List Expr}{scope:Scope}{pos:Pos}{fw:FW}{g:FG}{t:FB}{fe:FEm}{x:Str}{p' spos:Pos}{i:Nat}
theorem Ak1 (cap:List Nat) (N':List Str) (hN:X.N.Nodup) (hc:X.calm=true) (hi:QW X tg iter fw) (hg2:∀ d d' env e1,g d env=some e1->g d' e1=g d' env) (hg:∀ cl C s₀ H₀ ex pn,QG (A0 X N' scope cl C s₀ H₀ ex pn) tg g) (ht:∀ cl C s₀ H₀ ex pn,QTs (A0 X N' scope cl C s₀ H₀ ex pn) ifs t) (he:∀ cl C s₀ H₀ ex pn,QDm (A0 X N' scope cl C s₀ H₀ ex pn) elt fe) (ok:Hq scope X.env.scope X.N N' cap=true:=by kernel_rfl) (hs':Eu iter=true:=by rfl) (hn:X.N[i]?=some x:=by kernel_rfl) (hx:Loc X.env.scope x:=by exact Azp (by kernel_rfl)) (hf:X.fn x=true\/X.env.scope.names.lookup x=some .local:=by exact Azp (by kernel_rfl)) (hsw:swapsWith (.ListComp elt [⟨tg,iter,ifs,0⟩] scope pos) (some (.Name x p')) spos.line X.env=pure true:=by kernel_rfl) :
  QS X (.Assign [.Name x p'] (.ListComp elt [⟨tg,iter,ifs,0⟩] scope pos) spos) (Aay i (Mn cap (N'.length - cap.length) fw g t fe)) :=
 ⟨Ady (CompOk.of ok) hc hi.out hg2 (fun cl C s H ex pn=>(hg cl C s H ex pn).out) (fun cl C s H ex pn=>(ht cl C s H ex pn).out) (fun cl C s H ex pn=>(he cl C s H ex pn).out) (Do hs') hsw hN hn hx hf⟩
end
inductive spI (K:W.Frag) (n:Nat) (fn:List D->MH->Option (D×MH)) (vs:List V) (H:Hp) (Q:VK) (E:XK):Prop
 |mk (μ:List Addr) (m:MH) (ds:List D) (d:D) (m':MH) (S:Sim K H μ m) (r:Reps K H μ (·∈μ) ds vs) (l:ds.length=n) (h:fn ds m=some (d,m')) (q:∀ v H' μ',Step H μ H' μ'->Sim K H' μ' m'->Rep K H' μ' (·∈μ') d v->Q v H')
noncomputable def Lz (N:Nat) (g:FS):List D->MH->Option (D×MH):=fun ds m=>(g (ds.map some++List.replicate (N - ds.length) none) m).bind fun o=>match o with
 |.rt d m'=>some (d,m')
 |.nx _ m'=>some (.non,m')
 |_=>none
theorem Acb {P:Program}{w:World}{K:W.Frag}{mg:Str->Option Value}{base:Heap}{x qual:Str}{st:Stmt}{f:Addr}{fd:FuncData}{N ps:List Str}{k:Nat}{g:FS} (F:Fun K x qual st f fd) (S:FnScope N ps (Bc st))
  (hbody:∀ (cdv:Value) (A:Around) (outer:List Env) (s:Shared) (H:Hp) (E:XK),Room k (A.deeper (envOfC qual (Bc st) s.heap.objs.size f cdv)) ->
   Tp (X3 CX0 P w K mg base N qual (Bc st) f cdv A outer s H E).nox (C5 st) g):FnOk P w K mg base CX0 (k+1) f fd ps (spI K ps.length (Lz N.length g)):=by
 refine F.ok S (fun vs H Q E h=>?_) (fun cdv A outer s H vs Q E hr h=>?_)
 ·obtain⟨μ,m,ds,d,m',S,r,hl,_⟩:=h
  rw[<- r.length];exact hl
 ·obtain⟨μ,m,ds,d,m',S0,r,hl,h,q⟩:=h
  refine⟨_,hbody cdv A outer s H E hr,?_⟩
  obtain⟨o,h1,h2⟩:=bind_some h
  refine⟨_,μ,m,o,S0,Nn r,h1,?_⟩
  cases o with
  |rt d' m1=>cases h2;exact fun v H' μ' st S' r'=>q v H' μ' st S' r'
  |nx env m1=>cases h2;exact fun σ' H' μ' st S' E'=>q _ H' μ' st S' .non
  |bk _ _=>exact Al h2
  |ct _ _=>exact Al h2
structure ClI (P:Program) (w:World) (K:W.Frag) (mg:Str->Option Value) (base:Heap) (k:Nat) (x:Str) (n:Nat) (fn:List D->MH->Option (D×MH)):Prop where
 ex:∃ a fd ps,FnOk P w K mg base CX0 k a fd ps (spI K n fn)/\mg x=some (.ref a)/\W.keepIn K (.ref a)=true/\Binds K fd ps []
noncomputable def Aq (n:Nat) (fn:List D->MH->Option (D×MH)) (g:FLm):FEm:=fun env m=>(g env m).bind fun x=>if x.1.length=n then fn x.1 x.2 else none
section
variable {P:Program}{w:World}{K:W.Frag}{mg:Str->Option Value}{base:Heap}{x:Str}{st:Stmt}{ps:List Str}{k n:Nat}
theorem Gv (N:List Str) (T:FD K mg x st ps) (g:FS) (fn:List D->MH->Option (D×MH))
  (hbody:∀ (f:Addr) (cdv:Value) (A:Around) (outer:List Env) (s:Shared) (H:Hp) (E:XK),Room k (A.deeper (envOfC x (Bc st) s.heap.objs.size f cdv))->N.Nodup ->
   QSs (X3 CX0 P w K mg base N x (Bc st) f cdv A outer s H E).nox (C5 st) g) (hfn:fn=Lz N.length g:=by rfl) (hn:ps.length=n:=by rfl) (S:FnScope N ps (Bc st):=by exact⟨rfl,rfl,rfl,by decide +kernel,rfl,by decide +kernel,by decide +kernel⟩):ClI P w K mg base (k+1) x n fn:=by
 obtain⟨a,fd,m,F,b⟩:=T.ex
 subst hfn hn
 exact⟨a,fd,ps,Acb F S fun cdv A outer s H E hr=>(hbody a cdv A outer s H E hr S.nd).out,m,F.kp,b⟩
end
section
variable {X:Cx}{e:Expr}{es:List Expr}{pos p apos cpos spos:Pos}{x:Str}{k j n:Nat}{fn:List D->MH->Option (D×MH)}{gl:FLm}{a e':Expr}
theorem Ci (F:ClI X.prog X.w X.K X.mg X.base k x n fn) (hr:Room j X.A) (ha:QLm X (e::es) gl) (hk:k<=j:=by decide) (hg:Gl X x:=by unfold Gl;kernel_rfl) (hdb:(x == ("__debug__":Str))=false:=by decide) (he':By e=true:=by rfl) (hpl':es.all By=true:=by rfl) :
  QDm X (.Call (.Name x p) (e::es) [] pos) (Aq n fn gl):=by
 obtain⟨a,fd,ps,F,m,kp,b⟩:=F.ex
 refine⟨PE.imp (N4 F (hr.mono hk) hg m kp b .nil (Adf (X:=X)) ha.out hdb (Ax he') (El hpl')) fun σ H Q ⟨env,μ,m,d,m',S,E,h,q⟩=>?_⟩
 obtain⟨y,h1,h⟩:=bind_some h
 split at h
 ·rename_i hl
  refine⟨env,μ,m,y.1,y.2,S,E,h1,fun vs H1 μ1 st1 S1 rs=>?_⟩
  rw[Axx]
  exact⟨μ1,y.2,y.1,d,m',S1,rs,hl,h,fun v H' μ' st S' r=>q v H' μ' (st1.trans st (st1.none S S1)) S' r⟩
 ·cases h
theorem M5 {f:FE} (hf:QD X a f) (ha:QLm X [e,e'] gl) (hbase':Pw a=true:=by rfl) (hline:(apos.endLine == cpos.line)=true:=by kernel_rfl) (hs':By e=true:=by rfl) (hs2:By e'=true:=by rfl) :
  QS X (.Expr (.Call (.Attribute a "insert" apos) [e,e'] [] cpos) spos) (L9 Gs f gl):=⟨Aaa PySem.F.plainAttrs_list PySem.F.slot_list_insert PySem.F.type_list_insert Y7 Y8 hf.out ha.out (E4 hbase') (Jm (by rw[Ayt,Ayt,hs',hs2];rfl) rfl) hline (Ax hs') (by rw[Ax hs2];rfl)⟩
end
section
variable {X:Cx}{k:Nat}
noncomputable def Uw (x:Str) (n:Int):Str:=if n < 1 then Str.empty else if (n == 1||x.length == 0)=true then x else ⟨(List.replicate n.toNat x.cps).foldl (·++·) #[]⟩
def R8:D->D->MH->Option D
 |.str x,.int n,_=>if x.length<=1000/\-1000<=n/\n<=1000/\(Uw x n).length<=1000000/\PyData.strOk (Uw x n)=true then some (.str (Uw x n)) else none
 |_,_,_=>none
theorem Zp:OpM X (binaryOp .Mult) R8:=by
 intro pins s σ H μ m x y z v u v' u' Q I S rx ry r1 r2 e q
 cases rx with
 |str x ok =>
  cases ry with
  |int n =>
   unfold R8 at e
   simp only at e
   split at e
   ·rename_i hc
    obtain⟨h1,h2,h3,h4,h5⟩:=hc
    cases e
    obtain⟨t,rfl⟩:=(show ∃ t,v'=Value.str x t from r1)
    obtain⟨t2,rfl⟩:=(show ∃ t,u'=Value.int n t from r2)
    have fin:∀ t tk,EP X pins σ Q (.str (Uw x n) t) { s with toks:=tk }:=fun t tk=>⟨.str (Uw x n),H,I.tok tk,⟨t,rfl⟩,q _ H (Same.refl H) (.str _ h5)⟩
    have hz:sizeLine=16777216:=Ay3
    have hx:(x.length:Int)<=1000:=by lia
    refine P.mul_str (by rw[Ax3 (by lia),Ax3 (by lia)];rfl) (fun h1' _=>?_) (fun h1' _=>?_) ?_
    ·have hn:(0:Int) < n:=by lia
     have:(x.length:Int) * n<=1000 * 1000:=Int.mul_le_mul hx h3 (by lia) (by lia)
     have:=Int.le_ediv_of_mul_le hn (show (x.length:Int) * n<=2 ^ 63 - 1 by lia)
     lia
    ·have hn:n.toNat<=1000:=by lia
     have:x.length * n.toNat<=1000 * 1000:=Nat.mul_le_mul h1 hn
     unfold Builtin.Str.tooLong
     exact Ax3 (by rw[hz];lia)
    ·unfold Uw at fin h4
     by_cases c1:n < 1
     ·rw[Axv c1] at fin h4 ⊢
      exact⟨by decide,fin _ _⟩
     ·rw[Axy c1] at fin h4 ⊢
      by_cases c2:(n == 1||x.length == 0)=true
      ·rw[Axv c2] at fin h4 ⊢
       exact fin t s.toks
      ·rw[Axy c2] at fin h4 ⊢
       exact⟨Ax7 h4 (by rw[hz];decide),fin _ _⟩
   ·cases e
  |_=>exact Al e
 |_=>exact Al e
end
section
variable {P:Program}{w:World}{K:W.Frag}{mg:Str->Option Value}{base:Heap}{x:Str}{st:Stmt}{ps:List Str}{k n:Nat}
theorem Cl.zero (T:FD K mg x st ps):Cl P w K mg base k x n (fun _=>none):=by
 obtain⟨a,fd,m,F,b⟩:=T.ex
 exact⟨a,fd,ps,⟨fun vs H Q E ⟨ds,d,r,l,h,q⟩=>(nomatch h),fun A outer s H args us vs Q E _ _ _ _ ⟨ds,d,r,l,h,q⟩=>(nomatch h)⟩,m,F.kp,b⟩
theorem ClI.zero (T:FD K mg x st ps):ClI P w K mg base k x n (fun _ _=>none):=by
 obtain⟨a,fd,m,F,b⟩:=T.ex
 exact⟨a,fd,ps,⟨fun vs H Q E ⟨μ,m,ds,d,m',S,r,l,h,q⟩=>(nomatch h),fun A outer s H args us vs Q E _ _ _ _ ⟨μ,m,ds,d,m',S,r,l,h,q⟩=>(nomatch h)⟩,m,F.kp,b⟩
end
end ML
end L2
end S_EF6
section S_EG1
namespace L2
namespace ML
open PySem PySem.Spec PyProof.Rows PySem.SeqAt
def LeAt (A:Around) (s:Shared) (x y:Value) (k:Bool):Prop :=
 ∀ (prog:Program) (w:World) (E:Value->Shared->Prop) (Q:Value->Shared->Prop),Q (.bool k) s->wpAny (model prog w) A (richCompare .LtE x y) Q E s
inductive LexE (A:Around) (s:Shared):List Value->List Value->Bool->Prop where
 |nil:LexE A s [] [] true
 |short {y ys}:LexE A s [] (y::ys) true
 |long {x xs}:LexE A s (x::xs) [] false
 |same {x y xs ys k}:EqAt A s x y true->LexE A s xs ys k->LexE A s (x::xs) (y::ys) k
 |diff {x y xs ys k}:EqAt A s x y false->LeAt A s x y k->LexE A s (x::xs) (y::ys) k
theorem LexE.end1 {s:Shared} (h:LexE A s xs ys k) (e:xs.zip ys=[]):k=decide (xs.length<=ys.length):=by
 cases h with
 |nil=>rfl
 |short=>simp
 |long=>simp
 |same _ _=>simp at e
 |diff _ _=>simp at e
theorem Xf (l b:Addr) (xs ys:Array Value) (n n2:Nat) (dd dd2:Option Addr) (sl sl2:Array (Option Value)) (k:Bool) :
  Meets (Builtin.«tuple.__le__» ⟨[.ref l,.ref b],[]⟩)
   (fun A R s=>(s.heap.get? l=some { cls:=.type "tuple",dict:=dd,data:=.seq xs n,slots:=sl }/\s.heap.get? b=some { cls:=.type "tuple",dict:=dd2,data:=.seq ys n2,slots:=sl2 }) /\
    LexE A.in1 s xs.toList ys.toList k/\R (.ok (.ret (.bool k))) s) :=
 .of_wp fun prog w A R s h=>by
  obtain⟨hp,g,d,tk,os⟩:=s
  obtain⟨⟨hl,hb⟩,hx,hR⟩:=h
  have f2:=AutoSeq1.sub_tuple_tuple
  wp_walk using wpAny_loadPart' hl,wpAny_loadPart' hb,wpAny_forIn_list _ (fun rest b s'=>b.1=none/\s'=⟨hp,g,d,tk,os⟩/\∃ us ws,rest=us.zip ws/\us.length+ys.size=ws.length+xs.size/\LexE A.in1 ⟨hp,g,d,tk,os⟩ us ws k) _
  case turn =>
   rintro ⟨y,x⟩ rest b s' ⟨hb1,rfl,us,ws,hz,hn,hx⟩
   cases hx with
   |nil=>cases hz
   |short=>cases hz
   |long=>cases hz
   |@same u v us ws _ he hx =>
    cases hz
    refine Axh (he prog w _ _ ?_)
    wp_walk
    exact⟨rfl,rfl,us,ws,rfl,by simp only[Ax1] at hn;lia,hx⟩
   |@diff u v us ws _ he hk =>
    cases hz
    refine Axh (he prog w _ _ ?_)
    have hk2:∀ {E:Value->Shared->Prop}{Q:Value->Shared->Prop},Q (.bool k) ⟨hp,g,d,tk,os⟩->wpAny (model prog w) A.in1 (richCompare .LtE y x) Q E ⟨hp,g,d,tk,os⟩:=fun q=>hk prog w _ _ q
    wp_walk using hk2
    exact⟨_,rfl,hR⟩
  case fin =>
   rintro ⟨b1,b2⟩ s' ⟨hb1,rfl,us,ws,hz,hn,hx⟩
   simp only at hb1
   subst hb1
   have e:=hx.end1 hz.symm
   subst e
   wp_walk
   refine⟨_,rfl,?_⟩
   have e2:decide (us.length<=ws.length)=decide (xs.size<=ys.size):=by rw[Bak];lia
   rw[e2] at hR
   simpa [Builtin.Tuple.tupleCompareSizes] using hR
  case h =>
   exact⟨rfl,rfl,xs.toList,ys.toList,rfl,by simp[Nat.add_comm],hx⟩
theorem LeAt.tuples {s:Shared}{l b:Addr} (hl:s.heap.IsTuple l xs) (hb:s.heap.IsTuple b ys) (hu:A.units < cLine) (hx:LexE A.in1 s xs.toList ys.toList k):LeAt A s (.ref l) (.ref b) k:=fun prog w E Q h=>by
 obtain⟨⟨cls,dd,data,sl⟩,ho,hc,n,hd⟩:=id hl
 obtain⟨⟨cls2,dd2,data2,sl2⟩,ho2,hc2,n2,hd2⟩:=id hb
 simp only at hc hd hc2 hd2
 subst hc hd hc2 hd2
 refine richCompare_meets_room (op:=.LtE) ⟨_,ho,rfl⟩ ⟨_,ho2,rfl⟩ F.slot_tuple_le F.entry_tuple_le (F.args_tuple_le_2 _ _) (Xf l b xs ys n n2 dd dd2 sl sl2 k) ⟨⟨ho,ho2⟩,hx,?_⟩ hu
 exact⟨(fun x=>nomatch x),h⟩
theorem Yt (l b:Addr) (xs ys:Array Value) (n n2:Nat) (dd dd2:Option Addr) (sl sl2:Array (Option Value)) (k:Bool):∀ (us ws:List Value) (i:Nat),xs.toList.drop i=us->ys.toList.drop i=ws->i<=xs.size->i<=ys.size ->
  Meets (Builtin.«list.__eq__.loop» ⟨[.ref l,.ref b,rawInt i,rawInt 1],[]⟩)
   (fun A R s=>(s.heap.get? l=some { cls:=.type "list",dict:=dd,data:=.seq xs n,slots:=sl }/\s.heap.get? b=some { cls:=.type "list",dict:=dd2,data:=.seq ys n2,slots:=sl2 })/\LexE A.in1 s us ws k/\R (.ok (.ret (.bool k))) s):=by
 have none_at:∀ {zs:Array Value}{i:Nat},zs.toList.drop i=[]->zs[((i:Nat):Int).toNat]?=none:=fun {zs i} h=>by
  have:=List.drop_eq_nil_iff.mp h
  simp at this ⊢
  exact this
 have some_at:∀ {zs:Array Value}{i:Nat}{z:Value}{r:List Value},zs.toList.drop i=z::r->zs[((i:Nat):Int).toNat]?=some z/\zs.toList.drop (i+1)=r/\i+1<=zs.size:=fun {zs i z r} h=>by
  have hl:i < zs.toList.length:=by
   rcases Nat.lt_or_ge i zs.toList.length with q|q
   ·exact q
   ·rw[Azv q] at h;cases h
  have e:=Ayv hl
  rw[h] at e
  obtain⟨e1,e2⟩:=List.cons.inj e
  have hl':i < zs.size:=by simpa using hl
  refine⟨?_,e2.symm,hl'⟩
  rw[e1]
  simp[hl']
 intro us
 induction us with
 |nil =>
  intro ws i hx hy hi1 hi2 prog w A R s h
  obtain⟨hp,g,d,tk,os⟩:=s
  obtain⟨⟨hl,hb⟩,hL,hR⟩:=h
  have e1:=none_at hx
  have z1:xs.size=i:=by have:=List.drop_eq_nil_iff.mp hx;simp at this;lia
  have hk:k=decide (xs.size<=ys.size):=by
   cases hL with
   |nil =>
    have:ys.size=i:=by have:=List.drop_eq_nil_iff.mp hy;simp at this;lia
    rw[z1,this];simp
   |short =>
    have:=(some_at hy).2.2
    rw[Ayl (by lia)]
  subst hk
  wp_walk using wpAny_loadPart' hl,wpAny_loadPart' hb
  rw[e1]
  wp_walk using wpAny_loadPart' hl,wpAny_loadPart' hb
  exact hR
 |cons u us ih =>
  intro ws i hx hy hi1 hi2 prog w A R s h
  obtain⟨hp,g,d,tk,os⟩:=s
  obtain⟨⟨hl,hb⟩,hL,hR⟩:=h
  obtain⟨e1,x2,x3⟩:=some_at hx
  cases hL with
  |long =>
   have e2:=none_at hy
   have hk:decide (xs.size<=ys.size)=false:=by
    have:ys.size=i:=by have:=List.drop_eq_nil_iff.mp hy;simp at this;lia
    rw[Ax3 (by lia)]
   rw[<- hk] at hR
   wp_walk using wpAny_loadPart' hl,wpAny_loadPart' hb
   rw[e1,e2]
   wp_walk using wpAny_loadPart' hl,wpAny_loadPart' hb
   exact hR
  |@same _ y _ ws _ he hx' =>
   obtain⟨e2,y2,y3⟩:=some_at hy
   have hc:((i:Int)+1)=((i+1:Nat):Int):=by push_cast;rfl
   wp_walk using wpAny_loadPart' hl,wpAny_loadPart' hb
   rw[e1,e2]
   refine Axh (he prog w _ _ ?_)
   wp_walk
   rw[hc]
   exact⟨plainId_quiet Ayr _,codeAny_builtin MeetsSeq3.entry_eq_loop (by
    rw[Around.under_plainId Ayr _]
    exact ih ws (i+1) x2 y2 x3 y3 prog w A R _ ⟨⟨hl,hb⟩,hx',hR⟩)⟩
  |@diff _ y _ ws _ he hk =>
   obtain⟨e2,y2,y3⟩:=some_at hy
   wp_walk using wpAny_loadPart' hl,wpAny_loadPart' hb
   rw[e1,e2]
   refine Axh (he prog w _ _ ?_)
   have hk2:∀ {E:Value->Shared->Prop}{Q:Value->Shared->Prop},Q (.bool k) ⟨hp,g,d,tk,os⟩->wpAny (model prog w) A.in1 (richCompare .LtE u y) Q E ⟨hp,g,d,tk,os⟩:=fun q=>hk prog w _ _ q
   wp_walk using wpAny_loadPart' hl,wpAny_loadPart' hb
   rw[e1,e2]
   wp_walk using hk2
   exact hR
theorem Yw (l b:Addr) (xs ys:Array Value) (n n2:Nat) (dd dd2:Option Addr) (sl sl2:Array (Option Value)) (k:Bool) :
  Meets (Builtin.«list.__le__» ⟨[.ref l,.ref b],[]⟩)
   (fun A R s=>(s.heap.get? l=some { cls:=.type "list",dict:=dd,data:=.seq xs n,slots:=sl }/\s.heap.get? b=some { cls:=.type "list",dict:=dd2,data:=.seq ys n2,slots:=sl2 })/\LexE A.in1 s xs.toList ys.toList k/\R (.ok (.ret (.bool k))) s):=by
 intro prog w A R s h
 obtain⟨hp,g,d,tk,os⟩:=s
 obtain⟨⟨hl,hb⟩,hL,hR⟩:=h
 have f3:=AutoSeq1.sub_list_list
 wp_walk using wpAny_loadPart' hl,wpAny_loadPart' hb
 exact⟨plainId_quiet Ayr _,codeAny_builtin MeetsSeq3.entry_eq_loop (by
  rw[Around.under_plainId Ayr _]
  exact Yt l b xs ys n n2 dd dd2 sl sl2 k _ _ 0 rfl rfl (Ax9 _) (Ax9 _) prog w A R _ ⟨⟨hl,hb⟩,by simpa using hL,hR⟩)⟩
theorem LeAt.lists {s:Shared}{l b:Addr} (hl:s.heap.IsList l xs) (hb:s.heap.IsList b ys) (hu:A.units < cLine) (hx:LexE A.in1 s xs.toList ys.toList k):LeAt A s (.ref l) (.ref b) k:=fun prog w E Q h=>by
 obtain⟨⟨cls,dd,data,sl⟩,ho,hc,n,hd⟩:=id hl
 obtain⟨⟨cls2,dd2,data2,sl2⟩,ho2,hc2,n2,hd2⟩:=id hb
 simp only at hc hd hc2 hd2
 subst hc hd hc2 hd2
 refine richCompare_meets_room (op:=.LtE) ⟨_,ho,rfl⟩ ⟨_,ho2,rfl⟩ F.slot_list_le F.entry_list_le (F.args_list_le_2 _ _) (Yw l b xs ys n n2 dd dd2 sl sl2 k) ⟨⟨ho,ho2⟩,hx,?_⟩ hu
 exact⟨(fun x=>nomatch x),h⟩
mutual
def leD:D->D->Option Bool
 |.int i,.int j=>some (decide (i<=j))
 |.str i,.str j=>some (!(decide (j.cps.toList < i.cps.toList)))
 |.tup xs,.tup ys=>Mu xs ys
 |.lst xs,.lst ys=>Mu xs ys
 |_,_=>none
def Mu:List D->List D->Option Bool
 |[],[]=>some true
 |[],_::_=>some true
 |_::_,[]=>some false
 |x::xs,y::ys=>if deq x y=true then Mu xs ys else leD x y
end
section
variable {X:Cx}{pins:List (Addr×Obj)}{σ:St}{H:Hp}{s:Shared}{μ:List Addr}{B:Addr->Prop}
set_option tactic.hygienic true in
mutual
theorem Afe (I:Inv X pins σ H s):∀ (d d':D) {A:Around}{v v':V}{u u':Value}{k:Bool},Rep X.K H μ B d v->Rep X.K H μ B d' v'->B6 d=true->B6 d'=true->RelV v u->RelV v' u'->A.units+dep d+dep d' < cLine->leD d d'=some k->LeAt A s u u' k
 |.int i,d',A,v,v',u,u',k,r,r',n,n',q,q',hu,h=>by
  cases d'<;>first|(simp[leD] at h;done)|skip
  cases r;cases r'
  obtain⟨t,rfl⟩:=q
  obtain⟨t2,rfl⟩:=q'
  rw[leD] at h
  cases h
  intro prog w E Q q
  exact le_int q
 |.str i,d',A,v,v',u,u',k,r,r',n,n',q,q',hu,h=>by
  cases d'<;>first|(simp[leD] at h;done)|skip
  cases r;cases r'
  obtain⟨t,rfl⟩:=q
  obtain⟨t2,rfl⟩:=q'
  rw[leD] at h
  cases h
  intro prog w E Q q
  exact PySem.P.le_str q
 |.tup ds,d',A,v,v',u,u',k,r,r',n,n',q,q',hu,h=>by
  cases d'<;>first|(simp[leD] at h;done)|skip
  rename_i es
  cases r with
  |tup h1 r1 =>
  cases r' with
  |tup h2 r2 =>
  cases q
  cases q'
  obtain⟨its,rv,p,hz⟩:=I.tuple h1
  obtain⟨its',rv',p',hz'⟩:=I.tuple h2
  rw[leD] at h
  rw[dep,dep] at hu
  refine LeAt.tuples p p' (by lia) ?_
  rw[B6] at n n'
  exact R3 I ds es r1 r2 n n' rv rv' (by show A.units+1+_+_ < _;lia) h
 |.non,d',A,v,v',u,u',k,r,r',n,n',q,q',hu,h=>by simp[leD] at h
 |.bl _,d',A,v,v',u,u',k,r,r',n,n',q,q',hu,h=>by simp[leD] at h
 |.lst ds,d',A,v,v',u,u',k,r,r',n,n',q,q',hu,h=>by
  cases d'<;>first|(simp[leD] at h;done)|skip
  rename_i es
  cases r with
  |lst h1 _ r1 =>
  cases r' with
  |lst h2 _ r2 =>
  cases q
  cases q'
  obtain⟨its,rv,p,hz⟩:=I.list (.inl h1)
  obtain⟨its',rv',p',hz'⟩:=I.list (.inl h2)
  rw[leD] at h
  rw[dep,dep] at hu
  refine LeAt.lists p.isList p'.isList (by lia) ?_
  rw[B6] at n n'
  exact R3 I ds es r1 r2 n n' rv rv' (by show A.units+1+_+_ < _;lia) h
 |.kl _,d',A,v,v',u,u',k,r,r',n,n',q,q',hu,h=>by simp[leD] at h
 |.ref _,d',A,v,v',u,u',k,r,r',n,n',q,q',hu,h=>by simp[leD] at h
 |.dic _ _,d',A,v,v',u,u',k,r,r',n,n',q,q',hu,h=>by simp[leD] at h
 |.dks _ _,d',A,v,v',u,u',k,r,r',n,n',q,q',hu,h=>by simp[leD] at h
 |.fz _ _ _ _,d',A,v,v',u,u',k,r,r',n,n',q,q',hu,h=>by simp[leD] at h
 |.fn _ _,d',A,v,v',u,u',k,r,r',n,n',q,q',hu,h=>by simp[leD] at h
theorem R3 (I:Inv X pins σ H s):∀ (ds es:List D) {A:Around}{vs vs':List V}{us us':List Value}{k:Bool},Reps X.K H μ B ds vs->Reps X.K H μ B es vs'->Be ds=true->Be es=true->Vals vs us->Vals vs' us'->A.units+Dm ds+Dm es < cLine->Mu ds es=some k->LexE A s us us' k
 |[],es,A,vs,vs',us,us',k,r,r',n,n',q,q',hu,h=>by
  cases r
  cases q
  cases es with
  |nil=>cases r';cases q';rw[Mu] at h;cases h;exact .nil
  |cons e es =>
   cases r' with
   |cons r1 r2=>cases q' with
    |cons q1 q2=>rw[Mu] at h;cases h;exact .short
 |d::ds,es,A,vs,vs',us,us',k,r,r',n,n',q,q',hu,h=>by
  cases r with
  |cons r1 rs =>
  cases q with
  |cons q1 qs =>
  cases es with
  |nil=>cases r';cases q';rw[Mu] at h;cases h;exact .long
  |cons e es =>
   cases r' with
   |cons r2 rs2=>cases q' with
    |cons q2 qs2 =>
     rw[Mu] at h
     rw[Be,Ax4] at n n'
     rw[Dm,Dm] at hu
     have he:=Tz (A:=A) I r1 r2 n.1 n'.1 q1 q2 (by lia)
     by_cases hd:deq d e=true
     ·rw[Axv hd] at h
      rw[hd] at he
      exact .same he (R3 I ds es rs rs2 n.2 n'.2 qs qs2 (by lia) h)
     ·rw[Axy hd] at h
      rw[Bool.eq_false_iff.mpr hd] at he
      exact .diff he (Afe I d e r1 r2 n.1 n'.1 q1 q2 (by lia) h)
end
end
section
variable {X:Cx}
def Ar2:D->D->MH->Option D:=fun x y m=>(C1 m x).bind fun x'=>(C1 m y).bind fun y'=>if dep x'<=30/\dep y'<=30 then (leD x' y').bind fun k=>some (.bl k) else none
theorem Apm (hr:Room k X.A):OpM X (compareOp .LtE) Ar2:=by
 intro pins s σ H μ m x y z v u v' u' Q I S rx ry r1 r2 e q
 obtain⟨x',e1,h1⟩:=bind_some e
 obtain⟨y',e2,h1⟩:=bind_some h1
 split at h1
 ·rename_i hd
  obtain⟨b,h2,h3⟩:=bind_some h1
  cases h3
  obtain⟨a1,n1⟩:=Br S rx e1
  obtain⟨a2,n2⟩:=Br S ry e2
  have hu:=hr.units
  exact Afe I _ _ a1 a2 n1 n2 r1 r2 (by lia) h2 _ _ _ _ ⟨.bl b,H,I,rfl,q _ H (Same.refl H) (.bl _)⟩
 ·cases h1
end
end ML
end L2
end S_EG1
section S_EG2
namespace L2
namespace ML
open PySem PySem.Spec PyProof.Rows
section
variable {X:Cx}{e:Expr}{pos p:Pos}{g:FL}
end
section
variable {X:Cx}{pins:List (Addr×Obj)}{σ:St}{H:Hp}{s:Shared}{μ:List Addr}{m:MH}{k:Nat}{f:Addr}{lm:Lam}{fn:List D->Option D}{A':Around}
end
section
variable {X:Cx}{e el:Expr}{pos p kp:Pos}{k:Nat}{lm:Lam}{fn:List D->Option D}{g:FL}
end
end ML
end L2
end S_EG2
section S_EH2
namespace L2
namespace ML
open PySem PySem.Spec PyProof.Rows PySem.SeqAt
open PySem.W (KasT kas_sort katRev KatLex)
section
variable {X:Cx}{pins:List (Addr×Obj)}{σ:St}{H:Hp}{s:Shared}{μ:List Addr}{B:Addr->Prop}
end
section
variable {X:Cx}{e:Expr}{pos p:Pos}{g:FL}{k:Nat}
end
end ML
end L2
end S_EH2
section S_EH3
namespace L2
namespace ML
open PySem PySem.Spec PyProof.Rows
section
variable {P:Program}{w:World}{K:W.Frag}{mg:Str->Option Value}{base:Heap}{x:Str}{st:Stmt}{ps:List Str}{k n:Nat}{tabs:List (Addr×Str)}{p:Addr}
end
section
variable {X:Cx}{e:Expr}{es:List Expr}{pos p:Pos}{x:Str}{k j n:Nat}{fn:List D->MH->Option (D×MH)}{gl:FLm}{tabs:List (Addr×Str)}
end
section
variable {X:Cx}{e:Expr}{es:List Expr}{pos p:Pos}{x:Str}{k j n:Nat}{fn:List D->Option D}{g:FL}
end
section
variable {X:Cx}{e:Expr}{x:Str}{pos p':Pos}{i:Nat}{f:FL}
end
def Iv (f:FEm):FBm:=fun env m=>(f env m).bind fun x=>(Abh x.2 x.1).bind fun b=>some (b,x.2)
noncomputable def Iu (t:FBm):FBm:=fun env m=>(t env m).bind fun x=>some (!x.1,x.2)
section
variable {X:Cx}{a b:Expr}{rest:List Expr}{pos:Pos}{f:FEm}{t u:FBm}
theorem Ajs (ha:PDm X a f) (he:∀ whole,isTrue a X.env whole=(do let v <- whole;standAt a.pos;holding [v] (truthy v))):PBm X a (Iv f) :=
 PT.imp (Ur ha he) fun σ H Q ⟨env,μ,m,b,m',S,E,h,q⟩=>by
  obtain⟨x,h1,h2⟩:=bind_some h
  obtain⟨c,h4,h3⟩:=bind_some h2
  cases h3
  exact⟨env,μ,m,x.1,x.2,S,E,h1,fun v H' μ' st S' r=>⟨_,Tn S' r h4,q H' μ' st S'⟩⟩
theorem Ajr (ha:PBm X a t):PBm X (.UnaryOp .Not a pos) (Iu t):=PT.imp (Afz ha) fun σ H Q ⟨env,μ,m,b,m',S,E,h,q⟩=>by
 obtain⟨c,h1,h2⟩:=bind_some h
 cases h2
 exact⟨env,μ,m,c.1,c.2,S,E,h1,fun H1 μ1 s1 S1=>q H1 μ1 s1 S1⟩
theorem Akv (ha:PBm X a t):Aeo X (.BoolOp .Or [a] pos) t:=Af1 ha
theorem Aqw (ha:PBm X a t) (hb:Aeo X (.BoolOp .Or (b::rest) pos) u):Aeo X (.BoolOp .Or (a::b::rest) pos) (Alu t u):=PW.imp (Aqu ha hb) fun σ H Q ⟨env,μ,m,z,m',S,E,h,q⟩=>by
 obtain⟨x,h1,h2⟩:=bind_some h
 refine⟨env,μ,m,x.1,x.2,S,E,h1,fun H1 μ1 st1 S1=>?_⟩
 by_cases hx:x.1=true
 ·rw[Axv hx] at h2 ⊢
  cases h2
  exact q H1 μ1 st1 S1
 ·rw[Axy hx] at h2 ⊢
  exact⟨env,μ1,x.2,z,m',S1,E.step S st1,h2,fun H2 μ2 st2 S2=>q H2 μ2 (st1.trans st2 (st1.none S S1)) S2⟩
theorem Oa (ha:QDm X a f) (he:∀ whole,isTrue a X.env whole=(do let v <- whole;standAt a.pos;holding [v] (truthy v)):=by intro w;rfl):QBm X a (Iv f):=⟨Ajs ha.out he⟩
theorem N9 (ha:QBm X a t):QBm X (.UnaryOp .Not a pos) (Iu t):=⟨Ajr ha.out⟩
theorem Ak2 (ha:QBm X a t):QWBm X (.BoolOp .Or [a] pos) t:=⟨Akv ha.out⟩
theorem Aq2 (ha:QBm X a t) (hb:QWBm X (.BoolOp .Or (b::rest) pos) u):QWBm X (.BoolOp .Or (a::b::rest) pos) (Alu t u):=⟨Aqw ha.out hb.out⟩
end
namespace RV
section
variable {prog:Program}{w:World}{A:Around}{E:Value->Shared->Prop}{s:Shared}{items:Array Value}
theorem Rp {I t:Addr}{Q:List Value->Shared->Prop} (hh:A.handled=none) (hne:t≠I) (hz:items.size<=sizeLine) (hit:Is s.heap I t ((items.size:Int) - 1)) (ht:IsTup s.heap t items)
  (hQ:∀ s' acc,(∀ b o,b≠I->s.heap.get? b=some o->s'.heap.get? b=some o)->s'.gens=s.gens->s'.drawn=s.drawn->s'.os=s.os->ItemsOf (fun i v=>items[items.size - 1 - i]?=some v) acc items.size->Q acc.toList s'):wpAny (model prog w) A (collect (.ref I)) Q E s:=by
 have hIlt:I < s.heap.objs.size:=let ⟨o,ho,_⟩:=hit;Axm ho
 have htlt:t < s.heap.objs.size:=let ⟨o,ho,_⟩:=ht;Axm ho
 unfold collect
 refine Axh (wpAny_runValue (codeAny_builtin F.entry_proto_collect ?_))
 rw[Around.under_plainId F.plain_proto_collect _]
 refine Axh (Ayq ?_)
 refine Axo ⟨plainId_quiet F.plain_list_iadd _,codeAny_builtin F.entry_list_iadd ?_⟩
 rw[Around.under_plainId F.plain_list_iadd _]
 have hS:(s.heap.push { cls:=.type "list",data:=.seq ([]:List Value).toArray }).get? s.heap.objs.size=some { cls:=.type "list",data:=.seq #[] 0 }:=Axw _ rfl
 have fin':∀ (s':Shared) (acc':Array Value) (c':Nat),Moved [s.heap.objs.size,I] (fun a b=>b=a) { s with heap:=s.heap.push { cls:=.type "list",data:=.seq ([]:List Value).toArray } } s'->s'.heap.get? s.heap.objs.size=some { cls:=.type "list",dict:=none,data:=.seq acc' c',slots:=#[] }->ItemsOf (fun i v=>items[items.size - 1 - i]?=some v) acc' items.size->wpAny (model prog w) A (match Value.ref s.heap.objs.size with
   |Value.ref a=>do
    match (<- load a).data with
     |Data.seq xs _=>pure xs.toList
     |_=>unsupported "internal:collect"
   |_=>unsupported "internal:collect") Q E s':=fun s' acc' c' hm hS' hacc=>by
  show wpAny _ A (load s.heap.objs.size >>= _) _ _ _
  refine Axh (wpAny_load hS' (Axo ?_))
  exact hQ s' acc' (fun b o hb e=>hm.heap b o (fun z=>by
   rcases List.mem_cons.mp z with z|z
   ·exact Ayd _ (z ▸ Axm e)
   ·exact hb (List.mem_singleton.mp z)) (Axi _ e)) hm.gens hm.drawn hm.os hacc
 show wpAny _ A.in1 (Builtin.List.listExtendWith (.ref s.heap.objs.size) (.ref I) (.ref s.heap.objs.size)) _ _ _
 refine Ay2 (T2 (A:=A) (R:=fun r s'=>r=.ok (.ret (.ref s.heap.objs.size))/\∃ acc' c',Moved [s.heap.objs.size,I] (fun a b=>b=a) { s with heap:=s.heap.push { cls:=.type "list",data:=.seq ([]:List Value).toArray } } s'/\s'.heap.get? s.heap.objs.size=some { cls:=.type "list",dict:=none,data:=.seq acc' c',slots:=#[] }/\ItemsOf (fun i v=>items[items.size - 1 - i]?=some v) acc' items.size)
  (s:={ s with heap:=s.heap.push { cls:=.type "list",data:=.seq ([]:List Value).toArray } }) hh hne hz s.heap.objs.size (.ref s.heap.objs.size) 0 (hit.at fun o e=>Axi _ e) (let ⟨o,ho,r⟩:=ht;⟨o,Axi _ ho,r⟩) (Ayu hIlt) (Ayu htlt) hS fun s' acc' c' hm hS' hacc=>⟨rfl,acc',c',hm,hS',hacc⟩) (fun fin s' h=>?_) (fun e s' h=>?_)
 ·cases fin with
  |done f =>
   obtain⟨e,acc',c',h1,h2,h3⟩:=h
   cases e
   exact fin' s' acc' c' h1 h2 h3
  |again c'=>exact⟨h.1,codeAny_mono h.2 fun r s'' hr=>by obtain⟨rfl,acc',c',h1,h2,h3⟩:=hr;exact fin' s'' acc' c' h1 h2 h3⟩
 ·exact absurd h.1 (by simp)
end
theorem meets_tuple_rev (I t:Addr) (items:Array Value) (hne:t≠I) (hz:items.size<=sizeLine) :
  Meets (Builtin.«tuple.__new__» ⟨[.type "tuple",.ref I],[]⟩)
   (fun A R s=>(A.handled=none/\Is s.heap I t ((items.size:Int) - 1)/\IsTup s.heap t items)/\∀ (s':Shared) (acc:Array Value),(∀ b o,b≠I->s.heap.get? b=some o->s'.heap.get? b=some o)->s'.gens=s.gens->s'.drawn=s.drawn->s'.os=s.os->ItemsOf (fun i v=>items[items.size - 1 - i]?=some v) acc items.size ->
    R (.ok (.ret (.ref s'.heap.objs.size))) { s' with heap:=s'.heap.push { cls:=.type "tuple",data:=.seq acc } }) :=
 .of_wp fun prog w A R s h=>by
  obtain⟨⟨hh,hit,ht⟩,h⟩:=h
  have hsub:=sub_tuple_self
  have hinit:=init_tuple_lookup
  have hmh:=madeHere_tuple
  have hT:s.TypeIs (.ref I) "reversed":=hit.typeIs
  have hh1:A.in1.handled=none:=hh
  wp_walk using Azl hT,Rp hh1 hne hz hit ht
  intro s' acc hk hg hd hos hacc
  show wpAny _ _ (Builtin.Tuple.tupleExact acc.toList.toArray >>= fun v=>ret v) _ _ _
  unfold Builtin.Tuple.tupleExact
  refine Axh (Ayq ?_ (show acc.toList.toArray.size<=sizeLine by simp only[Array.toArray_toList];rw[hacc.1];exact hz))
  refine Axo ⟨_,rfl,?_⟩
  have e:acc.toList.toArray=acc:=by simp
  rw[e]
  exact h s' acc hk hg hd hos hacc
end RV
section
variable {X:Cx}{e:Expr}{pos pos' p p':Pos}{g:FL}
noncomputable def Ac8:List D->MH->Option D:=fun xs _=>match xs with
 |[.tup ds]=>some (.tup ds.reverse)
 |_=>none
theorem Ajv (hc:X.calm=true) (hg:Gl X "tuple") (hm:X.mg "tuple"=none) (hg':Gl X "reversed") (hm':X.mg "reversed"=none) (ha:PL X [e] g) (he:starEach [e] X.env=(false,eval e X.env)::starEach [] X.env) :
  PD X (.Call (.Name "tuple" p) [.Call (.Name "reversed" p') [e] [] pos'] [] pos) (Ay Ac8 g):=by
 intro pins s σ H Q I h
 obtain⟨env,μ,m,d,S,E,h,q⟩:=h
 obtain⟨xs,h1,h2⟩:=bind_some h
 refine Ayj (Dv I hg hm (show bootBuiltins "tuple"=some (.type "tuple") by decide +kernel) ?_ (by decide) (by decide))
 refine PyProof.Rows.callWith_type1 ?_ rfl rfl
 show wpAny _ _ (spliced ((false,eval (.Call (.Name "reversed" p') [e] [] pos') X.env)::backTo pos (starEach [] X.env))) _ _ s
 refine Calls.spliced_cons ?_
 refine Ayj (Dv I hg' hm' boot_reversed ?_ (by decide) (by decide))
 refine PyProof.Rows.callWith_type1 (thn (ha pos' pins s σ H (fun vs H1=>Same H H1/\Reps X.K H1 μ (·∈μ) xs vs) I ⟨env,μ,m,xs,S,E,h1,fun v H1 s1 r1=>⟨s1,r1⟩⟩) fun us s1 ⟨vs,H1,I1,r1,s1',rx⟩=>?_) he rfl
 match xs,h2 with
 |[.tup ds],h2 =>
  cases h2
  obtain⟨v,rfl,r⟩:=rx.one
  cases r with
  |@tup _ a ys hq rs =>
   obtain⟨u,rfl,r2⟩:=Iy r1
   cases r2
   obtain⟨its,ri,pl,hz⟩:=I1.tuple hq
   have hlen:=ri.length
   have hz':ys.length<=2 ^ 24:=hz
   have hsz:its.toArray.size<=sizeLine:=by simp only[Axk];lia
   have hne:a≠s1.heap.objs.size:=Ax5 (by obtain⟨o,e,_⟩:=pl;exact Axm e)
   refine RV.call_new pl (by simp only[Axk];lia) ?_
   refine Calls.spliced_nil ?_
   refine callType_new F.called_tuple (by decide) (F.typeCall_tuple_1 _) (F.newCall_tuple_1 _) (fun obj=>F.args_object_init_2 obj _) F.entry_tuple_new (RV.meets_tuple_rev s1.heap.objs.size a its.toArray hne hsz) ⟨⟨I.ok.hd hc,⟨_,Axw _ rfl,rfl,rfl⟩,(let ⟨o,ho,r⟩:=pl;⟨o,Axi _ ho,r⟩)⟩,fun s' acc hk hgn hd hos hacc=>⟨⟨_,Axw _ rfl,rfl⟩,?_⟩⟩
   obtain⟨hp',g',d',tk',os'⟩:=s'
   have e1:g'=s1.gens:=hgn
   have e2:d'=s1.drawn:=hd
   have e3:os'=s1.os:=hos
   subst e1 e2 e3
   have hacc':=Pm hacc
   subst hacc'
   have kp:∀ b o,s1.heap.get? b=some o->hp'.get? b=some o:=fun b o e=>hk b o (Ax5 (Axm e)) (Axi _ e)
   have I2:Inv X pins σ H1 { s1 with heap:=hp',toks:=tk' }:=I1.kept kp
   have hl:H1 hp'.objs.size=none:=I2.hok.fresh (Axu _)
   have I3:=I2.laid (a:=hp'.objs.size) (o:=.tup ys.reverse) (t':=tk') (h':=hp'.push { cls:=.type "tuple",data:=.seq its.reverse.toArray }) (fun b o e=>Axi _ e) (Axu _) ⟨by simpa using hz,its.reverse,ri.reverse,⟨_,Axw _ rfl,rfl,_,rfl,rfl⟩⟩
   exact⟨.ref hp'.objs.size,_,I3,rfl,q _ _ (s1'.trans (Bf hl)) (.tup (.inl (.inl Bn)) (rs.reverse.same (Bf hl)))⟩
theorem Aky (hc:X.calm=true) (hm:X.mg "tuple"=none) (hm':X.mg "reversed"=none) (ha:QL X [e] g) (hg:Gl X "tuple":=by unfold Gl;kernel_rfl) (hg':Gl X "reversed":=by unfold Gl;kernel_rfl) (he':By e=true:=by rfl) :
  QD X (.Call (.Name "tuple" p) [.Call (.Name "reversed" p') [e] [] pos'] [] pos) (Ay Ac8 g):=⟨Ajv hc hg hm hg' hm' ha.out (Ax he')⟩
end
theorem FM.fd6 {K:W.Frag}{h:Heap}{mg:Str->Option Value}{x a b c d e f:Str}{st:Stmt} (F:FM K x st) (X:K.In h) (G:h.Ns mainGlobals mg) (hb:BH x st [a,b,c,d,e,f]:=by exact fun _ _ _ _ _ _ us hl=>match us,hl with|[_,_,_,_,_,_],_=>rfl):FD K mg x st [a,b,c,d,e,f]:=F.fd X G hb
noncomputable section
open Classical
def W {α:Type} (x:Option α) (Q:α->Prop):Prop:=∃ a,x=some a/\Q a
theorem W.out {d:α} (h:W x (fun a=>a=d)):x=some d:=by obtain⟨a,h1,h2⟩:=h;rw[h1,h2]
theorem W.imp {α:Type}{x:Option α}{P Q:α->Prop} (h:W x P) (i:∀ a,P a->Q a):W x Q:=by obtain⟨a,h1,h2⟩:=h;exact⟨a,h1,i a h2⟩
theorem Ad:W (some a) Q=Q a:=by
 apply Az7;constructor
 ·rintro ⟨b,h,q⟩;cases h;exact q
 ·exact fun q=>⟨a,rfl,q⟩
theorem A2:W none Q=False:=by
 apply Az7;constructor
 ·rintro ⟨b,h,q⟩;exact Al h
 ·exact False.elim
theorem W_bind:W (x.bind f) Q=W x (fun a=>W (f a) Q):=by
 cases x with
 |none=>rw[A2];exact A2
 |some a=>rw[Ad];rfl
theorem H9 [Decidable c]:W (if c then some x else none) Q=(c/\Q x):=by
 by_cases h:c
 ·rw[Axv h,Ad];simp[h]
 ·rw[Axy h,A2];simp[h]
noncomputable def Atr (Q:D->Prop):Out->Prop
 |.rt d m=>W (Cs m d) Q
 |.nx _ _=>Q .non
 |_=>False
theorem Aia {d:D}:Atr Q (.rt d m)=W (Cs m d) Q:=rfl
theorem Ah9:Atr Q (.nx e m)=Q .non:=rfl
theorem Cm:W (Hv n g ds) Q=W (g (ds.map some++List.replicate (n - ds.length) none) []) (Atr Q):=by
 unfold Hv
 rw[W_bind]
 congr 1
 funext o
 cases o<;>first|rfl|exact Ad|exact A2
noncomputable def Aq9 (g:FS) (Q:Out->Prop):Out->Prop
 |.nx e m=>W (g e m) Q
 |o=>Q o
theorem Ak9:Aq9 g Q (.nx e m)=W (g e m) Q:=rfl
theorem Ala:Aq9 g Q (.rt e m)=Q (.rt e m):=rfl
theorem Ak7:Aq9 g Q (.bk e m)=Q (.bk e m):=rfl
theorem Ak8:Aq9 g Q (.ct e m)=Q (.ct e m):=rfl
theorem Am7:W (A4 f g env m) Q=W (f env m) (Aq9 g Q):=by
 unfold A4
 rw[W_bind]
 congr 1
 funext o
 cases o<;>first|rfl|exact Ad
theorem Am5:W (Ct env m) Q=Q (.nx env m):=Ad
theorem Am6:W (Cg f env m) Q=W (f env m) fun d=>Q (.rt d m):=by
 unfold Cg;rw[W_bind];congr 1;funext d;exact Ad
theorem Ahm:W (Lo f env m) Q=W (f env m) fun ds=>Q (.rt (.ref m.length) (m++[.lst ds])):=by
 unfold Lo;rw[W_bind];congr 1;funext d;exact Ad
def cK (p q:Prop) (b:Bool):Prop:=(b=true->p)/\(b=false->q)
theorem Nk:cK p q true=p:=by unfold cK;simp
theorem Jb:cK p q false=q:=by unfold cK;simp
theorem cK.mk {p q:Prop}{b:Bool} (h1:b=true->p) (h2:b=false->q):cK p q b:=⟨h1,h2⟩
theorem cK.dec [Decidable c] (h1:c->p) (h2:¬ c->q):cK p q (decide c):=⟨fun h=>h1 (Ayn h),fun h=>h2 (of_decide_eq_false h)⟩
theorem Eo:W (if b=true then x else y) Q=cK (W x Q) (W y Q) b:=by
 cases b
 ·rw[Jb];rfl
 ·rw[Nk];rfl
theorem As4 {t:FB}:W (sIf t f g env m) Q=W (t env m) (cK (W (f env m) Q) (W (g env m) Q)):=by
 unfold sIf;rw[W_bind];congr 1;funext c;exact Eo
theorem Av2 {d:D}:W (fC d env m) Q=Q d:=Ad
theorem Av1:W (f2 o f g env m) Q=W (f env m) fun x=>W (g env m) fun y=>W (o x y m) Q:=by
 unfold f2;rw[W_bind];congr 1;funext d;exact W_bind
theorem Av0:W (f1 o f env m) Q=W (f env m) fun x=>W (o x m) Q:=W_bind
theorem Amj:W (Ak env m) Q=Q []:=Ad
theorem Ahf:W (Aa f g env m) Q=W (f env m) fun x=>W (g env m) fun xs=>Q (x::xs):=by
 unfold Aa;rw[W_bind];congr 1;funext d;rw[W_bind];congr 1;funext e;exact Ad
theorem Ag7:W (Ay o g env m) Q=W (g env m) fun xs=>W (o xs m) Q:=W_bind
theorem Abl:W (Bt o g env m) Q=W (g env m) fun xs=>W (o xs m) Q:=W_bind
theorem Amd:W (Dg g env m) Q=W (g env m) fun ds=>Q (.lst ds):=by
 unfold Dg;rw[W_bind];congr 1;funext d;exact Ad
theorem Amh:W (Cf g env m) Q=W (g env m) fun ds=>ds.length<=1000000/\Q (.tup ds):=by
 unfold Cf;rw[W_bind];congr 1;funext d;exact H9
theorem Abp:W (B3 g env m) Q=W (g env m) fun ds=>ds.length<=1000000/\Q ds:=by
 unfold B3;rw[W_bind];congr 1;funext d;exact H9
theorem Rk:W (A6 f env m) Q=W (f env m) fun d=>W (asB d) Q:=W_bind
theorem Asg:W (asB (.bl b)) Q=Q b:=Ad
theorem Aeq:W (Vh f env m) Q=W (f env m) fun d=>W (Abh m d) Q:=W_bind
theorem Xq:W (Abh m (.bl b)) Q=Q b:=Ad
theorem Ane:W (Abh m (.tup ds)) Q=Q (!ds.isEmpty):=Ad
theorem Al9:W (Abd f g env m) Q=W (f env m) (cK (W (g env m) Q) (Q false)):=by
 unfold Abd;rw[W_bind];congr 1;funext c;rw[Eo,Ad]
theorem Asr:W (fOr f g env m) Q=W (f env m) (cK (Q true) (W (g env m) Q)):=by
 unfold fOr;rw[W_bind];congr 1;funext c;rw[Eo,Ad]
theorem Ame:W (Ae5 f env m) Q=W (f env m) fun b=>Q (!b):=by
 unfold Ae5;rw[W_bind];congr 1;funext c;exact Ad
theorem Ag5:W (L4 f g env m) Q=W (f env m) fun d=>W (asB d) (cK (W (g env m) Q) (Q (.bl false))):=by
 unfold L4;rw[W_bind,Rk];congr 1;funext c;congr 1;funext c;rw[Eo,Ad]
theorem Amf:W (An9 f g env m) Q=W (f env m) fun d=>W (asB d) (cK (Q (.bl true)) (W (g env m) Q)):=by
 unfold An9;rw[W_bind,Rk];congr 1;funext c;congr 1;funext c;rw[Eo,Ad]
theorem Aha:W (Vg f env m) Q=W (f env m) fun d=>W (Abh m d) fun b=>Q (.bl (!b)):=by
 unfold Vg;rw[W_bind,Aeq];congr 1;funext c;congr 1;funext c;exact Ad
theorem Asp {t:FB}:W (fIf t f g env m) Q=W (t env m) (cK (W (f env m) Q) (W (g env m) Q)):=by
 unfold fIf;rw[W_bind];congr 1;funext c;exact Eo
theorem Ass {l h:FO}:W (fSl f l h env m) Q=W (f env m) fun x=>W (l env m) fun lo=>W (h env m) fun hi=>W (oSl x lo hi) Q:=by
 unfold fSl
 rw[W_bind];congr 1;funext x
 rw[W_bind];congr 1;funext y
 rw[W_bind]
theorem Asq:W (fNo env m) Q=Q none:=Ad
theorem Ahc:W (Ce f env m) Q=W (f env m) fun d=>W (asI d) fun i=>Q (some i):=by
 unfold Ce
 rw[W_bind];congr 1;funext x
 rw[W_bind];congr 1;funext y
 exact Ad
theorem Ash:W (asI (.int i)) Q=Q i:=Ad
theorem Amy {z:Str}{lo hi:Option Int}{Q:D->Prop}:W (oSl (.str z) lo hi) Q=(z.length<=1000000/\Q (.str (Txt.slice z lo hi))):=H9
theorem Xo {z:List D}{lo hi:Option Int}{Q:D->Prop}:W (oSl (.tup z) lo hi) Q=Q (.tup (Jv z lo hi)):=Ad
theorem Ama:W (Aca f g env m) Q=W (f env m) fun x=>W (g env m) fun y=>W (sqL m x) fun xs=>W (sqL m y) fun ys=>xs.length+ys.length<=1000000/\Q (xs++ys):=by
 unfold Aca
 rw[W_bind];congr 1;funext x
 rw[W_bind];congr 1;funext y
 rw[W_bind];congr 1;funext z
 rw[W_bind];congr 1;funext k
 exact H9
theorem Amc:W (Abe U f env m) Q=W (f env m) fun d=>W (tyD m d) fun T=>W (Vr T U) fun b=>Q (.bl b):=by
 unfold Abe
 rw[W_bind];congr 1;funext x
 rw[W_bind];congr 1;funext y
 rw[W_bind];congr 1;funext z
 exact Ad
theorem Aer:W (Ly env m) Q=Q true:=Ad
theorem Ag8 {cap:List Nat}{t:FB}:W (Cb cap k fw g t fe env m) Q=W (fw env m) fun w=>(w.chk m/\w.all.length<=1000000)/\W (G5 g t fe m (Os cap k env) w.all) Q:=by
 unfold Cb
 rw[W_bind];congr 1;funext w
 by_cases h:w.chk m/\w.all.length<=1000000
 ·rw[Axv h];apply Az7;exact⟨fun q=>⟨h,q⟩,fun q=>q.2⟩
 ·rw[Axy h,A2];apply Az7;exact⟨False.elim,fun q=>h q.1⟩
theorem Js {t:FB}:W (G5 g t fe m env []) Q=Q []:=Ad
theorem Hm {t:FB}{d:D}:W (G5 g t fe m env (d::ds)) Q=W (g d env) fun env1=>W (t env1 m) (cK (W (fe env1 m) fun y=>W (G5 g t fe m env ds) fun ys=>Q (y::ys)) (W (G5 g t fe m env ds) Q)):=by
 rw[G5,W_bind];congr 1;funext e
 rw[W_bind];congr 1;funext ok
 rw[Eo,W_bind]
 congr 1
 congr 1;funext y
 rw[W_bind];congr 1;funext z
 exact Ad
theorem Al3:W (Cn (.int i) (.int j) m) Q=Q (.int (i+j)):=Ad
theorem Al4:W (Cn (.str i) (.str j) m) Q=(i.length+j.length<=1000000/\Q (.str (i++j))):=H9
theorem Al5:W (Cn (.tup i) (.tup j) m) Q=(i.length+j.length<=1000000/\Q (.tup (i++j))):=H9
theorem Anc:W (Ac9 (.int i) (.int j) m) Q=Q (.int (i - j)):=Ad
theorem Amv:W (Ac6 (.int i) (.int j) m) Q=(((-(2 ^ 64) < i/\i < 2 ^ 64)\/(-(2 ^ 64) < j/\j < 2 ^ 64))/\Q (.int (i * j))):=H9
theorem Al8:W (Ao1 (.int i) (.int j) m) Q=((0 < j/\j < 1073741824)/\Q (.int (i / j))):=H9
theorem Aeu:W (Vz (.int i) (.int j) m) Q=(0 < j/\Q (.int (i % j))):=H9
theorem Amz:W (Ar3 (.int i) (.int j) m) Q=((0<=j/\j<=1000000/\i.natAbs < 2 ^ 64)/\Q (.int (i ^ j.toNat))):=H9
theorem As1:W (oLt (.int i) (.int j) m) Q=Q (.bl (decide (i < j))):=by
 rw[show oLt (.int i) (.int j) m=some (.bl (decide (i < j))) by rfl,Ad]
theorem Ast:W (oGt (.int i) (.int j) m) Q=Q (.bl (decide (j < i))):=Ad
theorem Avz:W (oEq x y m) Q=W (C1 m x) fun x'=>W (C1 m y) fun y'=>dep x'<=60/\Q (.bl (deq x' y')):=by
 unfold oEq eqO
 rw[W_bind,W_bind];congr 1;funext x'
 rw[W_bind];congr 1;funext y'
 rw[H9,Ad]
theorem Av9:W (oNe x y m) Q=W (C1 m x) fun x'=>W (C1 m y) fun y'=>dep x'<=60/\Q (.bl (!deq x' y')):=by
 unfold oNe eqO
 rw[W_bind,W_bind];congr 1;funext x'
 rw[W_bind];congr 1;funext y'
 rw[H9,Ad]
theorem Amn:W (R7 .non m) Q=Q (.bl true):=Ad
theorem Ov:W (R7 (.tup i) m) Q=Q (.bl false):=Ad
theorem Asz:W (oIx (.str z) (.int i) m) Q=(z.length<=1000000/\W (atI z.cps.toList i) fun c=>Q (.str ⟨#[c]⟩)):=by
 show W (if z.length<=1000000 then (atI z.cps.toList i).bind fun c=>some (.str ⟨#[c]⟩) else none) Q=_
 by_cases h:z.length<=1000000
 ·rw[Axv h,W_bind];simp only[h,true_and];congr 1;funext c;exact Ad
 ·rw[Axy h,A2];simp[h]
theorem Hn:W (oIx (.tup z) (.int i) m) Q=W (atI z i) Q:=rfl
theorem Asx:W (oIx (.lst z) (.int i) m) Q=W (atI z i) Q:=rfl
theorem Asw:W (oIx (.kl z) (.int i) m) Q=W (atI z i) Q:=rfl
theorem Asy:W (oIx (.ref n) (.int i) m) Q=W (sq m (.ref n)) fun z=>W (atI z i) Q:=W_bind
theorem Amu:W (Ec [.tup z] m) Q=Q (.int z.length):=Ad
theorem Ams:W (Ec [.lst z] m) Q=Q (.int z.length):=Ad
theorem Amr:W (Ec [.kl z] m) Q=Q (.int z.length):=Ad
theorem Amt:W (Ec [.ref n] m) Q=W (sq m (.ref n)) fun z=>Q (.int z.length):=by
 show W (((sq m (.ref n)).bind fun ds=>some ds.length).bind fun n=>some (.int n)) Q=_
 rw[W_bind,W_bind];congr 1;funext z;rw[Ad,Ad]
theorem Asf {d:D}:W (Aoy [d] m) Q=W (sqL m d) fun ds=>W (Ro ds) fun bs=>Q (.bl (bs.all (fun b=>b))):=by
 unfold Aoy
 simp only
 rw[W_bind];congr 1;funext z;rw[W_bind];congr 1;funext z;exact Ad
theorem Ana:W (sqL m (.lst z)) Q=Q z:=Ad
theorem Asv:W (oIn x (.lst z) m) Q=W (C1 m x) fun x'=>W (C1 m (.lst z)) fun y'=>W (sq [] y') fun ds=>dep x'<=50/\Q (.bl (ds.any fun d=>deq d x')):=by
 unfold oIn inO;rw[W_bind];simp only
 rw[W_bind];congr 1;funext x';rw[W_bind];congr 1;funext z;rw[W_bind];congr 1;funext z;rw[H9,Ad]
theorem Xl:W (C3 n fn ds m) Q=W (Dj m ds) fun ds'=>ds'.length=n/\W (fn ds') Q:=by
 unfold C3
 rw[W_bind];congr 1;funext z
 by_cases h:z.length=n
 ·rw[Axv h];simp[h]
 ·rw[Axy h,A2];simp[h]
theorem U9:W (Dj m []) Q=Q []:=Ad
theorem U8 {d:D}:W (Dj m (d::ds)) Q=W (C1 m d) fun d'=>W (Dj m ds) fun ds'=>Q (d'::ds'):=by
 rw[Dj,W_bind];congr 1;funext z;rw[W_bind];congr 1;funext z;exact Ad
theorem Ahp:W (C1 m (.bl b)) Q=Q (.bl b):=Ad
theorem Ahr:W (C1 m (.int b)) Q=Q (.int b):=Ad
theorem Ahu:W (C1 m (.str b)) Q=Q (.str b):=Ad
theorem Ahs:W (C1 m (.lst b)) Q=(Be b=true/\Q (.lst b)):=H9
theorem As6:W (tyD m (.bl b)) Q=Q "bool":=Ad
theorem As7:W (tyD m (.int b)) Q=Q "int":=Ad
theorem As8:W (tyD m (.str b)) Q=Q "str":=Ad
theorem As9:W (tyD m (.tup b)) Q=Q "tuple":=Ad
theorem Ow:W (Vr "bool" "bool") Q=Q true:=by rw[show Vr "bool" "bool"=some true by decide,Ad]
theorem U6:W (Vr "int" "str") Q=Q false:=by rw[show Vr "int" "str"=some false by decide,Ad]
theorem U7:W (Vr "str" "str") Q=Q true:=by rw[show Vr "str" "str"=some true by decide,Ad]
theorem L1:W (Vr "tuple" "tuple") Q=Q true:=by rw[show Vr "tuple" "tuple"=some true by decide,Ad]
theorem Atg:W (Cs m (.bl b)) Q=Q (.bl b):=by rw[Cs,Ad]
theorem Ati:W (Cs m (.int b)) Q=Q (.int b):=by rw[Cs,Ad]
theorem Ank:W (Eb m []) Q=Q []:=by rw[Eb,Ad]
theorem Anj {d:D}:W (Eb m (d::ds)) Q=W (Cs m d) fun e=>W (Eb m ds) fun es=>Q (e::es):=by
 rw[Eb,W_bind];congr 1;funext z;rw[W_bind];congr 1;funext z;exact Ad
def Aru (m:MH) (d:D) (Q:Wk->Prop):Prop:=W (match d with
 |.str z=>some ⟨M9 z,B0⟩
 |.tup ds=>some ⟨ds,B0⟩
 |.lst ds=>some ⟨ds,B0⟩
 |.kl ds=>some ⟨ds,B0⟩
 |.ref n=>(match m[n]? with
  |some (.lst ds)=>some ⟨ds,fun m'=>m'[n]?=some (.lst ds)⟩
  |_=>none)
 |_=>none) Q
theorem Ani:W (G1 f env m) Q=W (f env m) fun d=>Aru m d Q:=W_bind
theorem Axg:Aru m (.tup z) Q=Q ⟨z,B0⟩:=Ad
theorem Axe:Aru m (.lst z) Q=Q ⟨z,B0⟩:=Ad
theorem Axf:Aru m (.ref n) Q=W (sq m (.ref n)) fun ds=>Q ⟨ds,fun m'=>m'[n]?=some (.lst ds)⟩:=by
 unfold Aru sq
 simp only
 cases m[n]? with
 |none=>rw[A2,A2]
 |some o=>cases o with
  |lst ds=>rw[Ad,Ad]
  |dct ds=>rw[A2,A2]
  |dcs ks ds=>rw[A2,A2]
def Avh (ds:List D) (Q:Wk->Prop):Prop:=W (match ds with
 |[.int j]=>if -(2 ^ 62)<=j/\j < 2 ^ 62 then some ⟨Dc 0 j.toNat,B0⟩ else none
 |_=>none) Q
theorem Ahv:W (Iz g env m) Q=W (g env m) fun ds=>Avh ds Q:=W_bind
theorem Auw:Avh [.int j] Q=((-(2 ^ 62)<=j/\j < 2 ^ 62)/\Q ⟨Dc 0 j.toNat,B0⟩):=H9
theorem Am2:W (Ol f g b env m) Q=W (f env m) fun w=>W (Ij w.chk g b w.all env m) Q:=W_bind
theorem Abr:W (Ij chk g b [] e m) Q=(chk m/\Q (.nx e m)):=by rw[Ij];exact H9
def V9 (chk:MH->Prop) (g:FG) (b:FS) (ds:List D) (Q:Out->Prop):Out->Prop
 |.nx e m=>W (Ij chk g b ds e m) Q
 |.ct e m=>W (Ij chk g b ds e m) Q
 |.bk e m=>Q (.nx e m)
 |.rt d m=>Q (.rt d m)
theorem Aee:V9 chk g b ds Q (.nx e m)=W (Ij chk g b ds e m) Q:=rfl
theorem Aed:V9 chk g b ds Q (.ct e m)=W (Ij chk g b ds e m) Q:=rfl
theorem Aec:V9 chk g b ds Q (.bk e m)=Q (.nx e m):=rfl
theorem Aef:V9 chk g b ds Q (.rt e m)=Q (.rt e m):=rfl
theorem Xn {d:D}:W (Ij chk g b (d::ds) e m) Q=(chk m/\W (g d e) fun e1=>W (b e1 m) (V9 chk g b ds Q)):=by
 rw[Ij]
 by_cases h:chk m
 ·rw[Axv h,W_bind]
  apply Az7
  have k:∀ e1,W ((b e1 m).bind fun o=>match o with
   |.nx env2 m2=>Ij chk g b ds env2 m2
   |.ct env2 m2=>Ij chk g b ds env2 m2
   |.bk env2 m2=>some (.nx env2 m2)
   |.rt d m2=>some (.rt d m2)) Q=W (b e1 m) (V9 chk g b ds Q):=by
   intro e1
   rw[W_bind]
   congr 1
   funext o
   cases o<;>first|rfl|exact Ad
  exact⟨fun q=>⟨h,q.imp fun e1 q=>(k e1) ▸ q⟩,fun q=>q.2.imp fun e1 q=>(k e1) ▸ q⟩
 ·rw[Axy h,A2];simp[h]
theorem Vc:B0 m=True:=rfl
theorem Awj {d:D}{l:Bg}:W (Ac 0 (some d::l) m) Q=Q d:=Ad
theorem Avp {d:D}{l:Bg}:W (Au 0 d (y::l)) Q=Q (some d::l):=Ad
theorem Awk {d:D}{l:Bg}:W (Ac 1 (x0::some d::l) m) Q=Q d:=Ad
theorem Awa {l:Bg}:W (Co 1 f (x0::y::l) m) Q=W (f (x0::y::l) m) fun d=>Q (.nx (x0::some d::l) m):=by unfold Co;rw[W_bind];congr 1;funext d;exact Ad
theorem Av4 {l:Bg}:W (Hl 1 f (x0::y::l) m) Q=W (f (x0::y::l) m) fun ds=>Q (.nx (x0::some (.ref m.length)::l) (m++[.lst ds])):=by unfold Hl;rw[W_bind];congr 1;funext d;exact Ad
theorem Avq {d:D}{l:Bg}:W (Au 1 d (x0::y::l)) Q=Q (x0::some d::l):=Ad
theorem Awl {d:D}{l:Bg}:W (Ac 2 (x0::x1::some d::l) m) Q=Q d:=Ad
theorem Awb {l:Bg}:W (Co 2 f (x0::x1::y::l) m) Q=W (f (x0::x1::y::l) m) fun d=>Q (.nx (x0::x1::some d::l) m):=by unfold Co;rw[W_bind];congr 1;funext d;exact Ad
theorem Avr {d:D}{l:Bg}:W (Au 2 d (x0::x1::y::l)) Q=Q (x0::x1::some d::l):=Ad
theorem Awm {d:D}{l:Bg}:W (Ac 3 (x0::x1::x2::some d::l) m) Q=Q d:=Ad
theorem Awc {l:Bg}:W (Co 3 f (x0::x1::x2::y::l) m) Q=W (f (x0::x1::x2::y::l) m) fun d=>Q (.nx (x0::x1::x2::some d::l) m):=by unfold Co;rw[W_bind];congr 1;funext d;exact Ad
theorem Av5 {l:Bg}:W (Hl 3 f (x0::x1::x2::y::l) m) Q=W (f (x0::x1::x2::y::l) m) fun ds=>Q (.nx (x0::x1::x2::some (.ref m.length)::l) (m++[.lst ds])):=by unfold Hl;rw[W_bind];congr 1;funext d;exact Ad
theorem Avs {d:D}{l:Bg}:W (Au 3 d (x0::x1::x2::y::l)) Q=Q (x0::x1::x2::some d::l):=Ad
theorem Awn {d:D}{l:Bg}:W (Ac 4 (x0::x1::x2::x3::some d::l) m) Q=Q d:=Ad
theorem Awd {l:Bg}:W (Co 4 f (x0::x1::x2::x3::y::l) m) Q=W (f (x0::x1::x2::x3::y::l) m) fun d=>Q (.nx (x0::x1::x2::x3::some d::l) m):=by unfold Co;rw[W_bind];congr 1;funext d;exact Ad
theorem Av6 {l:Bg}:W (Hl 4 f (x0::x1::x2::x3::y::l) m) Q=W (f (x0::x1::x2::x3::y::l) m) fun ds=>Q (.nx (x0::x1::x2::x3::some (.ref m.length)::l) (m++[.lst ds])):=by unfold Hl;rw[W_bind];congr 1;funext d;exact Ad
theorem Avt {d:D}{l:Bg}:W (Au 4 d (x0::x1::x2::x3::y::l)) Q=Q (x0::x1::x2::x3::some d::l):=Ad
theorem Awo {d:D}{l:Bg}:W (Ac 5 (x0::x1::x2::x3::x4::some d::l) m) Q=Q d:=Ad
theorem Awe {l:Bg}:W (Co 5 f (x0::x1::x2::x3::x4::y::l) m) Q=W (f (x0::x1::x2::x3::x4::y::l) m) fun d=>Q (.nx (x0::x1::x2::x3::x4::some d::l) m):=by unfold Co;rw[W_bind];congr 1;funext d;exact Ad
theorem Av7 {l:Bg}:W (Hl 5 f (x0::x1::x2::x3::x4::y::l) m) Q=W (f (x0::x1::x2::x3::x4::y::l) m) fun ds=>Q (.nx (x0::x1::x2::x3::x4::some (.ref m.length)::l) (m++[.lst ds])):=by unfold Hl;rw[W_bind];congr 1;funext d;exact Ad
theorem Avu {d:D}{l:Bg}:W (Au 5 d (x0::x1::x2::x3::x4::y::l)) Q=Q (x0::x1::x2::x3::x4::some d::l):=Ad
theorem Awp {d:D}{l:Bg}:W (Ac 6 (x0::x1::x2::x3::x4::x5::some d::l) m) Q=Q d:=Ad
theorem Awf {l:Bg}:W (Co 6 f (x0::x1::x2::x3::x4::x5::y::l) m) Q=W (f (x0::x1::x2::x3::x4::x5::y::l) m) fun d=>Q (.nx (x0::x1::x2::x3::x4::x5::some d::l) m):=by unfold Co;rw[W_bind];congr 1;funext d;exact Ad
theorem Av8 {l:Bg}:W (Hl 6 f (x0::x1::x2::x3::x4::x5::y::l) m) Q=W (f (x0::x1::x2::x3::x4::x5::y::l) m) fun ds=>Q (.nx (x0::x1::x2::x3::x4::x5::some (.ref m.length)::l) (m++[.lst ds])):=by unfold Hl;rw[W_bind];congr 1;funext d;exact Ad
theorem Avv {d:D}{l:Bg}:W (Au 6 d (x0::x1::x2::x3::x4::x5::y::l)) Q=Q (x0::x1::x2::x3::x4::x5::some d::l):=Ad
theorem Awq {d:D}{l:Bg}:W (Ac 7 (x0::x1::x2::x3::x4::x5::x6::some d::l) m) Q=Q d:=Ad
theorem Awg {l:Bg}:W (Co 7 f (x0::x1::x2::x3::x4::x5::x6::y::l) m) Q=W (f (x0::x1::x2::x3::x4::x5::x6::y::l) m) fun d=>Q (.nx (x0::x1::x2::x3::x4::x5::x6::some d::l) m):=by unfold Co;rw[W_bind];congr 1;funext d;exact Ad
theorem Avw {d:D}{l:Bg}:W (Au 7 d (x0::x1::x2::x3::x4::x5::x6::y::l)) Q=Q (x0::x1::x2::x3::x4::x5::x6::some d::l):=Ad
theorem Awr {d:D}{l:Bg}:W (Ac 8 (x0::x1::x2::x3::x4::x5::x6::x7::some d::l) m) Q=Q d:=Ad
theorem Awh {l:Bg}:W (Co 8 f (x0::x1::x2::x3::x4::x5::x6::x7::y::l) m) Q=W (f (x0::x1::x2::x3::x4::x5::x6::x7::y::l) m) fun d=>Q (.nx (x0::x1::x2::x3::x4::x5::x6::x7::some d::l) m):=by unfold Co;rw[W_bind];congr 1;funext d;exact Ad
theorem Avx {d:D}{l:Bg}:W (Au 8 d (x0::x1::x2::x3::x4::x5::x6::x7::y::l)) Q=Q (x0::x1::x2::x3::x4::x5::x6::x7::some d::l):=Ad
theorem Aws {d:D}{l:Bg}:W (Ac 9 (x0::x1::x2::x3::x4::x5::x6::x7::x8::some d::l) m) Q=Q d:=Ad
theorem Awi {l:Bg}:W (Co 9 f (x0::x1::x2::x3::x4::x5::x6::x7::x8::y::l) m) Q=W (f (x0::x1::x2::x3::x4::x5::x6::x7::x8::y::l) m) fun d=>Q (.nx (x0::x1::x2::x3::x4::x5::x6::x7::x8::some d::l) m):=by unfold Co;rw[W_bind];congr 1;funext d;exact Ad
theorem Avy {d:D}{l:Bg}:W (Au 9 d (x0::x1::x2::x3::x4::x5::x6::x7::x8::y::l)) Q=Q (x0::x1::x2::x3::x4::x5::x6::x7::x8::some d::l):=Ad
theorem Ata {d:D}{l:Bg}:W (Ac 10 (x0::x1::x2::x3::x4::x5::x6::x7::x8::x9::some d::l) m) Q=Q d:=Ad
theorem As2 {l:Bg}:W (Co 10 f (x0::x1::x2::x3::x4::x5::x6::x7::x8::x9::y::l) m) Q=W (f (x0::x1::x2::x3::x4::x5::x6::x7::x8::x9::y::l) m) fun d=>Q (.nx (x0::x1::x2::x3::x4::x5::x6::x7::x8::x9::some d::l) m):=by unfold Co;rw[W_bind];congr 1;funext d;exact Ad
theorem Asj {d:D}{l:Bg}:W (Au 10 d (x0::x1::x2::x3::x4::x5::x6::x7::x8::x9::y::l)) Q=Q (x0::x1::x2::x3::x4::x5::x6::x7::x8::x9::some d::l):=Ad
theorem Atb {d:D}{l:Bg}:W (Ac 11 (x0::x1::x2::x3::x4::x5::x6::x7::x8::x9::x10::some d::l) m) Q=Q d:=Ad
theorem As3 {l:Bg}:W (Co 11 f (x0::x1::x2::x3::x4::x5::x6::x7::x8::x9::x10::y::l) m) Q=W (f (x0::x1::x2::x3::x4::x5::x6::x7::x8::x9::x10::y::l) m) fun d=>Q (.nx (x0::x1::x2::x3::x4::x5::x6::x7::x8::x9::x10::some d::l) m):=by unfold Co;rw[W_bind];congr 1;funext d;exact Ad
theorem Asl {d:D}{l:Bg}:W (Au 11 d (x0::x1::x2::x3::x4::x5::x6::x7::x8::x9::x10::y::l)) Q=Q (x0::x1::x2::x3::x4::x5::x6::x7::x8::x9::x10::some d::l):=Ad
theorem Atc {d:D}{l:Bg}:W (Ac 12 (x0::x1::x2::x3::x4::x5::x6::x7::x8::x9::x10::x11::some d::l) m) Q=Q d:=Ad
theorem Asm {d:D}{l:Bg}:W (Au 12 d (x0::x1::x2::x3::x4::x5::x6::x7::x8::x9::x10::x11::y::l)) Q=Q (x0::x1::x2::x3::x4::x5::x6::x7::x8::x9::x10::x11::some d::l):=Ad
theorem Atd {d:D}{l:Bg}:W (Ac 13 (x0::x1::x2::x3::x4::x5::x6::x7::x8::x9::x10::x11::x12::some d::l) m) Q=Q d:=Ad
end
theorem B2:deq (.int i) (.int j)=decide (i=j):=by
 unfold deq pyD
 rw[show PyData.eqv (.int i) (.int j)=(i == j) by simp[PyData.eqv]]
 by_cases h:i=j<;>simp[h]
theorem Cw:deq (.str i) (.str j)=decide (i=j):=by
 unfold deq pyD
 rw[show PyData.eqv (.str i) (.str j)=(i == j) by simp[PyData.eqv]]
 by_cases h:i=j<;>simp[h]
theorem Anu:deq (.bl i) (.bl j)=decide (i=j):=by
 cases i<;>cases j<;>decide
theorem B8:dep (.int i)=0:=by simp[dep]
theorem Dz:dep (.str i)=0:=by simp[dep]
theorem Ant:dep (.bl i)=0:=by simp[dep]
theorem X4:dep .non=0:=by simp[dep]
theorem Ir (h0:0<=i) (h1:i < xs.length) (q:∀ d,xs[i.toNat]?=some d->d∈xs->Q d):W (atI xs i) Q:=by
 unfold atI ixN
 rw[Axv h0,Axv h1]
 have hi:i.toNat < xs.length:=by lia
 refine⟨xs[i.toNat],?_,q _ (Axz hi) (Aym hi)⟩
 exact Axz hi
theorem Alw:(⟨#[c]⟩:Str).length=1:=rfl
theorem Ab2:Os [] k env=List.replicate k none:=rfl
theorem Xy {cap:List Nat}:Os (i::cap) k env=(env[i]?).bind id::Os cap k env:=rfl
theorem Bo {α:Type}{g:FG}{fe:FE}{m:MH}{env:Bg}{h:α->D} (F:α->D) {xs:List α}{Q:List D->Prop} (k:∀ x∈xs,W (g (h x) env) fun e1=>W (fe e1 m) fun y=>y=F x) (q:Q (xs.map F)):W (G5 g Ly fe m env (xs.map h)) Q:=by
 induction xs generalizing Q with
 |nil=>rw[Azq,Js];exact q
 |cons d ds ih =>
  rw[Axs,Hm]
  refine (k d (Axn ..)).imp fun e1 h1=>?_
  rw[Aer,Nk]
  refine h1.imp fun y hy=>?_
  subst hy
  exact ih (fun e he=>k e (Axl _ he)) q
noncomputable section
open Classical
theorem As5:W (sq m (.tup ds)) Q=Q ds:=Ad
theorem Am9:W (sq m (.lst ds)) Q=Q ds:=Ad
theorem Anb:W (sqL m (.ref n)) Q=W (sq m (.ref n)) Q:=rfl
def Ar6 (o i d:D) (env:Bg) (m:MH) (Q:Out->Prop):Prop:=W (match o,i with
 |.ref n,.int k=>(match m[n]? with
  |some (.lst ds)=>(ixN ds.length k).bind fun j=>some (.nx env (m.set n (.lst (ds.set j d))))
  |_=>none)
 |_,_=>none) Q
theorem Ara {d:D}:Ar6 (.ref n) (.int k) d env m Q=W (sq m (.ref n)) fun ds=>W (ixN ds.length k) fun j=>Q (.nx env (m.set n (.lst (ds.set j d)))):=by
 unfold Ar6 sq
 simp only
 cases m[n]? with
 |none=>rw[A2,A2]
 |some o=>cases o with
  |lst ds=>simp only;rw[Ad,W_bind];congr 1;funext j;exact Ad
  |dct ds=>rw[A2,A2]
  |dcs ks ds=>rw[A2,A2]
theorem Aby:W (Hi f fo fi env m) Q=W (f env m) fun d=>W (fo env m) fun o=>W (fi env m) fun i=>Ar6 o i d env m Q:=by
 unfold Hi Ar6
 rw[W_bind];congr 1;funext x
 rw[W_bind];congr 1;funext y
 rw[W_bind]<;>congr 1
def Ar0 (o:List D->List D->Option (List D)) (d:D) (g:FL) (env:Bg) (m:MH) (Q:Out->Prop):Prop:=W (match d with
 |.ref n=>(g env m).bind fun es=>(match m[n]? with
  |some (.lst ds)=>(o ds es).bind fun fs=>some (.nx env (m.set n (.lst fs)))
  |_=>none)
 |_=>none) Q
theorem Am4:W (Aax o f g env m) Q=W (f env m) fun d=>Ar0 o d g env m Q:=by
 unfold Aax Ar0
 rw[W_bind]<;>congr 1
theorem Aot:Ar0 o (.ref n) g env m Q=W (g env m) fun es=>W (sq m (.ref n)) fun ds=>W (o ds es) fun fs=>Q (.nx env (m.set n (.lst fs))):=by
 unfold Ar0 sq
 simp only
 rw[W_bind];congr 1;funext es
 cases m[n]? with
 |none=>rw[A2,A2]
 |some o=>cases o with
  |lst ds=>simp only;rw[Ad,W_bind];congr 1;funext j;exact Ad
  |dct ds=>rw[A2,A2]
  |dcs ks ds=>rw[A2,A2]
theorem Amx {d:D}:W (Ze ds [d]) Q=(ds.length < 1000000/\Q (ds++[d])):=H9
theorem Ox {d:D}:W (Gs ds [.int i,d]) Q=((ds.length < 1000000/\0<=i/\i < 2 ^ 62)/\Q (insD ds i.toNat d)):=H9
theorem Abv {d:D}:W (Et [d] m) Q=W (sq m d) fun ds=>Q (.tup ds):=W_bind.trans (by congr 1;funext ds;exact Ad)
theorem Ahh {d:D}:W (Zh [d] m) Q=W (sq m d) Q:=rfl
theorem Am1:W (Alx f g env m) Q=W (f env m) fun d=>W (g d env) fun e=>Q (.nx e m):=by
 unfold Alx
 rw[W_bind];congr 1;funext x
 rw[W_bind];congr 1;funext y
 exact Ad
theorem Aep:W (G6 n g (.tup ds) env) Q=(ds.length=n/\W (g ds env) Q):=by
 unfold G6
 simp only
 by_cases h:ds.length=n
 ·rw[Axv h];simp[h]
 ·rw[Axy h,A2];simp[h]
theorem Ag3 {d:D}:W (Bv g h (d::ds) env) Q=W (g d env) fun e=>W (h ds e) Q:=W_bind
theorem Al7:W (L3 [] env) Q=Q env:=Ad
theorem As0:W (Ao2 x y m) Q=W (C1 m x) fun x'=>W (C1 m y) fun y'=>(dep x'<=30/\dep y'<=30)/\W (ltD x' y') fun k=>Q (.bl k):=by
 unfold Ao2
 rw[W_bind];congr 1;funext x'
 rw[W_bind];congr 1;funext y'
 by_cases h:dep x'<=30/\dep y'<=30
 ·rw[Axv h,W_bind]
  apply Az7
  have e:(fun k=>W (some (D.bl k)) Q)=fun k=>Q (.bl k):=by funext k;exact Ad
  rw[e]
  exact⟨fun q=>⟨h,q⟩,fun q=>q.2⟩
 ·rw[Axy h,A2];apply Az7;exact⟨False.elim,fun q=>h q.1⟩
theorem Aht:W (C1 m (.ref n)) Q=W (sq m (.ref n)) fun ds=>Be ds=true/\Q (.lst ds):=by
 unfold C1 sq
 simp only
 cases m[n]? with
 |none=>rw[A2,A2]
 |some o=>cases o with
  |lst ds=>simp only;rw[Ad];exact H9
  |dct ds=>rw[A2,A2]
  |dcs ks ds=>rw[A2,A2]
theorem Am8:W (sq (.lst ds::m) (.ref 0)) Q=Q ds:=Ad
theorem Awu {n:Nat}{ds:List D}{m:MH}{Q:D->Prop} (h:m[n]?=some (.lst ds)):W (Cs m (.ref n)) Q=cK (Q (.lst ds)) (W (xpL m ds) fun es=>Q (.lst es)) (Bp ds):=by
 rw[Cs,h]
 show W (if _ then _ else _) Q=_
 rw[Eo,Ad,W_bind]
 congr 2;funext es;exact Ad
theorem Atk:W (Cs (.lst ds::m) (.ref 0)) Q=cK (Q (.lst ds)) (W (xpL (.lst ds::m) ds) fun es=>Q (.lst es)) (Bp ds):=Awu rfl
end
theorem W.eq (h:W x fun d=>d=a):W x Q=Q a:=by rw[h.out,Ad]
mutual
theorem Nf:∀ {d:D},Bw d=true->Cs m d=some d
 |.non,_=>by rw[Cs]
 |.bl _,_=>by rw[Cs]
 |.int _,_=>by rw[Cs]
 |.str _,_=>by rw[Cs]
 |.tup ds,h=>by rw[Bw] at h;rw[Cs,Lx h];rfl
 |.lst _,h=>by simp[Bw] at h
 |.kl _,h=>by simp[Bw] at h
 |.ref _,h=>by simp[Bw] at h
theorem Lx:∀ {ds:List D},Bp ds=true->Eb m ds=some ds
 |[],_=>by rw[Eb]
 |d::ds,h=>by
  rw[Bp,Ax4] at h
  rw[Eb,Nf h.1,Lx h.2];rfl
end
mutual
theorem Mx:∀ {d:D},Bw d=true->B6 d=true
 |.non,_=>by simp[B6]
 |.bl _,_=>by simp[B6]
 |.int _,_=>by simp[B6]
 |.str _,_=>by simp[B6]
 |.tup ds,h=>by rw[Bw] at h;rw[B6];exact Bj h
 |.lst _,h=>by simp[Bw] at h
 |.kl _,h=>by simp[Bw] at h
 |.ref _,h=>by simp[Bw] at h
theorem Bj:∀ {ds:List D},Bp ds=true->Be ds=true
 |[],_=>by rw[Be]
 |d::ds,h=>by
  rw[Bp,Ax4] at h
  rw[Be,Mx h.1,Bj h.2];rfl
end
theorem Df {d:D} (h:Bw d=true):C1 m d=some d:=by
 have h2:=Mx h
 cases d<;>first|(simp[Bw] at h;done)|(unfold C1;simp only;rw[Axv h2])
theorem Ath {d:D} (h:Bw d=true):W (Cs m d) Q=Q d:=by rw[Nf h,Ad]
theorem Ahq {d:D} (h:Bw d=true):W (C1 m d) Q=Q d:=by rw[Df h,Ad]
theorem Pu:Bw .non=true:=by simp[Bw]
theorem C8:Bw (.int b)=true:=by simp[Bw]
theorem Bm:Bw (.str b)=true:=by simp[Bw]
theorem Aw:Bw (.tup ds)=Bp ds:=by rw[Bw]
theorem Bq:Bp []=true:=by rw[Bp]
theorem An {d:D}:Bp (d::ds)=(Bw d&&Bp ds):=by rw[Bp]
theorem Mw:∀ {ds:List D},Bp ds=true ↔ ∀ d∈ds,Bw d=true
 |[]=>by simp[Bp]
 |d::ds=>by rw[Bp,Ax4,Mw];simp
theorem Ah {α:Type}{f:α->D}{xs:List α} (h:∀ x,Bw (f x)=true):Bp (xs.map f)=true:=by
 rw[Mw];intro d hd;obtain⟨x,_,rfl⟩:=List.mem_map.mp hd;exact h x
theorem D1:deq (.tup []) (.tup [])=true:=by simp[deq,pyD,Ll,PyData.eqv,PyData.eqvAll]
theorem Bx:deq (.tup (x::xs)) (.tup (y::ys))=(deq x y&&deq (.tup xs) (.tup ys)):=by
 simp[deq,pyD,Ll,PyData.eqv,PyData.eqvAll]
theorem Anz:deq (.tup []) (.tup (x::xs))=false:=by simp[deq,pyD,Ll,PyData.eqv,PyData.eqvAll]
theorem Ae0:deq (.tup (x::xs)) (.tup [])=false:=by simp[deq,pyD,Ll,PyData.eqv,PyData.eqvAll]
theorem Ab8:deq (.lst []) (.lst [])=true:=by simp[deq,pyD,Ll,PyData.eqv,PyData.eqvAll]
theorem X5:deq (.lst (x::xs)) (.lst (y::ys))=(deq x y&&deq (.lst xs) (.lst ys)):=by
 simp[deq,pyD,Ll,PyData.eqv,PyData.eqvAll]
theorem Ah2:deq (.lst []) (.lst (x::xs))=false:=by simp[deq,pyD,Ll,PyData.eqv,PyData.eqvAll]
theorem Ah1:deq (.lst (x::xs)) (.lst [])=false:=by simp[deq,pyD,Ll,PyData.eqv,PyData.eqvAll]
theorem An1:deq .non .non=true:=by simp[deq,pyD,PyData.eqv]
theorem Anv {t:Str}:deq (.int i) (.str t)=false:=by simp[deq,pyD,PyData.eqv]
theorem An3 {t:Str}:deq (.str t) (.int i)=false:=by simp[deq,pyD,PyData.eqv]
theorem An2:deq .non (.tup ds)=false:=by simp[deq,pyD,PyData.eqv]
theorem An4:deq (.tup ds) .non=false:=by simp[deq,pyD,PyData.eqv]
theorem Jx [DecidableEq α] (h:∀ x y,deq (f x) (f y)=decide (x=y)):∀ xs ys:List α,deq (.tup (xs.map f)) (.tup (ys.map f))=decide (xs=ys)
 |[],[]=>by simp[D1]
 |[],y::ys=>by simp[Anz]
 |x::xs,[]=>by simp[Ae0]
 |x::xs,y::ys=>by
  rw[Axs,Axs,Bx,h,Jx h xs ys]
  by_cases e1:x=y<;>by_cases e2:xs=ys<;>simp[e1,e2]
theorem G7 [DecidableEq α] (h:∀ x y,deq (f x) (f y)=decide (x=y)):∀ xs ys:List α,deq (.lst (xs.map f)) (.lst (ys.map f))=decide (xs=ys)
 |[],[]=>by simp[Ab8]
 |[],y::ys=>by simp[Ah2]
 |x::xs,[]=>by simp[Ah1]
 |x::xs,y::ys=>by
  rw[Axs,Axs,X5,h,G7 h xs ys]
  by_cases e1:x=y<;>by_cases e2:xs=ys<;>simp[e1,e2]
theorem Cv:dep (.tup ds)=Dm ds+1:=by rw[dep]
theorem B1 {n:Nat}:∀ {ds:List D},(∀ d∈ds,dep d<=n)->Dm ds<=n
 |[],_=>by rw[Dm];exact Ax9 _
 |d::ds,h=>by
  rw[Dm]
  have h1:=h d (Axn ..)
  have h2:=B1 (n:=n) (ds:=ds) fun e he=>h e (Axl _ he)
  lia
noncomputable def Y1 {α:Type} (I:List α->Bg->MH->Prop) (xs:List α) (Q:Out->Prop):Out->Prop
 |.nx e m=>I xs e m
 |.ct e m=>I xs e m
 |.bk e m=>Q (.nx e m)
 |.rt d m=>Q (.rt d m)
theorem Acw:Y1 I xs Q (.nx e m)=I xs e m:=rfl
theorem Acv:Y1 I xs Q (.ct e m)=I xs e m:=rfl
theorem Acu:Y1 I xs Q (.bk e m)=Q (.nx e m):=rfl
theorem Acx {d:D}:Y1 I xs Q (.rt d m)=Q (.rt d m):=rfl
theorem D4 {α:Type}{h:α->D}{chk:MH->Prop}{g:FG}{b:FS}{Q:Out->Prop} (I:List α->Bg->MH->Prop) (hs:∀ x xs e m,I (x::xs) e m->chk m/\W (g (h x) e) fun e1=>W (b e1 m) (Y1 I xs Q)) (he:∀ e m,I [] e m->chk m/\Q (.nx e m)) :
  ∀ {xs:List α}{e:Bg}{m:MH},I xs e m->W (Ij chk g b (xs.map h) e m) Q
 |[],e,m,hi=>by
  rw[Azq,Abr];exact he e m hi
 |x::xs,e,m,hi=>by
  rw[Axs,Xn]
  obtain⟨h1,h2⟩:=hs x xs e m hi
  refine⟨h1,h2.imp fun e1 h3=>h3.imp fun o ho=>?_⟩
  cases o with
  |nx e m=>exact D4 I hs he ho
  |ct e m=>exact D4 I hs he ho
  |bk e m=>exact ho
  |rt d m=>exact ho
noncomputable def Vw (I:Nat->Bg->MH->Prop) (k:Nat) (Q:Out->Prop):Out->Prop
 |.nx e m=>I k e m
 |.ct e m=>I k e m
 |.bk e m=>Q (.nx e m)
 |.rt d m=>Q (.rt d m)
theorem Acr:Vw I k Q (.nx e m)=I k e m:=rfl
theorem Acq:Vw I k Q (.ct e m)=I k e m:=rfl
theorem Acp:Vw I k Q (.bk e m)=Q (.nx e m):=rfl
theorem Acs {d:D}:Vw I k Q (.rt d m)=Q (.rt d m):=rfl
theorem Ami (I:Nat->Bg->MH->Prop) (hs:∀ (k:Nat) e m,k < n->I k e m->chk m/\W (g (h k) e) fun e1=>W (b e1 m) (Vw I (k+1) Q)) (he:∀ e m,I n e m->chk m/\Q (.nx e m)) (h0:I 0 e m):W (Ij chk g b ((List.range n).map h) e m) Q:=by
 refine D4 (h:=h) (fun xs e m=>∃ k,k<=n/\xs=(List.range n).drop k/\I k e m) ?_ ?_ ⟨0,Ax9 _,rfl,h0⟩
 ·rintro x xs e m ⟨k,hk,hx,hi⟩
  have hk2:k < n:=by
   rcases Nat.lt_or_ge k n with h|h
   ·exact h
   ·rw[Azv (by simpa using h)] at hx;cases hx
  rw[Ayv (by simpa using hk2),List.getElem_range] at hx
  obtain⟨e1,e2⟩:=List.cons.inj hx
  rw[e1,e2]
  obtain⟨h1,h2⟩:=hs k e m hk2 hi
  refine⟨h1,h2.imp fun e1 h3=>h3.imp fun o ho=>?_⟩
  cases o with
  |nx e m=>exact⟨k+1,hk2,rfl,ho⟩
  |ct e m=>exact⟨k+1,hk2,rfl,ho⟩
  |bk e m=>exact ho
  |rt d m=>exact ho
 ·rintro e m ⟨k,hk,hx,hi⟩
  have:k=n:=by
   have:=Ay9 List.length hx
   simp at this;lia
  subst this
  exact he e m hi
theorem Ju {lo:Int}{n:Nat}{chk:MH->Prop}{g:FG}{b:FS}{Q:Out->Prop}{e:Bg}{m:MH} (I:Nat->Bg->MH->Prop) (hs:∀ (k:Nat) e m,k < n->I k e m->chk m/\W (g (.int (lo+k)) e) fun e1=>W (b e1 m) (Vw I (k+1) Q)) (he:∀ e m,I n e m->chk m/\Q (.nx e m)) (h0:I 0 e m):W (Ij chk g b (Dc lo n) e m) Q:=Ami I hs he h0
theorem Ak3:Dc 0 3=[.int 0,.int 1,.int 2]:=rfl
theorem Xk {l:List α}:W (atI (x::l) 0) Q=Q x:=by
 rw[show atI (x::l) 0=some x by unfold atI ixN;rw[Axv (by decide),Axv (by simp<;>lia)];rfl,Ad]
theorem Rj {l:List α}:W (atI (x::y::l) 1) Q=Q y:=by
 rw[show atI (x::y::l) 1=some y by unfold atI ixN;rw[Axv (by decide),Axv (by simp<;>lia)];rfl,Ad]
theorem Ag0 {l:List α}:W (atI (x::y::z::l) 2) Q=Q z:=by
 rw[show atI (x::y::z::l) 2=some z by unfold atI ixN;rw[Axv (by decide),Axv (by simp<;>lia)];rfl,Ad]
theorem Al6 {l:List α}:W (atI (x::y::z::w::l) 3) Q=Q w:=by
 rw[show atI (x::y::z::w::l) 3=some w by unfold atI ixN;rw[Axv (by decide),Axv (by simp<;>lia)];rfl,Ad]
theorem Jr {α β:Type}{f:α->β}{xs:List α}{k:Nat} (h:k < xs.length) {Q:β->Prop}:W (atI (xs.map f) (k:Int)) Q=Q (f xs[k]):=by
 rw[show atI (xs.map f) (k:Int)=some (f xs[k]) by unfold atI ixN;rw[Axv (by lia),Axv (by simp;lia)];simp[h],Ad]
theorem Om {n d:Nat}:HT.sIx n d none=d:=rfl
theorem Ln {n d k:Nat}:HT.sIx n d (some (k:Int))=min k n:=by
 unfold HT.sIx
 simp only
 by_cases h:((k:Nat):Int) < 0
 ·lia
 ·rw[Axy h];lia
theorem Ub:insD (xs.map f) i (f y)=(insD xs i y).map f:=by
 unfold insD;simp
theorem Ua:(insD xs i y).length=xs.length+1:=by
 unfold insD;simp;lia
theorem Awx:Jv [x,y,z,w] none (some 3)=[x,y,z]:=rfl
theorem Atl:(Int.natAbs 10 < 18446744073709551616)=True:=by simp
inductive Mark where
 |n (i:Int)
 |s (t:Str)
 deriving DecidableEq
structure Mk where
 a:Int
 b:Int
 c:Int
 ms:List Mark
 deriving DecidableEq
noncomputable def Mark.d:Mark->D
 |.n i=>.int i
 |.s t=>.str t
def Mk.d (x:Mk):D:=.tup [.int x.a,.int x.b,.int x.c,.tup (x.ms.map Mark.d)]
noncomputable def Mark.lt:Mark->Mark->Bool
 |.n i,.n j=>decide (i < j)
 |.n _,.s _=>true
 |.s _,.n _=>false
 |.s t,.s u=>decide (t.cps.toList < u.cps.toList)
def mlt:List Mark->List Mark->Bool
 |[],[]=>false
 |[],_::_=>true
 |_::_,[]=>false
 |x::xs,y::ys=>if x=y then mlt xs ys else x.lt y
def Mk.older (x y:Mk):Bool :=
 if x.a≠y.a then decide (x.a < y.a) else if x.b≠y.b then decide (x.b < y.b) else if x.c≠y.c then decide (x.c < y.c) else
 if x.ms=[]\/y.ms=[] then decide (x.ms≠[]/\y.ms=[]) else mlt x.ms y.ms
theorem Mark.deq (x y:Mark):deq x.d y.d=decide (x=y):=by
 cases x<;>cases y<;>simp[Mark.d,B2,Cw,Anv,An3]
theorem Mk.deq (x y:Mk):L2.ML.deq x.d y.d=decide (x=y):=by
 unfold Mk.d
 rw[Bx,Bx,Bx,Bx,D1,B2,B2,B2,Jx Mark.deq]
 obtain⟨a,b,c,ms⟩:=x
 obtain⟨a',b',c',ms'⟩:=y
 by_cases h1:a=a'<;>by_cases h2:b=b'<;>by_cases h3:c=c'<;>by_cases h4:ms=ms'<;>simp[h1,h2,h3,h4]
theorem Mark.pure (x:Mark):Bw x.d=true:=by cases x<;>simp[Mark.d,Bw]
theorem Mk.pure (x:Mk):Bw x.d=true:=by
 unfold Mk.d
 rw[Aw,An,An,An,An,C8,C8,C8,Aw,Ah Mark.pure,Bq];rfl
theorem Mark.dep (x:Mark):dep x.d=0:=by cases x<;>simp[Mark.d,B8,Dz]
theorem Mk.dep (x:Mk):L2.ML.dep x.d<=2:=by
 unfold Mk.d
 rw[Cv]
 have h:Dm (x.ms.map Mark.d)<=0:=B1 fun d hd=>by
  obtain⟨m,_,rfl⟩:=List.mem_map.mp hd
  rw[Mark.dep];exact Axu _
 have:Dm [D.int x.a,D.int x.b,D.int x.c,D.tup (x.ms.map Mark.d)]<=1:=B1 fun d hd=>by
  simp only[Ay0,Ays,or_false] at hd
  rcases hd with rfl|rfl|rfl|rfl
  ·rw[B8];lia
  ·rw[B8];lia
  ·rw[B8];lia
  ·rw[Cv];lia
 lia
theorem R6 (xs:List Mark):Bp (xs.map Mark.d)=true:=Ah Mark.pure
theorem Cd (xs:List Mk):Bp (xs.map Mk.d)=true:=Ah Mk.pure
theorem Y4 (l:List Mark):(L2.ML.dep (.tup (l.map Mark.d))<=60)=True:=by
 have h:Dm (l.map Mark.d)<=0:=B1 fun d hd=>by
  obtain⟨m,_,rfl⟩:=List.mem_map.mp hd
  rw[Mark.dep];exact Axu _
 rw[Cv];simp;lia
theorem Aon (x:Mk):(L2.ML.dep x.d<=60)=True:=by have:=Mk.dep x;simp;lia
theorem Ah3 (l:List Mark):L2.ML.deq (.tup (l.map Mark.d)) (.tup [])=decide (l=[]):=by cases l<;>simp[D1,Ae0]
theorem Aoo {x:Mk}{m:MH}{Q:D->Prop}:W (oIx x.d (.int 0) m) Q=Q (.int x.a):=by unfold Mk.d;rw[Hn,Xk]
theorem Aop {x:Mk}{m:MH}{Q:D->Prop}:W (oIx x.d (.int 1) m) Q=Q (.int x.b):=by unfold Mk.d;rw[Hn,Rj]
theorem Aoq {x:Mk}{m:MH}{Q:D->Prop}:W (oIx x.d (.int 2) m) Q=Q (.int x.c):=by unfold Mk.d;rw[Hn,Ag0]
theorem Aor {x:Mk}{m:MH}{Q:D->Prop}:W (oIx x.d (.int 3) m) Q=Q (.tup (x.ms.map Mark.d)):=by unfold Mk.d;rw[Hn,Al6]
theorem Ano:Ro []=some []:=rfl
noncomputable def Mark.rk:Mark->D
 |.n i=>.tup [.int 0,.int i,.str (Str.ofString "")]
 |.s t=>.tup [.int 1,.int 0,.str t]
def Mk.rk (x:Mk):D:=.tup [.int x.a,.int x.b,.int x.c,.int (if x.ms=[] then 1 else 0),.tup (x.ms.map Mark.rk)]
theorem Mark.rk_deq (x y:Mark):L2.ML.deq x.rk y.rk=decide (x=y):=by
 cases x<;>cases y<;>simp[Mark.rk,Bx,D1,B2,Cw,Bak]
theorem J7:ltD (.int i) (.int j)=some (decide (i < j)):=by rw[ltD]
theorem J8:ltD (.tup xs) (.tup ys)=Ef xs ys:=by rw[ltD]
theorem Mark.rk_lt (x y:Mark) (h:x≠y):ltD x.rk y.rk=some (x.lt y):=by
 cases x with
 |n i=>cases y with
  |n j =>
   have hij:i≠j:=fun e=>h (by rw[e])
   simp[Mark.rk,Mark.lt,ltD,Ef,B2,hij]
  |s t=>simp[Mark.rk,Mark.lt,ltD,Ef,B2]
 |s t=>cases y with
  |n j=>simp[Mark.rk,Mark.lt,ltD,Ef,B2]
  |s u =>
   have hij:t≠u:=fun e=>h (by rw[e])
   simp[Mark.rk,Mark.lt,ltD,Ef,B2,Cw,hij]
theorem Af6:∀ xs ys:List Mark,Ef (xs.map Mark.rk) (ys.map Mark.rk)=some (mlt xs ys)
 |[],[]=>by simp[Ef,mlt]
 |[],y::ys=>by simp[Ef,mlt]
 |x::xs,[]=>by simp[Ef,mlt]
 |x::xs,y::ys=>by
  rw[Axs,Axs,Ef,Mark.rk_deq,mlt]
  by_cases e:x=y
  ·rw[Axv (by simpa using e),Axv e];exact Af6 xs ys
  ·rw[Axy (by simpa using e),Axy e];exact Mark.rk_lt x y e
theorem Nx:∀ xs:List Mark,mlt xs xs=false
 |[]=>rfl
 |x::xs=>by rw[mlt,Axv rfl];exact Nx xs
theorem Mk.rk_lt (x y:Mk):ltD x.rk y.rk=some (x.older y):=by
 obtain⟨a,b,c,ms⟩:=x
 obtain⟨a',b',c',ms'⟩:=y
 unfold Mk.rk Mk.older
 simp only
 rw[J8,Ef,B2]
 by_cases h1:a=a'
 ·subst h1
  rw[Axv (by simp),Ef,B2,Axy (show ¬ (a≠a) by simp)]
  by_cases h2:b=b'
  ·subst h2
   rw[Axv (by simp),Ef,B2,Axy (show ¬ (b≠b) by simp)]
   by_cases h3:c=c'
   ·subst h3
    rw[Axv (by simp),Ef,B2,Axy (show ¬ (c≠c) by simp)]
    by_cases h4:ms=[]
    ·subst h4
     by_cases h5:ms'=[]
     ·subst h5
      simp[Ef,D1]
     ·simp[h5,J7]
    ·by_cases h5:ms'=[]
     ·subst h5
      simp[h4,J7]
     ·rw[Axy (show ¬ (ms=[]\/ms'=[]) by rw[not_or];exact⟨h4,h5⟩),Axv (by simp[h4,h5]),Ef,Jx Mark.rk_deq]
      by_cases h6:ms=ms'
      ·subst h6;rw[Axv (by simp),Ef,Nx]
      ·rw[Axy (by simpa using h6),J8];exact Af6 _ _
   ·rw[Axy (by simpa using h3),Axv (show c≠c' from h3),J7]
  ·rw[Axy (by simpa using h2),Axv (show b≠b' from h2),J7]
 ·rw[Axy (by simpa using h1),Axv (show a≠a' from h1),J7]
theorem Mark.rk_pure (x:Mark):Bw x.rk=true:=by cases x<;>simp[Mark.rk,Bw,Bp]
theorem Mk.rk_pure (x:Mk):Bw x.rk=true:=by
 unfold Mk.rk
 rw[Aw,An,An,An,An,An,C8,C8,C8,C8,Aw,Ah Mark.rk_pure,Bq];rfl
theorem Mark.rk_dep (x:Mark):L2.ML.dep x.rk<=1:=by
 cases x<;>(unfold Mark.rk;rw[Cv];simp[Dm,B8,Dz])
theorem Mk.rk_dep (x:Mk):L2.ML.dep x.rk<=3:=by
 unfold Mk.rk
 rw[Cv]
 have h:Dm (x.ms.map Mark.rk)<=1:=B1 fun d hd=>by
  obtain⟨m,_,rfl⟩:=List.mem_map.mp hd
  exact Mark.rk_dep m
 have:Dm [D.int x.a,D.int x.b,D.int x.c,D.int (if x.ms=[] then 1 else 0),D.tup (x.ms.map Mark.rk)]<=2:=B1 fun d hd=>by
  simp only[Ay0,Ays,or_false] at hd
  rcases hd with rfl|rfl|rfl|rfl|rfl
  ·rw[B8];lia
  ·rw[B8];lia
  ·rw[B8];lia
  ·rw[B8];lia
  ·rw[Cv];lia
 lia
theorem Vv (l r:List Nat) (h:l≠r):decide (l < r)=!decide (r < l):=by
 by_cases h1:l < r
 ·have h2:¬ r < l:=List.lt_asymm h1
  simp[h1,h2]
 ·have h2:r < l:=by
   rcases Classical.em (r < l) with h3|h3
   ·exact h3
   ·exact absurd (List.le_antisymm (List.not_lt.mp h3) (List.not_lt.mp h1)) h
  simp[h1,h2]
theorem Alk {t u:Str} (h:t.cps.toList=u.cps.toList):t=u:=by
 obtain⟨⟨a⟩⟩:=t
 obtain⟨⟨b⟩⟩:=u
 simp at h
 rw[h]
theorem Mark.self (x:Mark):x.lt x=false:=by
 cases x with
 |n i=>simp[Mark.lt]
 |s t=>simp[Mark.lt,List.lt_irrefl]
theorem Mark.tri {x y:Mark} (h:x≠y):x.lt y=!y.lt x:=by
 cases x with
 |n i=>cases y with
  |n j =>
   have:i≠j:=fun e=>h (by rw[e])
   simp only[Mark.lt]
   by_cases h1:i < j
   ·simp[h1,show ¬ j < i by lia]
   ·simp[h1,show j < i by lia]
  |s t=>rfl
 |s t=>cases y with
  |n j=>rfl
  |s u=>exact Vv _ _ fun e=>h (by rw[Alk e])
theorem Mark.trans {x y z:Mark} (h1:x.lt y=true) (h2:y.lt z=true):x.lt z=true:=by
 cases x with
 |n i=>cases y with
  |n j=>cases z with
   |n k=>simp[Mark.lt] at *;lia
   |s t=>rfl
  |s t=>cases z with
   |n k=>exact Dq h2
   |s u=>rfl
 |s t=>cases y with
  |n j=>exact Dq h1
  |s u=>cases z with
   |n k=>exact Dq h2
   |s v=>simp[Mark.lt] at *;exact List.lt_trans h1 h2
theorem Y6:∀ {xs ys:List Mark},xs≠ys->mlt xs ys=!mlt ys xs
 |[],[],h=>absurd rfl h
 |[],_::_,_=>rfl
 |_::_,[],_=>rfl
 |x::xs,y::ys,h=>by
  rw[mlt,mlt]
  by_cases e:x=y
  ·subst e
   rw[Axv rfl,Axv rfl]
   exact Y6 fun z=>h (by rw[z])
  ·rw[Axy e,Axy fun z=>e z.symm]
   exact Mark.tri e
theorem Pq:∀ {xs ys zs:List Mark},mlt xs ys=true->mlt ys zs=true->mlt xs zs=true
 |[],[],_,h,_=>by exact Dq h
 |[],_::_,[],_,h=>by exact Dq h
 |[],_::_,_::_,_,_=>rfl
 |_::_,[],_,h,_=>by exact Dq h
 |_::_,_::_,[],_,h=>by exact Dq h
 |x::xs,y::ys,z::zs,h1,h2=>by
  rw[mlt] at h1 h2 ⊢
  by_cases e1:x=y
  ·subst e1
   rw[Axv rfl] at h1
   by_cases e2:x=z
   ·rw[Axv e2] at h2 ⊢
    exact Pq h1 h2
   ·rw[Axy e2] at h2 ⊢
    exact h2
  ·rw[Axy e1] at h1
   by_cases e2:y=z
   ·subst e2
    rw[Axy e1]
    exact h1
   ·rw[Axy e2] at h2
    have h3:=Mark.trans h1 h2
    by_cases e3:x=z
    ·subst e3
     rw[Mark.self] at h3
     exact Dq h3
    ·rw[Axy e3];exact h3
theorem Hs (x:Mk):x.older x=false:=by
 unfold Mk.older
 rw[Axy (by simp),Axy (by simp),Axy (by simp)]
 split
 ·simp
 ·exact Nx _
theorem Py {x y:Mk}:x.older y=true ↔ x.a < y.a\/x.a=y.a/\(x.b < y.b\/x.b=y.b/\(x.c < y.c\/x.c=y.c/\(x.ms≠[]/\(y.ms=[]\/mlt x.ms y.ms=true)))):=by
 obtain⟨a,b,c,ms⟩:=x
 obtain⟨a',b',c',ms'⟩:=y
 unfold Mk.older
 simp only
 by_cases h1:a=a'
 ·subst h1
  rw[Axy (by simp)]
  by_cases h2:b=b'
  ·subst h2
   rw[Axy (by simp)]
   by_cases h3:c=c'
   ·subst h3
    rw[Axy (by simp)]
    simp only[Int.lt_irrefl,false_or,true_and]
    by_cases h4:ms=[]\/ms'=[]
    ·rw[Axv h4,Ay4]
     constructor
     ·exact fun h=>⟨h.1,.inl h.2⟩
     ·rintro ⟨h5,h6⟩
      exact⟨h5,h4.resolve_left h5⟩
    ·rw[Axy h4]
     rw[not_or] at h4
     exact⟨fun h=>⟨h4.1,.inr h⟩,fun h=>h.2.resolve_left h4.2⟩
   ·rw[Axv (by simpa using h3)]
    simp[h3]
  ·rw[Axv (by simpa using h2)]
   simp[h2]
 ·rw[Axv (by simpa using h1)]
  simp[h1]
theorem Cp {x y z:Mk} (h1:x.older y=true) (h2:y.older z=true):x.older z=true:=by
 rw[Py] at *
 rcases h1 with h1|⟨ha,h1|⟨hb,h1|⟨hc,hm,h1⟩⟩⟩
 ·rcases h2 with h2|⟨ha',_⟩
  ·exact .inl (by lia)
  ·exact .inl (by lia)
 ·rcases h2 with h2|⟨ha',h2|⟨hb',_⟩⟩
  ·exact .inl (by lia)
  ·exact .inr ⟨by lia,.inl (by lia)⟩
  ·exact .inr ⟨by lia,.inl (by lia)⟩
 ·rcases h2 with h2|⟨ha',h2|⟨hb',h2|⟨hc',_⟩⟩⟩
  ·exact .inl (by lia)
  ·exact .inr ⟨by lia,.inl (by lia)⟩
  ·exact .inr ⟨by lia,.inr ⟨by lia,.inl (by lia)⟩⟩
  ·exact .inr ⟨by lia,.inr ⟨by lia,.inl (by lia)⟩⟩
 ·rcases h2 with h2|⟨ha',h2|⟨hb',h2|⟨hc',hm',h2⟩⟩⟩
  ·exact .inl (by lia)
  ·exact .inr ⟨by lia,.inl (by lia)⟩
  ·exact .inr ⟨by lia,.inr ⟨by lia,.inl (by lia)⟩⟩
  ·refine .inr ⟨by lia,.inr ⟨by lia,.inr ⟨by lia,hm,?_⟩⟩⟩
   rcases h1 with h1|h1
   ·exact absurd h1 hm'
   ·rcases h2 with h2|h2
    ·exact .inl h2
    ·exact .inr (Pq h1 h2)
theorem Lf {x y:Mk} (h:x.older y=true):y.older x=false:=by
 cases e:y.older x with
 |false=>rfl
 |true =>
  have h2:=Cp h e
  rw[Hs] at h2
  exact Dq h2
theorem Lh {x y:Mk} (h:x≠y):x.older y=!y.older x:=by
 cases e:y.older x with
 |true=>exact Lf e
 |false =>
  show x.older y=true
  have e':¬ y.older x=true:=by rw[e];decide
  rw[Py] at e' ⊢
  by_cases ha:x.a=y.a
  ·by_cases hb:x.b=y.b
   ·by_cases hc:x.c=y.c
    ·have hm:x.ms≠y.ms:=fun z=>h (by cases x;cases y;simp at *;exact⟨ha,hb,hc,z⟩)
     refine .inr ⟨ha,.inr ⟨hb,.inr ⟨hc,?_⟩⟩⟩
     have e2:¬ (y.ms≠[]/\(x.ms=[]\/mlt y.ms x.ms=true)):=fun z=>e' (.inr ⟨ha.symm,.inr ⟨hb.symm,.inr ⟨hc.symm,z⟩⟩⟩)
     by_cases h4:y.ms=[]
     ·exact⟨fun z=>hm (by rw[z,h4]),.inl h4⟩
     ·have e3:¬ (x.ms=[]\/mlt y.ms x.ms=true):=fun z=>e2 ⟨h4,z⟩
      rw[not_or] at e3
      refine⟨e3.1,.inr ?_⟩
      rw[Y6 hm]
      cases q:mlt y.ms x.ms with
      |true=>exact absurd q e3.2
      |false=>rfl
    ·rcases Int.lt_or_gt_of_ne hc with h5|h5
     ·exact .inr ⟨ha,.inr ⟨hb,.inl h5⟩⟩
     ·exact absurd (.inr ⟨ha.symm,.inr ⟨hb.symm,.inl h5⟩⟩) e'
   ·rcases Int.lt_or_gt_of_ne hb with h5|h5
    ·exact .inr ⟨ha,.inl h5⟩
    ·exact absurd (.inr ⟨ha.symm,.inl h5⟩) e'
  ·rcases Int.lt_or_gt_of_ne ha with h5|h5
   ·exact .inl h5
   ·exact absurd (.inl h5) e'
def Au8 (Q:List D->Prop) (d:D):Prop:=∃ es,d=.lst es/\Bp es=true/\Q es
theorem Aok (h:Bp es=true):Au8 Q (.lst es)=Q es:=by
 apply Az7
 constructor
 ·rintro ⟨fs,e,_,q⟩;cases e;exact q
 ·exact fun q=>⟨es,rfl,h,q⟩
theorem Ag1:W (Gc n fn ds m) Q=W (Dj m ds) fun ds'=>ds'.length=n/\W (fn ds') (Au8 Q):=by
 unfold Gc
 rw[W_bind,Xl]
 congr 1;funext ds'
 apply Az7
 refine⟨fun⟨h1,h2⟩=>⟨h1,h2.imp fun d h=>?_⟩,fun⟨h1,h2⟩=>⟨h1,h2.imp fun d h=>?_⟩⟩
 ·cases d with
  |lst es =>
   simp only at h
   rw[H9] at h
   exact⟨es,rfl,h.1,h.2⟩
  |_=>rw[A2] at h;exact h.elim
 ·obtain⟨es,rfl,h1,h2⟩:=h
  simp only
  rw[H9]
  exact⟨h1,h2⟩
def Y2 (I:Nat->Bg->MH->Prop) (k:Nat) (Q:Out->Prop):Out->Prop
 |.nx e m=>∃ j,j < k/\I j e m
 |.ct e m=>∃ j,j < k/\I j e m
 |.bk e m=>Q (.nx e m)
 |.rt d m=>Q (.rt d m)
theorem Ac0:Y2 I k Q (.nx e m)=∃ j,j < k/\I j e m:=rfl
theorem Acz:Y2 I k Q (.ct e m)=∃ j,j < k/\I j e m:=rfl
theorem Acy:Y2 I k Q (.bk e m)=Q (.nx e m):=rfl
theorem Ac1 {d:D}:Y2 I k Q (.rt d m)=Q (.rt d m):=rfl
theorem Rl (I:Nat->Bg->MH->Prop) (hs:∀ k e m,I k e m->W (c e m) (cK (W (b e m) (Y2 I k Q)) (Q (.nx e m)))):∀ {n k:Nat}{e:Bg}{m:MH},k < n->I k e m->W (Gj c b n e m) Q
 |0,_,_,_,h,_=>absurd h (Azr _)
 |n+1,k,e,m,h,hi=>by
  rw[Gj,W_bind]
  refine (hs k e m hi).imp fun t ht=>?_
  cases t with
  |false=>rw[Jb] at ht;rw[Axy (by decide),Ad];exact ht
  |true =>
   rw[Nk] at ht
   rw[Axv rfl,W_bind]
   refine ht.imp fun o ho=>?_
   cases o with
   |nx e m=>obtain⟨j,hj,hi⟩:=ho;exact Rl I hs (by lia) hi
   |ct e m=>obtain⟨j,hj,hi⟩:=ho;exact Rl I hs (by lia) hi
   |bk e m=>simp only;rw[Ad];exact ho
   |rt d m=>simp only;rw[Ad];exact ho
def Aq5 (ds:List D) (Q:Wk->Prop):Prop:=W (match ds with
 |[.int i,.int j,.int k]=>if 0<=i/\i < 1000000000/\0<=j/\j < 1000000000/\0 < k/\k < 1000000 then some ⟨(List.range (Th i j k)).map fun (q:Nat)=>.int (i+q * k),B0⟩ else none
 |_=>none) Q
theorem Ahw:W (Ael g env m) Q=W (g env m) fun ds=>Aq5 ds Q:=W_bind
theorem Aq6:Aq5 [.int i,.int j,.int k] Q=((0<=i/\i < 1000000000/\0<=j/\j < 1000000000/\0 < k/\k < 1000000)/\Q ⟨(List.range (Th i j k)).map fun (q:Nat)=>.int (i+q * k),B0⟩):=H9
theorem Abt:W (Ui (.bl b) (.bl c) m) Q=Q (.bl (b != c)):=Ad
theorem Zc (xs:List Mk):Be (xs.map Mk.d)=true:=Bj (Cd xs)
theorem X2 {α β:Type}{f:α->β}{xs:List α}{lo hi:Option Int}:Jv (xs.map f) lo hi=(Jv xs lo hi).map f:=by
 unfold Jv;rw[Axq,List.map_take,List.map_drop]
def oD:Option Mk->D
 |none=>.non
 |some h=>h.d
abbrev Pc:=Mk×Option Mk
def pD (p:Pc):D:=.tup [p.1.d,oD p.2]
theorem Zf (o:Option Mk):Bw (oD o)=true:=by
 cases o with
 |none=>exact Pu
 |some x=>exact x.pure
theorem Zu (p:Pc):Bw (pD p)=true:=by unfold pD;rw[Aw,An,An,Bq,p.1.pure,Zf];rfl
theorem Ji (ps:List Pc):Bp (ps.map pD)=true:=Ah Zu
theorem Aoz (o:Option Mk):dep (oD o)<=2:=by
 cases o with
 |none=>show dep .non<=2;rw[X4];lia
 |some x=>exact x.dep
theorem Aps (p:Pc):dep (pD p)<=3:=by
 unfold pD
 rw[Cv]
 have:Dm [p.1.d,oD p.2]<=2:=B1 fun d hd=>by
  simp only[Ay0,Ays,or_false] at hd
  rcases hd with rfl|rfl
  ·exact p.1.dep
  ·exact Aoz p.2
 lia
theorem Ajo (ps:List Pc):dep (.tup (ps.map pD))<=4:=by
 rw[Cv]
 have:Dm (ps.map pD)<=3:=B1 fun d hd=>by
  obtain⟨p,_,rfl⟩:=List.mem_map.mp hd
  exact Aps p
 lia
theorem Anx {x:Mk}:deq x.d .non=false:=An4
theorem An0 {x:Mk}:deq .non x.d=false:=An2
theorem Afk (x y:Option Mk):deq (oD x) (oD y)=decide (x=y):=by
 cases x with
 |none=>cases y with
  |none=>simp[oD,An1]
  |some y=>simp[oD,An0]
 |some x=>cases y with
  |none=>simp[oD,Anx]
  |some y=>simp[oD,Mk.deq]
theorem Aft (x y:Pc):deq (pD x) (pD y)=decide (x=y):=by
 unfold pD
 rw[Bx,Bx,D1,Mk.deq,Afk]
 obtain⟨a,b⟩:=x
 obtain⟨c,d⟩:=y
 by_cases h1:a=c<;>by_cases h2:b=d<;>simp[h1,h2]
theorem Zv (x y:List Pc):deq (.tup (x.map pD)) (.tup (y.map pD))=decide (x=y):=Jx Aft x y
theorem Apy:W (oIx (pD p) (.int 0) m) Q=Q p.1.d:=by unfold pD;rw[Hn,Xk]
theorem Apz:W (oIx (pD p) (.int 1) m) Q=Q (oD p.2):=by unfold pD;rw[Hn,Rj]
theorem Ap0:W (G6 2 g (pD p) env) Q=W (g [p.1.d,oD p.2] env) Q:=by
 unfold pD;rw[Aep];simp
theorem Ao0:W (R7 (oD o) m) Q=Q (.bl o.isNone):=by cases o<;>exact Ad
noncomputable def D8:List Mk->List Pc
 |[]=>[]
 |[x]=>[(x,none)]
 |x::y::r=>(x,some y)::D8 r
theorem Ht:∀ ys:List Mk,(D8 ys).length=(ys.length+1) / 2
 |[]=>rfl
 |[x]=>by simp[D8]
 |x::y::r=>by rw[D8,Ax1,Ht r,Ax1,Ax1];lia
theorem M0:∀ (ys:List Mk) (k:Nat) (h:2 * k < ys.length),(D8 ys)[k]?=some (ys[2 * k],ys[2 * k+1]?)
 |[],_,h=>absurd h (Azr _)
 |[x],0,_=>rfl
 |[x],k+1,h=>by simp at h<;>lia
 |x::y::r,0,_=>rfl
 |x::y::r,k+1,h=>by
  have h':2 * k < r.length:=by simp at h;lia
  rw[D8,Ay1,M0 r k h']
  rfl
theorem Hu:∀ {ys:List Mk}{p:Pc},p∈D8 ys->p.1∈ys/\∀ h,p.2=some h->h∈ys
 |[x],p,h=>by simp[D8] at h;subst h;exact⟨Axn ..,fun h e=>by cases e⟩
 |x::y::r,p,h=>by
  rw[D8] at h
  rcases List.mem_cons.mp h with rfl|h
  ·exact⟨by simp,fun h e=>by cases e;simp⟩
  ·obtain⟨h1,h2⟩:=Hu h
   exact⟨by simp[h1],fun z e=>by have:=h2 z e;simp[this]⟩
def inP (m:Mk) (p:Pc):Bool:=!m.older p.1&&match p.2 with|none=>true|some h=>m.older h
open Classical
noncomputable section
theorem Amm:W (Abg [.bl b] m) Q=Q (.int (if b then 1 else 0)):=Ad
end
end ML
end L2
end S_EH3
section S_MM7
namespace L2
namespace ML
open PySem
theorem mp1 {a:D}{l:Bg}:List.map some [a]++l=some a::l:=rfl
theorem mp2 {a b:D}{l:Bg}:List.map some [a,b]++l=some a::some b::l:=rfl
theorem mp3 {a b c:D}{l:Bg}:List.map some [a,b,c]++l=some a::some b::some c::l:=rfl
theorem ln1 {a:D}:[a].length=1:=rfl
theorem ln2 {a b:D}:[a,b].length=2:=rfl
theorem ln3 {a b c:D}:[a,b,c].length=3:=rfl
theorem Atp {p q:Prop}{b:Bool} (h:b=true):cK p q b=p:=by rw[h,Nk]
theorem Ato {p q:Prop}{b:Bool} (h:b=false):cK p q b=q:=by rw[h,Jb]
end ML
end L2
end S_MM7
section S_MM8
namespace L2
namespace ML
open PySem
variable {m:MH}
theorem Asi {n:Nat}{fn:List D->Option D}{ds:List D}{Q:D->Prop}:W (Ie n fn ds m) Q=W (Dl m ds) fun ds'=>ds'.length=n/\W (fn ds') Q:=by
 unfold Ie
 rw[W_bind];congr 1;funext z
 by_cases h:z.length=n
 ·rw[Axv h];simp[h]
 ·rw[Axy h,A2];simp[h]
theorem Ang {Q:List D->Prop}:W (Dl m []) Q=Q []:=Ad
theorem Anf {d:D}{ds:List D}{Q:List D->Prop}:W (Dl m (d::ds)) Q=W (Oq m d) fun d'=>W (Dl m ds) fun ds'=>Q (d'::ds'):=by
 rw[Dl,W_bind];congr 1;funext x;rw[W_bind];congr 1;funext y;exact Ad
theorem Atf {ds:List D}{Q:D->Prop}:W (Oq m (.tup ds)) Q=W (C1 m (.tup ds)) Q:=rfl
theorem Ate {ks:List Str}{vs:List D}{Q:D->Prop}:W (Oq m (.dks ks vs)) Q=(Be vs=true/\Q (.dks ks vs)):=H9
theorem Awt {n:Nat}{Q:D->Prop}:W (Oq m (.ref n)) Q=W (C1 m (.ref n)) Q:=rfl
theorem Asu {x:Str}{ks:List Str}{vs:List D}{Q:D->Prop}:W (Aje (.str x) (.dks ks vs) m) Q=Q (.bl (decide (x∈ks))):=Ad
theorem Amw {x:Str}{ks:List Str}{vs:List D}{Q:D->Prop}:W (R9 (.str x) (.dks ks vs) m) Q=Q (.bl (!decide (x∈ks))):=Ad
theorem Amk {x:Str}{ks:List Str}{vs:List D}{Q:D->Prop}:W (Zg (.dks ks vs) (.str x) m) Q=W (Ace ks vs x) Q:=rfl
theorem Ag4 {ds:List D}{Q:D->Prop}:W (Ld [.tup ds] m) Q=W (Il ds) fun ps=>Q (.dks (O8 ps).1 (O8 ps).2):=by
 show W ((Il ds).bind _) Q=_
 rw[W_bind];congr 1;funext ps;exact Ad
theorem Ab9 {α:Type} (k:α->Str) (v:α->D) {xs:List α} (h:(xs.map k).Nodup):O8 (xs.map fun x=>(k x,v x))=(xs.map k,xs.map v):=by
 have go:∀ (ys xs:List α),((xs++ys).map k).Nodup->(ys.map fun x=>(k x,v x)).foldl (fun a p=>Aad a.1 a.2 p.1 p.2) (xs.map k,xs.map v)=((xs++ys).map k,(xs++ys).map v):=by
  intro ys
  induction ys with
  |nil=>intro xs _;simp
  |cons y ys ih =>
   intro xs h
   have hy:k y∉xs.map k:=fun hm=>by
    rw[Ayc,List.nodup_append] at h
    exact h.2.2 _ hm _ (by simp) rfl
   have e:Aad (xs.map k) (xs.map v) (k y) (v y)=((xs++[y]).map k,(xs++[y]).map v):=by
    unfold Aad;rw[Axy hy];simp
   rw[Axs,List.foldl_cons]
   show (ys.map fun x=>(k x,v x)).foldl _ (Aad (xs.map k) (xs.map v) (k y) (v y))=_
   rw[e,ih (xs++[y]) (by simpa using h)]
   simp
 have:=go xs [] (by simpa using h)
 simpa [O8] using this
theorem V2 {α:Type} (k:α->Str) (v:α->D) (xs:List α):Il (xs.map fun x=>.tup [.str (k x),v x])=some (xs.map fun x=>(k x,v x)):=by
 induction xs with
 |nil=>rfl
 |cons x xs ih=>rw[Axs,Il,ih];rfl
theorem T6 {α:Type} (k:α->Str) (v:α->D) (xs:List α) (t:Str):Ace (xs.map k) (xs.map v) t=(xs.find? fun x=>k x=t).map v:=by
 induction xs with
 |nil=>rfl
 |cons x xs ih =>
  rw[Axs,Axs,Ace,Azt]
  by_cases h:k x=t
  ·simp[h]
  ·simp[h,ih]
theorem Nw {α:Type} (k:α->Str) (xs:List α) (t:Str):decide (t∈xs.map k)=(xs.find? fun x=>k x=t).isSome:=by
 rw[Azc,Ay4,List.find?_isSome,List.mem_map]
 simp
end ML
end L2
end S_MM8
section S_MS1
namespace L2
namespace ML
open PyProof.Rows PySem.W
def Sat {α:Type} (c:Nat->Nat->Option Bool) (t:KasT α) (Q:α->Prop):Prop:=∃ a,evO c t=some a/\Q a
theorem Sat.ret (h:Q a):Sat c (.ret a) Q:=⟨a,rfl,h⟩
theorem Sat.ask (h1:c i j=some b) (h2:Sat c (k b) Q):Sat c (.ask i j k) Q:=by
 obtain⟨a,e,q⟩:=h2
 exact⟨a,by rw[evO,h1];exact e,q⟩
theorem T1:∀ t:KasT α,evO c (t.bind f)=(evO c t).bind fun a=>evO c (f a)
 |.ret a=>rfl
 |.ask i j k=>by
  show (c i j).bind (fun b=>evO c ((k b).bind f))=((c i j).bind fun b=>evO c (k b)).bind _
  cases c i j with
  |none=>rfl
  |some b=>exact T1 (k b)
theorem Sat.bind {t:KasT α} (h:Sat c t fun a=>Sat c (f a) Q):Sat c (t.bind f) Q:=by
 obtain⟨a,e,b,e2,q⟩:=h
 exact⟨b,by rw[T1,e];exact e2,q⟩
def PermN (n:Nat) (p:Array Nat):Prop:=p.Perm (List.range n).toArray
theorem PermN.size (h:PermN n p):p.size=n:=by have:=Array.Perm.size_eq h;simpa using this
theorem PermN.lt (h:PermN n p) (hn:0 < n) (i:Nat):p.getD i 0 < n:=by
 by_cases hi:i < p.size
 ·have h1:p[i]∈p.toList:=by simp
  have h2:=(Array.perm_iff_toList_perm.mp h).mem_iff.mp h1
  have h3:p[i] < n:=by simpa using h2
  simpa [Array.getD,hi] using h3
 ·simpa [Array.getD,hi] using hn
section
variable {O:KeyOrd} (key:Nat->O.α)
noncomputable def KA (p:Array Nat) (i:Nat):O.α:=key (p.getD i 0)
def Srt (p:Array Nat) (k:Nat):Prop:=∀ i j,i<=j->j < k->O.kle (KA key p i) (KA key p j)
def Nin (p:Array Nat) (k:Nat):Prop:=∀ i j,i<=j->j < k->O.kle (KA key p j) (KA key p i)
end
section
variable {O:KeyOrd}{key:Nat->O.α}{n:Nat}{c:Nat->Nat->Option Bool}{p:Array Nat}
theorem G3 (h:p[i]?=r[j]?):KA key p i=KA key r j:=by
 unfold KA
 rw[Array.getD_eq_getD_getElem?,Array.getD_eq_getD_getElem?,h]
theorem Xj (hj:j<=p.size) (k:Nat):KA key (kas_rev p i j) k=if i<=k/\k < j then KA key p (i+j - 1 - k) else KA key p k:=by
 have e:=getElem?_mirror_all (i:=i) hj k
 unfold kas_rev
 by_cases q:i<=k/\k < j
 ·rw[Axv q] at e;rw[Axv q];exact G3 e
 ·rw[Axy q] at e;rw[Axy q];exact G3 e
theorem Nh (hj:j<=p.size) (he:∀ k,i<=k->k < j->KA key p k=KA key p (j - 1)) (k:Nat):KA key (kas_rev p i j) k=KA key p k:=by
 rw[Xj hj]
 by_cases q:i<=k/\k < j
 ·rw[Axv q,he _ (by lia) (by lia),he k q.1 q.2]
 ·rw[Axy q]
theorem Aen {src d:Nat} (hs:src < p.size) (hd:d<=src) (k:Nat):KA key (bubble p src d) k=if k=src - d then KA key p src else if src - d < k/\k<=src then KA key p (k - 1) else KA key p k:=by
 have e:=getElem?_bubble hs d hd k
 by_cases q:k=src - d
 ·rw[Axv q] at e;rw[Axv q];exact G3 e
 ·rw[Axy q] at e;rw[Axy q]
  by_cases q2:src - d < k/\k<=src
  ·rw[Axv q2] at e;rw[Axv q2];exact G3 e
  ·rw[Axy q2] at e;rw[Axy q2];exact G3 e
theorem PermN.rev (h:PermN n p) (i j:Nat):PermN n (kas_rev p i j):=(mirror_perm _ _ _ _).trans h
theorem PermN.bub (h:PermN n p) (i j:Nat):PermN n (bubble p i j):=(bubble_perm _ _ _).trans h
theorem Oz (hc:∀ i j,i < n->j < n->c i j=some (O.blt (key i) (key j))) (hn:0 < n) (hp:PermN n p) (i j:Nat) (h:Sat c (k (O.blt (KA key p i) (KA key p j))) Q):Sat c (.ask (p.getD i 0) (p.getD j 0) k) Q :=
 Sat.ask (hc _ _ (hp.lt hn i) (hp.lt hn j)) h
theorem Ali:Srt key p 1:=fun i j hij hj=>by
 have:i=j:=by lia
 subst this;exact Az9 _
theorem Aeb (hs:Srt key p a) (h1:1<=a) (h:O.kle (KA key p (a - 1)) (KA key p a)):Srt key p (a+1):=fun i j hij hj=>by
 by_cases q:j < a
 ·exact hs i j hij q
 ·have:j=a:=by lia
  subst this
  by_cases q2:i=j
  ·subst q2;exact Az9 _
  ·exact KeyOrd.kle_trans (hs i (j - 1) (by lia) (by lia)) h
theorem Jh (hs:Nin key p a) (h1:1<=a) (h:O.kle (KA key p a) (KA key p (a - 1))):Nin key p (a+1):=fun i j hij hj=>by
 by_cases q:j < a
 ·exact hs i j hij q
 ·have:j=a:=by lia
  subst this
  by_cases q2:i=j
  ·subst q2;exact Az9 _
  ·exact KeyOrd.kle_trans h (hs i (j - 1) (by lia) (by lia))
theorem Zb (h:Nin key p a) (e:∀ k,KA key r k=KA key p k):Nin key r a:=fun i j hij hj=>by rw[e,e];exact h i j hij hj
theorem Rn (hc:∀ i j,i < n->j < n->c i j=some (O.blt (key i) (key j))) (hn:0 < n) (hp:PermN n p):∀ (f a:Nat),1<=a->Srt key p a ->
  (∀ m,a<=m->m<=a+f->Srt key p m->(m=a+f\/O.klt (KA key p m) (KA key p (m - 1)))->Q m)->Sat c (kas_asc p f a) Q
 |0,a,h1,hs,h=>Sat.ret (h a (Axu _) (Axu _) hs (.inl rfl))
 |f+1,a,h1,hs,h=>by
  rw[kas_asc]
  refine Oz hc hn hp a (a - 1) ?_
  cases e:O.blt (KA key p a) (KA key p (a - 1)) with
  |true=>exact Sat.ret (h a (Axu _) (by lia) hs (.inr e))
  |false =>
   rw[Axy (by decide)]
   refine Rn hc hn hp f (a+1) (by lia) (Aeb hs h1 e) fun m m1 m2 m3 m4=>h m (by lia) (by lia) m3 ?_
   rcases m4 with m4|m4
   ·exact .inl (by lia)
   ·exact .inr m4
theorem Jd (hc:∀ i j,i < n->j < n->c i j=some (O.blt (key i) (key j))) (hn:0 < n) (hz:z<=n) (h:∀ p m q,PermN n p->1<=m->m<=z->Nin key p m->q+1<=m->(∀ i,m - (q+1)<=i->i < m->KA key p i=KA key p (m - 1))->Q (p,m,q)):∀ (f:Nat) {p:Array Nat}{x q:Nat},PermN n p->x+f=z->Nin key p x->q+1<=x ->
  (∀ i,x - (q+1)<=i->i < x->KA key p i=KA key p (x - 1))->Sat c (kas_desc f p x q) Q
 |0,p,x,q,hp,hx,hs,hq,he=>Sat.ret (h p x q hp (by lia) (by lia) hs hq he)
 |f+1,p,x,q,hp,hx,hs,hq,he=>by
  rw[kas_desc]
  refine Oz hc hn hp x (x - 1) ?_
  have hsz:x<=p.size:=by rw[hp.size];lia
  cases e:O.blt (KA key p x) (KA key p (x - 1)) with
  |true =>
   rw[Axv rfl]
   have s1:=Jh hs (by lia) (KeyOrd.kle_of_klt e)
   by_cases q0:q > 0
   ·rw[Axv q0]
    refine Jd hc hn hz h f (hp.rev _ _) (by lia) (Zb s1 (Nh hsz he)) (by lia) fun i h1 h2=>?_
    have:i=x+1 - 1:=by lia
    rw[this]
   ·rw[Axy q0]
    refine Jd hc hn hz h f hp (by lia) s1 (by lia) fun i h1 h2=>?_
    have:i=x+1 - 1:=by lia
    rw[this]
  |false =>
   rw[Axy (by decide)]
   refine Oz hc hn hp (x - 1) x ?_
   cases e2:O.blt (KA key p (x - 1)) (KA key p x) with
   |true=>exact Sat.ret (h p x q hp (by lia) (by lia) hs hq he)
   |false =>
    rw[Axy (by decide)]
    have eq:KA key p x=KA key p (x - 1):=KeyOrd.kle_antisymm e2 e
    refine Jd hc hn hz h f hp (by lia) (Jh hs (by lia) e2) (by lia) fun i h1 h2=>?_
    rw[show x+1 - 1=x by lia]
    by_cases hix:i=x
    ·rw[hix]
    ·rw[eq];exact he i (by lia) (by lia)
theorem U3 (hc:∀ i j,i < n->j < n->c i j=some (O.blt (key i) (key j))) (hn:0 < n) (hz:z<=n) (h1:1<=a) (ha:a<=z) (hp:PermN n p) (hs:Nin key p a) (h:∀ m r,PermN n r->1<=m->m<=z->Srt key r m->Q (m,r)):Sat c (kas_tail3 a z p) Q:=by
 unfold kas_tail3
 have hsz:a<=p.size:=by rw[hp.size];lia
 refine Sat.bind (Rn hc hn (hp.rev 0 a) (z - a) a h1 (fun i j hij hj=>?_) fun m m1 m2 m3 _=>Sat.ret (h m _ (hp.rev 0 a) (by lia) (by lia) m3))
 rw[Xj hsz,Xj hsz,Axv (by lia),Axv (by lia)]
 exact hs _ _ (by lia) (by lia)
theorem Um (hc:∀ i j,i < n->j < n->c i j=some (O.blt (key i) (key j))) (hn:0 < n) (hz:z<=n) (ha:a+1<=z) (hp:PermN n p) (hs:Nin key p (a+1)) (h:∀ m r,PermN n r->1<=m->m<=z->Srt key r m->Q (m,r)):Sat c (kas_descPart a z p) Q:=by
 unfold kas_descPart
 refine Sat.bind (Jd (p:=p) (x:=a+1) (q:=0) hc hn hz (fun r m q hr m1 m2 m3 m4 m5=>?_) (z - (a+1)) hp (by lia) hs (by lia) fun i h1 h2=>?_)
 ·have hsz:m<=r.size:=by rw[hr.size];lia
  show Sat c (if q > 0 then _ else _) Q
  by_cases q0:q > 0
  ·rw[Axv q0]
   exact U3 hc hn hz m1 m2 (hr.rev _ _) (Zb m3 (Nh hsz m5)) h
  ·rw[Axy q0]
   exact U3 hc hn hz m1 m2 hr m3 h
 ·have:i=a+1 - 1:=by lia
  rw[this]
theorem X1 (hc:∀ i j,i < n->j < n->c i j=some (O.blt (key i) (key j))) (hz:z<=n) (h1:1<=z) (hp:PermN n p) (h:∀ m r,PermN n r->1<=m->m<=z->Srt key r m->Q (m,r)):Sat c (kas_count z p) Q:=by
 have hn:0 < n:=by lia
 unfold kas_count
 refine Sat.bind (Rn hc hn hp (z - 1) 1 (Axu _) Ali fun m m1 m2 m3 m4=>?_)
 have hsz:m<=p.size:=by rw[hp.size];lia
 by_cases q:(m == z)=true
 ·rw[Axv q];exact Sat.ret (h m p hp m1 (by lia) m3)
 ·rw[Axy q]
  have hmz:m≠z:=fun e=>q (by simp[e])
  have hlt:O.klt (KA key p m) (KA key p (m - 1)):=m4.resolve_left (by lia)
  by_cases q1:m > 1
  ·rw[Axv q1]
   refine Oz hc hn hp 0 (m - 1) ?_
   cases e:O.blt (KA key p 0) (KA key p (m - 1)) with
   |true=>rw[Axv rfl];exact Sat.ret (h m p hp m1 (by lia) m3)
   |false =>
    rw[Axy (by decide)]
    have all:∀ k,0<=k->k < m->KA key p k=KA key p (m - 1):=fun k _ hk=>KeyOrd.kle_antisymm (m3 k (m - 1) (by lia) (by lia)) (KeyOrd.kle_trans e (m3 0 k (by lia) hk))
    have flat:Nin key p m:=fun i j hij hj=>by rw[all i (by lia) (by lia),all j (by lia) hj];exact Az9 _
    exact Um hc hn hz (by lia) (hp.rev 0 m) (Zb (Jh flat m1 (KeyOrd.kle_of_klt hlt)) (Nh hsz all)) h
  ·rw[Axy q1]
   have e1:m=1:=by lia
   subst e1
   refine Um hc hn hz (by lia) hp (Jh (fun i j hij hj=>?_) (Axu _) (KeyOrd.kle_of_klt hlt)) h
   have:i=j:=by lia
   subst this;exact Az9 _
theorem Lj (hc:∀ i j,i < n->j < n->c i j=some (O.blt (key i) (key j))) (hn:0 < n) (hp:PermN n p) (hs:Srt key p k) (h:∀ l,l<=k->(∀ i,i < l->O.kle (KA key p i) (KA key p k))->(∀ i,l<=i->i < k->O.klt (KA key p k) (KA key p i))->Q l) :
  ∀ (f l r:Nat),l<=r->r<=k->r - l<=f->(∀ i,i < l->O.kle (KA key p i) (KA key p k))->(∀ i,r<=i->i < k->O.klt (KA key p k) (KA key p i))->Sat c (kas_place p k f l r) Q
 |0,l,r,h1,h2,h3,lo,hi=>by
  have e:l=r:=by lia
  subst e
  exact Sat.ret (h l h2 lo hi)
 |f+1,l,r,h1,h2,h3,lo,hi=>by
  rw[kas_place]
  by_cases q:l ≥ r
  ·rw[Axv q]
   have e:l=r:=by lia
   subst e
   exact Sat.ret (h l h2 lo hi)
  ·rw[Axy q]
   refine Oz hc hn hp k ((l+r) / 2) ?_
   cases e:O.blt (KA key p k) (KA key p ((l+r) / 2)) with
   |true =>
    rw[Axv rfl]
    exact Lj hc hn hp hs h f l ((l+r) / 2) (by lia) (by lia) (by lia) lo fun i a1 a2=>KeyOrd.klt_of_klt_of_kle e (hs _ _ a1 a2)
   |false =>
    rw[Axy (by decide)]
    exact Lj hc hn hp hs h f ((l+r) / 2+1) r (by lia) h2 (by lia) (fun i a1=>KeyOrd.kle_trans (hs i ((l+r) / 2) (by lia) (by lia)) e) hi
theorem Xw (hc:∀ i j,i < n->j < n->c i j=some (O.blt (key i) (key j))) (hn:0 < n) (h:∀ p,PermN n p->Srt key p n->Q p):∀ (f:Nat) {p:Array Nat}{k:Nat},PermN n p->k+f=n->Srt key p k->Sat c (kas_bin f p k) Q
 |0,p,k,hp,hk,hs=>by
  have e:k=n:=by lia
  subst e
  exact Sat.ret (h p hp hs)
 |f+1,p,k,hp,hk,hs=>by
  rw[kas_bin]
  refine Sat.bind (Lj hc hn hp hs (fun l hl lo hi=>?_) k 0 k (Ax9 _) (Axu _) (by lia) (fun i hi=>absurd hi (Azr _)) fun i a1 a2=>absurd a2 (by lia))
  refine Xw hc hn h f (hp.bub _ _) (by lia) fun i j hij hj=>?_
  have hks:k < p.size:=by rw[hp.size];lia
  rw[Aen hks (by lia),Aen hks (by lia),show k - (k - l)=l by lia]
  by_cases i1:i=l<;>by_cases j1:j=l
  ·rw[Axv i1,Axv j1];exact Az9 _
  ·rw[Axv i1,Axy j1,Axv (by lia)];exact KeyOrd.kle_of_klt (hi _ (by lia) (by lia))
  ·rw[Axy i1,Axv j1,Axy (by lia)];exact lo _ (by lia)
  ·rw[Axy i1,Axy j1]
   by_cases i2:l < i/\i<=k<;>by_cases j2:l < j/\j<=k
   ·rw[Axv i2,Axv j2];exact hs _ _ (by lia) (by lia)
   ·exact absurd j2 (by lia)
   ·rw[Axy i2,Axv j2];exact hs _ _ (by lia) (by lia)
   ·rw[Axy i2,Axy j2];exact hs _ _ (by lia) (by lia)
theorem Aea (hc:∀ i j,i < n->j < n->c i j=some (O.blt (key i) (key j))) (hn:0 < n):Sat c (kas_sort n) fun p=>PermN n p/\Srt key p n:=by
 unfold kas_sort
 refine Sat.bind (X1 hc (Axu _) hn (Array.Perm.refl _) fun m r hr m1 m2 m3=>?_)
 show Sat c (if m < n then kas_bin (n - max m 1) r (max m 1) else .ret r) _
 by_cases q:m < n
 ·rw[Axv q]
  exact Xw hc hn (fun p h1 h2=>⟨h1,h2⟩) _ hr (by lia) (by rw[show max m 1=m by lia];exact m3)
 ·rw[Axy q]
  have e:m=n:=by lia
  subst e
  exact Sat.ret ⟨hr,m3⟩
end
theorem Re {α:Type} [Inhabited α] {blt:α->α->Bool} (irr:∀ a,blt a a=false) (tr:∀ a b c,blt a b=true->blt b c=true->blt a c=true) (ng:∀ a b c,blt a c=true->blt a b=true\/blt b c=true) (tt:∀ a b,blt a b=false->blt b a=false->a=b)
  {c:Nat->Nat->Option Bool}{zs:List α} (hc:∀ i j (hi:i < zs.length) (hj:j < zs.length),c i j=some (blt zs[i] zs[j])) (hn:0 < zs.length) :
  ∃ p:Array Nat,evO c (kas_sort zs.length)=some p/\(p.toList.map fun i=>zs.getD i default).Perm zs/\(p.toList.map fun i=>zs.getD i default).Pairwise (fun x y=>blt y x=false)/\∀ i∈p.toList,i < zs.length:=by
 obtain⟨p,e,hp,hs⟩:=Aea (O:=⟨α,blt,irr,tr,ng,tt⟩) (key:=fun i=>zs.getD i default) (n:=zs.length) (c:=c) (fun i j hi hj=>by
  rw[hc i j hi hj]
  show some (blt zs[i] zs[j])=some (blt (zs.getD i default) (zs.getD j default))
  rw[Axp,Axp,Axz hi,Axz hj];rfl) hn
 have hl:p.toList.Perm (List.range zs.length):=Array.perm_iff_toList_perm.mp hp
 refine⟨p,e,?_,?_,fun i hi=>by simpa using hl.mem_iff.mp hi⟩
 ·have h2:=hl.map fun i=>zs.getD i default
  have e2:(List.range zs.length).map (fun i=>zs.getD i default)=zs:=by
   apply List.ext_getElem?
   intro i
   by_cases hi:i < zs.length
   ·simp[hi]
   ·simp[hi]
  rwa [e2] at h2
 ·rw[List.pairwise_iff_getElem]
  intro i j hi hj hij
  have hi':i < p.size:=by simpa using hi
  have hj':j < p.size:=by simpa using hj
  have h3:=hs i j (Azi hij) (by rw[<- hp.size];exact hj')
  have h4:blt (zs.getD (p.getD j 0) default) (zs.getD (p.getD i 0) default)=false:=h3
  simpa [Array.getD,hi',hj'] using h4
end ML
end L2
end S_MS1
section S_MP1
namespace L2
namespace ML
open PySem PySem.Spec PyProof.Rows
end ML
end L2
end S_MP1
section S_MM12
namespace L2
namespace ML
open PySem
end ML
end L2
end S_MM12
section S_MM13
namespace L2
namespace ML
open PySem
section
variable {env:Bg}{m:MH}{f g:FEm}{gl:FLm}{t u:FBm}
theorem Av3 {f:FE}{Q:D×MH->Prop}:W (fM f env m) Q=W (f env m) fun d=>Q (d,m):=by
 unfold fM;rw[W_bind];congr 1;funext d;exact Ad
theorem Aso {f:FB}{Q:Bool×MH->Prop}:W (fBm f env m) Q=W (f env m) fun d=>Q (d,m):=by
 unfold fBm;rw[W_bind];congr 1;funext d;exact Ad
theorem Asn {o:D->D->MH->Option D}{Q:D×MH->Prop}:W (f2m o f g env m) Q=W (f env m) fun x=>W (g env x.2) fun y=>W (o x.1 y.1 y.2) fun d=>Q (d,y.2):=by
 unfold f2m;rw[W_bind];congr 1;funext x;rw[W_bind];congr 1;funext y;rw[W_bind];congr 1;funext d;exact Ad
theorem Ahg {Q:List D×MH->Prop}:W (As env m) Q=Q ([],m):=Ad
theorem Abs {Q:List D×MH->Prop}:W (Ab f gl env m) Q=W (f env m) fun x=>W (gl env x.2) fun y=>Q (x.1::y.1,y.2):=by
 unfold Ab;rw[W_bind];congr 1;funext x;rw[W_bind];congr 1;funext y;exact Ad
theorem Ahe {Q:D×MH->Prop}:W (D6 gl env m) Q=W (gl env m) fun x=>x.1.length<=1000000/\Q (.tup x.1,x.2):=by
 unfold D6;rw[W_bind];congr 1;funext x;exact H9
theorem Ag9 {Q:D×MH->Prop}:W (X9 gl env m) Q=W (gl env m) fun x=>x.1.length<=1000000/\Q (.lst x.1,x.2):=by
 unfold X9;rw[W_bind];congr 1;funext x;exact H9
theorem Abq {Q:Bool×MH->Prop}:W (D5 f env m) Q=W (f env m) fun x=>W (asB x.1) fun b=>Q (b,x.2):=by
 unfold D5;rw[W_bind];congr 1;funext x;rw[W_bind];congr 1;funext b;exact Ad
theorem Abn {o:List D->MH->Option D}{Q:D×MH->Prop}:W (Mm o gl env m) Q=W (gl env m) fun x=>W (o x.1 x.2) fun d=>Q (d,x.2):=by
 unfold Mm;rw[W_bind];congr 1;funext x;rw[W_bind];congr 1;funext b;exact Ad
theorem Amb {Q:D×MH->Prop}:W (An8 t f g env m) Q=W (t env m) fun x=>cK (W (f env x.2) Q) (W (g env x.2) Q) x.1:=by
 unfold An8;rw[W_bind];congr 1;funext x;exact Eo
theorem Ag6 {Q:Bool×MH->Prop}:W (L5 t u env m) Q=W (t env m) fun x=>cK (W (u env x.2) Q) (Q (false,x.2)) x.1:=by
 unfold L5;rw[W_bind];congr 1;funext x;rw[Eo,Ad]
theorem Aho {i:Nat}{Q:Out->Prop}:W (Ca i f env m) Q=W (f env m) fun x=>Q (.nx (env.set i (some x.1)) x.2):=by
 unfold Ca;rw[W_bind];congr 1;funext x;exact Ad
theorem Ahn {Q:Out->Prop}:W (Ma f env m) Q=W (f env m) fun x=>Q (.rt x.1 x.2):=by
 unfold Ma;rw[W_bind];congr 1;funext x;exact Ad
theorem Abw {Q:Out->Prop}:W (Ea f env m) Q=W (f env m) fun x=>Q (.nx env x.2):=by
 unfold Ea;rw[W_bind];congr 1;funext x;exact Ad
theorem Am3 {a b:FS}{Q:Out->Prop}:W (Ot t a b env m) Q=W (t env m) fun x=>cK (W (a env x.2) Q) (W (b env x.2) Q) x.1:=by
 unfold Ot;rw[W_bind];congr 1;funext x;exact Eo
theorem Ahj {h:FG}{Q:Out->Prop}:W (Rb f h env m) Q=W (f env m) fun x=>W (h x.1 env) fun e=>Q (.nx e x.2):=by
 unfold Rb;rw[W_bind];congr 1;funext x;rw[W_bind];congr 1;funext y;exact Ad
theorem Ahl {i:Nat}{Q:Out->Prop}:W (Aay i gl env m) Q=W (gl env m) fun x=>Q (.nx (env.set i (some (.ref x.2.length))) (x.2++[.lst x.1])):=by
 unfold Aay;rw[W_bind];congr 1;funext x;exact Ad
theorem Abm {n:Nat}{fn:List D->MH->Option (D×MH)}{Q:D×MH->Prop}:W (Aq n fn gl env m) Q=W (gl env m) fun x=>x.1.length=n/\W (fn x.1 x.2) Q:=by
 unfold Aq;rw[W_bind];congr 1;funext x
 by_cases hc:x.1.length=n
 ·rw[Axv hc];simp[hc]
 ·rw[Axy hc,A2];simp[hc]
def Aoa (Q:D×MH->Prop):Out->Prop
 |.rt d m=>Q (d,m)
 |.nx _ m=>Q (.non,m)
 |_=>False
theorem Dk {n:Nat}{b:FS}{ds:List D}{Q:D×MH->Prop}:W (Lz n b ds m) Q=W (b (ds.map some++List.replicate (n - ds.length) none) m) (Aoa Q):=by
 unfold Lz;rw[W_bind];congr 1;funext o
 cases o<;>first|exact Ad|exact A2
theorem Ah8 {d:D}{Q:D×MH->Prop}:Aoa Q (.rt d m)=Q (d,m):=rfl
theorem Ah7 {Q:D×MH->Prop}:Aoa Q (.nx env m)=Q (.non,m):=rfl
def Aic (tg:FG) (b:FS) (env:Bg) (Q:Out->Prop) (x:List D×MH):Prop:=match x.1 with
 |[.int j]=>(-(2 ^ 62)<=j/\j < 2 ^ 62)/\W (Ij B0 tg b (Dc 0 j.toNat) env x.2) Q
 |_=>False
theorem Aml {c:Prop} [Decidable c] {α:Type}{x:Option α}{Q:α->Prop}:W (if c then x else none) Q=(c/\W x Q):=by
 by_cases h:c
 ·rw[Axv h];exact Az7 ⟨fun q=>⟨h,q⟩,fun q=>q.2⟩
 ·rw[Axy h,A2];exact Az7 ⟨False.elim,fun q=>h q.1⟩
theorem Abx {tg:FG}{b:FS}{Q:Out->Prop}:W (Lm gl tg b env m) Q=W (gl env m) (Aic tg b env Q):=by
 unfold Lm
 rw[W_bind];congr 1;funext x
 obtain⟨ds,m'⟩:=x
 unfold Aic
 simp only
 cases ds with
 |nil=>exact A2
 |cons d ds =>
  cases d with
  |int j =>
   cases ds with
   |nil=>exact Aml (c:=-(2 ^ 62)<=j/\j < 2 ^ 62)
   |cons _ _=>exact A2
  |_=>exact A2
theorem Aid {tg:FG}{b:FS}{Q:Out->Prop}{j:Int}:Aic tg b env Q ([.int j],m)=((-(2 ^ 62)<=j/\j < 2 ^ 62)/\W (Ij B0 tg b (Dc 0 j.toNat) env m) Q):=rfl
def Ajb (o:List D->List D->Option (List D)) (gl:FLm) (env:Bg) (m:MH) (Q:Out->Prop):D->Prop
 |.ref n=>W (sq m (.ref n)) fun _=>W (gl env m) fun x=>W (sq x.2 (.ref n)) fun ds=>W (o ds x.1) fun fs=>Q (.nx env (x.2.set n (.lst fs)))
 |_=>False
theorem Ahk {o:List D->List D->Option (List D)}{f:FE}{Q:Out->Prop}:W (L9 o f gl env m) Q=W (f env m) (Ajb o gl env m Q):=by
 unfold L9
 rw[W_bind];congr 1;funext d
 cases d with
 |ref n =>
  simp only[Ajb,sq]
  cases h:m[n]? with
  |none=>simp only[A2]
  |some a =>
   cases a with
   |lst ds0 =>
    simp only[Ad]
    rw[W_bind];congr 1;funext x
    cases h2:x.2[n]? with
    |none=>simp only[A2]
    |some b =>
     cases b with
     |lst ds=>simp only[Ad];rw[W_bind];congr 1;funext fs;exact Ad
     |dct _ _=>simp only[A2]
     |dcs _ _=>simp only[A2]
   |dct _ _=>simp only[A2]
   |dcs _ _=>simp only[A2]
 |_=>exact A2
theorem Ajc {o:List D->List D->Option (List D)}{n:Nat}{Q:Out->Prop}:Ajb o gl env m Q (.ref n)=W (sq m (.ref n)) fun _=>W (gl env m) fun x=>W (sq x.2 (.ref n)) fun ds=>W (o ds x.1) fun fs=>Q (.nx env (x.2.set n (.lst fs))):=rfl
theorem Ag2 {h:FG}{tt:FB}{fe:FEm}{Q:List D×MH->Prop}:W (Ep h tt fe env [] m) Q=Q ([],m):=Ad
theorem Abk {h:FG}{tt:FB}{fe:FEm}{d:D}{ds:List D}{Q:List D×MH->Prop}:W (Ep h tt fe env (d::ds) m) Q=W (h d env) fun e1=>W (tt e1 m) (cK (W (fe e1 m) fun x=>W (Ep h tt fe env ds x.2) fun y=>Q (x.1::y.1,y.2)) (W (Ep h tt fe env ds m) Q)):=by
 rw[Ep,W_bind];congr 1;funext e1
 rw[W_bind];congr 1;funext b
 cases b with
 |true =>
  rw[Axv rfl,Nk,W_bind];congr 1;funext x;rw[W_bind];congr 1;funext y;exact Ad
 |false=>rw[Axy Ax8,Jb]
theorem Abo {cap:List Nat}{k:Nat}{fw:FW}{h:FG}{tt:FB}{fe:FEm}{Q:List D×MH->Prop}:W (Mn cap k fw h tt fe env m) Q=W (fw env m) fun w=>((∀ m',w.chk m')/\w.all.length<=1000000)/\W (Ep h tt fe (Os cap k env) w.all m) Q:=by
 unfold Mn
 rw[W_bind];congr 1;funext w
 by_cases hc:(∀ m',w.chk m')/\w.all.length<=1000000
 ·rw[Axv hc];exact Az7 ⟨fun q=>⟨hc,q⟩,fun q=>q.2⟩
 ·rw[Axy hc,A2];exact Az7 ⟨False.elim,fun q=>hc q.1⟩
def Alb (env:Bg) (d:D) (m:MH) (Q:Out->Prop):D->D->Prop
 |.ref n,.int k=>W (sq m (.ref n)) fun ds=>W (ixN ds.length k) fun j=>Q (.nx env (m.set n (.lst (ds.set j d))))
 |_,_=>False
theorem Aa1 {d:D}{n:Nat}{k:Int}{Q:Out->Prop}:Alb env d m Q (.ref n) (.int k)=W (sq m (.ref n)) fun ds=>W (ixN ds.length k) fun j=>Q (.nx env (m.set n (.lst (ds.set j d)))):=rfl
theorem Xp {fo:FE}{Q:Out->Prop}:W (Gz f fo g env m) Q=W (f env m) fun x=>W (fo env x.2) fun o=>W (g env x.2) fun y=>Alb env x.1 y.2 Q o y.1:=by
 unfold Gz
 rw[W_bind];congr 1;funext x
 rw[W_bind];congr 1;funext o
 rw[W_bind];congr 1;funext y
 obtain⟨i,m'⟩:=y
 cases o with
 |ref n =>
  cases i with
  |int k =>
   simp only[Alb,sq]
   cases h:m'[n]? with
   |none=>simp only[A2]
   |some a =>
    cases a with
    |lst ds=>simp only[Ad];rw[W_bind];congr 1;funext j;exact Ad
    |dct _ _=>simp only[A2]
    |dcs _ _=>simp only[A2]
  |_=>exact A2
 |_=>exact A2
end
end ML
end L2
end S_MM13
section S_MM14
namespace L2
namespace ML
open PySem
theorem Yj (x:Str) (hx:PyData.strOk x=true):∀ (k:Nat) (acc:Array Nat),PyData.strOk ⟨acc⟩=true->PyData.strOk ⟨(List.replicate k x.cps).foldl (·++·) acc⟩=true
 |0,acc,h=>h
 |k+1,acc,h=>by
  rw[List.replicate_succ,List.foldl_cons]
  exact Yj x hx k _ (Ip (x:=⟨acc⟩) (y:=x) h hx)
theorem T4 (x:Str):∀ (k:Nat) (acc:Array Nat),((List.replicate k x.cps).foldl (·++·) acc).size=acc.size+k * x.cps.size
 |0,acc=>by simp
 |k+1,acc=>by
  rw[List.replicate_succ,List.foldl_cons,T4 x k,Array.size_append,Nat.succ_mul]
  lia
theorem Ak4 {x:Str}{n:Int} (hx:PyData.strOk x=true):PyData.strOk (Uw x n)=true:=by
 unfold Uw
 split
 ·simp[PyData.strOk,Str.empty]
 ·split
  ·exact hx
  ·exact Yj x hx _ _ (by simp[PyData.strOk])
theorem Oj {x:Str}{n:Int} (h0:0<=n):(Uw x n).length<=n.toNat * x.length:=by
 unfold Uw
 split
 ·exact Ax9 _
 ·split
  ·rename_i h1 h2
   have:1<=n.toNat:=by lia
   have:=Nat.mul_le_mul_right x.length this
   lia
  ·show ((List.replicate n.toNat x.cps).foldl (·++·) #[]).size<=_
   rw[T4]
   show 0+_<=n.toNat * x.cps.size
   lia
theorem Aev {x:Str}{n:Int}{m:MH} (h0:0<=n) (h1:n<=1000) (hl:x.length<=1000) (hx:PyData.strOk x=true) {Q:D->Prop}:W (R8 (.str x) (.int n) m) Q=Q (.str (Uw x n)):=by
 have e:R8 (.str x) (.int n) m=some (.str (Uw x n)):=by
  unfold R8
  simp only
  have:=Oj (x:=x) h0
  have h3:n.toNat * x.length<=1000 * 1000:=Nat.mul_le_mul (by lia) hl
  rw[Axv ⟨hl,by lia,h1,by lia,Ak4 hx⟩]
 rw[e,Ad]
end ML
end L2
end S_MM14
section S_MK1
namespace L2
namespace Seek
variable {N M S:Type} [DecidableEq N] [DecidableEq M]
structure Shelf (N M S:Type) where
 root:N
 W:List (N×S)
 nd:N->M->List (N×S)
 lies:M->S->Bool
 mks:N->List M
abbrev Ch (N M:Type):=List (N×M)
abbrev Nd (N S:Type):=N×N×S
variable (Z:Shelf N M S)
noncomputable def tk (ch:Ch N M) (n:N):Option M:=(ch.find? fun c=>decide (c.1=n)).map (·.2)
inductive Paper (N M S:Type) where
 |brk (x:Nd N S)
 |opn (n b:N) (rows:List (M×Paper N M S))
variable {Z}
theorem tk_none {ch:Ch N M}{n:N}:tk ch n=none ↔ ∀ c∈ch,c.1≠n:=by
 unfold tk
 rw[Option.map_eq_none_iff,List.find?_eq_none]
 simp
variable (Z) in
structure Way (U:List N) (ch:Ch N M):Prop where
 nd:(ch.map (·.1)).Nodup
 of:∀ c∈ch,c.2∈Z.mks c.1
 un:∀ c∈ch,c.1∈U
theorem Way.snoc {U:List N}{ch:Ch N M}{n:N}{m:M} (h:Way Z U ch) (hn:tk ch n=none) (hm:m∈Z.mks n) (hu:n∈U):Way Z U (ch++[(n,m)]) where
 nd:=by
  rw[Ayc,List.nodup_append]
  refine⟨h.nd,by simp,fun a ha b hb=>?_⟩
  obtain⟨c,hc,rfl⟩:=List.mem_map.mp ha
  have:b=n:=by simpa using hb
  subst this
  exact tk_none.mp hn c hc
 of:=fun c hc=>by
  rcases List.mem_append.mp hc with hc|hc
  ·exact h.of c hc
  ·rw[List.mem_singleton.mp hc];exact hm
 un:=fun c hc=>by
  rcases List.mem_append.mp hc with hc|hc
  ·exact h.un c hc
  ·rw[List.mem_singleton.mp hc];exact hu
theorem Pv {α:Type} [DecidableEq α]:∀ {l m:List α},l.Nodup->(∀ x∈l,x∈m)->l.length<=m.length
 |[],_,_,_=>Ax9 _
 |x::l,m,hn,hs=>by
  rw[List.nodup_cons] at hn
  have h1:x∈m:=hs x (Axn ..)
  have h2:=Pv (l:=l) (m:=m.erase x) hn.2 fun y hy=>(List.mem_erase_of_ne (show y≠x from fun z=>hn.1 (by rw[<- z];exact hy))).mpr (hs y (Axl _ hy))
  rw[List.length_erase_of_mem h1] at h2
  have:0 < m.length:=List.length_pos_of_mem h1
  rw[Ax1]
  lia
theorem Way.len {U:List N}{ch:Ch N M} (h:Way Z U ch):ch.length<=U.length:=by
 have:=Pv h.nd (m:=U) fun a ha=>by obtain⟨c,hc,rfl⟩:=List.mem_map.mp ha;exact h.un c hc
 simpa using this
end Seek
end L2
end S_MK1
section S_K62a
namespace K62a
open PySem L2 L2.ML
noncomputable section
noncomputable def top (i:Nat):Stmt:=PySem.Challenge.pw_stretchbook_k62_papers_looked_over.main.body.getD i (.Pass ⟨0,0,0,0⟩)
abbrev Arf:Stmt:=top 1
abbrev Ags:Stmt:=top 2
abbrev Ari:Stmt:=top 3
abbrev Ard:Stmt:=top 4
abbrev Af8:Stmt:=top 6
abbrev Arj:Stmt:=top 8
abbrev Ark:Stmt:=top 9
abbrev Arc:Stmt:=top 11
abbrev Af9:Stmt:=top 12
abbrev Arl:Stmt:=top 14
abbrev Agk:Stmt:=top 16
abbrev Agl:Stmt:=top 17
abbrev Agm:Stmt:=top 18
abbrev Agt:Stmt:=top 19
abbrev Agn:Stmt:=top 20
abbrev Agb:Stmt:=top 21
abbrev Ago:Stmt:=top 22
abbrev Agp:Stmt:=top 23
abbrev Agc:Stmt:=top 24
abbrev Agq:Stmt:=top 25
abbrev Arh:Stmt:=top 26
abbrev Agd:Stmt:=top 27
abbrev Age:Stmt:=top 28
abbrev Agf:Stmt:=top 29
abbrev Aga:Stmt:=top 30
abbrev Agg:Stmt:=top 31
abbrev Agh:Stmt:=top 32
abbrev Agi:Stmt:=top 33
abbrev Are:Stmt:=top 34
abbrev Agr:Stmt:=top 35
abbrev Agj:Stmt:=top 36
abbrev Arm:Stmt:=top 37
abbrev Rg:Stmt:=top 38
def At0:FS:=(A4 (sIf (Vh (Abe "str" (Ac 0))) (Cg (Cf (Aa (fC (.int 1)) (Aa (fC (.int 0)) (Aa (Ac 0) Ak))))) Ct) (Cg (Cf (Aa (fC (.int 0)) (Aa (Ac 0) (Aa (fC (.str (Str.ofString ""))) Ak))))))
def Yg:List D->Option D:=Hv 1 At0
def Aix:FS:=(A4 (Co 1 (f2 oIx (Ac 0) (fC (.int 3)))) (A4 (Co 2 (fIf (Vh (Ac 1)) (fC (.int 0)) (fC (.int 1)))) (Cg (Cf (Aa (f2 oIx (Ac 0) (fC (.int 0))) (Aa (f2 oIx (Ac 0) (fC (.int 1))) (Aa (f2 oIx (Ac 0) (fC (.int 2))) (Aa (Ac 2) (Aa (Ay Et (Aa (Dg (Cb [] 1 (G1 (Ac 1)) (Au 0) Ly (Ay (C3 1 Yg) (Aa (Ac 0) Ak)))) Ak)) Ak)))))))))
def Ii:List D->Option D:=Hv 3 Aix
def At2:FS:=(Cg (f2 Ao2 (Ay (C3 1 Ii) (Aa (Ac 0) Ak)) (Ay (C3 1 Ii) (Aa (Ac 1) Ak))))
def Vk:List D->Option D:=Hv 2 At2
def Aty:FS:=(Lo (Bt (C0 Ii true) (Aa (Ac 0) Ak)))
def Yc:List D->Option D:=Hv 1 Aty
def Aig:FS:=(A4 (Co 2 (fC (.int 0))) (A4 (Co 3 (Ay Ec (Aa (Ac 1) Ak))) (A4 (Gj (A6 (f2 oLt (Ac 2) (Ac 3))) (A4 (Co 4 (f2 Ao1 (f2 Cn (Ac 2) (Ac 3)) (fC (.int 2)))) (sIf (Vh (Ay (C3 2 Vk) (Aa (Ac 0) (Aa (f2 oIx (f2 oIx (Ac 1) (Ac 4)) (fC (.int 0))) Ak)))) (Co 3 (Ac 4)) (Co 2 (f2 Cn (Ac 4) (fC (.int 1)))))) 1000) (A4 (sIf (A6 (f2 oEq (Ac 2) (fC (.int 0)))) (Cg (fC (.bl false))) Ct) (A4 (Co 5 (f2 oIx (f2 oIx (Ac 1) (f2 Ac9 (Ac 2) (fC (.int 1)))) (fC (.int 1)))) (Cg (An9 (f1 R7 (Ac 5)) (Ay (C3 2 Vk) (Aa (Ac 0) (Aa (Ac 5) Ak))))))))))
def Pb:List D->Option D:=Hv 6 Aig
def At3:FS:=(Lo (Bt (Gc 1 Yc) (Aa (Dg (Cb [1] 1 (G1 (Ac 0)) (Au 1) (A6 (f2 oEq (f2 oIx (Ac 1) (fC (.int 0))) (Ac 0))) (f2 oIx (Ac 1) (fC (.int 1))))) Ak)))
def Yh:List D->Option D:=Hv 2 At3
def At4:FS:=(A4 (Ol (G1 (Ac 0)) (Au 3) (sIf (A6 (f2 oEq (fSl (Ac 3) fNo (Ce (fC (.int 2)))) (Cf (Aa (Ac 1) (Aa (Ac 2) Ak))))) (Cg (f2 oIx (Ac 3) (fC (.int 2)))) Ct)) (Cg (Cf Ak)))
def Yi:List D->Option D:=Hv 4 At4
def Atx:FS:=(A4 (Hl 3 (Cb [] 2 (G1 (Ac 1)) (G6 2 (Bv (Au 0) (Bv (Au 1) L3))) Ly (Cf (Aa (fC (.str (Str.ofString ""))) (Aa (Ac 0) (Aa (Ac 1) Ak)))))) (A4 (Ol (G1 (Ac 2)) (G6 2 (Bv (Au 4) (Bv (Au 5) L3))) (Aax Ajd (Ac 3) (Aa (Dg (Cb [4] 2 (G1 (Ay (C3 3 Yi) (Aa (Ac 0) (Aa (Ac 4) (Aa (Ac 5) Ak))))) (G6 2 (Bv (Au 1) (Bv (Au 2) L3))) Ly (Cf (Aa (Ac 0) (Aa (Ac 1) (Aa (Ac 2) Ak)))))) Ak))) (Cg (Ac 3))))
def Yb:List D->Option D:=Hv 6 Atx
def Aih:FS:=(Cg (L4 (f2 Aje (f2 oIx (Ac 0) (fC (.int 1))) (Ac 1)) (Ay (C3 2 Pb) (Aa (f2 Zg (Ac 1) (f2 oIx (Ac 0) (fC (.int 1)))) (Aa (f2 oIx (Ac 0) (fC (.int 2))) Ak)))))
def Pd:List D->Option D:=Hv 2 Aih
def Alv (r_z8:List D->Option D):FS:=(A4 (Co 4 (Dg (Bt (Gc 3 Yb) (Aa (Ac 0) (Aa (Ac 1) (Aa (Ac 2) Ak)))))) (A4 (Co 5 (Ay Ld (Aa (Ac 2) Ak))) (A4 (sIf (A6 (f2 oEq (f2 oIx (Ac 3) (fC (.int 0))) (fC (.str (Str.ofString "broken"))))) (A4 (Co 6 (fSl (Ac 3) (Ce (fC (.int 1))) fNo)) (Cg (L4 (f2 oIn (Ac 6) (Ac 4)) (L4 (f2 Aje (f2 oIx (Ac 6) (fC (.int 1))) (Ac 5)) (Vg (Ay (Ie 2 Pd) (Aa (Ac 6) (Aa (Ac 5) Ak)))))))) Ct) (A4 (Co 7 (f2 oIx (Ac 3) (fC (.int 1)))) (A4 (Co 8 (f2 oIx (Ac 3) (fC (.int 3)))) (A4 (sIf (fOr (A6 (f2 Aje (Ac 7) (Ac 5))) (A6 (f2 Cr (Cf (Aa (f2 oIx (Ac 3) (fC (.int 2))) (Aa (Ac 7) Ak))) (Dg (Cb [] 1 (G1 (Ac 4)) (Au 0) Ly (fSl (Ac 0) fNo (Ce (fC (.int 2))))))))) (Cg (fC (.bl false))) Ct) (A4 (sIf (A6 (f2 oNe (Dg (Cb [] 1 (G1 (Ac 8)) (Au 0) Ly (f2 oIx (Ac 0) (fC (.int 0))))) (Dg (Bt (Gc 2 Yh) (Aa (Ac 0) (Aa (Ac 7) Ak)))))) (Cg (fC (.bl false))) Ct) (Cg (Ay Aoy (Aa (Dg (Cb [0,1,2,7] 2 (G1 (Ac 8)) (G6 2 (Bv (Au 4) (Bv (Au 5) L3))) Ly (Ay (C3 4 r_z8) (Aa (Ac 0) (Aa (Ac 1) (Aa (f2 Cn (Ac 2) (Cf (Aa (Cf (Aa (Ac 3) (Aa (Ac 4) Ak))) Ak))) (Aa (Ac 5) Ak))))))) Ak))))))))))
def Rw:Nat->(List D->Option D)
 |0=>(fun _=>none)
 |n+1=>(Hv 9 (Alv (Rw n)))
def Vl:List D->Option D:=(Rw 24)
def Aiq:FS:=(A4 (Co 1 (fC (.int 0))) (A4 (sIf (A6 (f2 oGt (Ay Ec (Aa (Ac 0) Ak)) (fC (.int 0)))) (Co 1 (f2 Vz (f2 oIx (Ac 0) (fC (.int 0))) (fC (.int 2)))) Ct) (Lo (B3 (Aa (Ac 0) (Aa (fC (.int 0)) (Aa (Ac 1) (Aa (fC (.int 0)) Ak))))))))
def Ph:List D->MH->Option (D×MH):=Lz 2 Aiq
def Air:FS:=(A4 (Hi (f2 Ac6 (fC (.int 100)) (Ac 1)) (Ac 0) (fC (.int 1))) (A4 (Hi (fC (.int 0)) (Ac 0) (fC (.int 3))) (sIf (A6 (f2 oGt (Ay Ec (Aa (f2 oIx (Ac 0) (fC (.int 0))) Ak)) (fC (.int 0)))) (Hi (f2 oIx (f2 oIx (Ac 0) (fC (.int 0))) (f2 Vz (Ac 1) (Ay Ec (Aa (f2 oIx (Ac 0) (fC (.int 0))) Ak)))) (Ac 0) (fC (.int 3))) Ct)))
def D7:List D->MH->Option (D×MH):=Lz 2 Air
def Ais:FS:=(A4 (Hi (f2 Cn (f2 oIx (Ac 0) (fC (.int 1))) (fC (.int 1))) (Ac 0) (fC (.int 1))) (A4 (sIf (A6 (f2 oEq (f2 oIx (Ac 0) (fC (.int 2))) (fC (.int 1)))) (A4 (Co 2 (f2 Vz (f2 oIx (Ac 0) (fC (.int 3))) (Ac 1))) (A4 (Hi (f2 Ao1 (f2 oIx (Ac 0) (fC (.int 3))) (Ac 1)) (Ac 0) (fC (.int 3))) (Cg (Ac 2)))) Ct) (A4 (Co 3 (f2 Vz (f2 Ac6 (f2 Cn (f2 Vz (f2 oIx (Ac 0) (fC (.int 3))) (fC (.int 2147483629))) (fC (.int 1))) (f2 Cn (f2 Ac6 (f2 Ac6 (fC (.int 31)) (f2 oIx (Ac 0) (fC (.int 1)))) (f2 oIx (Ac 0) (fC (.int 1)))) (fC (.int 7919)))) (fC (.int 2147483647)))) (Cg (f2 Vz (f2 Vz (f2 Ac6 (Ac 3) (fC (.int 48271))) (fC (.int 2147483629))) (Ac 1))))))
def A8:List D->MH->Option (D×MH):=Lz 4 Ais
def Aiy:FS:=(A4 (Hl 1 (B3 Ak)) (A4 (Ol (G1 (f2 oIx (Ac 0) (fC (.int 3)))) (Au 2) (sIf (Vh (Abe "str" (Ac 2))) (Aax Ze (Ac 1) (Aa (Cf (Aa (fC (.int 1)) (Aa (fC (.int 0)) (Aa (Ac 2) Ak)))) Ak)) (Aax Ze (Ac 1) (Aa (Cf (Aa (fC (.int 0)) (Aa (Ac 2) (Aa (fC (.str (Str.ofString ""))) Ak)))) Ak)))) (Cg (Cf (Aa (f2 oIx (Ac 0) (fC (.int 0))) (Aa (f2 oIx (Ac 0) (fC (.int 1))) (Aa (f2 oIx (Ac 0) (fC (.int 2))) (Aa (Ay Abg (Aa (f2 oEq (f2 oIx (Ac 0) (fC (.int 3))) (Cf Ak)) Ak)) (Aa (Ac 1) Ak)))))))))
def Es:List D->Option D:=Hv 3 Aiy
def Ait:FS:=(A4 (Co 2 (Ay (C3 1 Es) (Aa (Ac 0) Ak))) (A4 (Ol (G1 (Ac 1)) (G6 2 (Bv (Au 3) (Bv (Au 4) L3))) (sIf (Abd (A6 (f2 Ar2 (Ay (C3 1 Es) (Aa (Ac 3) Ak)) (Ac 2))) (fOr (A6 (f1 R7 (Ac 4))) (A6 (f2 Ao2 (Ac 2) (Ay (C3 1 Es) (Aa (Ac 4) Ak)))))) (Cg (fC (.bl true))) Ct)) (Cg (fC (.bl false)))))
def Pj:List D->Option D:=Hv 5 Ait
def Aij:FS:=(A4 (Co 2 (fC (.str (Str.ofString "abcdefghijklmnopqrstuvwxyz")))) (A4 (Ca 3 (Aq 2 A8 (Ab (fM (Ac 0)) (Ab (fM (fC (.int 3))) As)))) (A4 (Ca 4 (Aq 2 A8 (Ab (fM (Ac 0)) (Ab (fM (fC (.int 26))) As)))) (A4 (sIf (A6 (f2 oEq (Ac 3) (fC (.int 0)))) (Lo (Cb [4] 1 (Iz (Aa (Ac 1) Ak)) (Au 1) Ly (f2 oIx (Dg (B3 (Aa (fC (.str (Str.ofString "part"))) (Aa (fC (.str (Str.ofString "need"))) (Aa (fC (.str (Str.ofString "wants"))) (Aa (fC (.str (Str.ofString "broken"))) (Aa (fC (.str (Str.ofString "open"))) (Aa (fC (.str (Str.ofString "shelf"))) Ak)))))))) (f2 Vz (f2 Cn (Ac 0) (Ac 1)) (fC (.int 6)))))) Ct) (A4 (sIf (A6 (f2 oEq (Ac 3) (fC (.int 1)))) (Lo (Cb [2,4] 1 (Iz (Aa (Ac 1) Ak)) (Au 2) Ly (fSl (f2 Cn (Ac 0) (Ac 0)) (Ce (Ac 1)) (Ce (f2 Cn (f2 Cn (Ac 1) (fC (.int 1))) (Ac 2)))))) Ct) (A4 (Ca 5 (f2m Cn (fM (fC (.int 1))) (Aq 2 A8 (Ab (fM (Ac 0)) (Ab (fM (fC (.int 8))) As))))) (A4 (Ca 6 (Aq 2 A8 (Ab (fM (Ac 0)) (Ab (fM (Ac 5)) As)))) (A4 (Ca 7 (f2m oIx (fM (Ac 2)) (Aq 2 A8 (Ab (fM (Ac 0)) (Ab (fM (fC (.int 26))) As))))) (Lo (Cb [7,6,2,5,4] 1 (Iz (Aa (Ac 1) Ak)) (Au 5) Ly (f2 Cn (f2 Cn (f2 R8 (Ac 0) (Ac 1)) (f2 oIx (Ac 2) (f2 Vz (f2 Cn (Ac 4) (f2 Ac6 (fC (.int 7)) (Ac 5))) (fC (.int 26))))) (f2 R8 (Ac 0) (f2 Ac9 (f2 Ac9 (Ac 3) (fC (.int 1))) (Ac 1))))))))))))))
def Pe:List D->MH->Option (D×MH):=Lz 8 Aij
def Aiu:FS:=(A4 (Aay 1 (Mn [0] 1 (Iz (Aa (fC (.int 3)) Ak)) (Au 1) Ly (Aq 2 A8 (Ab (fM (Ac 0)) (Ab (fM (fC (.int 3))) As))))) (A4 (Ca 2 (X9 (Ab (fM (Cf Ak)) (Ab (fM (Cf Ak)) (Ab (fM (Cf Ak)) (Ab (D6 (Ab (Aq 2 A8 (Ab (fM (Ac 0)) (Ab (fM (fC (.int 3))) As))) As)) (Ab (fM (Cf (Aa (fC (.str (Str.ofString "a"))) Ak))) (Ab (D6 (Ab (fM (fC (.str (Str.ofString "ab")))) (Ab (Aq 2 A8 (Ab (fM (Ac 0)) (Ab (fM (fC (.int 2))) As))) As))) (Ab (fM (Cf (Aa (fC (.int 0)) (Aa (fC (.str (Str.ofString "b"))) Ak)))) (Ab (fM (Cf (Aa (fC (.str (Str.ofString "a"))) (Aa (fC (.int 0)) Ak)))) As)))))))))) (A4 (Ca 3 (f2m oIx (fM (Ac 2)) (Aq 2 A8 (Ab (fM (Ac 0)) (Ab (fM (fC (.int 8))) As))))) (A4 (Ot (D5 (f2m oEq (Aq 2 A8 (Ab (fM (Ac 0)) (Ab (fM (fC (.int 16))) As))) (fM (fC (.int 0))))) (Gz (f2m Ac9 (fM (f2 Ac9 (f2 Ar3 (fC (.int 10)) (fC (.int 12))) (fC (.int 2)))) (Aq 2 A8 (Ab (fM (Ac 0)) (Ab (fM (fC (.int 2))) As)))) (Ac 1) (Aq 2 A8 (Ab (fM (Ac 0)) (Ab (fM (fC (.int 3))) As)))) Ct) (Cg (Cf (Aa (f2 oIx (Ac 1) (fC (.int 0))) (Aa (f2 oIx (Ac 1) (fC (.int 1))) (Aa (f2 oIx (Ac 1) (fC (.int 2))) (Aa (Ac 3) Ak))))))))))
def Mq:List D->MH->Option (D×MH):=Lz 4 Aiu
def Aiv:FS:=(A4 (Co 2 (Cf (Aa (fC (.int 0)) (Aa (fC (.int 0)) (Aa (fC (.int 0)) (Aa (Cf (Aa (fC (.int 0)) Ak)) Ak)))))) (A4 (Ot (D5 (f2m oEq (Aq 2 A8 (Ab (fM (Ac 0)) (Ab (fM (fC (.int 3))) As))) (fM (fC (.int 0))))) (Cg (Cf (Aa (Cf (Aa (Ac 2) (Aa (fC .non) Ak))) Ak))) Ct) (A4 (Hl 3 (B3 Ak)) (A4 (Lm (Ab (Aq 2 A8 (Ab (fM (Ac 0)) (Ab (fM (fC (.int 5))) As))) As) (Au 4) (A4 (Ca 5 (f2m oIx (fM (Ac 1)) (Aq 2 A8 (Ab (fM (Ac 0)) (Ab (fM (Ay Ec (Aa (Ac 1) Ak))) As))))) (sIf (A6 (f2 Cr (Ac 5) (Ac 3))) (Aax Ze (Ac 3) (Aa (Ac 5) Ak)) Ct))) (A4 (Ot (L5 (D5 (f2m oEq (Aq 2 A8 (Ab (fM (Ac 0)) (Ab (fM (fC (.int 2))) As))) (fM (fC (.int 0))))) (fBm (A6 (f2 Cr (Ac 2) (Ac 3))))) (Aax Ze (Ac 3) (Aa (Ac 2) Ak)) Ct) (A4 (Hl 3 (Aca (Dg (Bt (C0 Es false) (Aa (Ac 3) Ak))) (Dg (B3 (Aa (fC .non) Ak))))) (Cg (Ay Et (Aa (Dg (Cb [3] 1 (Ael (Aa (fC (.int 0)) (Aa (f2 Ac9 (Ay Ec (Aa (Ac 3) Ak)) (fC (.int 1))) (Aa (fC (.int 2)) Ak)))) (Au 1) Ly (Cf (Aa (f2 oIx (Ac 0) (Ac 1)) (Aa (f2 oIx (Ac 0) (f2 Cn (Ac 1) (fC (.int 1)))) Ak))))) Ak)))))))))
def Ex:List D->MH->Option (D×MH):=Lz 6 Aiv
def Hz:FS:=(A4 (Ca 3 (Aq 2 Pe (Ab (fM (Ac 0)) (Ab (fM (Ac 2)) As)))) (A4 (Hl 4 (B3 Ak)) (A4 (Ol (Iz (Aa (Ac 2) Ak)) (Au 5) (A4 (Ea (Aq 2 D7 (Ab (fM (Ac 0)) (Ab (fM (f2 Cn (fC (.int 2)) (Ac 5))) As)))) (Lm (Ab (f2m Cn (fM (fC (.int 1))) (Aq 2 A8 (Ab (fM (Ac 0)) (Ab (fM (fIf (A6 (f2 oLt (Ac 1) (fC (.int 2)))) (f2 oIx (Dg (B3 (Aa (fC (.int 2)) (Aa (fC (.int 4)) Ak)))) (Ac 1)) (fC (.int 3)))) As)))) As) (Au 6) (A4 (Ca 7 (D6 (Ab (fM (f2 oIx (Ac 3) (Ac 5))) (Ab (Aq 1 Mq (Ab (fM (Ac 0)) As)) As)))) (sIf (A6 (f2 Cr (Ac 7) (Ac 4))) (L9 Gs (Ac 4) (Ab (Aq 2 A8 (Ab (fM (Ac 0)) (Ab (fM (f2 Cn (Ay Ec (Aa (Ac 4) Ak)) (fC (.int 1)))) As))) (Ab (fM (Ac 7)) As))) Ct))))) (Cg (Cf (Aa (Ac 3) (Aa (Ac 4) Ak)))))))
def Aik:FS:=(A4 (Ea (Aq 2 D7 (Ab (fM (Ac 0)) (Ab (fM (fC (.int 1))) As)))) (A4 (Ca 1 (Aq 2 A8 (Ab (fM (Ac 0)) (Ab (fM (fC (.int 16))) As)))) (A4 (Ca 2 (An8 (fBm (A6 (f2 oLt (Ac 1) (fC (.int 2))))) (fM (f2 oIx (Dg (B3 (Aa (fC (.int 6)) (Aa (fC (.int 3)) Ak)))) (Ac 1))) (f2m Cn (fM (fC (.int 1))) (Aq 2 A8 (Ab (fM (Ac 0)) (Ab (fM (fC (.int 4))) As)))))) Hz)))
def Pf:List D->MH->Option (D×MH):=Lz 8 Aik
def Aiw:FS:=(A4 (Hl 1 (B3 (Aa (Cf (Aa (fC (.int 0)) (Aa (fC (.int 0)) (Aa (fC (.int 0)) (Aa (Cf (Aa (fC (.int 0)) Ak)) Ak))))) Ak))) (A4 (Ol (G1 (Ac 0)) (G6 2 (Bv (Au 2) (Bv (Au 3) L3))) (A4 (Co 4 (Cf (Aa (f2 oIx (Ac 3) (fC (.int 0))) (Aa (f2 oIx (Ac 3) (fC (.int 1))) (Aa (f2 oIx (Ac 3) (fC (.int 2))) (Aa (f2 Cn (f2 oIx (Ac 3) (fC (.int 3))) (Cf (Aa (fC (.int 0)) Ak))) Ak)))))) (A4 (sIf (A6 (f2 oEq (f2 oIx (Ac 3) (fC (.int 3))) (Cf Ak))) (Co 4 (Cf (Aa (f2 oIx (Ac 3) (fC (.int 0))) (Aa (f2 oIx (Ac 3) (fC (.int 1))) (Aa (f2 Cn (f2 oIx (Ac 3) (fC (.int 2))) (fC (.int 1))) (Aa (Cf (Aa (fC (.int 0)) Ak)) Ak)))))) Ct) (Hl 1 (Aca (Ac 1) (Dg (Cb [1] 1 (G1 (Dg (B3 (Aa (Ac 3) (Aa (Ac 4) Ak))))) (Au 1) (A6 (f2 Cr (Ac 1) (Ac 0))) (Ac 1)))))))) (Cg (Ac 1))))
def Pk:List D->Option D:=Hv 5 Aiw
def At1:FS:=(A4 (Hl 5 (B3 Ak)) (A4 (Lm (Ab (Aq 2 A8 (Ab (fM (Ac 0)) (Ab (fM (Ac 4)) As))) As) (Au 6) (A4 (Ca 7 (f2m oIx (fM (Dg (Aca (Ac 1) (Dg (B3 (Aa (fC (.str (Str.ofString "qqqqqqqq"))) Ak)))))) (Aq 2 A8 (Ab (fM (Ac 0)) (Ab (f2m Cn (fM (Ay Ec (Aa (Ac 1) Ak))) (Mm Abg (Ab (f2m oEq (Aq 2 A8 (Ab (fM (Ac 0)) (Ab (fM (fC (.int 6))) As))) (fM (fC (.int 0)))) As))) As))))) (sIf (Abd (A6 (f2 oNe (Ac 7) (Ac 2))) (A6 (f2 Cr (Ac 7) (Dg (Cb [] 1 (G1 (Ac 5)) (Au 0) Ly (f2 oIx (Ac 0) (fC (.int 0)))))))) (L9 Ze (Ac 5) (Ab (D6 (Ab (fM (Ac 7)) (Ab (Aq 2 Ex (Ab (fM (Ac 0)) (Ab (fM (Ac 3)) As))) As))) As)) Ct))) (Cg (Ay Et (Aa (Ac 5) Ak)))))
def Vj:List D->MH->Option (D×MH):=Lz 8 At1
def Ail:FS:=(A4 (Rb (Aq 1 Pf (Ab (fM (Ac 0)) As)) (G6 2 (Bv (Au 1) (Bv (Au 2) L3)))) (A4 (Co 3 (Dg (Bt (Gc 1 Pk) (Aa (Ac 2) Ak)))) (A4 (Hl 4 (B3 Ak)) (A4 (Ol (Iz (Aa (Ay Ec (Aa (Ac 2) Ak)) Ak)) (Au 5) (A4 (Ea (Aq 2 D7 (Ab (fM (Ac 0)) (Ab (fM (f2 Cn (fC (.int 10)) (Ac 5))) As)))) (A4 (Alx (f2 oIx (Ac 2) (Ac 5)) (G6 2 (Bv (Au 6) (Bv (Au 7) L3)))) (L9 Ze (Ac 4) (Ab (D6 (Ab (fM (Ac 6)) (Ab (fM (Ac 7)) (Ab (Aq 5 Vj (Ab (fM (Ac 0)) (Ab (fM (Ac 1)) (Ab (fM (Ac 6)) (Ab (fM (Ac 3)) (Ab (fM (fC (.int 4))) As)))))) As)))) As))))) (Cg (Cf (Aa (Ac 1) (Aa (Ac 3) (Aa (Ay Et (Aa (Ac 4) Ak)) Ak)))))))))
def Pg:List D->MH->Option (D×MH):=Lz 8 Ail
def Aim:FS:=(A4 (Hl 3 (Cb [] 2 (G1 (Ac 1)) (G6 2 (Bv (Au 0) (Bv (Au 1) L3))) Ly (Cf (Aa (fC (.str (Str.ofString ""))) (Aa (Ac 0) (Aa (Ac 1) Ak)))))) (A4 (Ol (G1 (Ac 2)) (G6 2 (Bv (Au 4) (Bv (Au 5) L3))) (Ol (G1 (Ac 0)) (G6 3 (Bv (Au 6) (Bv (Au 7) (Bv (Au 8) L3)))) (sIf (Abd (A6 (f2 oEq (Ac 6) (Ac 4))) (A6 (f2 oEq (Ac 7) (Ac 5)))) (Aax Ajd (Ac 3) (Aa (Dg (Cb [4] 1 (G1 (Ac 8)) (Au 1) Ly (Cf (Aa (Ac 0) (Aa (f2 oIx (Ac 1) (fC (.int 0))) (Aa (f2 oIx (Ac 1) (fC (.int 1))) Ak)))))) Ak)) Ct))) (Cg (Ac 3))))
def Jz:List D->Option D:=Hv 9 Aim
def Ain:FS:=(A4 (Co 2 (Dg (Cb [1] 1 (G1 (Ac 0)) (Au 1) (A6 (f2 oEq (f2 oIx (Ac 1) (fC (.int 0))) (Ac 0))) (f2 oIx (Ac 1) (fC (.int 1)))))) (Lo (Bt Ac7 (Aa (Dg (Bt (C0 Es false) (Aa (Ac 2) Ak))) Ak))))
def Ih:List D->Option D:=Hv 3 Ain
def Aii:FS:=(Cg (L4 (f2 Aje (f2 oIx (Ac 0) (fC (.int 1))) (Ac 1)) (Vg (Ay (C3 2 Pj) (Aa (f2 Zg (Ac 1) (f2 oIx (Ac 0) (fC (.int 1)))) (Aa (f2 oIx (Ac 0) (fC (.int 2))) Ak))))))
def Mo:List D->Option D:=Hv 2 Aii
def Vn (r_z18:List D->Option D):FS:=(A4 (sIf (fOr (Ae5 (Vh (Abe "tuple" (Ac 3)))) (A6 (f2 oNe (Ay Ec (Aa (Ac 3) Ak)) (fC (.int 4))))) (Cg (fC (.bl false))) Ct) (A4 (Co 4 (Ay Ld (Aa (Ac 2) Ak))) (A4 (Co 5 (Dg (Bt (Gc 3 Jz) (Aa (Ac 0) (Aa (Ac 1) (Aa (Ac 2) Ak)))))) (A4 (sIf (A6 (f2 oEq (f2 oIx (Ac 3) (fC (.int 0))) (fC (.str (Str.ofString "broken"))))) (Cg (L4 (f2 oIn (fSl (Ac 3) (Ce (fC (.int 1))) fNo) (Ac 5)) (Ay (Ie 2 Mo) (Aa (fSl (Ac 3) (Ce (fC (.int 1))) fNo) (Aa (Ac 4) Ak))))) Ct) (A4 (Alx (Ac 3) (G6 4 (Bv (Au 6) (Bv (Au 7) (Bv (Au 8) (Bv (Au 9) L3)))))) (A4 (sIf (fOr (A6 (f2 oNe (Ac 6) (fC (.str (Str.ofString "open"))))) (fOr (A6 (f2 Aje (Ac 7) (Ac 4))) (Ae5 (Vh (Abe "tuple" (Ac 9)))))) (Cg (fC (.bl false))) Ct) (A4 (Co 10 (Dg (Bt (Gc 2 Ih) (Aa (Ac 0) (Aa (Ac 7) Ak))))) (A4 (sIf (fOr (A6 (f2 Cr (Cf (Aa (Ac 8) (Aa (Ac 7) Ak))) (Dg (Cb [] 1 (G1 (Ac 5)) (Au 0) Ly (fSl (Ac 0) fNo (Ce (fC (.int 2)))))))) (A6 (f2 oNe (Ay Ec (Aa (Ac 9) Ak)) (Ay Ec (Aa (Ac 10) Ak))))) (Cg (fC (.bl false))) Ct) (A4 (Ol (Iz (Aa (Ay Ec (Aa (Ac 10) Ak)) Ak)) (Au 11) (A4 (sIf (fOr (Ae5 (Vh (Abe "tuple" (f2 oIx (Ac 9) (Ac 11))))) (fOr (A6 (f2 oNe (Ay Ec (Aa (f2 oIx (Ac 9) (Ac 11)) Ak)) (fC (.int 2)))) (A6 (f2 oNe (f2 oIx (f2 oIx (Ac 9) (Ac 11)) (fC (.int 0))) (f2 oIx (Ac 10) (Ac 11)))))) (Cg (fC (.bl false))) Ct) (sIf (Ae5 (Vh (Ay (C3 4 r_z18) (Aa (Ac 0) (Aa (Ac 1) (Aa (f2 Cn (Ac 2) (Cf (Aa (Cf (Aa (Ac 7) (Aa (f2 oIx (Ac 10) (Ac 11)) Ak))) Ak))) (Aa (f2 oIx (f2 oIx (Ac 9) (Ac 11)) (fC (.int 1))) Ak))))))) (Cg (fC (.bl false))) Ct))) (Cg (fC (.bl true))))))))))))
def J0:Nat->(List D->Option D)
 |0=>(fun _=>none)
 |n+1=>(Hv 12 (Vn (J0 n)))
def Yd:List D->Option D:=(J0 24)
def Acd (r_z19:List D->MH->Option (D×MH)):FS:=(A4 (Co 4 (Ay Ld (Aa (Ac 3) Ak))) (A4 (Co 5 (Dg (Bt (Gc 3 Jz) (Aa (Ac 1) (Aa (Ac 2) (Aa (Ac 3) Ak)))))) (A4 (Co 6 (Dg (Cb [4] 1 (G1 (Ac 5)) (Au 1) (Vh (Ay (Ie 2 Mo) (Aa (Ac 1) (Aa (Ac 0) Ak)))) (Ac 1)))) (A4 (sIf (A6 (f2 oNe (Ac 6) (Dg (B3 Ak)))) (Ma (f2m Cn (fM (Cf (Aa (fC (.str (Str.ofString "broken"))) Ak))) (f2m oIx (fM (Ac 6)) (Aq 2 A8 (Ab (fM (Ac 0)) (Ab (fM (Ay Ec (Aa (Ac 6) Ak))) As)))))) Ct) (A4 (Co 7 (Dg (Cb [4] 1 (G1 (Ac 5)) (Au 1) (A6 (f2 R9 (f2 oIx (Ac 1) (fC (.int 1))) (Ac 0))) (Ac 1)))) (A4 (sIf (A6 (f2 oEq (Ac 7) (Dg (B3 Ak)))) (Cg (fC .non)) Ct) (A4 (Rb (f2m oIx (fM (Ac 7)) (Aq 2 A8 (Ab (fM (Ac 0)) (Ab (fM (Ay Ec (Aa (Ac 7) Ak))) As)))) (G6 3 (Bv (Au 8) (Bv (Au 9) (Bv (Au 10) L3))))) (A4 (Co 11 (Cf Ak)) (A4 (Ol (G1 (Dg (Bt (Gc 2 Ih) (Aa (Ac 1) (Aa (Ac 9) Ak))))) (Au 12) (A4 (Ca 13 (Aq 4 r_z19 (Ab (fM (Ac 0)) (Ab (fM (Ac 1)) (Ab (fM (Ac 2)) (Ab (fM (f2 Cn (Ac 3) (Cf (Aa (Cf (Aa (Ac 9) (Aa (Ac 12) Ak))) Ak)))) As)))))) (A4 (sIf (A6 (f1 R7 (Ac 13))) (Cg (fC .non)) Ct) (Co 11 (f2 Cn (Ac 11) (Cf (Aa (Cf (Aa (Ac 12) (Aa (Ac 13) Ak))) Ak))))))) (Cg (Cf (Aa (fC (.str (Str.ofString "open"))) (Aa (Ac 9) (Aa (Ac 8) (Aa (Ac 11) Ak)))))))))))))))
def Mr:Nat->(List D->MH->Option (D×MH))
 |0=>(fun _ _=>none)
 |n+1=>(Lz 14 (Acd (Mr n)))
def Ye:List D->MH->Option (D×MH):=(Mr 24)
def Aio:FS:=(A4 (Co 6 (Dg (Bt (Gc 3 Jz) (Aa (Ac 1) (Aa (Ac 4) (Aa (Ac 5) Ak)))))) (A4 (Ot (L5 (fBm (A6 (f2 oNe (Ac 6) (Dg (B3 Ak))))) (D5 (f2m oEq (Aq 2 A8 (Ab (fM (Ac 0)) (Ab (fM (fC (.int 2))) As))) (fM (fC (.int 0)))))) (A4 (Rb (f2m oIx (fM (Ac 6)) (Aq 2 A8 (Ab (fM (Ac 0)) (Ab (fM (Ay Ec (Aa (Ac 6) Ak))) As)))) (G6 3 (Bv (Au 7) (Bv (Au 8) (Bv (Au 9) L3))))) (A4 (Ot (D5 (f2m oEq (Aq 2 A8 (Ab (fM (Ac 0)) (Ab (fM (fC (.int 2))) As))) (fM (fC (.int 0))))) (Cg (Cf (Aa (fC (.str (Str.ofString "broken"))) (Aa (Ac 7) (Aa (Ac 8) (Aa (Ac 9) Ak)))))) Ct) (Cg (Cf (Aa (fC (.str (Str.ofString "open"))) (Aa (Ac 8) (Aa (Ac 7) (Aa (Ay Et (Aa (Dg (Cb [7,8,9] 1 (G1 (Dg (Bt (Gc 2 Ih) (Aa (Ac 1) (Aa (Ac 8) Ak))))) (Au 3) Ly (Cf (Aa (Ac 3) (Aa (Cf (Aa (fC (.str (Str.ofString "broken"))) (Aa (Ac 0) (Aa (Ac 1) (Aa (Ac 2) Ak))))) Ak))))) Ak)) Ak)))))))) Ct) (Ma (D6 (Ab (fM (fC (.str (Str.ofString "broken")))) (Ab (fM (fC (.str (Str.ofString "")))) (Ab (f2m oIx (fM (Ac 2)) (Aq 2 A8 (Ab (fM (Ac 0)) (Ab (fM (Ay Ec (Aa (Ac 2) Ak))) As)))) (Ab (Aq 2 Ex (Ab (fM (Ac 0)) (Ab (fM (Ac 3)) As))) As))))))))
def Mp:List D->MH->Option (D×MH):=Lz 10 Aio
def Atz:FS:=(A4 (Ca 3 (Aq 2 A8 (Ab (fM (Ac 0)) (Ab (fM (fC (.int 5))) As)))) (A4 (Ca 4 (Aq 2 A8 (Ab (fM (Ac 0)) (Ab (fM (f2 Cn (Ay Ec (Aa (Ac 1) Ak)) (fC (.int 1)))) As)))) (A4 (sIf (A6 (f2 oEq (Ac 3) (fC (.int 0)))) (Cg (f2 Cn (fSl (Ac 1) fNo (Ce (Ac 4))) (fSl (Ac 1) (Ce (f2 Cn (Ac 4) (fC (.int 1)))) fNo))) Ct) (A4 (sIf (A6 (f2 oEq (Ac 3) (fC (.int 1)))) (Cg (f2 Cn (f2 Cn (fSl (Ac 1) fNo (Ce (Ac 4))) (fSl (Ac 1) (Ce (Ac 4)) (Ce (f2 Cn (Ac 4) (fC (.int 1)))))) (fSl (Ac 1) (Ce (Ac 4)) fNo))) Ct) (A4 (sIf (A6 (f2 oEq (Ac 3) (fC (.int 2)))) (Cg (Ay Ac8 (Aa (Ac 1) Ak))) Ct) (A4 (sIf (A6 (f2 oEq (Ac 3) (fC (.int 3)))) (Cg (f2 Cn (Ac 1) (Cf (Aa (Cf (Aa (Cf (Aa (fC (.int 0)) (Aa (fC (.int 1)) (Aa (fC (.int 0)) (Aa (Cf Ak) Ak))))) (Aa (Ac 2) Ak))) Ak)))) Ct) (Cg (f2 Cn (f2 Cn (fSl (Ac 1) fNo (Ce (Ac 4))) (Ay Et (Aa (Dg (Cb [2] 1 (G1 (fSl (Ac 1) (Ce (Ac 4)) (Ce (f2 Cn (Ac 4) (fC (.int 1)))))) (Au 1) Ly (Cf (Aa (f2 oIx (Ac 1) (fC (.int 0))) (Aa (Ac 0) Ak))))) Ak))) (fSl (Ac 1) (Ce (f2 Cn (Ac 4) (fC (.int 1)))) fNo)))))))))
def Vi:List D->MH->Option (D×MH):=Lz 5 Atz
def Yk (r_z29:List D->MH->Option (D×MH)):FS:=(A4 (Ot (L5 (fBm (A6 (f2 oEq (f2 oIx (Ac 1) (fC (.int 0))) (fC (.str (Str.ofString "open")))))) (L5 (fBm (A6 (f2 oGt (Ay Ec (Aa (f2 oIx (Ac 1) (fC (.int 3))) Ak)) (fC (.int 0))))) (D5 (f2m oEq (Aq 2 A8 (Ab (fM (Ac 0)) (Ab (fM (fC (.int 2))) As))) (fM (fC (.int 0))))))) (A4 (Ca 5 (Aq 2 A8 (Ab (fM (Ac 0)) (Ab (fM (Ay Ec (Aa (f2 oIx (Ac 1) (fC (.int 3))) Ak))) As)))) (A4 (Hl 6 (Bt Zh (Aa (f2 oIx (Ac 1) (fC (.int 3))) Ak))) (A4 (Gz (D6 (Ab (fM (f2 oIx (f2 oIx (Ac 6) (Ac 5)) (fC (.int 0)))) (Ab (Aq 5 r_z29 (Ab (fM (Ac 0)) (Ab (fM (f2 oIx (f2 oIx (Ac 6) (Ac 5)) (fC (.int 1)))) (Ab (fM (Ac 2)) (Ab (fM (Ac 3)) (Ab (fM (Ac 4)) As)))))) As))) (Ac 6) (fM (Ac 5))) (Cg (f2 Cn (fSl (Ac 1) fNo (Ce (fC (.int 3)))) (Cf (Aa (Ay Et (Aa (Ac 6) Ak)) Ak))))))) Ct) (A4 (Ca 7 (Aq 2 A8 (Ab (fM (Ac 0)) (Ab (fM (fC (.int 5))) As)))) (A4 (Ca 8 (f2m oIx (fM (Dg (Aca (Ac 2) (Dg (B3 (Aa (fC (.str (Str.ofString ""))) (Aa (fC (.str (Str.ofString "qqqqqqqq"))) Ak))))))) (Aq 2 A8 (Ab (fM (Ac 0)) (Ab (fM (f2 Cn (Ay Ec (Aa (Ac 2) Ak)) (fC (.int 2)))) As))))) (A4 (sIf (A6 (f2 oEq (Ac 7) (fC (.int 0)))) (Cg (Ac 4)) Ct) (A4 (sIf (A6 (f2 oEq (Ac 7) (fC (.int 1)))) (Cg (f2 Cn (Cf (Aa (f2 oIx (Ac 1) (fC (.int 0))) (Aa (Ac 8) Ak))) (fSl (Ac 1) (Ce (fC (.int 2))) fNo))) Ct) (A4 (sIf (A6 (f2 oEq (Ac 7) (fC (.int 2)))) (Cg (f2 Cn (f2 Cn (fSl (Ac 1) fNo (Ce (fC (.int 2)))) (Cf (Aa (Ac 8) Ak))) (fSl (Ac 1) (Ce (fC (.int 3))) fNo))) Ct) (A4 (sIf (A6 (f2 oEq (f2 oIx (Ac 1) (fC (.int 0))) (fC (.str (Str.ofString "broken"))))) (Ma (f2m Cn (fM (fSl (Ac 1) fNo (Ce (fC (.int 3))))) (D6 (Ab (Aq 2 Ex (Ab (fM (Ac 0)) (Ab (fM (Ac 3)) As))) As)))) Ct) (Ma (f2m Cn (fM (fSl (Ac 1) fNo (Ce (fC (.int 3))))) (D6 (Ab (Aq 3 Vi (Ab (fM (Ac 0)) (Ab (fM (f2 oIx (Ac 1) (fC (.int 3)))) (Ab (fM (Ac 4)) As)))) As)))))))))))
def J1:Nat->(List D->MH->Option (D×MH))
 |0=>(fun _ _=>none)
 |n+1=>(Lz 9 (Yk (J1 n)))
def Yf:List D->MH->Option (D×MH):=(J1 24)
def Aip:FS:=(A4 (Co 4 (Ay (C3 4 Vl) (Aa (Ac 0) (Aa (Ac 1) (Aa (Ac 2) (Aa (Ac 3) Ak)))))) (Cg (L4 (Abe "bool" (Ac 4)) (f2 oEq (Ac 4) (Ay (C3 4 Yd) (Aa (Ac 0) (Aa (Ac 1) (Aa (Ac 2) (Aa (Ac 3) Ak)))))))))
def Er:List D->MH->Option (D×MH):=Lz 5 Aip
def At5:FS:=(A4 (Hl 3 (B3 Ak)) (A4 (Ol (G1 (Ac 2)) (Au 4) (A4 (Co 5 (Dg (Bt (Gc 2 Ih) (Aa (Ac 1) (Aa (Ac 4) Ak))))) (Ot (D5 (f2m oEq (Aq 2 A8 (Ab (fM (Ac 0)) (Ab (fM (fC (.int 3))) As))) (fM (fC (.int 0))))) (L9 Gs (Ac 3) (Ab (Aq 2 A8 (Ab (fM (Ac 0)) (Ab (fM (f2 Cn (Ay Ec (Aa (Ac 3) Ak)) (fC (.int 1)))) As))) (Ab (D6 (Ab (fM (Ac 4)) (Ab (f2m oIx (fM (Ac 5)) (Aq 2 A8 (Ab (fM (Ac 0)) (Ab (fM (Ay Ec (Aa (Ac 5) Ak))) As)))) As))) As))) Ct))) (Cg (Ay Et (Aa (Ac 3) Ak)))))
def Rv:List D->MH->Option (D×MH):=Lz 6 At5
def Aa5:FS:=(A4 (Ol (G1 (Dg (B3 (Aa (Cf Ak) (Aa (Ac 6) Ak))))) (Au 7) (A4 (Ea (Aq 2 D7 (Ab (fM (Ac 1)) (Ab (fM (f2 Cn (fC (.int 42)) (Ay Ec (Aa (Ac 7) Ak)))) As)))) (A4 (Ca 8 (Aq 6 Mp (Ab (fM (Ac 1)) (Ab (fM (Ac 4)) (Ab (fM (Ac 2)) (Ab (fM (Ac 3)) (Ab (fM (Ac 5)) (Ab (fM (Ac 7)) As)))))))) (A4 (sIf (Abd (A6 (f2 oGt (Ay Ec (Aa (Ac 2) Ak)) (fC (.int 4)))) (A6 (f2 oEq (f2 oIx (Ac 8) (fC (.int 0))) (fC (.str (Str.ofString "open")))))) (Ca 8 (D6 (Ab (fM (fC (.str (Str.ofString "broken")))) (Ab (fM (f2 oIx (Ac 8) (fC (.int 2)))) (Ab (fM (f2 oIx (Ac 8) (fC (.int 1)))) (Ab (Aq 2 Ex (Ab (fM (Ac 1)) (Ab (fM (Ac 3)) As))) As)))))) Ct) (A4 (Ca 9 (Aq 4 Ye (Ab (fM (Ac 1)) (Ab (fM (Ac 4)) (Ab (fM (Ac 5)) (Ab (fM (Ac 7)) As)))))) (A4 (sIf (A6 (f1 R7 (Ac 9))) (Co 9 (Ac 8)) (sIf (A6 (f2 Ui (Ay (C3 4 Vl) (Aa (Ac 4) (Aa (Ac 5) (Aa (Ac 7) (Aa (Ac 9) Ak))))) (fC (.bl true)))) (Cg (fC (.bl false))) Ct)) (A4 (Ot (Alu (Iu (Iv (Aq 4 Er (Ab (fM (Ac 4)) (Ab (fM (Ac 5)) (Ab (fM (Ac 7)) (Ab (fM (Ac 9)) As))))))) (Iu (Iv (Aq 4 Er (Ab (fM (Ac 4)) (Ab (fM (Ac 5)) (Ab (fM (Ac 7)) (Ab (fM (Ac 8)) As)))))))) (Cg (fC (.bl false))) Ct) (Ol (Iz (Aa (f2 oIx (Dg (B3 (Aa (fC (.int 4)) (Aa (fC (.int 1)) Ak)))) (Ay Abg (Aa (f2 oGt (Ay Ec (Aa (Ac 2) Ak)) (fC (.int 4))) Ak))) Ak)) (Au 10) (A4 (Ea (Aq 2 D7 (Ab (fM (Ac 1)) (Ab (fM (f2 Cn (fC (.int 50)) (Ac 10))) As)))) (A4 (Ot (Iu (Iv (Aq 4 Er (Ab (fM (Ac 4)) (Ab (fM (Ac 5)) (Ab (fM (Ac 7)) (Ab (Aq 5 Yf (Ab (fM (Ac 1)) (Ab (fM (Ac 9)) (Ab (fM (Ac 2)) (Ab (fM (Ac 3)) (Ab (fM (Ac 8)) As)))))) As))))))) (Cg (fC (.bl false))) Ct) (Ot (Iu (Iv (Aq 4 Er (Ab (fM (Ac 4)) (Ab (fM (Ac 5)) (Ab (Aq 3 Rv (Ab (fM (Ac 1)) (Ab (fM (Ac 4)) (Ab (fM (Ac 2)) As)))) (Ab (fM (Ac 9)) As))))))) (Cg (fC (.bl false))) Ct))))))))))) (Cg (fC (.bl true))))
def Aa4:FS:=(A4 (Ca 6 (Aq 3 Rv (Ab (fM (Ac 1)) (Ab (fM (Ac 4)) (Ab (fM (Ac 2)) As))))) Aa5)
def Aif:FS:=(A4 (Ca 1 (Aq 1 Ph (Ab (fM (Ac 0)) As))) (A4 (Rb (Aq 1 Pg (Ab (fM (Ac 1)) As)) (G6 3 (Bv (Au 2) (Bv (Au 3) (Bv (Au 4) L3))))) (A4 (Ea (Aq 2 D7 (Ab (fM (Ac 1)) (Ab (fM (fC (.int 40))) As)))) (A4 (Ca 5 (Aq 5 Vj (Ab (fM (Ac 1)) (Ab (fM (Ac 2)) (Ab (fM (fC (.str (Str.ofString "")))) (Ab (fM (Ac 3)) (Ab (fM (fC (.int 5))) As))))))) (A4 (Ea (Aq 2 D7 (Ab (fM (Ac 1)) (Ab (fM (fC (.int 41))) As)))) Aa4)))))
def Jy:List D->Option D:=Hv 11 Aif
theorem sc_law:FnScope ["_law_script","_law_feed_here","_law_names_here","_law_pool_here","_law_shelf_here","_law_wants","_law_choices_here","_law_some","_law_other_here","_law_paper_here","_law_k"] ["_law_script"] (Bc Rg):=⟨rfl,rfl,rfl,by decide +kernel,rfl,by decide +kernel,by decide +kernel⟩
structure Blt (mg:Str->Option Value):Prop where
 b_all:mg "all"=none
 b_bool:mg "bool"=none
 b_dict:mg "dict"=none
 b_int:mg "int"=none
 b_isinstance:mg "isinstance"=none
 b_len:mg "len"=none
 b_list:mg "list"=none
 b_range:mg "range"=none
 b_reversed:mg "reversed"=none
 b_sorted:mg "sorted"=none
 b_str:mg "str"=none
 b_tuple:mg "tuple"=none
structure Txt (K:W.Frag) (mg:Str->Option Value):Prop where
 h_z3:FD K mg "mark_rank" Arf ["mark"]
 h_z30:FD K mg "rank" Ags ["make"]
 h_z5:FD K mg "is_older" Ari ["one","other"]
 h_z1:FD K mg "newest_first" Ard ["makes"]
 h_z10:FD K mg "lies_in" Af8 ["make","span"]
 h_z6:FD K mg "makes_of" Arj ["shelf","name"]
 h_z7:FD K mg "needs_of" Ark ["shelf","name","make"]
 h_z0:FD K mg "needs_at_work" Arc ["shelf","wants","book"]
 h_z11:FD K mg "is_kept" Af9 ["need","taken"]
 h_z8:FD K mg "is_paper" Arl ["shelf","wants","choices","paper"]
 h_z22:FD K mg "_law_feed" Agk ["_law_script"]
 h_z23:FD K mg "_law_open" Agl ["_law_feed_here","_law_k"]
 h_z24:FD K mg "_law_draw" Agm ["_law_feed_here","_law_many"]
 h_z31:FD K mg "_law_age" Agt ["_law_make_here"]
 h_z25:FD K mg "_law_lies" Agn ["_law_make_here","_law_span_here"]
 h_z13:FD K mg "_law_names" Agb ["_law_feed_here","_law_many"]
 h_z26:FD K mg "_law_make" Ago ["_law_feed_here"]
 h_z27:FD K mg "_law_span" Agp ["_law_feed_here","_law_pool_here"]
 h_z14:FD K mg "_law_stock" Agc ["_law_feed_here"]
 h_z28:FD K mg "_law_pool" Agq ["_law_stock_here"]
 h_z4:FD K mg "_law_needs_of" Arh ["_law_feed_here","_law_names_here","_law_own","_law_pool_here","_law_most"]
 h_z15:FD K mg "_law_shelf" Agd ["_law_feed_here"]
 h_z16:FD K mg "_law_needs" Age ["_law_shelf_here","_law_wants","_law_choices_here"]
 h_z17:FD K mg "_law_makes" Agf ["_law_shelf_here","_law_name"]
 h_z12:FD K mg "_law_broken" Aga ["_law_need","_law_taken"]
 h_z18:FD K mg "_law_paper" Agg ["_law_shelf_here","_law_wants","_law_choices_here","_law_paper_here"]
 h_z19:FD K mg "_law_built" Agh ["_law_feed_here","_law_shelf_here","_law_wants","_law_choices_here"]
 h_z20:FD K mg "_law_other" Agi ["_law_feed_here","_law_shelf_here","_law_names_here","_law_pool_here","_law_wants","_law_choices_here"]
 h_z2:FD K mg "_law_bent_rows" Are ["_law_feed_here","_law_rows","_law_other_here"]
 h_z29:FD K mg "_law_bent" Agr ["_law_feed_here","_law_paper_here","_law_names_here","_law_pool_here","_law_other_here"]
 h_z21:FD K mg "_law_right" Agj ["_law_shelf_here","_law_wants","_law_choices_here","_law_paper_here"]
 h_z9:FD K mg "_law_choices" Arm ["_law_feed_here","_law_shelf_here","_law_names_here"]
section
variable {P:Program}{w:World}{K:W.Frag}{mg:Str->Option Value}{base:Heap} (T:Txt K mg ) (B:Blt mg)
include T B
theorem Aud:Cl P w K mg base 1 "mark_rank" 1 Yg :=
 Ey ["mark"] T.h_z3 At0 Yg fun _ _ _ _ _ _ _ hr nd=>(Ae (B7 (Hf (M4 (Af 0) B.b_isinstance B.b_str (by decide +kernel))) (Ao (A1 (Bi (Ap Ag (Ap Ag (Ap (Af 0) Am)))))) Ba) (Ao (A1 (Bi (Ap Ag (Ap (Af 0) (Ap Gd Am)))))))
theorem Zk:Cl P w K mg base 2 "rank" 1 Ii :=
 Ey ["make","marks","without_marks"] T.h_z30 Aix Ii fun _ _ _ _ _ _ _ hr nd=>(Ae (Bu nd (Av (Af 0) Ag)) (Ae (Bu nd (Avd (Hf (Af 1)) Ag Ag)) (Ao (A1 (Bi (Ap (Av (Af 0) Ag) (Ap (Av (Af 0) Ag) (Ap (Av (Af 0) Ag) (Ap (Af 2) (Ap (Dw B.b_tuple (Ap (Ei (Ck [] ["mark"] rfl (C6 (Af 1)) (C4 0) (fun _ _ _ _ _ _=>(C9 (show (["mark"]:List Str).Nodup by decide))) (fun _ _ _ _ _ _=>Da) (fun _ _ _ _ _ _=>(q_c (Aud T B) hr (Ap (Af 0) Am))))) Am)) Am))))))))))
theorem Api:Cl P w K mg base 3 "is_older" 2 Vk :=
 Ey ["one","other"] T.h_z5 At2 Vk fun _ _ _ _ _ _ _ hr nd=>(Ao (A1 (Hg (Afp hr) (q_c (Zk T B) hr (Ap (Af 0) Am)) (q_c (Zk T B) hr (Ap (Af 1) Am)))))
theorem Aub:Cl P w K mg base 5 "newest_first" 1 Yc :=
 Ey ["makes"] T.h_z1 Aty Yc fun _ _ _ _ _ _ _ hr nd=>(Ao (Gy (Auq (Zk T B) hr B.b_sorted (Ap (Af 0) Am))))
theorem Ao4:Cl P w K mg base 4 "lies_in" 2 Pb :=
 Ey ["make","span","first","behind","middle","high"] T.h_z10 Aig Pb fun _ _ _ _ _ _ _ hr nd=>(Ae (Bu nd Ag) (Ae (Bu nd (B4 B.b_len (Ap (Af 1) Am))) (Ae (Ad5 _ Ayb (A5 (Ajg) (Af 2) (Af 3)) (Ae (Bu nd (Bd Afo (Bd A9 (Af 2) (Af 3)) Ag)) (Ao (B7 (Hf (q_c (Api T B) hr (Ap (Af 0) (Ap (Av (Av (Af 1) (Af 4)) Ag) Am)))) (Ao (Bu nd (Af 4))) (Ao (Bu nd (Bd A9 (Af 4) Ag))))))) (Ae (B7 (A5 (Cj hr) (Af 2) Ag) (Ao (A1 P1)) Ba) (Ae (Bu nd (Av (Av (Af 1) (Bd Mz (Af 2) Ag)) Ag)) (Ao (A1 (Aw3 (Aur (Af 5)) (V6 (q_c (Api T B) hr (Ap (Af 0) (Ap (Af 5) Am))))))))))))
theorem Aue:Cl P w K mg base 6 "makes_of" 2 Yh :=
 Ey ["shelf","name"] T.h_z6 At3 Yh fun _ _ _ _ _ _ _ hr nd=>(Ao (Gy (Aai (Aub T B) hr (Ap (Ei (Ck [1] ["name","entry"] rfl (C6 (Af 0)) (C4 1) (fun _ _ _ _ _ _=>(C9 (show (["name","entry"]:List Str).Nodup by decide))) (fun _ _ _ _ _ _=>(P4 (A5 (Cj hr) (Av (Af 1) Ag) (Bh 0)))) (fun _ _ _ _ _ _=>(Av (Af 1) Ag)))) Am))))
theorem Auf:Cl P w K mg base 1 "needs_of" 3 Yi :=
 Ey ["shelf","name","make","entry"] T.h_z7 At4 Yi fun _ _ _ _ _ _ _ hr nd=>(Ae (Dx Ayb rfl (C6 (Af 0)) (Ez nd) (Ao (B7 (A5 (Cj hr) (L8 (Af 3) B9 (Bs Ag)) (Bi (Ap (Af 1) (Ap (Af 2) Am)))) (Ao (A1 (Av (Af 3) Ag))) Ba))) (Ao (A1 (Bi Am))))
theorem Aua:Cl P w K mg base 2 "needs_at_work" 3 Yb :=
 Ey ["shelf","wants","book","needs","by","make"] T.h_z0 Atx Yb fun _ _ _ _ _ _ _ hr nd=>(Ae (Us [] ["name","span"] nd rfl (C6 (Af 1)) (Ab7 0 1 (by decide)) (fun _ _ _ _ _ _=>(Ds rfl (A7 (C9 (show (["name","span"]:List Str).Nodup by decide)) (A7 (C9 (show (["name","span"]:List Str).Nodup by decide)) Dr)))) (fun _ _ _ _ _ _=>Da) (fun _ _ _ _ _ _=>(Bi (Ap Gd (Ap (Af 0) (Ap (Af 1) Am)))))) (Ae (Dx Ayb rfl (C6 (Af 2)) (Ds rfl (A7 (Aak nd) (A7 (Ez nd) Dr))) (Ao (Af4 (Af 3) (Ap (Ei (Ck [4] ["by","name","span"] rfl (C6 (q_c (Auf T B) hr (Ap (Af 0) (Ap (Bh 4) (Ap (Af 5) Am))))) (Ab7 1 2 (by decide)) (fun _ _ _ _ _ _=>(Ds rfl (A7 (C9 (show (["by","name","span"]:List Str).Nodup by decide)) (A7 (C9 (show (["by","name","span"]:List Str).Nodup by decide)) Dr)))) (fun _ _ _ _ _ _=>Da) (fun _ _ _ _ _ _=>(Bi (Ap (Bh 0) (Ap (Af 1) (Ap (Af 2) Am))))))) Am)))) (Ao (A1 (Af 3)))))
theorem Ao5:Cl P w K mg base 5 "is_kept" 2 Pd :=
 Ey ["need","taken"] T.h_z11 Aih Pd fun _ _ _ _ _ _ _ hr nd=>(Ao (A1 (V5 (Hg Pz (Av (Af 0) Ag) (Af 1)) (V6 (q_c (Ao4 T B) hr (Ap (Aaj (Af 1) (Av (Af 0) Ag)) (Ap (Av (Af 0) Ag) Am)))))))
theorem Afn:∀ n,Cl P w K mg base (n+16) "is_paper" 4 (Rw n)
 |0=>Cl.zero T.h_z8
 |n+1=>by
  have ih:=Afn n
  exact Ey (k:=n+16) ["shelf","wants","choices","paper","needs","chosen","need","name","rows"] T.h_z8 (Alv (Rw n)) _ (fun _ _ _ _ _ _ _ hr nd=>(Ae (Bu nd (Ei (Aai (hk:=by lia) (Aua T B) hr (Ap (Bh 0) (Ap (Bh 1) (Ap (Bh 2) Am)))))) (Ae (Bu nd (N8 hr B.b_dict (Ap (Bh 2) Am))) (Ae (B7 (A5 (Cj hr) (Av (Af 3) Ag) Gd) (Ae (Bu nd (L8 (Af 3) (Bs Ag) B9)) (Ao (A1 (V5 (Hg (Apl hr) (Af 6) (Af 4)) (V5 (Hg Pz (Av (Af 6) Ag) (Af 5)) (V6 (Aq3 (Aup (hk:=by lia) (Ao5 T B) hr (Ap (Af 6) (Ap (Af 5) Am)))))))))) Ba) (Ae (Td nd (Av (Af 3) Ag)) (Ae (Bu nd (Av (Af 3) Ag)) (Ae (B7 (D3 (P5 (A5 Pz (Bh 7) (Af 5)) (M7 (A5 (Eg hr) (Bi (Ap (Av (Af 3) Ag) (Ap (Bh 7) Am))) (Ei (Ck [] ["need"] rfl (C6 (Af 4)) (C4 0) (fun _ _ _ _ _ _=>(C9 (show (["need"]:List Str).Nodup by decide))) (fun _ _ _ _ _ _=>Da) (fun _ _ _ _ _ _=>(L8 (Af 0) B9 (Bs Ag))))))))) (Ao (A1 P1)) Ba) (Ae (B7 (A5 (N0 hr) (Ei (Ck [] ["row"] rfl (C6 (Af 8)) (C4 0) (fun _ _ _ _ _ _=>(C9 (show (["row"]:List Str).Nodup by decide))) (fun _ _ _ _ _ _=>Da) (fun _ _ _ _ _ _=>(Av (Af 0) Ag)))) (Ei (Aai (hk:=by lia) (Aue T B) hr (Ap (Bh 0) (Ap (Bh 7) Am))))) (Ao (A1 P1)) Ba) (Ao (A1 (Aqy rfl B.b_all (Ap (Ei (Ck [0,1,2,7] ["shelf","wants","choices","name","make","behind"] rfl (C6 (Af 8)) (Ab7 4 5 (by decide)) (fun _ _ _ _ _ _=>(Ds rfl (A7 (C9 (show (["shelf","wants","choices","name","make","behind"]:List Str).Nodup by decide)) (A7 (C9 (show (["shelf","wants","choices","name","make","behind"]:List Str).Nodup by decide)) Dr)))) (fun _ _ _ _ _ _=>Da) (fun _ _ _ _ _ _=>(q_c (hk:=by lia) ih hr (Ap (Bh 0) (Ap (Bh 1) (Ap (Bd A9 (Bh 2) (Bi (Ap (Bi (Ap (Bh 3) (Ap (Af 4) Am))) Am))) (Ap (Af 5) Am)))))))) Am))))))))))))
theorem Apj:Cl P w K mg base (40) "is_paper" 4 Vl:=(Afn T B 24)
theorem Apc:ClI P w K mg base 1 "_law_feed" 1 Ph :=
 Gv ["_law_script","_law_odd"] T.h_z22 Aiq Ph fun _ _ _ _ _ _ _ hr nd=>(Ae (Bu nd Ag) (Ae (B7 (A5 Zo (B4 B.b_len (Ap (Af 0) Am)) Ag) (Ao (Bu nd (Bd Hc (Av (Af 0) Ag) Ag))) Ba) (Ao (Gy (D9 (Ap (Af 0) (Ap Ag (Ap (Af 1) (Ap Ag Am)))))))))
theorem Le:ClI P w K mg base 1 "_law_open" 2 D7 :=
 Gv ["_law_feed_here","_law_k"] T.h_z23 Air D7 fun _ _ _ _ _ _ _ hr nd=>(Ae (Hh (Bd My Ag (Af 1)) (Af 0) Ag) (Ae (Hh Ag (Af 0) Ag) (Ao (B7 (A5 Zo (B4 B.b_len (Ap (Av (Af 0) Ag) Am)) Ag) (Ao (Hh (Av (Av (Af 0) Ag) (Bd Hc (Af 1) (B4 B.b_len (Ap (Av (Af 0) Ag) Am)))) (Af 0) Ag)) Ba))))
theorem Bl:ClI P w K mg base 1 "_law_draw" 2 A8 :=
 Gv ["_law_feed_here","_law_many","_law_found","_law_mixed"] T.h_z24 Ais A8 fun _ _ _ _ _ _ _ hr nd=>(Ae (Hh (Bd A9 (Av (Af 0) Ag) Ag) (Af 0) Ag) (Ae (B7 (A5 (Cj hr) (Av (Af 0) Ag) Ag) (Ae (Bu nd (Bd Hc (Av (Af 0) Ag) (Af 1))) (Ae (Hh (Bd Afo (Av (Af 0) Ag) (Af 1)) (Af 0) Ag) (Ao (A1 (Af 2))))) Ba) (Ae (Bu nd (Bd Hc (Bd My (Bd A9 (Bd Hc (Av (Af 0) Ag) Ag) Ag) (Bd A9 (Bd My (Bd My Ag (Av (Af 0) Ag)) (Av (Af 0) Ag)) Ag)) Ag)) (Ao (A1 (Bd Hc (Bd Hc (Bd My (Af 3) Ag) Ag) (Af 1)))))))
theorem Px:Cl P w K mg base 1 "_law_age" 1 Es :=
 Ey ["_law_make_here","_law_marks","_law_mark"] T.h_z31 Aiy Es fun _ _ _ _ _ _ _ hr nd=>(Ae (M6 nd (D9 Am)) (Ae (Dx Ayb rfl (C6 (Av (Af 0) Ag)) (Ez nd) (Ao (B7 (Hf (M4 (Af 2) B.b_isinstance B.b_str (by decide +kernel))) (Ao (Uu (Af 1) (Ap (Bi (Ap Ag (Ap Ag (Ap (Af 2) Am)))) Am))) (Ao (Uu (Af 1) (Ap (Bi (Ap Ag (Ap (Af 2) (Ap Gd Am)))) Am)))))) (Ao (A1 (Bi (Ap (Av (Af 0) Ag) (Ap (Av (Af 0) Ag) (Ap (Av (Af 0) Ag) (Ap (Af2 B.b_int (Ap (Hg (Cj hr) (Av (Af 0) Ag) (Bi Am)) Am)) (Ap (Af 1) Am))))))))))
theorem Apd:Cl P w K mg base 2 "_law_lies" 2 Pj :=
 Ey ["_law_make_here","_law_span_here","_law_age_here","_law_low","_law_high"] T.h_z25 Ait Pj fun _ _ _ _ _ _ _ hr nd=>(Ae (Bu nd (q_c (Px T B) hr (Ap (Af 0) Am))) (Ae (Dx Ayb rfl (C6 (Af 1)) (Ds rfl (A7 (Ez nd) (A7 (Ez nd) Dr))) (Ao (B7 (D3 (Uv (A5 (Apm hr) (q_c (Px T B) hr (Ap (Af 3) Am)) (Af 2)) (Oh (D3 (P5 (Aah (Af 4)) (M7 (A5 (Afp hr) (Af 2) (q_c (Px T B) hr (Ap (Af 4) Am))))))))) (Ao (A1 P1)) Ba))) (Ao (A1 P1))))
theorem Ao6:ClI P w K mg base 2 "_law_names" 2 Pe :=
 Gv ["_law_feed_here","_law_many","_law_letters","_law_style","_law_base","_law_size","_law_at","_law_rest"] T.h_z13 Aij Pe fun _ _ _ _ _ _ _ hr nd=>(Ae (Td nd Gd) (Ae (Bz nd (Ci (Bl T B) hr (Aj (Ai (Af 0)) (Aj (Ai Ag) Ar)))) (Ae (Jk nd (Ci (Bl T B) hr (Aj (Ai (Af 0)) (Aj (Ai Ag) Ar)))) (Ae (B7 (A5 (Cj hr) (Af 3) Ag) (Ao (Gy (Ck [4] ["_law_base","_law_k"] rfl (P6 B.b_range (Ap (Af 1) Am)) (C4 1) (fun _ _ _ _ _ _=>(C9 (show (["_law_base","_law_k"]:List Str).Nodup by decide))) (fun _ _ _ _ _ _=>Da) (fun _ _ _ _ _ _=>(Av (Ei (D9 (Ap Gd (Ap Gd (Ap Gd (Ap Gd (Ap Gd (Ap Gd Am)))))))) (Bd Hc (Bd A9 (Bh 0) (Af 1)) Ag)))))) Ba) (Ae (B7 (A5 (Cj hr) (Af 3) Ag) (Ao (Gy (Ck [2,4] ["_law_letters","_law_base","_law_k"] rfl (P6 B.b_range (Ap (Af 1) Am)) (C4 2) (fun _ _ _ _ _ _=>(C9 (show (["_law_letters","_law_base","_law_k"]:List Str).Nodup by decide))) (fun _ _ _ _ _ _=>Da) (fun _ _ _ _ _ _=>(L8 (Bd A9 (Bh 0) (Bh 0)) (Bs (Bh 1)) (Bs (Bd A9 (Bd A9 (Bh 1) Ag) (Af 2)))))))) Ba) (Ae (Jk nd (Im A9 (Ai Ag) (Ci (Bl T B) hr (Aj (Ai (Af 0)) (Aj (Ai Ag) Ar))))) (Ae (Jk nd (Ci (Bl T B) hr (Aj (Ai (Af 0)) (Aj (Ai (Bh 5)) Ar)))) (Ae (Jk nd (L7 (Ai (Bh 2)) (Ci (Bl T B) hr (Aj (Ai (Af 0)) (Aj (Ai Ag) Ar))))) (Ao (Gy (Ck [7,6,2,5,4] ["_law_rest","_law_at","_law_letters","_law_size","_law_base","_law_k"] rfl (P6 B.b_range (Ap (Af 1) Am)) (C4 5) (fun _ _ _ _ _ _=>(C9 (show (["_law_rest","_law_at","_law_letters","_law_size","_law_base","_law_k"]:List Str).Nodup by decide))) (fun _ _ _ _ _ _=>Da) (fun _ _ _ _ _ _=>(Bd A9 (Bd A9 (Bd Zp (Bh 0) (Bh 1)) (Av (Bh 2) (Bd Hc (Bd A9 (Bh 4) (Bd My Ag (Af 5))) Ag))) (Bd Zp (Bh 0) (Bd Mz (Bd Mz (Bh 3) Ag) (Bh 1))))))))))))))))
theorem Ape:ClI P w K mg base 2 "_law_make" 1 Mq :=
 Gv ["_law_feed_here","_law_numbers","_law_marks","_law_kept"] T.h_z26 Aiu Mq fun _ _ _ _ _ _ _ hr nd=>(Ae (Ak1 [0] ["_law_feed_here","_law_k"] nd rfl (P6 B.b_range (Ap Ag Am)) (C4 1) (fun _ _ _ _ _ _=>(C9 (show (["_law_feed_here","_law_k"]:List Str).Nodup by decide))) (fun _ _ _ _ _ _=>Da) (fun _ _ _ _ _ _=>(Ci (Bl T B) hr (Aj (Ai (Bh 0)) (Aj (Ai Ag) Ar))))) (Ae (Bz nd (Aq1 (Aj (Ai (Bi Am)) (Aj (Ai (Bi Am)) (Aj (Ai (Bi Am)) (Aj (E2 (Aj (Ci (Bl T B) hr (Aj (Ai (Bh 0)) (Aj (Ai Ag) Ar))) Ar)) (Aj (Ai (Bi (Ap Gd Am))) (Aj (E2 (Aj (Ai Gd) (Aj (Ci (Bl T B) hr (Aj (Ai (Bh 0)) (Aj (Ai Ag) Ar))) Ar))) (Aj (Ai (Bi (Ap Ag (Ap Gd Am)))) (Aj (Ai (Bi (Ap Gd (Ap Ag Am)))) Ar)))))))))) (Ae (Bz nd (L7 (Ai (Af 2)) (Ci (Bl T B) hr (Aj (Ai (Bh 0)) (Aj (Ai Ag) Ar))))) (Ae (Gh (Gx (Cj hr) (Ci (Bl T B) hr (Aj (Ai (Bh 0)) (Aj (Ai Ag) Ar))) (Ai Ag)) (Ao (P3 (Im Mz (Ai (Bd Mz (Bd Apn Ag Ag) Ag)) (Ci (Bl T B) hr (Aj (Ai (Bh 0)) (Aj (Ai Ag) Ar)))) (Af 1) (Ci (Bl T B) hr (Aj (Ai (Bh 0)) (Aj (Ai Ag) Ar))))) Ba) (Ao (A1 (Bi (Ap (Av (Af 1) Ag) (Ap (Av (Af 1) Ag) (Ap (Av (Af 1) Ag) (Ap (Af 3) Am)))))))))))
theorem Ul:ClI P w K mg base 4 "_law_span" 2 Ex :=
 Gv ["_law_feed_here","_law_pool_here","_law_oldest","_law_ends","_law_k","_law_one"] T.h_z27 Aiv Ex fun _ _ _ _ _ _ _ hr nd=>(Ae (Bu nd (Bi (Ap Ag (Ap Ag (Ap Ag (Ap (Bi (Ap Ag Am)) Am)))))) (Ae (Gh (Gx (Cj hr) (Ci (Bl T B) hr (Aj (Ai (Af 0)) (Aj (Ai Ag) Ar))) (Ai Ag)) (Ao (A1 (Bi (Ap (Bi (Ap (Af 2) (Ap Ad4 Am))) Am)))) Ba) (Ae (Og nd (D9 Am)) (Ae (Oc Ayb rfl B.b_range (Aj (Ci (Bl T B) hr (Aj (Ai (Af 0)) (Aj (Ai Ag) Ar))) Ar) (Ez nd) (Ae (Bz nd (L7 (Ai (Af 1)) (Ci (Bl T B) hr (Aj (Ai (Af 0)) (Aj (Ai (B4 B.b_len (Ap (Af 1) Am))) Ar))))) (Ao (B7 (A5 (Eg hr) (Af 5) (Bh 3)) (Ao (Uu (Bh 3) (Ap (Af 5) Am))) Ba)))) (Ae (Gh (Jj (Oe (Gx (Cj hr) (Ci (Bl T B) hr (Aj (Ai (Af 0)) (Aj (Ai Ag) Ar))) (Ai Ag)) (Of (P2 (A5 (Eg hr) (Af 2) (Bh 3)))))) (Ao (Uu (Bh 3) (Ap (Af 2) Am))) Ba) (Ae (Og nd (Ad2 (Ei (Aqx (Px T B) hr B.b_sorted (Ap (Bh 3) Am))) (Ei (D9 (Ap Ad4 Am))))) (Ao (A1 (Dw B.b_tuple (Ap (Ei (Ck [3] ["_law_ends","_law_k"] rfl (Aut B.b_range (Ap Ag (Ap (Bd Mz (B4 B.b_len (Ap (Bh 3) Am)) Ag) (Ap Ag Am)))) (C4 1) (fun _ _ _ _ _ _=>(C9 (show (["_law_ends","_law_k"]:List Str).Nodup by decide))) (fun _ _ _ _ _ _=>Da) (fun _ _ _ _ _ _=>(Bi (Ap (Av (Bh 0) (Af 1)) (Ap (Av (Bh 0) (Bd A9 (Af 1) Ag)) Am)))))) Am))))))))))
theorem Ao7:ClI P w K mg base 3 "_law_stock" 1 Pf :=
 Gv ["_law_feed_here","_law_shape","_law_many","_law_names_here","_law_stock_here","_law_k","_law_j","_law_pair"] T.h_z14 Aik Pf fun _ _ _ _ _ _ _ hr nd=>(Ae (Eh (Ci (Le T B) hr (Aj (Ai (Af 0)) (Aj (Ai Ag) Ar)))) (Ae (Bz nd (Ci (Bl T B) hr (Aj (Ai (Af 0)) (Aj (Ai Ag) Ar)))) (Ae (Bz nd (Aus (P2 (A5 (Ajg) (Af 1) Ag)) (Ai (Av (Ei (D9 (Ap Ag (Ap Ag Am)))) (Af 1))) (Im A9 (Ai Ag) (Ci (Bl T B) hr (Aj (Ai (Af 0)) (Aj (Ai Ag) Ar)))))) (Ae (Bz nd (Ci (Ao6 T B) hr (Aj (Ai (Af 0)) (Aj (Ai (Af 2)) Ar)))) (Ae (M6 nd (D9 Am)) (Ae (Dx Ayb rfl (P6 B.b_range (Ap (Af 2) Am)) (Ez nd) (Ae (Eh (Ci (Le T B) hr (Aj (Ai (Af 0)) (Aj (Ai (Bd A9 Ag (Af 5))) Ar)))) (Ao (Oc Ayb rfl B.b_range (Aj (Im A9 (Ai Ag) (Ci (Bl T B) hr (Aj (Ai (Af 0)) (Aj (Ai (Avd (A5 (Ajg) (Af 1) Ag) (Av (Ei (D9 (Ap Ag (Ap Ag Am)))) (Af 1)) Ag)) Ar)))) Ar) (Ez nd) (Ae (Bz nd (E2 (Aj (Ai (Av (Af 3) (Af 5))) (Aj (Ci (Ape T B) hr (Aj (Ai (Af 0)) Ar)) Ar)))) (Ao (B7 (A5 (Eg hr) (Af 7) (Af 4)) (Ao (M5 (Af 4) (Aj (Ci (Bl T B) hr (Aj (Ai (Af 0)) (Aj (Ai (Bd A9 (B4 B.b_len (Ap (Af 4) Am)) Ag)) Ar))) (Aj (Ai (Af 7)) Ar)))) Ba))))))) (Ao (A1 (Bi (Ap (Af 3) (Ap (Af 4) Am)))))))))))
theorem Apf:Cl P w K mg base 1 "_law_pool" 1 Pk :=
 Ey ["_law_stock_here","_law_pool_here","_law_name","_law_make_here","_law_behind"] T.h_z28 Aiw Pk fun _ _ _ _ _ _ _ hr nd=>(Ae (Og nd (D9 (Ap (Bi (Ap Ag (Ap Ag (Ap Ag (Ap (Bi (Ap Ag Am)) Am))))) Am))) (Ae (Dx Ayb rfl (C6 (Af 0)) (Ds rfl (A7 (Ez nd) (A7 (Ez nd) Dr))) (Ae (Bu nd (Bi (Ap (Av (Af 3) Ag) (Ap (Av (Af 3) Ag) (Ap (Av (Af 3) Ag) (Ap (Bd A9 (Av (Af 3) Ag) (Bi (Ap Ag Am))) Am)))))) (Ae (B7 (A5 (Cj hr) (Av (Af 3) Ag) (Bi Am)) (Ao (Bu nd (Bi (Ap (Av (Af 3) Ag) (Ap (Av (Af 3) Ag) (Ap (Bd A9 (Av (Af 3) Ag) Ag) (Ap (Bi (Ap Ag Am)) Am))))))) Ba) (Ao (Og nd (Ad2 (Bh 1) (Ei (Ck [1] ["_law_pool_here","_law_one"] rfl (C6 (Ei (D9 (Ap (Af 3) (Ap (Af 4) Am))))) (C4 1) (fun _ _ _ _ _ _=>(C9 (show (["_law_pool_here","_law_one"]:List Str).Nodup by decide))) (fun _ _ _ _ _ _=>(P4 (A5 (Eg hr) (Af 1) (Bh 0)))) (fun _ _ _ _ _ _=>(Af 1)))))))))) (Ao (A1 (Bh 1)))))
theorem Aph:ClI P w K mg base 5 "_law_needs_of" 5 Vj :=
 Gv ["_law_feed_here","_law_names_here","_law_own","_law_pool_here","_law_most","_law_needs_here","_law_k","_law_name"] T.h_z4 At1 Vj fun _ _ _ _ _ _ _ hr nd=>(Ae (M6 nd (D9 Am)) (Ae (Oc Ayb rfl B.b_range (Aj (Ci (Bl T B) hr (Aj (Ai (Af 0)) (Aj (Ai (Af 4)) Ar))) Ar) (Ez nd) (Ae (Bz nd (L7 (Ai (Ei (Ad2 (Af 1) (Ei (D9 (Ap Gd Am)))))) (Ci (Bl T B) hr (Aj (Ai (Af 0)) (Aj (Im A9 (Ai (B4 B.b_len (Ap (Af 1) Am))) (Aq0 B.b_int (Aj (Aqz (Cj hr) (Ci (Bl T B) hr (Aj (Ai (Af 0)) (Aj (Ai Ag) Ar))) (Ai Ag)) Ar))) Ar))))) (Ao (B7 (D3 (Uv (A5 (N0 hr) (Af 7) (Af 2)) (Oh (A5 (Eg hr) (Af 7) (Ei (Ck [] ["_law_need"] rfl (C6 (Af 5)) (C4 0) (fun _ _ _ _ _ _=>(C9 (show (["_law_need"]:List Str).Nodup by decide))) (fun _ _ _ _ _ _=>Da) (fun _ _ _ _ _ _=>(Av (Af 0) Ag)))))))) (Ao (Aal (Af 5) (Aj (E2 (Aj (Ai (Af 7)) (Aj (Ci (Ul T B) hr (Aj (Ai (Af 0)) (Aj (Ai (Af 3)) Ar))) Ar))) Ar))) Ba)))) (Ao (A1 (Dw B.b_tuple (Ap (Af 5) Am))))))
theorem Ao8:ClI P w K mg base 6 "_law_shelf" 1 Pg :=
 Gv ["_law_feed_here","_law_names_here","_law_stock_here","_law_pool_here","_law_shelf_here","_law_k","_law_name","_law_make_here"] T.h_z15 Ail Pg fun _ _ _ _ _ _ _ hr nd=>(Ae (Ob (Ci (Ao7 T B) hr (Aj (Ai (Af 0)) Ar)) (Ds rfl (A7 (Ez nd) (A7 (Ez nd) Dr)))) (Ae (Bu nd (Ei (Aai (Apf T B) hr (Ap (Af 2) Am)))) (Ae (M6 nd (D9 Am)) (Ae (Dx Ayb rfl (P6 B.b_range (Ap (B4 B.b_len (Ap (Af 2) Am)) Am)) (Ez nd) (Ae (Eh (Ci (Le T B) hr (Aj (Ai (Af 0)) (Aj (Ai (Bd A9 Ag (Af 5))) Ar)))) (Ae (Af3 (Av (Af 2) (Af 5)) (Ds rfl (A7 (Ez nd) (A7 (Ez nd) Dr)))) (Ao (Aal (Af 4) (Aj (E2 (Aj (Ai (Af 6)) (Aj (Ai (Af 7)) (Aj (Ci (Aph T B) hr (Aj (Ai (Af 0)) (Aj (Ai (Af 1)) (Aj (Ai (Af 6)) (Aj (Ai (Af 3)) (Aj (Ai Ag) Ar)))))) Ar)))) Ar)))))) (Ao (A1 (Bi (Ap (Af 1) (Ap (Af 3) (Ap (Dw B.b_tuple (Ap (Af 4) Am)) Am))))))))))
theorem Zj:Cl P w K mg base 1 "_law_needs" 3 Jz :=
 Ey ["_law_shelf_here","_law_wants","_law_choices_here","_law_found","_law_by","_law_make_here","_law_name","_law_other_here","_law_needs_here"] T.h_z16 Aim Jz fun _ _ _ _ _ _ _ hr nd=>(Ae (Us [] ["_law_name","_law_span_here"] nd rfl (C6 (Af 1)) (Ab7 0 1 (by decide)) (fun _ _ _ _ _ _=>(Ds rfl (A7 (C9 (show (["_law_name","_law_span_here"]:List Str).Nodup by decide)) (A7 (C9 (show (["_law_name","_law_span_here"]:List Str).Nodup by decide)) Dr)))) (fun _ _ _ _ _ _=>Da) (fun _ _ _ _ _ _=>(Bi (Ap Gd (Ap (Af 0) (Ap (Af 1) Am)))))) (Ae (Dx Ayb rfl (C6 (Af 2)) (Ds rfl (A7 (Aak nd) (A7 (Ez nd) Dr))) (Ao (Dx Ayb rfl (C6 (Af 0)) (Ds rfl (A7 (Ez nd) (A7 (Ez nd) (A7 (Ez nd) Dr)))) (Ao (B7 (D3 (Uv (A5 (Cj hr) (Af 6) (Bh 4)) (Oh (A5 (Cj hr) (Af 7) (Af 5))))) (Ao (Af4 (Af 3) (Ap (Ei (Ck [4] ["_law_by","_law_need"] rfl (C6 (Af 8)) (C4 1) (fun _ _ _ _ _ _=>(C9 (show (["_law_by","_law_need"]:List Str).Nodup by decide))) (fun _ _ _ _ _ _=>Da) (fun _ _ _ _ _ _=>(Bi (Ap (Bh 0) (Ap (Av (Af 1) Ag) (Ap (Av (Af 1) Ag) Am))))))) Am))) Ba))))) (Ao (A1 (Af 3)))))
theorem Uj:Cl P w K mg base 4 "_law_makes" 2 Ih :=
 Ey ["_law_shelf_here","_law_name","_law_makes_here"] T.h_z17 Ain Ih fun _ _ _ _ _ _ _ hr nd=>(Ae (N7 [1] ["_law_name","_law_entry"] nd rfl (C6 (Af 0)) (C4 1) (fun _ _ _ _ _ _=>(C9 (show (["_law_name","_law_entry"]:List Str).Nodup by decide))) (fun _ _ _ _ _ _=>(P4 (A5 (Cj hr) (Av (Af 1) Ag) (Bh 0)))) (fun _ _ _ _ _ _=>(Av (Af 1) Ag))) (Ao (Gy (Atv rfl B.b_list B.b_reversed (Ap (Ei (Aqx (Px T B) hr B.b_sorted (Ap (Af 2) Am))) Am)))))
theorem Afm:Cl P w K mg base 3 "_law_broken" 2 Mo :=
 Ey ["_law_need","_law_taken"] T.h_z12 Aii Mo fun _ _ _ _ _ _ _ hr nd=>(Ao (A1 (V5 (Hg Pz (Av (Af 0) Ag) (Af 1)) (V6 (Aq3 (q_c (Apd T B) hr (Ap (Aaj (Af 1) (Av (Af 0) Ag)) (Ap (Av (Af 0) Ag) Am))))))))
theorem Zl:∀ n,Cl P w K mg base (n+16) "_law_paper" 4 (J0 n)
 |0=>Cl.zero T.h_z18
 |n+1=>by
  have ih:=Zl n
  exact Ey (k:=n+16) ["_law_shelf_here","_law_wants","_law_choices_here","_law_paper_here","_law_taken","_law_needs_here","_law_word","_law_name","_law_by","_law_rows","_law_makes_here","_law_k"] T.h_z18 (Vn (J0 n)) _ (fun _ _ _ _ _ _ _ hr nd=>(Ae (B7 (D3 (P5 (Ut (Hf (M4 (Af 3) B.b_isinstance B.b_tuple (by decide +kernel)))) (M7 (A5 (N0 hr) (B4 B.b_len (Ap (Af 3) Am)) Ag)))) (Ao (A1 P1)) Ba) (Ae (Bu nd (N8 hr B.b_dict (Ap (Af 2) Am))) (Ae (Bu nd (Ei (Aai (hk:=by lia) (Zj T B) hr (Ap (Af 0) (Ap (Af 1) (Ap (Af 2) Am)))))) (Ae (B7 (A5 (Cj hr) (Av (Af 3) Ag) Gd) (Ao (A1 (V5 (Hg (Apl hr) (L8 (Af 3) (Bs Ag) B9) (Af 5)) (V6 (Aup (hk:=by lia) (Afm T B) hr (Ap (L8 (Af 3) (Bs Ag) B9) (Ap (Af 4) Am))))))) Ba) (Ae (Af3 (Af 3) (Ds rfl (A7 (Ez nd) (A7 (Ez nd) (A7 (Ez nd) (A7 (Ez nd) Dr)))))) (Ae (B7 (D3 (P5 (A5 (N0 hr) (Af 6) Gd) (P5 (A5 Pz (Af 7) (Af 4)) (M7 (Ut (Hf (M4 (Af 9) B.b_isinstance B.b_tuple (by decide +kernel)))))))) (Ao (A1 P1)) Ba) (Ae (Bu nd (Ei (Aai (hk:=by lia) (Uj T B) hr (Ap (Af 0) (Ap (Af 7) Am))))) (Ae (B7 (D3 (P5 (A5 (Eg hr) (Bi (Ap (Af 8) (Ap (Af 7) Am))) (Ei (Ck [] ["_law_need"] rfl (C6 (Af 5)) (C4 0) (fun _ _ _ _ _ _=>(C9 (show (["_law_need"]:List Str).Nodup by decide))) (fun _ _ _ _ _ _=>Da) (fun _ _ _ _ _ _=>(L8 (Af 0) B9 (Bs Ag)))))) (M7 (A5 (N0 hr) (B4 B.b_len (Ap (Af 9) Am)) (B4 B.b_len (Ap (Af 10) Am)))))) (Ao (A1 P1)) Ba) (Ae (Dx Ayb rfl (P6 B.b_range (Ap (B4 B.b_len (Ap (Af 10) Am)) Am)) (Ez nd) (Ae (B7 (D3 (P5 (Ut (Hf (M4 (Av (Af 9) (Af 11)) B.b_isinstance B.b_tuple (by decide +kernel)))) (P5 (A5 (N0 hr) (B4 B.b_len (Ap (Av (Af 9) (Af 11)) Am)) Ag) (M7 (A5 (N0 hr) (Av (Av (Af 9) (Af 11)) Ag) (Av (Af 10) (Af 11))))))) (Ao (A1 P1)) Ba) (Ao (B7 (Ut (Hf (q_c (hk:=by lia) ih hr (Ap (Af 0) (Ap (Af 1) (Ap (Bd A9 (Af 2) (Bi (Ap (Bi (Ap (Af 7) (Ap (Av (Af 10) (Af 11)) Am))) Am))) (Ap (Av (Av (Af 9) (Af 11)) Ag) Am))))))) (Ao (A1 P1)) Ba)))) (Ao (A1 P1))))))))))))
theorem Ao9:Cl P w K mg base (40) "_law_paper" 4 Yd:=(Zl T B 24)
theorem Zm:∀ n,ClI P w K mg base (n+41) "_law_built" 4 (Mr n)
 |0=>ClI.zero T.h_z19
 |n+1=>by
  have ih:=Zm n
  exact Gv (k:=n+41) ["_law_feed_here","_law_shelf_here","_law_wants","_law_choices_here","_law_taken","_law_needs_here","_law_bad","_law_free","_law_by","_law_name","_law_span_here","_law_rows","_law_make_here","_law_paper_here"] T.h_z19 (Acd (Mr n)) _ (fun _ _ _ _ _ _ _ hr nd=>(Ae (Td nd (N8 hr B.b_dict (Ap (Af 3) Am))) (Ae (Bu nd (Ei (Aai (hk:=by lia) (Zj T B) hr (Ap (Af 1) (Ap (Af 2) (Ap (Af 3) Am)))))) (Ae (N7 [4] ["_law_taken","_law_need"] nd rfl (C6 (Af 5)) (C4 1) (fun _ _ _ _ _ _=>(C9 (show (["_law_taken","_law_need"]:List Str).Nodup by decide))) (fun _ _ _ _ _ _=>(P4 (Hf (Aup (hk:=by lia) (Afm T B) hr (Ap (Af 1) (Ap (Bh 0) Am)))))) (fun _ _ _ _ _ _=>(Af 1))) (Ae (B7 (A5 (N0 hr) (Af 6) (Ei (D9 Am))) (Ao (Od (Im A9 (Ai (Bi (Ap Gd Am))) (L7 (Ai (Af 6)) (Ci (hk:=by lia) (Bl T B) hr (Aj (Ai (Af 0)) (Aj (Ai (B4 B.b_len (Ap (Af 6) Am))) Ar))))))) Ba) (Ae (N7 [4] ["_law_taken","_law_need"] nd rfl (C6 (Af 5)) (C4 1) (fun _ _ _ _ _ _=>(C9 (show (["_law_taken","_law_need"]:List Str).Nodup by decide))) (fun _ _ _ _ _ _=>(P4 (A5 Zq (Av (Af 1) Ag) (Bh 0)))) (fun _ _ _ _ _ _=>(Af 1))) (Ae (B7 (A5 (Cj hr) (Af 7) (Ei (D9 Am))) (Ao (A1 Ad4)) Ba) (Ae (Ob (L7 (Ai (Af 7)) (Ci (hk:=by lia) (Bl T B) hr (Aj (Ai (Af 0)) (Aj (Ai (B4 B.b_len (Ap (Af 7) Am))) Ar)))) (Ds rfl (A7 (Ez nd) (A7 (Ez nd) (A7 (Ez nd) Dr))))) (Ae (Bu nd (Bi Am)) (Ae (Dx Ayb rfl (C6 (Ei (Aai (hk:=by lia) (Uj T B) hr (Ap (Af 1) (Ap (Af 9) Am))))) (Ez nd) (Ae (Bz nd (Ci (hk:=by lia) ih hr (Aj (Ai (Af 0)) (Aj (Ai (Af 1)) (Aj (Ai (Af 2)) (Aj (Ai (Bd A9 (Af 3) (Bi (Ap (Bi (Ap (Af 9) (Ap (Af 12) Am))) Am)))) Ar)))))) (Ae (B7 (Aah (Af 13)) (Ao (A1 Ad4)) Ba) (Ao (Bu nd (Bd A9 (Af 11) (Bi (Ap (Bi (Ap (Af 12) (Ap (Af 13) Am))) Am)))))))) (Ao (A1 (Bi (Ap Gd (Ap (Af 9) (Ap (Af 8) (Ap (Af 11) Am)))))))))))))))))
theorem Apa:ClI P w K mg base (65) "_law_built" 4 Ye:=(Zm T B 24)
theorem Apb:ClI P w K mg base 5 "_law_other" 6 Mp :=
 Gv ["_law_feed_here","_law_shelf_here","_law_names_here","_law_pool_here","_law_wants","_law_choices_here","_law_needs_here","_law_by","_law_name","_law_span_here"] T.h_z20 Aio Mp fun _ _ _ _ _ _ _ hr nd=>(Ae (Bu nd (Ei (Aai (Zj T B) hr (Ap (Af 1) (Ap (Af 4) (Ap (Af 5) Am)))))) (Ae (Gh (Jj (Oe (P2 (A5 (N0 hr) (Af 6) (Ei (D9 Am)))) (Of (Gx (Cj hr) (Ci (Bl T B) hr (Aj (Ai (Af 0)) (Aj (Ai Ag) Ar))) (Ai Ag))))) (Ae (Ob (L7 (Ai (Af 6)) (Ci (Bl T B) hr (Aj (Ai (Af 0)) (Aj (Ai (B4 B.b_len (Ap (Af 6) Am))) Ar)))) (Ds rfl (A7 (Aak nd) (A7 (Aak nd) (A7 (Aak nd) Dr))))) (Ae (Gh (Gx (Cj hr) (Ci (Bl T B) hr (Aj (Ai (Af 0)) (Aj (Ai Ag) Ar))) (Ai Ag)) (Ao (A1 (Bi (Ap Gd (Ap (Bh 7) (Ap (Bh 8) (Ap (Bh 9) Am))))))) Ba) (Ao (A1 (Bi (Ap Gd (Ap (Bh 8) (Ap (Bh 7) (Ap (Dw B.b_tuple (Ap (Ei (Ck [7,8,9] ["_law_by","_law_name","_law_span_here","_law_make_here"] rfl (C6 (Ei (Aai (Uj T B) hr (Ap (Af 1) (Ap (Bh 8) Am))))) (C4 3) (fun _ _ _ _ _ _=>(C9 (show (["_law_by","_law_name","_law_span_here","_law_make_here"]:List Str).Nodup by decide))) (fun _ _ _ _ _ _=>Da) (fun _ _ _ _ _ _=>(Bi (Ap (Af 3) (Ap (Bi (Ap Gd (Ap (Bh 0) (Ap (Bh 1) (Ap (Bh 2) Am))))) Am)))))) Am)) Am))))))))) Ba) (Ao (Od (E2 (Aj (Ai Gd) (Aj (Ai Gd) (Aj (L7 (Ai (Af 2)) (Ci (Bl T B) hr (Aj (Ai (Af 0)) (Aj (Ai (B4 B.b_len (Ap (Af 2) Am))) Ar)))) (Aj (Ci (Ul T B) hr (Aj (Ai (Af 0)) (Aj (Ai (Af 3)) Ar))) Ar)))))))))
theorem Auc:ClI P w K mg base 2 "_law_bent_rows" 3 Vi :=
 Gv ["_law_feed_here","_law_rows","_law_other_here","_law_way","_law_k"] T.h_z2 Atz Vi fun _ _ _ _ _ _ _ hr nd=>(Ae (Bz nd (Ci (Bl T B) hr (Aj (Ai (Af 0)) (Aj (Ai Ag) Ar)))) (Ae (Bz nd (Ci (Bl T B) hr (Aj (Ai (Af 0)) (Aj (Ai (Bd A9 (B4 B.b_len (Ap (Af 1) Am)) Ag)) Ar)))) (Ae (B7 (A5 (Cj hr) (Af 3) Ag) (Ao (A1 (Bd A9 (L8 (Af 1) B9 (Bs (Af 4))) (L8 (Af 1) (Bs (Bd A9 (Af 4) Ag)) B9)))) Ba) (Ae (B7 (A5 (Cj hr) (Af 3) Ag) (Ao (A1 (Bd A9 (Bd A9 (L8 (Af 1) B9 (Bs (Af 4))) (L8 (Af 1) (Bs (Af 4)) (Bs (Bd A9 (Af 4) Ag)))) (L8 (Af 1) (Bs (Af 4)) B9)))) Ba) (Ae (B7 (A5 (Cj hr) (Af 3) Ag) (Ao (A1 (Aky rfl B.b_tuple B.b_reversed (Ap (Af 1) Am)))) Ba) (Ae (B7 (A5 (Cj hr) (Af 3) Ag) (Ao (A1 (Bd A9 (Af 1) (Bi (Ap (Bi (Ap (Bi (Ap Ag (Ap Ag (Ap Ag (Ap (Bi Am) Am))))) (Ap (Bh 2) Am))) Am))))) Ba) (Ao (A1 (Bd A9 (Bd A9 (L8 (Af 1) B9 (Bs (Af 4))) (Dw B.b_tuple (Ap (Ei (Ck [2] ["_law_other_here","_law_row"] rfl (C6 (L8 (Af 1) (Bs (Af 4)) (Bs (Bd A9 (Af 4) Ag)))) (C4 1) (fun _ _ _ _ _ _=>(C9 (show (["_law_other_here","_law_row"]:List Str).Nodup by decide))) (fun _ _ _ _ _ _=>Da) (fun _ _ _ _ _ _=>(Bi (Ap (Av (Af 1) Ag) (Ap (Bh 0) Am)))))) Am))) (L8 (Af 1) (Bs (Bd A9 (Af 4) Ag)) B9))))))))))
theorem Zn:∀ n,ClI P w K mg base (n+41) "_law_bent" 5 (J1 n)
 |0=>ClI.zero T.h_z29
 |n+1=>by
  have ih:=Zn n
  exact Gv (k:=n+41) ["_law_feed_here","_law_paper_here","_law_names_here","_law_pool_here","_law_other_here","_law_k","_law_rows","_law_way","_law_strange"] T.h_z29 (Yk (J1 n)) _ (fun _ _ _ _ _ _ _ hr nd=>(Ae (Gh (Jj (Oe (P2 (A5 (Cj hr) (Av (Af 1) Ag) Gd)) (Oe (P2 (A5 Zo (B4 B.b_len (Ap (Av (Af 1) Ag) Am)) Ag)) (Of (Gx (Cj hr) (Ci (hk:=by lia) (Bl T B) hr (Aj (Ai (Af 0)) (Aj (Ai Ag) Ar))) (Ai Ag)))))) (Ae (Bz nd (Ci (hk:=by lia) (Bl T B) hr (Aj (Ai (Af 0)) (Aj (Ai (B4 B.b_len (Ap (Av (Af 1) Ag) Am))) Ar)))) (Ae (M6 nd (Ak0 B.b_list (Ap (Av (Af 1) Ag) Am))) (Ae (P3 (E2 (Aj (Ai (Av (Av (Af 6) (Af 5)) Ag)) (Aj (Ci (hk:=by lia) ih hr (Aj (Ai (Af 0)) (Aj (Ai (Av (Av (Af 6) (Af 5)) Ag)) (Aj (Ai (Af 2)) (Aj (Ai (Af 3)) (Aj (Ai (Af 4)) Ar)))))) Ar))) (Af 6) (Ai (Af 5))) (Ao (A1 (Bd A9 (L8 (Af 1) B9 (Bs Ag)) (Bi (Ap (Dw B.b_tuple (Ap (Af 6) Am)) Am)))))))) Ba) (Ae (Bz nd (Ci (hk:=by lia) (Bl T B) hr (Aj (Ai (Af 0)) (Aj (Ai Ag) Ar)))) (Ae (Bz nd (L7 (Ai (Ei (Ad2 (Af 2) (Ei (D9 (Ap Gd (Ap Gd Am))))))) (Ci (hk:=by lia) (Bl T B) hr (Aj (Ai (Af 0)) (Aj (Ai (Bd A9 (B4 B.b_len (Ap (Af 2) Am)) Ag)) Ar))))) (Ae (B7 (A5 (Cj hr) (Af 7) Ag) (Ao (A1 (Af 4))) Ba) (Ae (B7 (A5 (Cj hr) (Af 7) Ag) (Ao (A1 (Bd A9 (Bi (Ap (Av (Af 1) Ag) (Ap (Af 8) Am))) (L8 (Af 1) (Bs Ag) B9)))) Ba) (Ae (B7 (A5 (Cj hr) (Af 7) Ag) (Ao (A1 (Bd A9 (Bd A9 (L8 (Af 1) B9 (Bs Ag)) (Bi (Ap (Af 8) Am))) (L8 (Af 1) (Bs Ag) B9)))) Ba) (Ae (B7 (A5 (Cj hr) (Av (Af 1) Ag) Gd) (Ao (Od (Im A9 (Ai (L8 (Af 1) B9 (Bs Ag))) (E2 (Aj (Ci (hk:=by lia) (Ul T B) hr (Aj (Ai (Af 0)) (Aj (Ai (Af 3)) Ar))) Ar))))) Ba) (Ao (Od (Im A9 (Ai (L8 (Af 1) B9 (Bs Ag))) (E2 (Aj (Ci (hk:=by lia) (Auc T B) hr (Aj (Ai (Af 0)) (Aj (Ai (Av (Af 1) Ag)) (Aj (Ai (Af 4)) Ar)))) Ar)))))))))))))
theorem Apg:ClI P w K mg base (65) "_law_bent" 5 Yf:=(Zn T B 24)
theorem Uk:ClI P w K mg base 41 "_law_right" 4 Er :=
 Gv ["_law_shelf_here","_law_wants","_law_choices_here","_law_paper_here","_law_told"] T.h_z21 Aip Er fun _ _ _ _ _ _ _ hr nd=>(Ae (Bu nd (q_c (Apj T B) hr (Ap (Af 0) (Ap (Af 1) (Ap (Af 2) (Ap (Af 3) Am)))))) (Ao (A1 (V5 (M4 (Af 4) B.b_isinstance B.b_bool (by decide +kernel)) (V6 (Hg (Cj hr) (Af 4) (q_c (Ao9 T B) hr (Ap (Af 0) (Ap (Af 1) (Ap (Af 2) (Ap (Af 3) Am)))))))))))
theorem Apk:ClI P w K mg base 5 "_law_choices" 3 Rv :=
 Gv ["_law_feed_here","_law_shelf_here","_law_names_here","_law_found","_law_name","_law_makes_here"] T.h_z9 At5 Rv fun _ _ _ _ _ _ _ hr nd=>(Ae (M6 nd (D9 Am)) (Ae (Dx Ayb rfl (C6 (Af 2)) (Ez nd) (Ae (Bu nd (Ei (Aai (Uj T B) hr (Ap (Af 1) (Ap (Af 4) Am))))) (Ao (Gh (Gx (Cj hr) (Ci (Bl T B) hr (Aj (Ai (Af 0)) (Aj (Ai Ag) Ar))) (Ai Ag)) (Ao (M5 (Af 3) (Aj (Ci (Bl T B) hr (Aj (Ai (Af 0)) (Aj (Ai (Bd A9 (B4 B.b_len (Ap (Af 3) Am)) Ag)) Ar))) (Aj (E2 (Aj (Ai (Af 4)) (Aj (L7 (Ai (Af 5)) (Ci (Bl T B) hr (Aj (Ai (Af 0)) (Aj (Ai (B4 B.b_len (Ap (Af 5) Am))) Ar)))) Ar))) Ar)))) Ba)))) (Ao (A1 (Dw B.b_tuple (Ap (Af 3) Am))))))
theorem Ao3 {a:Addr}{fd:FuncData} (F:Fun K "law" "law" Rg a fd):FnOk P w K mg base CX0 66 a fd ["_law_script"] (spP K 1 Jy) :=
 Avc F sc_law Aif Jy rfl rfl fun cdv A outer s H E hr=>(Ae (Bz sc_law.nd (Ci (Apc T B) hr (Aj (Ai (Af 0)) Ar))) (Ae (Ob (Ci (Ao8 T B) hr (Aj (Ai (Af 1)) Ar)) (Ds rfl (A7 (Ez sc_law.nd) (A7 (Ez sc_law.nd) (A7 (Ez sc_law.nd) Dr))))) (Ae (Eh (Ci (Le T B) hr (Aj (Ai (Af 1)) (Aj (Ai Ag) Ar)))) (Ae (Bz sc_law.nd (Ci (Aph T B) hr (Aj (Ai (Af 1)) (Aj (Ai (Af 2)) (Aj (Ai Gd) (Aj (Ai (Af 3)) (Aj (Ai Ag) Ar))))))) (Ae (Eh (Ci (Le T B) hr (Aj (Ai (Af 1)) (Aj (Ai Ag) Ar)))) (Ae (Bz sc_law.nd (Ci (Apk T B) hr (Aj (Ai (Af 1)) (Aj (Ai (Af 4)) (Aj (Ai (Af 2)) Ar))))) (Ae (Dx Ayb rfl (C6 (Ei (D9 (Ap (Bi Am) (Ap (Af 6) Am))))) (Ez sc_law.nd) (Ae (Eh (Ci (Le T B) hr (Aj (Ai (Af 1)) (Aj (Ai (Bd A9 Ag (B4 B.b_len (Ap (Af 7) Am)))) Ar)))) (Ae (Bz sc_law.nd (Ci (Apb T B) hr (Aj (Ai (Af 1)) (Aj (Ai (Af 4)) (Aj (Ai (Af 2)) (Aj (Ai (Af 3)) (Aj (Ai (Af 5)) (Aj (Ai (Af 7)) Ar)))))))) (Ae (B7 (D3 (Uv (A5 Zo (B4 B.b_len (Ap (Af 2) Am)) Ag) (Oh (A5 (Cj hr) (Av (Af 8) Ag) Gd)))) (Ao (Bz sc_law.nd (E2 (Aj (Ai Gd) (Aj (Ai (Av (Af 8) Ag)) (Aj (Ai (Av (Af 8) Ag)) (Aj (Ci (Ul T B) hr (Aj (Ai (Af 1)) (Aj (Ai (Af 3)) Ar))) Ar))))))) Ba) (Ae (Bz sc_law.nd (Ci (Apa T B) hr (Aj (Ai (Af 1)) (Aj (Ai (Af 4)) (Aj (Ai (Af 5)) (Aj (Ai (Af 7)) Ar)))))) (Ae (B7 (Aah (Af 9)) (Ao (Bu sc_law.nd (Af 8))) (Ao (B7 (A5 Ada (q_c (Apj T B) hr (Ap (Af 4) (Ap (Af 5) (Ap (Af 7) (Ap (Af 9) Am))))) P1) (Ao (A1 P1)) Ba))) (Ae (Gh (Jj (Aq2 (N9 (Oa (Ci (Uk T B) hr (Aj (Ai (Af 4)) (Aj (Ai (Af 5)) (Aj (Ai (Af 7)) (Aj (Ai (Af 9)) Ar))))))) (Ak2 (N9 (Oa (Ci (Uk T B) hr (Aj (Ai (Af 4)) (Aj (Ai (Af 5)) (Aj (Ai (Af 7)) (Aj (Ai (Af 8)) Ar)))))))))) (Ao (A1 P1)) Ba) (Ao (Dx Ayb rfl (P6 B.b_range (Ap (Av (Ei (D9 (Ap Ag (Ap Ag Am)))) (Af2 B.b_int (Ap (Hg Zo (B4 B.b_len (Ap (Af 2) Am)) Ag) Am))) Am)) (Ez sc_law.nd) (Ae (Eh (Ci (Le T B) hr (Aj (Ai (Af 1)) (Aj (Ai (Bd A9 Ag (Af 10))) Ar)))) (Ae (Gh (N9 (Oa (Ci (Uk T B) hr (Aj (Ai (Af 4)) (Aj (Ai (Af 5)) (Aj (Ai (Af 7)) (Aj (Ci (Apg T B) hr (Aj (Ai (Af 1)) (Aj (Ai (Af 9)) (Aj (Ai (Af 2)) (Aj (Ai (Af 3)) (Aj (Ai (Af 8)) Ar)))))) Ar))))))) (Ao (A1 P1)) Ba) (Ao (Gh (N9 (Oa (Ci (Uk T B) hr (Aj (Ai (Af 4)) (Aj (Ai (Af 5)) (Aj (Ci (Apk T B) hr (Aj (Ai (Af 1)) (Aj (Ai (Af 4)) (Aj (Ai (Af 2)) Ar)))) (Aj (Ai (Af 9)) Ar))))))) (Ao (A1 P1)) Ba))))))))))))) (Ao (A1 P1)))))))))
end
end
end K62a
end S_K62a
section S_IA
namespace K62a
open PySem L2 L2.ML
set_option hygiene false in
local macro_rules|`(tactic| simp_arith[$a,*])=>`(tactic| ((try dsimp only[mp1,mp2,mp3,ln1,ln2,ln3,List.replicate,Nat.reduceAdd,Nat.reduceSub]);simp only[↓Atp,↓Ato,↓Aia,↓Ah9,↓Cm,↓Ak9,↓Ala,↓Ak7,↓Ak8,↓Am7,↓Am5,↓Am6,↓Ahm,↓Nk,↓Jb,↓As4,↓Av2,↓Av1,↓Av0,↓Amj,↓Ahf,↓Ag7,↓Abl,↓Amd,↓Amh,↓Abp,↓Rk,↓Asg,↓Aeq,↓Xq,↓Ane,↓Al9,↓Asr,↓Ame,↓Ag5,↓Amf,↓Aha,↓Asp,↓Ass,↓Asq,↓Ahc,↓Ash,↓Amy,↓Xo,↓Ama,↓Amc,↓Aer,↓Ag8,↓Js,↓Hm,↓Al3,↓Al4,↓Al5,↓Anc,↓Amv,↓Al8,↓Aeu,↓Amz,↓As1,↓Ast,↓Avz,↓Av9,↓Amn,↓Ov,↓Asz,↓Hn,↓Asx,↓Asw,↓Asy,↓Amu,↓Ams,↓Amr,↓Amt,↓Asf,↓Ana,↓Asv,↓Xl,↓U9,↓U8,↓Ahp,↓Ahr,↓Ahu,↓Ahs,↓As6,↓As7,↓As8,↓As9,↓Ow,↓U6,↓U7,↓L1,↓Atg,↓Ati,↓Ank,↓Anj,↓Ani,↓Axg,↓Axe,↓Axf,↓Ahv,↓Auw,↓Am2,↓Aee,↓Aed,↓Aec,↓Aef,↓Vc,↓Awj,↓Avp,↓Awk,↓Awa,↓Av4,↓Avq,↓Awl,↓Awb,↓Avr,↓Awm,↓Awc,↓Av5,↓Avs,↓Awn,↓Awd,↓Av6,↓Avt,↓Awo,↓Awe,↓Av7,↓Avu,↓Awp,↓Awf,↓Av8,↓Avv,↓Awq,↓Awg,↓Avw,↓Awr,↓Awh,↓Avx,↓Aws,↓Awi,↓Avy,↓Ata,↓As2,↓Asj,↓Atb,↓As3,↓Asl,↓Atc,↓Asm,↓Atd,Baj,Bool.not_false,Nk,Jb,↓As5,↓Am9,↓Anb,↓Ara,↓Aby,↓Am4,↓Aot,↓Amx,↓Ox,↓Abv,↓Ahh,↓Am1,↓Aep,↓Ag3,↓Al7,↓As0,↓Aht,↓Am8,Ax1,Az8,Axq,Bao,Ay7,Axs,Azq,List.replicate,List.set_cons_zero,List.set_cons_succ,Nat.reduceAdd,Nat.reduceSub,Nat.zero_add,true_and,B2,Cw,Anu,B8,Dz,Ant,X4,decide_true,decide_false,Ab2,Xy,List.getElem?_cons_zero,Ay1,Ayf,_root_.id,Am8,Ath,Ahq,Pu,C8,Bm,Aw,Bq,An,Bool.and_self,Bool.and_true,Bai,Mk.pure,Mark.pure,R6,Cd,↓Xk,↓Rj,↓Ag0,↓Al6,Awx,↓Acw,↓Acv,↓Acu,↓Acx,Int.reduceEq,Int.reduceLT,Int.reduceLE,Int.reduceAdd,Int.reduceSub,Int.reduceMul,Int.reduceToNat,Int.reducePow,Int.reduceNeg,Int.reduceMod,Int.reduceDiv,Nat.reduceLeDiff,Nat.reduceMul,Nat.reduceEqDiff,Nat.reducePow,Nat.reduceLT,and_true,and_self,true_or,or_true,Axu,Int.le_refl,Ax9,Atl,↓Acr,↓Acq,↓Acp,↓Acs,Ak3,Ayx,Bool.true_eq_false,Y4,Aon,Ah3,Mark.deq,Mk.deq,Int.zero_add,↓Aoo,↓Aop,↓Aoq,↓Aor,Azk,List.any_nil,Ayt,List.all_nil,Bool.false_or,Bool.true_or,Bool.or_false,Bool.false_and,↓Ag1,↓Ac0,↓Acz,↓Acy,↓Ac1,↓Ahw,↓Aq6,↓Abt,Aok,Zf,Zu,Ji,Afk,Aft,Zv,↓Apy,↓Apz,↓Ap0,↓Ao0,Option.isNone_none,Option.isNone_some,Option.isSome_none,Bab,Zc,X2,bne_self_eq_false,↓Atk,↓Amm,↓Av3,↓Aso,↓Asn,↓Ahg,↓Abs,↓Ahe,↓Ag9,↓Abq,↓Abn,↓Amb,↓Ag6,↓Aho,↓Ahn,↓Abw,↓Am3,↓Ahj,↓Xp,Aa1,↓Ahl,↓Abm,↓Abx,↓Abo,↓Ag2,↓Abk,↓Aid,↓Ahk,↓Ajc,Ah8,Ah7,List.set_cons_zero,List.set_cons_succ,↓Asi,↓Ang,↓Anf,↓Atf,↓Ate,↓Asu,↓Amw,↓Amk,$a,*]))
set_option hygiene false in
local macro_rules|`(tactic| array_get_dec)=>`(tactic| try simp_arith[true_and])
abbrev fdL (ns:List Int) (c o g:Int):MObj:=.lst [.kl (ns.map .int),.int c,.int o,.int g]
theorem Aes {Q:Nat->Prop}:W (ixN 4 1) Q=Q 1:=Ad
theorem Aet {Q:Nat->Prop}:W (ixN 4 3) Q=Q 3:=Ad
theorem A3 (ns:List Int) (c o g:Int) (r:MH) (n:Int) (h0:0 < n) (h1:n < 1000) (hc:0<=c) (hc1:c < 1000000000000000000):W (A8 [.ref 0,.int n] (fdL ns c o g::r)) fun x=>∃ k g':Int,x=(.int k,fdL ns (c+1) o g'::r)/\0<=k/\k < n:=by
 unfold A8 Ais
 rw[Dk]
 simp_arith[Aes,Aet,Ax1,Az8]
 refine cK.dec (fun _=>⟨h0,⟨h0,by lia⟩,_,_,rfl,Int.emod_nonneg _ (by lia),Int.emod_lt_of_pos _ h0⟩) fun _=>⟨.inr ⟨by lia,by lia⟩,.inl ⟨by lia,by lia⟩,h0,_,_,rfl,Int.emod_nonneg _ (by lia),Int.emod_lt_of_pos _ h0⟩
theorem Ah6 (ns:List Int):W (Ph [.kl (ns.map .int)] []) fun x=>∃ o:Int,x=(.ref 0,[fdL ns 0 o 0]):=by
 unfold Ph Aiq
 rw[Dk]
 array_get_dec
 refine cK.dec (fun h=>?_) fun _=>⟨_,rfl⟩
 have hl:0 < ns.length:=by lia
 have:=Jr (f:=D.int) (xs:=ns) (k:=0) hl (Q:=fun x=>W (Vz x (.int 2) []) fun d=>∃ o,(D.ref 0,[MObj.lst [D.kl (ns.map .int),D.int 0,d,D.int 0]])=(D.ref 0,[fdL ns 0 o 0]))
 rw[show ((0:Nat):Int)=0 from rfl] at this
 rw[this,Aeu]
 exact⟨by decide,_,rfl⟩
theorem Gu (ns:List Int) (hl:ns.length<=63) (c o g:Int) (r:MH) (k:Int) (h0:0<=k) (h1:k < 1000):W (D7 [.ref 0,.int k] (fdL ns c o g::r)) fun x=>∃ g':Int,x=(.non,fdL ns (100 * k) o g'::r):=by
 unfold D7 Air
 rw[Dk]
 simp_arith[Aes,Aet,Ax1,Az8]
 refine cK.dec (fun h=>⟨h,?_⟩) fun _=>⟨_,rfl⟩
 refine Ir (Int.emod_nonneg _ (by lia)) (by rw[Axq];exact Int.emod_lt_of_pos _ h) fun d _ hd=>?_
 obtain⟨i,_,rfl⟩:=List.mem_map.mp hd
 exact⟨_,rfl⟩
theorem sqC {M r:MH}{a:List D}{x:MObj}{Q:List D->Prop}:W (sq (x::(M++.lst a::r)) (.ref (M.length+1))) Q=Q a:=by
 have e:(x::(M++MObj.lst a::r))[M.length+1]?=some (.lst a):=by simp
 have e2:sq (x::(M++MObj.lst a::r)) (.ref (M.length+1))=some a:=by unfold sq;simp only[e]
 rw[e2,Ad]
theorem Ar5 {M r:MH}{x y z:MObj}:(z::(M++x::r)).set (M.length+1) y=z::(M++y::r):=by simp
theorem Amo {k:Int} (h0:0<=k) (h1:k < 3) {Q:Nat->Prop} (q:∀ j:Nat,j < 3->Q j):W (ixN 3 k) Q:=by
 have:k=0\/k=1\/k=2:=by lia
 rcases this with rfl|rfl|rfl
 ·exact⟨0,rfl,q 0 (by decide)⟩
 ·exact⟨1,rfl,q 1 (by decide)⟩
 ·exact⟨2,rfl,q 2 (by decide)⟩
theorem Ai8 (ns:List Int) (c o g:Int) (r:MH) (hc:0<=c) (hc1:c < 900000):W (Mq [.ref 0] (fdL ns c o g::r)) fun x=>∃ (mk:Mk) (c' g':Int) (t:MH),x=(mk.d,fdL ns c' o g'::(r++t))/\mk.ms.length<=2/\0<=c'/\c'<=c+9:=by
 unfold Mq Aiu
 rw[Dk]
 array_get_dec
 refine⟨fun _=>trivial,?_⟩
 refine (A3 ns c o g r 3 (by decide) (by decide) hc (by lia)).imp fun x ⟨k1,g1,e,a1,b1⟩=>?_
 subst e
 refine (A3 ns _ o g1 r 3 (by decide) (by decide) (by lia) (by lia)).imp fun x ⟨k2,g2,e,a2,b2⟩=>?_
 subst e
 refine (A3 ns _ o g2 r 3 (by decide) (by decide) (by lia) (by lia)).imp fun x ⟨k3,g3,e,a3,b3⟩=>?_
 subst e
 simp only[Ay7]
 refine (A3 ns _ o g3 _ 3 (by decide) (by decide) (by lia) (by lia)).imp fun x ⟨k4,g4,e,a4,b4⟩=>?_
 subst e
 refine (A3 ns _ o g4 _ 2 (by decide) (by decide) (by lia) (by lia)).imp fun x ⟨k5,g5,e,a5,b5⟩=>?_
 subst e
 refine (A3 ns _ o g5 _ 8 (by decide) (by decide) (by lia) (by lia)).imp fun x ⟨k6,g6,e,a6,b6⟩=>?_
 subst e
 array_get_dec
 refine Ir a6 (by simpa using b6) fun q _ hq=>?_
 obtain⟨ms,rfl,hms⟩:∃ ms:List Mark,q=.tup (ms.map Mark.d)/\ms.length<=2:=by
  simp only[Ay0,Ays,or_false] at hq
  rcases hq with rfl|rfl|rfl|rfl|rfl|rfl|rfl|rfl
  ·exact⟨[],rfl,by decide⟩
  ·exact⟨[],rfl,by decide⟩
  ·exact⟨[],rfl,by decide⟩
  ·exact⟨[.n k4],rfl,by simp⟩
  ·exact⟨[.s (Str.ofString "a")],rfl,by simp⟩
  ·exact⟨[.s (Str.ofString "ab"),.n k5],rfl,by simp⟩
  ·exact⟨[.n 0,.s (Str.ofString "b")],rfl,by simp⟩
  ·exact⟨[.s (Str.ofString "a"),.n 0],rfl,by simp⟩
 refine (A3 ns _ o g6 _ 16 (by decide) (by decide) (by lia) (by lia)).imp fun x ⟨k7,g7,e,a7,b7⟩=>?_
 subst e
 simp_arith[Ax1]
 refine cK.dec (fun _=>?_) fun _=>?_
 ·refine (A3 ns _ o g7 _ 2 (by decide) (by decide) (by lia) (by lia)).imp fun x ⟨k8,g8,e,a8,b8⟩=>?_
  subst e
  array_get_dec
  refine (A3 ns _ o g8 _ 3 (by decide) (by decide) (by lia) (by lia)).imp fun x ⟨k9,g9,e,a9,b9⟩=>?_
  subst e
  simp only
  rw[Aa1,sqC]
  refine Amo a9 b9 fun j hj=>?_
  rw[Ar5]
  obtain⟨p1,p2,p3,e⟩:∃ p1 p2 p3:Int,[D.int k1,D.int k2,D.int k3].set j (.int (999999999998 - k8))=[.int p1,.int p2,.int p3]:=by
   have:j=0\/j=1\/j=2:=by lia
   rcases this with rfl|rfl|rfl
   ·exact⟨_,_,_,rfl⟩
   ·exact⟨_,_,_,rfl⟩
   ·exact⟨_,_,_,rfl⟩
  rw[e]
  simp_arith[sqC]
  exact⟨⟨p1,p2,p3,ms⟩,_,_,_,rfl,hms,by lia,by lia⟩
 ·simp_arith[sqC]
  exact⟨⟨k1,k2,k3,ms⟩,_,_,_,rfl,hms,by lia,by lia⟩
theorem Aaq {n:Nat}:(Dc 0 n).length=n:=by unfold Dc;simp
abbrev Ltr:Str:=Str.ofString "abcdefghijklmnopqrstuvwxyz"
theorem Ai7 {q:Nat} (h:q∈Ltr.cps.toList):PyData.strOk ⟨#[q]⟩=true:=by
 have h1:PyData.strOk Ltr=true:=Gi _
 unfold PyData.strOk at h1 ⊢
 rw[Array.all_eq_true'] at h1
 have:=h1 q (by simpa using h)
 simpa using this
abbrev wrds:List Str:=[Str.ofString "part",Str.ofString "need",Str.ofString "wants",Str.ofString "broken",Str.ofString "open",Str.ofString "shelf"]
noncomputable def nm0 (b k:Nat):Str:=wrds.getD ((b+k) % 6) (Str.ofString "")
noncomputable def nm1 (b k:Nat):Str:=Txt.slice (Str.ofString "abcdefghijklmnopqrstuvwxyz"++Str.ofString "abcdefghijklmnopqrstuvwxyz") (some (b:Int)) (some ((b:Int)+1+(k:Int)))
noncomputable def lt2 (b k:Nat):Nat:=Ltr.cps.toList.getD ((b+7 * k) % 26) 0
theorem Aow:∀ b,b < 26->((List.range 6).map (nm0 b)).Nodup:=by decide +kernel
theorem Aox:∀ b,b < 26->((List.range 6).map (nm1 b)).Nodup:=by decide +kernel
theorem Aol:∀ b,b < 26->((List.range 6).map (lt2 b)).Nodup:=by decide +kernel
theorem Ya {α:Type}{f:Nat->α} (h:((List.range 6).map f).Nodup) {n:Nat} (hn:n<=6):((List.range n).map f).Nodup:=h.sublist ((List.range_sublist.mpr hn).map f)
theorem Alj {A B:Str}{x y:Nat} (h:A++(⟨#[x]⟩:Str)++B=A++(⟨#[y]⟩:Str)++B):x=y:=by
 have h2:(A.cps++#[x]++B.cps).toList=(A.cps++#[y]++B.cps).toList:=Ay9 (fun s:Str=>s.cps.toList) h
 simp only[Array.toList_append] at h2
 have h3:=List.append_cancel_left (List.append_cancel_right h2)
 simpa using h3
theorem Aom {A B:Str}{f:Nat->Nat}{n:Nat} (h:((List.range n).map f).Nodup):((List.range n).map fun k=>A++(⟨#[f k]⟩:Str)++B).Nodup:=by
 unfold List.Nodup at h ⊢
 rw[List.pairwise_map] at h ⊢
 exact h.imp fun h z=>h (Alj z)
theorem Ac3 (ns:List Int) (c o g:Int) (r:MH) (n:Int) (h0:1<=n) (h1:n<=6) (hc:0<=c) (hc1:c < 900000):W (Pe [.ref 0,.int n] (fdL ns c o g::r)) fun x=>∃ (ts:List Str) (c' g':Int),x=(.ref (r.length+1),fdL ns c' o g'::(r++[.lst (ts.map .str)]))/\ts.length=n.toNat/\ts.Nodup/\0<=c'/\c'<=c+5:=by
 unfold Pe Aij
 rw[Dk]
 array_get_dec
 refine (A3 ns c o g r 3 (by decide) (by decide) hc (by lia)).imp fun x ⟨k1,g1,e,a1,b1⟩=>?_
 subst e
 refine (A3 ns _ o g1 r 26 (by decide) (by decide) (by lia) (by lia)).imp fun x ⟨k2,g2,e,a2,b2⟩=>?_
 subst e
 array_get_dec
 have hn:(Dc 0 n.toNat).length<=1000000:=by rw[Aaq];lia
 have hn6:n.toNat<=6:=by lia
 obtain⟨b,rfl⟩:∃ b:Nat,k2=(b:Int):=⟨k2.toNat,by lia⟩
 have hb:b < 26:=by lia
 have er:Dc 0 n.toNat=(List.range n.toNat).map fun k:Nat=>D.int (0+(k:Int)):=rfl
 rw[er] at hn ⊢
 have fin:∀ (f:Nat->Str) (C G:Int),((List.range n.toNat).map f).Nodup->0<=C->C<=c+5->∃ (ts:List Str) (c' g':Int),(D.ref (r.length+1),fdL ns C o G::(r++[MObj.lst ((List.range n.toNat).map fun k=>D.str (f k))]))=(D.ref (r.length+1),fdL ns c' o g'::(r++[MObj.lst (ts.map .str)]))/\ts.length=n.toNat/\ts.Nodup/\0<=c'/\c'<=c+5:=fun f C G h h3 h4=>⟨(List.range n.toNat).map f,C,G,by rw[Azj];rfl,by simp,h,h3,h4⟩
 refine cK.dec (fun _=>⟨⟨by lia,by lia⟩,hn,Bo (fun k=>.str (nm0 b k)) (fun k hk=>?_) (fin _ _ _ (Ya (Aow b hb) hn6) (by lia) (by lia))⟩) fun _=>cK.dec (fun _=>⟨⟨by lia,by lia⟩,hn,Bo (fun k=>.str (nm1 b k)) (fun k hk=>?_) (fin _ _ _ (Ya (Aox b hb) hn6) (by lia) (by lia))⟩) fun _=>?_
 ·array_get_dec
  rw[show ((b:Int)+(k:Int)) % 6=(((b+k) % 6:Nat):Int) by lia,show [D.str (Str.ofString "part"),D.str (Str.ofString "need"),D.str (Str.ofString "wants"),D.str (Str.ofString "broken"),D.str (Str.ofString "open"),D.str (Str.ofString "shelf")]=wrds.map D.str from rfl]
  have hk6:(b+k) % 6 < wrds.length:=Nat.mod_lt _ (by decide)
  rw[Jr hk6]
  unfold nm0
  rw[Axp,Axz hk6];rfl
 ·array_get_dec
  exact⟨by decide +kernel,by decide +kernel,rfl⟩
 ·refine (A3 ns _ o g2 r 8 (by decide) (by decide) (by lia) (by lia)).imp fun x ⟨k3,g3,e,a3,b3⟩=>?_
  subst e
  array_get_dec
  refine (A3 ns _ o g3 r (1+k3) (by lia) (by lia) (by lia) (by lia)).imp fun x ⟨k4,g4,e,a4,b4⟩=>?_
  subst e
  refine (A3 ns _ o g4 r 26 (by decide) (by decide) (by lia) (by lia)).imp fun x ⟨k5,g5,e,a5,b5⟩=>?_
  subst e
  array_get_dec
  refine⟨by decide +kernel,Ir a5 (show k5 < ((Ltr.cps.toList.length:Nat):Int) by rw[show Ltr.cps.toList.length=26 by decide +kernel];lia) fun q _ hq=>⟨⟨by lia,by lia⟩,by simp;lia,Bo (fun k=>.str (Uw ⟨#[q]⟩ k4++(⟨#[lt2 b k]⟩:Str)++Uw ⟨#[q]⟩ (1+k3 - 1 - k4))) (fun k hk=>?_) (fin _ _ _ (Aom (Ya (Aol b hb) hn6)) (by lia) (by lia))⟩⟩
  have hq1:=Ai7 hq
  have l1:=Oj (x:=⟨#[q]⟩) (n:=k4) a4
  have l2:=Oj (x:=⟨#[q]⟩) (n:=1+k3 - 1 - k4) (by lia)
  have lq:(⟨#[q]⟩:Str).length=1:=rfl
  rw[lq] at l1 l2
  simp_arith[Aev (x:=⟨#[q]⟩) (n:=k4) a4 (by lia) (by rw[lq];decide) hq1,Aev (x:=⟨#[q]⟩) (n:=1+k3 - 1 - k4) (by lia) (by lia) (by rw[lq];decide) hq1]
  have hk26:(b+7 * k) % 26 < Ltr.cps.toList.length:=by rw[show Ltr.cps.toList.length=26 by decide +kernel];exact Nat.mod_lt _ (by decide)
  rw[show ((b:Int)+7 * (k:Int)) % 26=(((b+7 * k) % 26:Nat):Int) by lia]
  refine⟨by decide +kernel,?_⟩
  have el:Ltr.cps.toList[(b+7 * k) % 26]=lt2 b k:=by
   unfold lt2
   rw[Axp,Axz hk26];rfl
  refine Ir (by lia) (show (((b+7 * k) % 26:Nat):Int) < ((Ltr.cps.toList.length:Nat):Int) from Int.ofNat_lt.mpr hk26) fun z hz _=>?_
  rw[Int.toNat_natCast,Axz hk26] at hz
  have ez:lt2 b k=z:=el.symm.trans (Ayk hz)
  have lz:(⟨#[z]⟩:Str).length=1:=rfl
  refine⟨by rw[lz];lia,by rw[strLen_append,lz];lia,by rw[ez]⟩
abbrev Pr:=Str×Mk
def prD (x:Pr):D:=.tup [.str x.1,x.2.d]
theorem N6 (x:Pr):Bw (prD x)=true:=by
 unfold prD
 rw[Aw,An,An,Bq,Bm,x.2.pure];rfl
theorem sqE {M:MH}{a:List D}{Q:List D->Prop}:W (sq (M++[.lst a]) (.ref M.length)) Q=Q a:=by
 have e:(M++[MObj.lst a])[M.length]?=some (.lst a):=by simp
 have e2:sq (M++[MObj.lst a]) (.ref M.length)=some a:=by unfold sq;simp only[e]
 rw[e2,Ad]
theorem xpE {M:MH}{a:List D} (h:Bp a=true) {Q:D->Prop}:W (Cs (M++[.lst a]) (.ref M.length)) Q=Q (.lst a):=by
 have e:(M++[MObj.lst a])[M.length]?=some (.lst a):=by simp
 have e2:Cs (M++[MObj.lst a]) (.ref M.length)=some (.lst a):=by rw[Cs];simp only[e,h,Bag]
 rw[e2,Ad]
theorem Au3 {M:MH}{a:List D} (h:Bp a=true):C1 (M++[.lst a]) (.ref M.length)=some (.lst a):=by
 have e:(M++[MObj.lst a])[M.length]?=some (.lst a):=by simp
 unfold C1;simp only[e,Bj h,Bag]
theorem Ar1 {M:MH}{ms:List Mk}{x:Mk}{Q:D->Prop}:W (Cr x.d (.ref M.length) (M++[.lst (ms.map Mk.d)])) Q=Q (.bl (!decide (x∈ms))):=by
 have e:inO (M++[.lst (ms.map Mk.d)]) x.d (.ref M.length)=some (decide (x∈ms)):=by
  unfold inO
  simp only[Df x.pure,Au3 (Cd ms),Ayf]
  rw[show sq [] (D.lst (ms.map Mk.d))=some (ms.map Mk.d) from rfl,Ayf]
  have:=x.dep
  rw[Axv (by lia)]
  congr 1
  rw[Azc,List.any_eq_true,Ay4]
  constructor
  ·rintro ⟨d,hd,h⟩
   obtain⟨y,hy,rfl⟩:=List.mem_map.mp hd
   rw[Mk.deq] at h
   rw[<- Ayn h];exact hy
  ·exact fun h=>⟨x.d,List.mem_map.mpr ⟨x,h,rfl⟩,by rw[Mk.deq];simp⟩
 unfold Cr
 rw[e,Ayf,Ad]
theorem Akd (st:List Pr) (hl:st.length<=40) (hm:∀ x∈st,x.2.ms.length<=2):W (Pk [.lst (st.map prD)]) fun d=>∃ ms:List Mk,d=.lst (ms.map Mk.d)/\0 < ms.length/\ms.length<=1+2 * st.length/\∀ x∈ms,x.ms.length<=3:=by
 unfold Pk Aiw
 rw[Cm]
 array_get_dec
 refine D4 (fun rest e m=>(∀ x∈rest,x∈st)/\∃ (M:MH) (ms:List Mk) (u v w:Option D),m=M++[.lst (ms.map Mk.d)]/\0 < ms.length/\ms.length+2 * rest.length<=1+2 * st.length/\(∀ x∈ms,x.ms.length<=3)/\e=[some (.lst (st.map prD)),some (.ref M.length),u,v,w]) ?_ ?_ ⟨fun _ h=>h,[],[⟨0,0,0,[.n 0]⟩],none,none,none,rfl,by decide,by simp,fun x hx=>by rw[List.mem_singleton.mp hx];decide,rfl⟩
 ·rintro ⟨t,x⟩ rest e m ⟨hs,M,ms,u,v,w,rfl,h1,h2,h3,rfl⟩
  refine⟨trivial,?_⟩
  have hx:=hm _ (hs _ (Axn ..))
  have ex:prD (t,x)=.tup [.str t,.tup [.int x.a,.int x.b,.int x.c,.tup (x.ms.map Mark.d)]]:=rfl
  have fin:∀ (as:List Mk) (d4:D),as.length<=2->(∀ y∈as,y.ms.length<=3)->(∀ x∈rest,x∈st)/\∃ (M':MH) (ms':List Mk) (u v w:Option D),M++[MObj.lst (ms.map Mk.d)]++[MObj.lst (ms.map Mk.d++as.map Mk.d)]=M'++[.lst (ms'.map Mk.d)]/\0 < ms'.length/\ms'.length+2 * rest.length<=1+2 * st.length/\(∀ x∈ms',x.ms.length<=3)/\[some (D.lst (st.map prD)),some (D.ref (M++[MObj.lst (ms.map Mk.d)]).length),some (D.str t),some (D.tup [.int x.a,.int x.b,.int x.c,.tup (x.ms.map Mark.d)]),some d4]=[some (D.lst (st.map prD)),some (.ref M'.length),u,v,w]:=fun as d4 ha hb=>by
   refine⟨fun y hy=>hs y (Axl _ hy),M++[MObj.lst (ms.map Mk.d)],ms++as,_,_,_,by rw[Ayc],by simp;lia,?_,fun y hy=>?_,rfl⟩
   ·simp only[Ax1,Axt] at h2 ⊢;lia
   ·rcases List.mem_append.mp hy with hy|hy
    ·exact h3 y hy
    ·exact hb y hy
  have hlen:ms.length<=100:=by simp only[Ax1] at h2;lia
  have n1:=@Ar1 M ms x
  have n2:=@Ar1 M ms ⟨x.a,x.b,x.c+1,[.n 0]⟩
  have n3:=@Ar1 M ms ⟨x.a,x.b,x.c,x.ms++[.n 0]⟩
  have e3:(Mk.mk x.a x.b x.c (x.ms++[.n 0])).d=.tup [.int x.a,.int x.b,.int x.c,.tup (x.ms.map Mark.d++[.int 0])]:=by unfold Mk.d;rw[Ayc];rfl
  rw[e3] at n3
  change ∀ {Q:D->Prop},W (Cr (.tup [.int x.a,.int x.b,.int x.c,.tup (x.ms.map Mark.d)]) (.ref M.length) (M++[.lst (ms.map Mk.d)])) Q=_ at n1
  change ∀ {Q:D->Prop},W (Cr (.tup [.int x.a,.int x.b,.int (x.c+1),.tup [.int 0]]) (.ref M.length) (M++[.lst (ms.map Mk.d)])) Q=_ at n2
  simp_arith[ex,n1,n2,n3,sqE]
  have hx:x.ms.length<=2:=hx
  have hy1:∀ y∈[x,⟨x.a,x.b,x.c+1,[.n 0]⟩],y.ms.length<=3:=fun y hy=>by
   rcases List.mem_cons.mp hy with rfl|hy
   ·lia
   ·rw[List.mem_singleton.mp hy];simp
  have hy2:∀ y∈[x,⟨x.a,x.b,x.c,x.ms++[.n 0]⟩],y.ms.length<=3:=fun y hy=>by
   rcases List.mem_cons.mp hy with rfl|hy
   ·lia
   ·rw[List.mem_singleton.mp hy,Axt];simp;lia
  have f1:=fun d4=>fin [x,⟨x.a,x.b,x.c,x.ms++[.n 0]⟩] d4 (by simp) hy2
  have f2:=fun d4=>fin [⟨x.a,x.b,x.c,x.ms++[.n 0]⟩] d4 (by simp) fun y hy=>hy2 y (Axl _ hy)
  simp only[Axs,Azq,e3] at f1 f2
  have f3:=fun d4=>fin [] d4 (by decide) fun y hy=>nomatch hy
  refine⟨by lia,cK.mk (fun _=>?_) fun _=>?_⟩
  ·exact cK.mk (fun _=>cK.mk (fun _=>⟨by lia,fin [x,⟨x.a,x.b,x.c+1,[.n 0]⟩] _ (by simp) hy1⟩) fun _=>⟨by lia,fin [x] _ (by simp) fun y hy=>by rw[List.mem_singleton.mp hy];lia⟩) fun _=>cK.mk (fun _=>⟨by lia,fin [⟨x.a,x.b,x.c+1,[.n 0]⟩] _ (by simp) fun y hy=>by rw[List.mem_singleton.mp hy];simp⟩) fun _=>⟨by lia,f3 _⟩
  ·exact cK.mk (fun _=>cK.mk (fun _=>⟨by lia,f1 _⟩) fun _=>⟨by lia,fin [x] _ (by simp) fun y hy=>by rw[List.mem_singleton.mp hy];lia⟩) fun _=>cK.mk (fun _=>⟨by lia,f2 _⟩) fun _=>⟨by lia,f3 _⟩
 ·rintro e m ⟨hs,M,ms,u,v,w,rfl,h1,h2,h3,rfl⟩
  refine⟨trivial,?_⟩
  simp_arith[xpE (Cd ms)]
  exact⟨ms,rfl,h1,by simpa using h2,h3⟩
theorem Ik (m:Mark) {Q:D->Prop}:W (Yg [m.d]) Q=Q m.rk:=W.eq <| by
 unfold Yg At0
 rw[Cm]
 cases m<;>simp only[Mark.d]<;>array_get_dec<;>rfl
theorem Tf (x:Mk) (h:x.ms.length<=1000) {Q:D->Prop}:W (Ii [x.d]) Q=Q x.rk:=W.eq <| by
 unfold Ii Aix
 rw[Cm]
 unfold Mk.d
 array_get_dec
 refine cK.mk (fun h1=>⟨by lia,Bo Mark.rk (fun m hm=>?_) ?_⟩) fun h1=>⟨by lia,Bo Mark.rk (fun m hm=>?_) ?_⟩
 ·simp_arith[Ik]
 ·simp_arith[Ah Mark.rk_pure]
  unfold Mk.rk
  rw[Axy]
  intro h;rw[h] at h1;simp at h1
 ·simp_arith[Ik]
 ·simp_arith[Ah Mark.rk_pure]
  unfold Mk.rk
  rw[Axv]
  simpa using h1
theorem J3 (x y:Mk) (hx:x.ms.length<=1000) (hy:y.ms.length<=1000) {Q:D->Prop}:W (Vk [x.d,y.d]) Q=Q (.bl (x.older y)):=W.eq <| by
 unfold Vk At2
 rw[Cm]
 have d1:=Mk.rk_dep x
 have d2:=Mk.rk_dep y
 simp_arith[Tf x hx,Tf y hy,Mk.rk_pure,Mk.rk_lt,Ad]
 lia
def small (p:Pc):Prop:=p.1.ms.length<=1000/\∀ h,p.2=some h->h.ms.length<=1000
def Tq (ps:List Pc):Prop:=ps.Pairwise fun p q=>p.1.older q.1=true/\∃ h,p.2=some h/\h.older q.1=true
structure Sp (ps:List Pc):Prop where
 ok:Tq ps
 sm:∀ p∈ps,small p
 len:ps.length<=60
theorem T8 {m l:Mk}:inP m (l,none)=!m.older l:=by simp[inP]
theorem T9 {m l h:Mk}:inP m (l,some h)=(!m.older l&&m.older h):=by simp[inP]
theorem Abz {m:Mk}{ps:List Pc} (h:∀ (i:Nat) (p:Pc),ps[i]?=some p->m.older p.1=true):ps.any (inP m)=false:=by
 rw[List.any_eq_false]
 intro p hp
 obtain⟨i,hi⟩:=Az3 hp
 unfold inP
 rw[h i p hi];simp
theorem Anl {m:Mk}{ps:List Pc}{n:Nat} (hn:n < ps.length) (ho:Tq ps) (h1:m.older ps[n].1=false) (h2:∀ (i:Nat) (p:Pc),n < i->ps[i]?=some p->m.older p.1=true):ps.any (inP m)=inP m ps[n]:=by
 rw[Azc,List.any_eq_true]
 constructor
 ·rintro ⟨p,hp,h⟩
  obtain⟨i,hi⟩:=Az3 hp
  obtain⟨hl,he⟩:=List.getElem?_eq_some_iff.mp hi
  rcases Nat.lt_trichotomy i n with h3|h3|h3
  ·obtain⟨_,z,hz,h4⟩:=List.pairwise_iff_getElem.mp ho i n hl hn h3
   rw[he] at hz
   unfold inP at h
   rw[hz,Ax4] at h
   have h5:=Cp h.2 h4
   rw[h1] at h5;cases h5
  ·subst h3;rw[he];exact h
  ·unfold inP at h
   rw[h2 i p h3 hi] at h;simp at h
 ·exact fun h=>⟨_,Aym hn,h⟩
theorem Ai6 (m:Mk) (ps:List Pc) (hm:m.ms.length<=1000) (hp:∀ p∈ps,small p) (hl:ps.length<=900) (ho:Tq ps) {Q:D->Prop}:W (Pb [m.d,.tup (ps.map pD)]) Q=Q (.bl (ps.any (inP m))):=W.eq <| by
 unfold Pb Aig
 rw[Cm]
 array_get_dec
 refine Rl (fun k e w=>∃ (f b:Nat) (u v:Option D),k=b - f/\f<=b/\b<=ps.length/\w=[]/\e=[some m.d,some (.tup (ps.map pD)),some (.int f),some (.int b),u,v]/\(∀ (i:Nat) (p:Pc),i < f->ps[i]?=some p->m.older p.1=false)/\∀ (i:Nat) (p:Pc),b<=i->ps[i]?=some p->m.older p.1=true) ?_ (k:=ps.length) (by lia) ⟨0,ps.length,_,_,rfl,Ax9 _,Axu _,rfl,rfl,fun i p h=>absurd h (Azr _),fun i p h e=>by rw[Ayi h] at e;cases e⟩
 rintro k e w ⟨f,b,u,v,rfl,hfb,hbl,rfl,rfl,h1,h2⟩
 array_get_dec
 refine cK.dec (fun h3=>?_) fun h3=>?_
 ·have h3:f < b:=by lia
  have hmid:(f+b) / 2 < ps.length:=by lia
  have e2:((f:Int)+b) / 2=(((f+b) / 2:Nat):Int):=by lia
  have hs:=hp _ (Aym hmid)
  simp_arith[e2,Jr hmid,J3 m ps[(f+b) / 2].1 hm hs.1]
  refine cK.mk (fun h4=>⟨_,?_,f,(f+b) / 2,_,_,rfl,by lia,by lia,rfl,h1,fun i p hi hq=>?_⟩) fun h4=>⟨_,?_,(f+b) / 2+1,b,_,_,rfl,by lia,hbl,rfl,fun i p hi hq=>?_,h2⟩
  ·lia
  ·obtain⟨hl',he⟩:=List.getElem?_eq_some_iff.mp hq
   rcases Nat.eq_or_lt_of_le hi with h5|h5
   ·subst h5;rw[<- he];exact h4
   ·have h6:=(List.pairwise_iff_getElem.mp ho _ i hmid hl' h5).1
    rw[he] at h6
    exact Cp h4 h6
  ·lia
  ·obtain⟨hl',he⟩:=List.getElem?_eq_some_iff.mp hq
   rcases Nat.lt_succ_iff_lt_or_eq.mp hi with h5|h5
   ·have h6:=(List.pairwise_iff_getElem.mp ho i _ hl' hmid h5).1
    rw[he] at h6
    cases h7:m.older p.1 with
    |false=>rfl
    |true=>have h8:=Cp h7 h6;rw[h4] at h8;cases h8
   ·subst h5;rw[<- he];exact h4
 ·have hfe:f=b:=by lia
  subst hfe
  array_get_dec
  refine cK.dec (fun h5=>?_) fun h5=>?_
  ·have h5:f=0:=by lia
   subst h5
   rw[Abz fun i p hq=>h2 i p (Ax9 _) hq]
  ·have hf:f - 1 < ps.length:=by lia
   have e3:(f:Int) - 1=((f - 1:Nat):Int):=by lia
   have h6:m.older ps[f - 1].1=false:=h1 (f - 1) _ (by lia) (Axz hf)
   have h7:=Anl hf ho h6 fun i p hi hq=>h2 i p (by lia) hq
   have hs:=hp _ (Aym hf)
   simp_arith[e3,Jr hf]
   rw[h7]
   generalize ps[f - 1]=q at h6 hs
   obtain⟨l,h⟩:=q
   cases h with
   |none =>
    simp_arith[T8,h6]
   |some h =>
    have e2:=@J3 m h hm (hs.2 h rfl)
    simp_arith[T9,h6]
    simp only[oD]
    simp_arith[e2]
def rk2 (x:Mk):D:=.tup [.int x.a,.int x.b,.int x.c,.int (if x.ms=[] then 1 else 0),.lst (x.ms.map Mark.rk)]
theorem Aau (x y:Mk):ltD (rk2 x) (rk2 y)=some (x.older y):=by
 have h1:deq (.lst (x.ms.map Mark.rk)) (.lst (y.ms.map Mark.rk))=deq (.tup (x.ms.map Mark.rk)) (.tup (y.ms.map Mark.rk)):=by rw[G7 Mark.rk_deq,Jx Mark.rk_deq]
 have h2:ltD (.lst (x.ms.map Mark.rk)) (.lst (y.ms.map Mark.rk))=ltD (.tup (x.ms.map Mark.rk)) (.tup (y.ms.map Mark.rk)):=by rw[ltD,ltD]
 rw[<- Mk.rk_lt]
 unfold rk2 Mk.rk
 rw[J8,J8]
 simp only[Ef,h1,h2]
theorem Atj {ds:List D}{m:MH}{Q:D->Prop}:W (Cs m (.tup ds)) Q=W (Eb m ds) fun es=>Q (.tup es):=by
 rw[Cs,W_bind];congr 1;funext es;exact Ad
theorem Md (x:Mk) (hx:x.ms.length<=1000) {Q:D->Prop}:W (Es [x.d]) Q=Q (rk2 x):=W.eq <| by
 unfold Es Aiy
 rw[Cm]
 array_get_dec
 refine D4 (fun rest e m=>∃ dn v,dn++rest=x.ms/\m=[.lst (dn.map Mark.rk)]/\e=[some x.d,some (.ref 0),v]) ?_ ?_ ⟨[],_,rfl,rfl,rfl⟩
 ·rintro w rest e m ⟨dn,v,hd,rfl,rfl⟩
  refine⟨trivial,?_⟩
  have ld:dn.length < x.ms.length:=by rw[<- hd];simp
  cases w with
  |n i =>
   simp only[Mark.d]
   array_get_dec
   exact⟨by lia,dn++[.n i],_,by rw[<- hd];simp,by simp[Mark.rk],rfl⟩
  |s t =>
   simp only[Mark.d]
   array_get_dec
   exact⟨by lia,dn++[.s t],_,by rw[<- hd];simp,by simp[Mark.rk],rfl⟩
 ·rintro e m ⟨dn,v,hd,rfl,rfl⟩
  refine⟨trivial,?_⟩
  rw[Axx] at hd
  subst hd
  array_get_dec
  rw[Atj]
  simp_arith[Ah Mark.rk_pure]
  unfold rk2
  by_cases h:x.ms=[]<;>simp[h]
theorem Aav (x:Mk):B6 (rk2 x)=true:=by
 unfold rk2
 have:Be (x.ms.map Mark.rk)=true:=Bj (Ah Mark.rk_pure)
 simp[B6,Be,this]
theorem Tg (x:Mk):dep (rk2 x)<=3:=by
 unfold rk2
 rw[Cv]
 have h1:Dm (x.ms.map Mark.rk)<=1:=B1 fun d hd=>by
  obtain⟨m,_,rfl⟩:=List.mem_map.mp hd
  exact Mark.rk_dep m
 have:Dm [D.int x.a,D.int x.b,D.int x.c,D.int (if x.ms=[] then 1 else 0),D.lst (x.ms.map Mark.rk)]<=2:=B1 fun d hd=>by
  simp only[Ay0,Ays,or_false] at hd
  rcases hd with rfl|rfl|rfl|rfl|rfl
  ·rw[B8];lia
  ·rw[B8];lia
  ·rw[B8];lia
  ·rw[B8];lia
  ·rw[dep];lia
 lia
theorem Ahi {x:Mk}{m:MH}{Q:D->Prop}:W (C1 m (rk2 x)) Q=Q (rk2 x):=by
 have e:C1 m (rk2 x)=some (rk2 x):=by
  have h:=Aav x
  unfold rk2 at h ⊢
  unfold C1
  simp only
  rw[Axv h]
 rw[e,Ad]
theorem Amq {x y:D}{m:MH}{Q:D->Prop}:W (Ar2 x y m) Q=W (C1 m x) fun x'=>W (C1 m y) fun y'=>(dep x'<=30/\dep y'<=30)/\W (leD x' y') fun k=>Q (.bl k):=by
 unfold Ar2
 rw[W_bind];congr 1;funext x'
 rw[W_bind];congr 1;funext y'
 rw[Aml]
 congr 1
 rw[W_bind];congr 1;funext k;exact Ad
theorem Ai9 (x y:Mark):leD x.rk y.rk=(ltD y.rk x.rk).map (!·):=by
 have e:=Mark.rk_deq x y
 have e':=Mark.rk_deq y x
 cases x with
 |n i =>
  cases y with
  |n j =>
   simp only[Mark.rk,leD,Mu,ltD,Ef,B2,Cw]
   by_cases h:i=j
   ·subst h;simp
   ·have h':¬ j=i:=fun z=>h z.symm
    by_cases h2:i<=j
    ·have:¬ j < i:=by lia
     simp[h,h',h2,this]
    ·have:j < i:=by lia
     simp[h,h',h2,this]
  |s t =>
   simp only[Mark.rk,leD,Mu,ltD,Ef,B2,Cw]
   simp
 |s t =>
  cases y with
  |n j =>
   simp only[Mark.rk,leD,Mu,ltD,Ef,B2,Cw]
   simp
  |s u =>
   simp only[Mark.rk,leD,Mu,ltD,Ef,B2,Cw]
   by_cases h:t=u
   ·subst h;simp
   ·have h':¬ u=t:=fun z=>h z.symm
    simp[h,h']
theorem Ug:∀ xs ys:List Mark,Mu (xs.map Mark.rk) (ys.map Mark.rk)=(Ef (ys.map Mark.rk) (xs.map Mark.rk)).map (!·)
 |[],[]=>by simp[Mu,Ef]
 |[],_::_=>by simp[Mu,Ef]
 |_::_,[]=>by simp[Mu,Ef]
 |x::xs,y::ys=>by
  simp only[Axs,Mu,Ef,Mark.rk_deq]
  by_cases h:x=y
  ·subst h;simp[Ug xs ys]
  ·have h':¬ y=x:=fun z=>h z.symm
   simp[h,h',Ai9 x y]
theorem Uc (i j:Int):leD (.int i) (.int j)=(ltD (.int j) (.int i)).map (!·):=by
 simp only[leD,ltD,Option.map_some]
 by_cases h:i<=j
 ·have:¬ j < i:=by lia
  simp[h,this]
 ·have:j < i:=by lia
  simp[h,this]
theorem J4 {c:Prop} [Decidable c] {a b a' b':Option Bool} (h1:a=a'.map (!·)) (h2:b=b'.map (!·)):(if c then a else b)=(if c then a' else b').map (!·):=by
 by_cases h:c
 ·rw[Axv h,Axv h];exact h1
 ·rw[Axy h,Axy h];exact h2
theorem Af5 (x y:Mk):leD (rk2 x) (rk2 y)=some (!y.older x):=by
 have h:leD (rk2 x) (rk2 y)=(ltD (rk2 y) (rk2 x)).map (!·):=by
  have c:∀ i j:Int,deq (.int i) (.int j)=deq (.int j) (.int i):=fun i j=>by
   rw[B2,B2]
   by_cases h:i=j
   ·subst h;rfl
   ·have h':¬ j=i:=fun z=>h z.symm
    simp[h,h']
  have cl:deq (.lst (x.ms.map Mark.rk)) (.lst (y.ms.map Mark.rk))=deq (.lst (y.ms.map Mark.rk)) (.lst (x.ms.map Mark.rk)):=by
   rw[G7 Mark.rk_deq,G7 Mark.rk_deq]
   by_cases h:x.ms=y.ms
   ·rw[h]
   ·have h':¬ y.ms=x.ms:=fun z=>h z.symm
    simp[h,h']
  unfold rk2
  rw[show ∀ as bs,leD (.tup as) (.tup bs)=Mu as bs from fun _ _=>by rw[leD],J8]
  simp only[Mu,Ef]
  rw[c y.a x.a,c y.b x.b,c y.c x.c,c (if y.ms=[] then 1 else 0),<- cl,Uc,Uc,Uc,Uc]
  have hl:leD (.lst (x.ms.map Mark.rk)) (.lst (y.ms.map Mark.rk))=(ltD (.lst (y.ms.map Mark.rk)) (.lst (x.ms.map Mark.rk))).map (!·):=by
   rw[show ∀ as bs,leD (.lst as) (.lst bs)=Mu as bs from fun _ _=>by rw[leD],show ∀ as bs,ltD (.lst as) (.lst bs)=Ef as bs from fun _ _=>by rw[ltD]]
   exact Ug _ _
  rw[hl]
  exact J4 (J4 (J4 (J4 (J4 rfl rfl) rfl) rfl) rfl) rfl
 rw[h,Aau];rfl
theorem Aco (m:Mk) (ps:List Pc) (hm:m.ms.length<=1000) (hp:∀ p∈ps,small p) {Q:D->Prop}:W (Pj [m.d,.tup (ps.map pD)]) Q=Q (.bl (ps.any (inP m))):=W.eq <| by
 unfold Pj Ait
 rw[Cm]
 simp_arith[Md m hm]
 refine D4 (fun rest e w=>w=[]/\(∀ p∈rest,small p)/\rest.any (inP m)=ps.any (inP m)/\∃ v w,e=[some m.d,some (.tup (ps.map pD)),some (rk2 m),v,w]) ?_ ?_ ⟨rfl,hp,rfl,_,_,rfl⟩
 ·rintro ⟨l,h⟩ rest e w ⟨rfl,hs,ha,v,w,rfl⟩
  refine⟨trivial,?_⟩
  have s1:=hs _ (Axn ..)
  have s2:∀ p∈rest,small p:=fun p hp=>hs p (Axl _ hp)
  rw[Azk] at ha
  have d1:=Tg m
  have d2:=Tg l
  have yes:inP m (l,h)=true->D.bl true=D.bl (ps.any (inP m)):=fun z=>by rw[<- ha,z];rfl
  have no:inP m (l,h)=false->rest.any (inP m)=ps.any (inP m):=fun z=>by rw[<- ha,z];rfl
  cases h with
  |none =>
   simp_arith[Md l s1.1,Amq,Ahi,Af5,Ad]
   rw[T8] at yes no
   refine⟨by lia,?_⟩
   exact cK.mk (fun z=>yes z) fun z=>⟨s2,no z,_,_,rfl⟩
  |some h =>
   have d3:=Tg h
   simp_arith[Md l s1.1,Amq,Ahi,Af5,Ad]
   simp only[oD]
   simp_arith[Md h (s1.2 h rfl),Ahi,Aau,Ad]
   rw[T9] at yes no
   refine⟨by lia,cK.mk (fun z=>⟨by lia,cK.mk (fun z'=>yes (by rw[z,z'];rfl)) fun z'=>⟨s2,no (by rw[z,z'];rfl),_,_,rfl⟩⟩) fun z=>⟨s2,no (by rw[z];rfl),_,_,rfl⟩⟩
 ·rintro e w ⟨rfl,hs,ha,v,w,rfl⟩
  refine⟨trivial,?_⟩
  array_get_dec
  rw[<- ha];rfl
instance:Inhabited Mk:=⟨⟨0,0,0,[]⟩⟩
theorem Lg (a b c:Mk) (h:a.older c=true):a.older b=true\/b.older c=true:=by
 by_cases e:a=b
 ·subst e;exact .inr h
 ·cases q:a.older b with
  |true=>exact .inl rfl
  |false =>
   have:=Lh e
   rw[q] at this
   have h2:b.older a=true:=by cases z:b.older a with
    |true=>rfl
    |false=>rw[z] at this;cases this
   exact .inr (Cp h2 h)
theorem Nz (a b:Mk) (h1:a.older b=false) (h2:b.older a=false):a=b:=by
 by_cases e:a=b
 ·exact e
 ·have:=Lh e
  rw[h1,h2] at this
  cases this
theorem Tb:∀ {xs ys:List Mk},xs.Perm ys->xs.Pairwise (fun x y=>x.older y=false)->ys.Pairwise (fun x y=>x.older y=false)->xs=ys
 |[],ys,h,_,_=>h.nil_eq
 |x::xs,[],h,_,_=>by have:=h.length_eq;simp at this
 |x::xs,y::ys,h,hx,hy=>by
  obtain⟨hx1,hx2⟩:=List.pairwise_cons.mp hx
  obtain⟨hy1,hy2⟩:=List.pairwise_cons.mp hy
  have e:x=y:=by
   by_cases e:x=y
   ·exact e
   ·have m1:x∈ys:=by
     rcases List.mem_cons.mp (h.mem_iff.mp (Axn ..)) with z|z
     ·exact absurd z e
     ·exact z
    have m2:y∈xs:=by
     rcases List.mem_cons.mp (h.mem_iff.mpr (Axn ..)) with z|z
     ·exact absurd z.symm e
     ·exact z
    exact Nz x y (hx1 y m2) (hy1 x m1)
  subst e
  rw[Tb ((List.perm_cons x).mp h) hx2 hy2]
theorem Yr {fn:List D->Option D}{m:MH}:∀ {xs:List Mk},(∀ x∈xs,fn [x.d]=some x.rk)->Hr fn m (xs.map Mk.d)=some (xs.map Mk.rk)
 |[],_=>rfl
 |x::xs,h=>by
  have e:C3 1 fn [x.d] m=some x.rk:=by
   unfold C3
   rw[Dj,Df x.pure]
   exact h x (Axn ..)
  rw[Axs,Hr,e,Axs]
  show (Hr fn m (xs.map Mk.d)).bind _=_
  rw[Yr fun y hy=>h y (Axl _ hy)]
  rfl
theorem Ad9 {fn:List D->Option D}{m:MH}{xs:List Mk} (h:∀ x∈xs,fn [x.d]=some x.rk) (hl:xs.length < 64):∃ ys:List Mk,ys.Perm xs/\ys.Pairwise (fun x y=>x.older y=false)/\C0 fn true [.lst (xs.map Mk.d)] m=some (ys.map Mk.d):=by
 have hk:=Yr (m:=m) h
 have c1:(xs.map Mk.rk).all Afd=true:=by
  rw[List.all_eq_true]
  intro d hd
  obtain⟨x,_,rfl⟩:=List.mem_map.mp hd
  rfl
 have c2:Be (xs.map Mk.rk)=true:=Bj (Ah Mk.rk_pure)
 have c3:Dm (xs.map Mk.rk)<=20:=B1 fun d hd=>by
  obtain⟨x,_,rfl⟩:=List.mem_map.mp hd
  have:=Mk.rk_dep x
  lia
 have go:∀ ys:List Mk,ys.Perm xs->ys.Pairwise (fun x y=>x.older y=false)->Mb true (xs.map Mk.d) (xs.map Mk.rk)=some (ys.map Mk.d)->∃ ys:List Mk,ys.Perm xs/\ys.Pairwise (fun x y=>x.older y=false)/\C0 fn true [.lst (xs.map Mk.d)] m=some (ys.map Mk.d):=fun ys h1 h2 h3=>by
  refine⟨ys,h1,h2,?_⟩
  unfold C0
  simp only
  rw[show sqL m (D.lst (xs.map Mk.d))=some (xs.map Mk.d) from rfl,Ayf,hk,Ayf,h3,Ayf]
  rw[Axv ⟨by simpa using hl,c1,c2,c3,by rw[Axq,h1.length_eq];exact hl⟩]
 by_cases h2:xs.length < 2
 ·refine go xs (List.Perm.refl _) ?_ ?_
  ·match xs,h2 with
   |[],_=>exact .nil
   |[x],_=>exact Azs ..
  ·unfold Mb
   rw[Axv (by simpa using h2)]
 ·obtain⟨p,e,hp,hs,hi⟩:=Re (blt:=Mk.older) (zs:=xs.reverse) Hs (fun a b c=>Cp) Lg Nz (c:=fun i j=>ltD ((W.katRev true (xs.map Mk.rk)).getD i .non) ((W.katRev true (xs.map Mk.rk)).getD j .non)) (fun i j hi hj=>by
   have g:∀ i (hi:i < xs.reverse.length),(W.katRev true (xs.map Mk.rk)).getD i .non=(xs.reverse[i]).rk:=fun i hi=>by
    show (xs.map Mk.rk).reverse.getD i .non=_
    rw[<- List.map_reverse,Axp,Ax6,Axz hi]
    rfl
   show ltD _ _=_
   rw[g i hi,g j hj,Mk.rk_lt]) (by simp;lia)
  refine go (p.toList.map fun i=>xs.reverse.getD i default).reverse ((List.reverse_perm _).trans (hp.trans (List.reverse_perm _))) (List.pairwise_reverse.mpr hs) ?_
  unfold Mb
  rw[Axy (by simpa using h2),Axq,<- List.length_reverse,e]
  show some (W.katRev true _)=_
  congr 1
  show (p.toList.map fun i=>(xs.map Mk.d).reverse.getD i .non).reverse=_
  rw[List.map_reverse,Azj]
  congr 1
  refine List.map_congr_left fun i hi'=>?_
  have hlt:=hi i hi'
  rw[<- List.map_reverse,Axp,Ax6,Axz hlt]
  show xs.reverse[i].d=(xs.reverse.getD i default).d
  rw[Axp,Axz hlt]
  rfl
theorem Y9 (xs:List Mk) (hx:∀ x∈xs,x.ms.length<=1000) (hl:xs.length < 64):W (Yc [.lst (xs.map Mk.d)]) fun d=>∃ ys:List Mk,d=.lst (ys.map Mk.d)/\ys.Perm xs/\ys.Pairwise (fun x y=>x.older y=false):=by
 unfold Yc Aty
 rw[Cm]
 obtain⟨ys,h1,h2,e⟩:=Ad9 (fn:=Ii) (m:=[]) (fun x h=>W.out (by rw[Tf x (hx x h)])) hl
 array_get_dec
 rw[e,Ad]
 array_get_dec
 exact⟨ys,rfl,h1,h2⟩
theorem U0 {fn:List D->Option D}{m:MH}{xs:List Mk} (h:∀ x∈xs,fn [x.d]=some (rk2 x)) (hl:xs.length < 64):∃ ys:List Mk,ys.Perm xs/\ys.Pairwise (fun x y=>y.older x=false)/\C0 fn false [.lst (xs.map Mk.d)] m=some (ys.map Mk.d):=by
 have hk:Hr fn m (xs.map Mk.d)=some (xs.map rk2):=by
  clear hl
  induction xs with
  |nil=>rfl
  |cons x xs ih =>
   have e:C3 1 fn [x.d] m=some (rk2 x):=by
    unfold C3
    rw[Dj,Df x.pure]
    exact h x (Axn ..)
   rw[Axs,Hr,e,Axs]
   show (Hr fn m (xs.map Mk.d)).bind _=_
   rw[ih fun y hy=>h y (Axl _ hy)]
   rfl
 have c1:(xs.map rk2).all Afd=true:=by
  rw[List.all_eq_true]
  intro d hd
  obtain⟨x,_,rfl⟩:=List.mem_map.mp hd
  rfl
 have r1:∀ x:Mk,B6 (rk2 x)=true:=fun x=>by
  unfold rk2
  have:Be (x.ms.map Mark.rk)=true:=Bj (Ah Mark.rk_pure)
  simp[B6,Be,this]
 have c2:Be (xs.map rk2)=true:=by
  induction xs with
  |nil=>rfl
  |cons x xs ih=>rw[Axs,Be,r1,ih (fun y hy=>h y (Axl _ hy)) (by simp at hl;lia) (by
    rw[Axs,Hr] at hk
    obtain⟨k1,e1,e2⟩:=bind_some hk
    obtain⟨k2,e3,e4⟩:=bind_some e2
    rw[e3]
    rw[Axs] at e4
    injection e4 with e4
    injection e4 with e5 e6
    rw[e6]) (by rw[Axs,Ayt,Ax4] at c1;exact c1.2)];rfl
 have c3:Dm (xs.map rk2)<=20:=B1 fun d hd=>by
  obtain⟨x,_,rfl⟩:=List.mem_map.mp hd
  unfold rk2
  rw[Cv]
  have h1:Dm (x.ms.map Mark.rk)<=1:=B1 fun d hd=>by
   obtain⟨m,_,rfl⟩:=List.mem_map.mp hd
   exact Mark.rk_dep m
  have:Dm [D.int x.a,D.int x.b,D.int x.c,D.int (if x.ms=[] then 1 else 0),D.lst (x.ms.map Mark.rk)]<=2:=B1 fun d hd=>by
   simp only[Ay0,Ays,or_false] at hd
   rcases hd with rfl|rfl|rfl|rfl|rfl
   ·rw[B8];lia
   ·rw[B8];lia
   ·rw[B8];lia
   ·rw[B8];lia
   ·rw[dep];lia
  lia
 have go:∀ ys:List Mk,ys.Perm xs->ys.Pairwise (fun x y=>y.older x=false)->Mb false (xs.map Mk.d) (xs.map rk2)=some (ys.map Mk.d)->∃ ys:List Mk,ys.Perm xs/\ys.Pairwise (fun x y=>y.older x=false)/\C0 fn false [.lst (xs.map Mk.d)] m=some (ys.map Mk.d):=fun ys h1 h2 h3=>by
  refine⟨ys,h1,h2,?_⟩
  unfold C0
  simp only
  rw[show sqL m (D.lst (xs.map Mk.d))=some (xs.map Mk.d) from rfl,Ayf,hk,Ayf,h3,Ayf]
  rw[Axv ⟨by simpa using hl,c1,c2,c3,by rw[Axq,h1.length_eq];exact hl⟩]
 by_cases h2:xs.length < 2
 ·refine go xs (List.Perm.refl _) ?_ ?_
  ·match xs,h2 with
   |[],_=>exact .nil
   |[x],_=>exact Azs ..
  ·unfold Mb
   rw[Axv (by simpa using h2)]
 ·obtain⟨p,e,hp,hs,hi⟩:=Re (blt:=Mk.older) (zs:=xs) Hs (fun a b c=>Cp) Lg Nz (c:=fun i j=>ltD ((W.katRev false (xs.map rk2)).getD i .non) ((W.katRev false (xs.map rk2)).getD j .non)) (fun i j hi hj=>by
   have g:∀ i (hi:i < xs.length),(W.katRev false (xs.map rk2)).getD i .non=rk2 xs[i]:=fun i hi=>by
    show (xs.map rk2).getD i .non=_
    rw[Axp,Ax6,Axz hi]
    rfl
   show ltD _ _=_
   rw[g i hi,g j hj,Aau]) (by lia)
  refine go (p.toList.map fun i=>xs.getD i default) hp hs ?_
  unfold Mb
  rw[Axy (by simpa using h2),Axq,e]
  show some (W.katRev false _)=_
  congr 1
  show (p.toList.map fun i=>(xs.map Mk.d).getD i .non)=_
  rw[Azj]
  refine List.map_congr_left fun i hi'=>?_
  have hlt:=hi i hi'
  rw[Axp,Ax6,Axz hlt]
  show xs[i].d=(xs.getD i default).d
  rw[Axp,Axz hlt]
  rfl
theorem P9:∀ {ys:List Mk},ys.Pairwise (fun x y=>x.older y=true)->Tq (D8 ys)
 |[],_=>.nil
 |[x],_=>Azs ..
 |x::y::r,h=>by
  obtain⟨h1,h2⟩:=List.pairwise_cons.mp h
  obtain⟨h3,h4⟩:=List.pairwise_cons.mp h2
  rw[D8]
  refine List.pairwise_cons.mpr ⟨fun q hq=>?_,P9 h4⟩
  have hm:=(Hu hq).1
  exact⟨h1 _ (Axl _ hm),y,rfl,h3 _ hm⟩
theorem Aa3 {ys:List Mk} (hn:ys.Nodup) (hp:ys.Pairwise fun x y=>y.older x=false):ys.Pairwise fun x y=>x.older y=true:=by
 refine (hn.and hp).imp fun {x y} ⟨h1,h2⟩=>?_
 rw[Lh h1,h2];rfl
theorem Au9 {z:MObj}{r:MH}{ms:List Mk}{x:Mk}{Q:D->Prop}:W (Cr x.d (.ref (r.length+1)) (z::(r++[.lst (ms.map Mk.d)]))) Q=Q (.bl (!decide (x∈ms))):=Ar1 (M:=z::r)
theorem Ade (R:List Mk):(List.range ((R.length+1) / 2)).map (fun q:Nat=>D.tup [(R.getD (2 * q) default).d,oD R[2 * q+1]?])=(D8 R).map pD:=by
 refine List.ext_getElem? fun i=>?_
 by_cases hi:i < (R.length+1) / 2
 ·have h2:2 * i < R.length:=by lia
  rw[Ax6,Ax6,M0 R i h2,List.getElem?_range hi]
  simp[pD,h2]
 ·rw[Ayi (by simpa using hi),Ayi (by rw[Axq,Ht];lia)]
theorem Avj {M:MH}{x y:MObj}:(M++[x]).set M.length y=M++[y]:=by simp
theorem V7 {fn:List D->Option D}{m:MH}{n:Nat}{ds:List D} (h:sqL m (.ref n)=some ds):C0 fn false [.ref n] m=C0 fn false [.lst ds] m:=by
 unfold C0
 simp only[h]
 rfl
theorem Aw5 {z:MObj}{r t:MH}{a:List D}:sqL (z::(r++.lst a::t)) (.ref (r.length+1))=some a:=by
 have e:(z::(r++MObj.lst a::t))[r.length+1]?=some (.lst a):=by simp
 unfold sqL sq;simp only[e]
abbrev oldM:Mk:=⟨0,0,0,[.n 0]⟩
theorem On (ns:List Int) (c o g:Int) (r:MH) (ms:List Mk) (h0:0 < ms.length) (h1:ms.length<=200) (hm:∀ x∈ms,x.ms.length<=3) (hc:0<=c) (hc1:c < 900000):W (Ex [.ref 0,.lst (ms.map Mk.d)] (fdL ns c o g::r)) fun x=>∃ (ps:List Pc) (c' g':Int) (t:MH),x=(.tup (ps.map pD),fdL ns c' o g'::(r++t))/\Sp ps/\0<=c'/\c'<=c+8:=by
 unfold Ex Aiv
 rw[Dk]
 array_get_dec
 refine (A3 ns c o g r 3 (by decide) (by decide) hc (by lia)).imp fun x ⟨k1,g1,e,a1,b1⟩=>?_
 subst e
 array_get_dec
 refine cK.dec (fun _=>⟨[(oldM,none)],_,_,[],by rw[Axx];rfl,⟨Azs ..,fun p hp=>by rw[List.mem_singleton.mp hp];exact⟨by simp,fun h e=>nomatch e⟩,by simp⟩,by lia,by lia⟩) fun _=>?_
 refine (A3 ns _ o g1 _ 5 (by decide) (by decide) (by lia) (by lia)).imp fun x ⟨k2,g2,e,a2,b2⟩=>?_
 subst e
 array_get_dec
 refine⟨⟨by lia,by lia⟩,Ju (fun k e m=>∃ (es:List Mk) (c2 g2:Int) (u v:Option D),m=fdL ns c2 o g2::(r++[.lst (es.map Mk.d)])/\e=[some (.ref 0),some (.lst (ms.map Mk.d)),some oldM.d,some (.ref (r.length+1)),u,v]/\es.Nodup/\(∀ x∈es,x.ms.length<=3)/\es.length<=k/\0<=c2/\c2<=c+2+k) ?_ ?_ ⟨[],_,_,_,_,rfl,rfl,Azx,(fun _ h=>nomatch h),Axu _,by lia,by lia⟩⟩
 ·rintro k e m hk ⟨es,c2,g3,u,v,rfl,rfl,hn,hs,hle,hc2,hc3⟩
  refine⟨trivial,?_⟩
  array_get_dec
  refine (A3 ns _ o g3 _ ms.length (by lia) (by lia) (by lia) (by lia)).imp fun x ⟨k3,g4,e,a3,b3⟩=>?_
  subst e
  array_get_dec
  refine Ir a3 (by simpa using b3) fun d _ hd=>?_
  obtain⟨x,hx,rfl⟩:=List.mem_map.mp hd
  simp_arith[Au9,sqC,Ar5]
  refine cK.mk (fun h=>?_) fun _=>⟨es,_,_,_,_,rfl,rfl,hn,hs,by lia,by lia,by lia⟩
  have hx':x∉es:=by simpa using h
  refine⟨by lia,es++[x],c2+1,g4,_,_,by simp,rfl,List.nodup_append.mpr ⟨hn,by simp,fun a ha b hb=>?_⟩,fun y hy=>?_,by simp;lia,by lia,by lia⟩
  ·rw[List.mem_singleton.mp hb];exact fun z=>hx' (z ▸ ha)
  ·rcases List.mem_append.mp hy with hy|hy
   ·exact hs y hy
   ·rw[List.mem_singleton.mp hy];exact hm x hx
 ·rintro e m ⟨es,c2,g3,u,v,rfl,rfl,hn,hs,hle,hc2,hc3⟩
  refine⟨trivial,?_⟩
  array_get_dec
  refine (A3 ns _ o g3 _ 2 (by decide) (by decide) (by lia) (by lia)).imp fun x ⟨k3,g4,e,a3,b3⟩=>?_
  subst e
  have fin:∀ (es:List Mk),es.Nodup->(∀ x∈es,x.ms.length<=3)->es.length<=6->W (C0 Es false [D.ref (List.length r+1)] (fdL ns (c2+1) o g4::(r++[MObj.lst (es.map Mk.d)]))) fun ds=>ds.length<=999999/\(0<=((ds++[D.non]).length:Int) - 1/\((ds++[D.non]).length:Int) - 1 < 1000000000)/\(List.range (Th 0 (((ds++[D.non]).length:Int) - 1) 2)).length<=1000000/\W (G5 (Au 1) Ly (Cf (Aa (f2 oIx (Ac 0) (Ac 1)) (Aa (f2 oIx (Ac 0) (f2 Cn (Ac 1) (fC (D.int 1)))) Ak))) (fdL ns (c2+1) o g4::((r++[MObj.lst (es.map Mk.d)])++[MObj.lst (ds++[D.non])])) [some (D.ref ((r++[MObj.lst (es.map Mk.d)]).length+1)),none] (List.map (fun q:Nat=>D.int ((q:Int) * 2)) (List.range (Th 0 (((ds++[D.non]).length:Int) - 1) 2)))) fun ds_1=>∃ (ps:List Pc) (c' g':Int) (t:MH),(D.tup ds_1,fdL ns (c2+1) o g4::((r++[MObj.lst (es.map Mk.d)])++[MObj.lst (ds++[D.non])]))=(D.tup (List.map pD ps),fdL ns c' o g'::(r++t))/\Sp ps/\0<=c'/\c'<=c+8:=fun es hn hs hle=>by
   obtain⟨ys,hp,hpw,eo⟩:=U0 (fn:=Es) (m:=fdL ns (c2+1) o g4::(r++[MObj.lst (es.map Mk.d)])) (xs:=es) (fun x hx=>W.out (by rw[Md x (by have:=hs x hx;lia)])) (by lia)
   rw[V7 Aw5,eo,Ad]
   have hly:=hp.length_eq
   have hyn:ys.Nodup:=hp.nodup_iff.mpr hn
   have hys:∀ x∈ys,x.ms.length<=3:=fun x hx=>hs x (hp.mem_iff.mp hx)
   have hrl:Th 0 (((ys.map Mk.d++[D.non]).length:Int) - 1) 2=(ys.length+1) / 2:=by
    simp only[Axt,Axq,Ax1,Az8]
    unfold Th
    split<;>lia
   rw[hrl]
   refine⟨by simp;lia,⟨by simp,by simp;lia⟩,by simp;lia,Bo (fun q:Nat=>D.tup [(ys.getD (2 * q) default).d,oD ys[2 * q+1]?]) (fun q hq=>?_) ?_⟩
   ·have hq:2 * q < ys.length:=by have:=List.mem_range.mp hq;lia
    have ee:ys.map Mk.d++[D.non]=(ys.map some++[none]).map oD:=by
     rw[Ayc,Azj];rfl
    have e1:∀ {Q:D->Prop},W (atI (ys.map Mk.d++[D.non]) ((q:Int) * 2)) Q=Q (ys.getD (2 * q) default).d:=fun {Q}=>by
     have hl:2 * q < (ys.map some++[none]).length:=by simp;lia
     rw[ee,show ((q:Int) * 2)=((2 * q:Nat):Int) by lia,Jr hl,List.getElem_append_left (by simpa using hq)]
     simp[hq]
     rfl
    have e2:∀ {Q:D->Prop},W (atI (ys.map Mk.d++[D.non]) ((q:Int) * 2+1)) Q=Q (oD ys[2 * q+1]?):=fun {Q}=>by
     have hl:2 * q+1 < (ys.map some++[none]).length:=by simp;lia
     rw[ee,show ((q:Int) * 2+1)=((2 * q+1:Nat):Int) by lia,Jr hl]
     congr 2
     by_cases h:2 * q+1 < ys.length
     ·rw[List.getElem_append_left (by simpa using h)];simp[h]
     ·rw[List.getElem_append_right (by simpa using h)];simp;lia
    simp_arith[sqC,e1,e2]
   ·rw[Ade ys]
    refine⟨D8 ys,_,_,[_,_],by rw[List.append_assoc];rfl,⟨P9 (Aa3 hyn hpw),fun p hp=>?_,by rw[Ht];lia⟩,by lia,by lia⟩
    obtain⟨m1,m2⟩:=Hu hp
    have z1:=hys _ m1
    exact⟨by lia,fun h e=>by have:=hys _ (m2 h e);lia⟩
  have em:es.map Mk.d++[oldM.d]=(es++[oldM]).map Mk.d:=by simp
  have f1:=fin es hn hs (by lia)
  simp_arith[Au9 (x:=oldM),sqC,Avj]
  rw[em]
  refine cK.dec (fun _=>cK.mk (fun h=>⟨by lia,fin (es++[oldM]) (List.nodup_append.mpr ⟨hn,by simp,fun a ha b hb=>?_⟩) (fun y hy=>?_) (by simp;lia)⟩) fun _=>f1) fun _=>f1
  ·have hx':oldM∉es:=by simpa using h
   rw[List.mem_singleton.mp hb];exact fun z=>hx' (z ▸ ha)
  ·rcases List.mem_append.mp hy with hy|hy
   ·exact hs y hy
   ·rw[List.mem_singleton.mp hy];simp
abbrev Nd:=Str×List Pc
def nD (n:Nd):D:=.tup [.str n.1,.tup (n.2.map pD)]
theorem Dh (n:Nd):Bw (nD n)=true:=by
 unfold nD
 rw[Aw,An,An,Bq,Bm,Aw,Ji];rfl
theorem Ni {x:D} (hx:Bw x=true) (hd:dep x<=50) {z:List D} (hz:Be z=true) {m:MH}{Q:D->Prop}:W (Cr x (.lst z) m) Q=Q (.bl !(z.any fun d=>deq d x)):=by
 have e1:C1 m x=some x:=Df hx
 have e2:C1 m (.lst z)=some (.lst z):=by
  unfold C1
  simp only
  rw[Axv (by rw[B6];exact hz)]
 have e:Cr x (.lst z) m=some (.bl !(z.any fun d=>deq d x)):=by
  unfold Cr inO
  simp only[e1,e2,Ayf]
  rw[show sq [] (D.lst z)=some z from rfl]
  simp only[Ayf]
  rw[Axv hd]
  rfl
 rw[e,Ad]
theorem Abu {t:Str}{z:List D} (hz:Be z=true) {m:MH}{Q:D->Prop}:W (Cr (.str t) (.lst z) m) Q=Q (.bl !(z.any fun d=>deq d (.str t))):=Ni Bm (by rw[Dz];lia) hz
structure En where
 nm:Str
 mv:Mk
 nd:List Nd
structure EnOk (e:En):Prop where
 ms:e.mv.ms.length<=2
 sp:∀ n∈e.nd,Sp n.2
 len:e.nd.length<=4
def kD (e:En):D:=.tup [.str e.nm,e.mv.d]
def eD (e:En):D:=.tup [.str e.nm,e.mv.d,.tup (e.nd.map nD)]
theorem Ai2 (e:En):Bw (kD e)=true:=by
 unfold kD
 rw[Aw,An,An,Bq,Bm,e.mv.pure];rfl
theorem Cy (e:En):Bw (eD e)=true:=by
 unfold eD
 rw[Aw,An,An,An,Bq,Bm,e.mv.pure,Aw,Ah Dh];rfl
theorem Aoe (e:En):dep (kD e)<=3:=by
 unfold kD
 rw[Cv]
 have:Dm [D.str e.nm,e.mv.d]<=2:=B1 fun d hd=>by
  simp only[Ay0,Ays,or_false] at hd
  rcases hd with rfl|rfl
  ·rw[Dz];lia
  ·exact e.mv.dep
 lia
theorem Aof (a b:En):deq (kD a) (kD b)=decide (a.nm=b.nm/\a.mv=b.mv):=by
 unfold kD
 rw[Bx,Bx,D1,Cw,Mk.deq]
 by_cases h1:a.nm=b.nm<;>by_cases h2:a.mv=b.mv<;>simp[h1,h2]
theorem Aww {α:Type}{x y z:α}:Jv [x,y,z] none (some 2)=[x,y]:=rfl
def Dst (a b:En):Prop:=¬ (a.nm=b.nm/\a.mv=b.mv)
structure Sh (es:List En):Prop where
 ok:∀ e∈es,EnOk e
 len:es.length<=40
 dst:es.Pairwise Dst
theorem Atq {e:En}{Q:D->Prop}:W (oSl (eD e) none (some 2)) Q=Q (kD e):=by
 unfold eD kD
 rw[Xo,Aww]
theorem sqN {z:MObj}{r t:MH}{j:Nat}{a:List D} (h:r[j]?=some (.lst a)) {Q:List D->Prop}:W (sq (z::(r++t)) (.ref (j+1))) Q=Q a:=by
 have hj:j < r.length:=(List.getElem?_eq_some_iff.mp h).1
 have e:(z::(r++t))[j+1]?=some (.lst a):=by rw[Ay1,Axr hj];exact h
 have e2:sq (z::(r++t)) (.ref (j+1))=some a:=by unfold sq;simp only[e]
 rw[e2,Ad]
abbrev qq:Str:=Str.ofString "qqqqqqqq"
theorem La (ns:List Int) (c o g:Int) (r:MH) (j:Nat) (ts:List Str) (hj:r[j]?=some (.lst (ts.map .str))) (ht:1<=ts.length) (ht2:ts.length<=6) (ow:Str) (ms:List Mk) (h0:0 < ms.length) (h1:ms.length<=200) (hm:∀ x∈ms,x.ms.length<=3) (mo:Int) (m1:1<=mo) (m2:mo<=5) (hc:0<=c) (hc1:c < 800000):W (Vj [.ref 0,.ref (j+1),.str ow,.lst (ms.map Mk.d),.int mo] (fdL ns c o g::r)) fun x=>∃ (nds:List Nd) (c' g':Int) (t:MH),x=(.tup (nds.map nD),fdL ns c' o g'::(r++t))/\(∀ n∈nds,Sp n.2/\n.1∈ts++[qq])/\nds.length < mo.toNat/\0<=c'/\c'<=c+100:=by
 unfold Vj At1
 rw[Dk]
 array_get_dec
 refine (A3 ns c o g _ mo (by lia) (by lia) hc (by lia)).imp fun x ⟨k1,g1,e,a1,b1⟩=>?_
 subst e
 array_get_dec
 refine⟨⟨by lia,by lia⟩,Ju (fun k e m=>∃ (nds:List Nd) (c2 g2:Int) (t:MH) (u v:Option D),m=fdL ns c2 o g2::(r++.lst (nds.map nD)::t)/\e=[some (.ref 0),some (.ref (j+1)),some (.str ow),some (.lst (ms.map Mk.d)),some (.int mo),some (.ref (r.length+1)),u,v]/\(∀ n∈nds,Sp n.2/\n.1∈ts++[qq])/\nds.length<=k/\0<=c2/\c2<=c+1+10 * k) ?_ ?_ ⟨[],_,_,[],_,_,rfl,rfl,(fun _ h=>nomatch h),Axu _,by lia,by lia⟩⟩
 ·rintro k e m hk ⟨nds,c2,g2,t,u,v,rfl,rfl,hn,hle,hc2,hc3⟩
  refine⟨trivial,?_⟩
  simp_arith[sqN hj]
  refine⟨by lia,(A3 ns _ o g2 _ 6 (by decide) (by decide) (by lia) (by lia)).imp fun x ⟨k2,g3,e,a2,b2⟩=>?_⟩
  subst e
  array_get_dec
  have hq:∀ b:Bool,(ts.length:Int)+(if b=true then 1 else 0)<=(ts++[qq]).length/\1<=(ts.length:Int)+(if b=true then 1 else 0):=fun b=>by cases b<;>simp<;>lia
  obtain⟨q1,q2⟩:=hq (decide (k2=0))
  generalize hN:(ts.length:Int)+(if decide (k2=0)=true then 1 else 0)=N at q1 q2
  have q1':N<=7:=by simp at q1;lia
  refine (A3 ns _ o g3 _ N (by lia) (by lia) (by lia) (by lia)).imp fun x ⟨k3,g4,e,a3,b3⟩=>?_
  subst e
  have eq:ts.map D.str++[D.str (Str.ofString "qqqqqqqq")]=(ts++[qq]).map D.str:=by simp
  simp_arith[eq]
  refine Ir a3 (by rw[Axq];lia) fun d _ hd=>?_
  obtain⟨nm,hnm,rfl⟩:=List.mem_map.mp hd
  array_get_dec
  have stay:∀ (u v:Option D),∃ (nds':List Nd) (c2' g2':Int) (t':MH) (u' v':Option D),fdL ns (c2+1+1) o g4::(r++MObj.lst (nds.map nD)::t)=fdL ns c2' o g2'::(r++MObj.lst (nds'.map nD)::t')/\[some (D.ref 0),some (D.ref (j+1)),some (D.str ow),some (D.lst (ms.map Mk.d)),some (D.int mo),some (D.ref (List.length r+1)),u,v]=[some (D.ref 0),some (D.ref (j+1)),some (D.str ow),some (D.lst (ms.map Mk.d)),some (D.int mo),some (D.ref (List.length r+1)),u',v']/\(∀ n∈nds',Sp n.2/\n.1∈ts++[qq])/\nds'.length<=k+1/\0<=c2'/\c2'<=c+1+10 * ((k+1:Nat):Int):=fun u v=>⟨nds,_,_,t,u,v,rfl,rfl,hn,by lia,by lia,by lia⟩
  refine cK.mk (fun _=>?_) fun _=>stay _ _
  rw[sqC]
  refine⟨⟨by simp,by simp;lia⟩,Bo (fun n=>.str n.1) (fun n hn=>?_) ?_⟩
  ·unfold nD
   array_get_dec
  rw[Abu (Bj (Ah fun _=>Bm))]
  simp_arith[sqC]
  refine cK.mk (fun _=>?_) fun _=>stay _ _
  refine (On ns _ o g4 _ ms h0 h1 hm (by lia) (by lia)).imp fun x ⟨ps,c5,g5,t5,e,hsp,hc5,hc6⟩=>?_
  subst e
  simp only[List.append_assoc,Ay7]
  rw[sqC,Ar5]
  refine⟨by simp;lia,nds++[(nm,ps)],c5,g5,t++t5,_,_,by simp[nD],rfl,fun n hn'=>?_,by simp;lia,by lia,by lia⟩
  rcases List.mem_append.mp hn' with h|h
  ·exact hn n h
  ·rw[List.mem_singleton.mp h];exact⟨hsp,hnm⟩
 ·rintro e m ⟨nds,c2,g2,t,u,v,rfl,rfl,hn,hle,hc2,hc3⟩
  refine⟨trivial,?_⟩
  simp_arith[sqC]
  exact⟨nds,c2,g2,_,rfl,hn,by lia,hc2,by lia⟩
theorem Z2 (a b:Pr):deq (prD a) (prD b)=decide (a=b):=by
 unfold prD
 rw[Bx,Bx,D1,Cw,Mk.deq]
 obtain⟨a1,a2⟩:=a
 obtain⟨b1,b2⟩:=b
 by_cases h1:a1=b1<;>by_cases h2:a2=b2<;>simp[h1,h2]
theorem Ake (x:Pr):dep (prD x)<=3:=by
 unfold prD
 rw[Cv]
 have:Dm [D.str x.1,x.2.d]<=2:=B1 fun d hd=>by
  simp only[Ay0,Ays,or_false] at hd
  rcases hd with rfl|rfl
  ·rw[Dz];lia
  ·exact x.2.dep
 lia
theorem Aw2 {z:MObj}{M t:MH}{st:List Pr}{a:Str}{x:Mk}{Q:D->Prop}:W (Cr (.tup [.str a,x.d]) (.ref (M.length+1)) (z::(M++.lst (st.map prD)::t))) Q=Q (.bl (!decide ((a,x)∈st))):=by
 have e0:(z::(M++MObj.lst (st.map prD)::t))[M.length+1]?=some (.lst (st.map prD)):=by simp
 have e1:C1 (z::(M++MObj.lst (st.map prD)::t)) (.ref (M.length+1))=some (.lst (st.map prD)):=by
  unfold C1;simp only[e0,Bj (Ah N6),Bag]
 have e:inO (z::(M++.lst (st.map prD)::t)) (prD (a,x)) (.ref (M.length+1))=some (decide ((a,x)∈st)):=by
  unfold inO
  simp only[Df (N6 (a,x)),e1,Ayf]
  rw[show sq [] (D.lst (st.map prD))=some (st.map prD) from rfl,Ayf]
  have:=Ake (a,x)
  rw[Axv (by lia)]
  congr 1
  rw[Azc,List.any_eq_true,Ay4]
  constructor
  ·rintro ⟨d,hd,h⟩
   obtain⟨y,hy,rfl⟩:=List.mem_map.mp hd
   rw[Z2] at h
   rw[<- Ayn h];exact hy
  ·exact fun h=>⟨prD (a,x),List.mem_map.mpr ⟨_,h,rfl⟩,by rw[Z2];simp⟩
 unfold Cr
 have e':inO (z::(M++.lst (st.map prD)::t)) (.tup [.str a,x.d]) (.ref (M.length+1))=some (decide ((a,x)∈st)):=e
 rw[e',Ayf,Ad]
theorem Pl {α:Type} (ys:List α) (p:Nat) (x:α):(insD ys p x).Perm (x::ys):=by
 unfold insD
 refine List.perm_middle.trans ?_
 rw[List.take_append_drop]
theorem Uy {k:Int} (h0:0<=k) (h1:k < 2) {a b:Int}{Q:D->Prop} (qa:Q (.int a)) (qb:Q (.int b)):W (atI [D.int a,.int b] k) Q:=by
 have:k=0\/k=1:=by lia
 rcases this with rfl|rfl
 ·exact⟨_,rfl,qa⟩
 ·exact⟨_,rfl,qb⟩
noncomputable abbrev inB:FS:=A4 (Ca 7 (D6 (Ab (fM (f2 oIx (Ac 3) (Ac 5))) (Ab (Aq 1 Mq (Ab (fM (Ac 0)) As)) As)))) (sIf (A6 (f2 Cr (Ac 7) (Ac 4))) (L9 Gs (Ac 4) (Ab (Aq 2 A8 (Ab (fM (Ac 0)) (Ab (fM (f2 Cn (Ay Ec (Aa (Ac 4) Ak)) (fC (.int 1)))) As))) (Ab (fM (Ac 7)) As))) Ct)
theorem Ach (ns:List Int) (o:Int) (sh mn:Int) (ts:List Str) (M:MH) (j k:Nat) (hj:M[j]?=some (.lst (ts.map .str))) (hk:k < ts.length) (ht:ts.length<=6) (n:Nat) (h4:n<=4) (c g:Int) (hc:0<=c) (hc1:c < 800000) (st:List Pr) (t:MH) (v w:Option D) (hn:st.Nodup) (hs:∀ x∈st,x.2.ms.length<=2/\x.1∈ts) (hle:st.length<=4 * k) (Q:Out->Prop)
  (q:∀ (st':List Pr) (c2 g2:Int) (t:MH) (v w:Option D),(∀ x∈st,x∈st')->(1<=n->∃ x∈st',x.1=ts[k])->st'.Nodup->(∀ x∈st',x.2.ms.length<=2/\x.1∈ts)->st'.length<=4 * (k+1)->Q (.nx [some (.ref 0),some (.int sh),some (.int mn),some (.ref (j+1)),some (.ref (M.length+1)),some (.int k),v,w] (fdL ns c2 o g2::(M++.lst (st'.map prD)::t)))) :
  W (Ij B0 (Au 6) inB (Dc 0 n) [some (.ref 0),some (.int sh),some (.int mn),some (.ref (j+1)),some (.ref (M.length+1)),some (.int k),v,w] (fdL ns c o g::(M++.lst (st.map prD)::t))) Q:=by
 refine Ju (fun i e m=>∃ (st':List Pr) (c2 g2:Int) (t:MH) (v w:Option D),m=fdL ns c2 o g2::(M++.lst (st'.map prD)::t)/\e=[some (.ref 0),some (.int sh),some (.int mn),some (.ref (j+1)),some (.ref (M.length+1)),some (.int k),v,w]/\(∀ x∈st,x∈st')/\(1<=i->∃ x∈st',x.1=ts[k])/\st'.Nodup/\(∀ x∈st',x.2.ms.length<=2/\x.1∈ts)/\st'.length<=4 * k+i/\0<=c2/\c2<=c+10 * i) ?_ ?_ ⟨st,c,g,t,v,w,rfl,rfl,fun _ h=>h,(fun h=>absurd h (by decide)),hn,hs,hle,hc,by lia⟩
 ·rintro i e m hi ⟨st,c2,g2,t,v,w,rfl,rfl,hsub,hex,hn,hs,hle,hc2,hc3⟩
  refine⟨trivial,?_⟩
  simp_arith[sqN hj,Jr hk]
  refine (Ai8 ns c2 o g2 _ hc2 (by lia)).imp fun x ⟨mk,c4,g4,t4,e,hms,hc4,hc5⟩=>?_
  subst e
  simp only[List.append_assoc,Ay7]
  simp_arith[Aw2,sqC]
  refine cK.mk (fun h=>?_) fun h=>⟨st,c4,g4,_,_,_,rfl,rfl,hsub,fun _=>⟨(ts[k],mk),by simpa using h,rfl⟩,hn,hs,by lia,by lia,by lia⟩
  have hx':(ts[k],mk)∉st:=by simpa using h
  refine (A3 ns _ o g4 _ (st.length+1) (by lia) (by lia) (by lia) (by lia)).imp fun x ⟨k3,g5,e,a3,b3⟩=>?_
  subst e
  simp_arith[sqC,Ox]
  have hp:=Pl st k3.toNat (ts[k],mk)
  refine⟨⟨by lia,by lia,by lia⟩,insD st k3.toNat (ts[k],mk),c4+1,g5,t++t4,_,_,?_,rfl,fun x hx=>hp.mem_iff.mpr (Axl _ (hsub x hx)),fun _=>⟨(ts[k],mk),hp.mem_iff.mpr (Axn ..),rfl⟩,hp.nodup_iff.mpr (List.nodup_cons.mpr ⟨hx',hn⟩),fun x hx=>?_,by rw[Ua];lia,by lia,by lia⟩
  ·rw[<- Ub]
   congr 1
   simp[prD]
  ·rcases List.mem_cons.mp (hp.mem_iff.mp hx) with rfl|hx
   ·exact⟨hms,Aym hk⟩
   ·exact hs x hx
 ·rintro e m ⟨st,c2,g2,t,v,w,rfl,rfl,hsub,hex,hn,hs,hle,hc2,hc3⟩
  exact⟨trivial,q st c2 g2 t v w hsub hex hn hs (by lia)⟩
theorem Hy (ns:List Int) (hl:ns.length<=63) (c o g:Int) (r:MH) (sh mn:Int) (a1:0<=sh) (h1:1<=mn) (h2:mn<=6) (hc:0<=c) (hc1:c < 800000):W (Hz [some (.ref 0),some (.int sh),some (.int mn),none,none,none,none,none] (fdL ns c o g::r)) (Aoa fun x=>∃ (ts:List Str) (st:List Pr) (c' g':Int) (M t:MH) (j:Nat),x=(.tup [.ref (j+1),.ref (M.length+1)],fdL ns c' o g'::(M++.lst (st.map prD)::t))/\M[j]?=some (.lst (ts.map .str))/\1<=ts.length/\ts.length<=6/\ts.Nodup/\st.length<=24/\st.Nodup/\(∀ x∈st,x.2.ms.length<=2/\x.1∈ts)/\∀ u∈ts,∃ x∈st,x.1=u):=by
 unfold Hz
 array_get_dec
 refine (Ac3 ns c o g r mn h1 h2 hc (by lia)).imp fun x ⟨ts,c1,g1,e,hts,hnd,hc2,hc3⟩=>?_
 subst e
 array_get_dec
 generalize hM:r++[MObj.lst (ts.map D.str)]=M
 have hj:M[r.length]?=some (.lst (ts.map D.str)):=by rw[<- hM];simp
 have hj2:=hj
 generalize r.length=j at hj hj2
 refine⟨⟨by lia,by lia⟩,Ju (fun k e m=>∃ (st:List Pr) (c2 g2:Int) (t:MH) (u v w:Option D),m=fdL ns c2 o g2::(M++.lst (st.map prD)::t)/\e=[some (.ref 0),some (.int sh),some (.int mn),some (.ref (j+1)),some (.ref (M.length+1)),u,v,w]/\(∀ i (h:i < ts.length),i < k->∃ x∈st,x.1=ts[i])/\st.Nodup/\(∀ x∈st,x.2.ms.length<=2/\x.1∈ts)/\st.length<=4 * k) ?_ ?_ ⟨[],_,_,[],_,_,_,rfl,rfl,(fun _ _ h=>absurd h (Azr _)),Azx,(fun _ h=>nomatch h),Axu _⟩⟩
 ·rintro k e m hk ⟨st,c2,g2,t,u,v,w,rfl,rfl,hal,hn,hs,hle⟩
  refine⟨trivial,?_⟩
  array_get_dec
  refine (Gu ns hl c2 o g2 _ (2+k) (by lia) (by lia)).imp fun x ⟨g3,e⟩=>?_
  subst e
  array_get_dec
  have hk':k < ts.length:=by lia
  refine cK.dec (fun h2=>Uy a1 h2 ?_ ?_) fun h2=>?_
  all_goals
   refine (A3 ns _ o g3 _ _ (by decide) (by decide) (by lia) (by lia)).imp fun x ⟨k3,g4,e,a3,b3⟩=>?_
   subst e
   array_get_dec
   exact⟨⟨by lia,by lia⟩,Ach ns o sh mn ts M j k hj hk' (by lia) _ (by lia) _ _ (by lia) (by lia) st t v w hn hs hle _ fun st' c2 g2 t v w hb hx h1 h2 h3=>⟨st',c2,g2,t,_,v,w,rfl,rfl,fun i hi hik=>by
    rcases Nat.lt_succ_iff_lt_or_eq.mp hik with z|z
    ·obtain⟨x,hx1,hx2⟩:=hal i hi z
     exact⟨x,hb x hx1,hx2⟩
    ·subst z;exact hx (by lia),h1,h2,h3⟩⟩
 ·rintro e m ⟨st,c2,g2,t,u,v,w,rfl,rfl,hal,hn,hs,hle⟩
  refine⟨trivial,?_⟩
  array_get_dec
  exact⟨ts,st,c2,g2,M,t,j,rfl,hj,by lia,by lia,hnd,by lia,hn,hs,fun u hu=>by
   obtain⟨i,hi,e⟩:=List.getElem_of_mem hu
   obtain⟨x,h1,h2⟩:=hal i hi (by lia)
   exact⟨x,h1,h2.trans e⟩⟩
theorem Aeg (ns:List Int) (hl:ns.length<=63) (c o g:Int) (r:MH):W (Pf [.ref 0] (fdL ns c o g::r)) fun x=>∃ (ts:List Str) (st:List Pr) (c' g':Int) (M t:MH) (j:Nat),x=(.tup [.ref (j+1),.ref (M.length+1)],fdL ns c' o g'::(M++.lst (st.map prD)::t))/\M[j]?=some (.lst (ts.map .str))/\1<=ts.length/\ts.length<=6/\ts.Nodup/\st.length<=24/\st.Nodup/\(∀ x∈st,x.2.ms.length<=2/\x.1∈ts)/\∀ u∈ts,∃ x∈st,x.1=u:=by
 unfold Pf Aik
 rw[Dk]
 array_get_dec
 refine (Gu ns hl c o g r 1 (by decide) (by decide)).imp fun x ⟨g1,e⟩=>?_
 subst e
 refine (A3 ns _ o g1 r 16 (by decide) (by decide) (by lia) (by lia)).imp fun x ⟨sh,g2,e,a1,b1⟩=>?_
 subst e
 array_get_dec
 refine cK.dec (fun h2=>Uy a1 h2 (Hy ns hl _ o _ r sh 6 a1 (by decide) (by decide) (by decide) (by decide)) (Hy ns hl _ o _ r sh 3 a1 (by decide) (by decide) (by decide) (by decide))) fun h2=>(A3 ns _ o g2 r 4 (by decide) (by decide) (by lia) (by lia)).imp fun x ⟨k3,g3,e,a3,b3⟩=>?_
 subst e
 array_get_dec
 exact Hy ns hl _ o _ r sh _ a1 (by lia) (by lia) (by lia) (by lia)
theorem An5 {es:List En} (h:(es.map fun e=>(e.nm,e.mv)).Nodup):es.Pairwise Dst:=by
 unfold List.Nodup at h
 rw[List.pairwise_map] at h
 exact h.imp fun {a b} h z=>h (by rw[z.1,z.2])
theorem Ad7 (ns:List Int) (hl:ns.length<=63) (c o g:Int) (r:MH):W (Pg [.ref 0] (fdL ns c o g::r)) fun x=>∃ (ts:List Str) (ms:List Mk) (es:List En) (c' g':Int) (M:MH) (j:Nat),x=(.tup [.ref (j+1),.lst (ms.map Mk.d),.tup (es.map eD)],fdL ns c' o g'::M)/\M[j]?=some (.lst (ts.map .str))/\1<=ts.length/\ts.length<=6/\ts.Nodup/\0 < ms.length/\ms.length<=200/\(∀ x∈ms,x.ms.length<=3)/\Sh es/\es.length<=24/\(∀ e∈es,e.nm∈ts)/\(∀ u∈ts,∃ e∈es,e.nm=u)/\∀ e∈es,∀ n∈e.nd,n.1∈ts++[qq]:=by
 unfold Pg Ail
 rw[Dk]
 array_get_dec
 refine (Aeg ns hl c o g r).imp fun x ⟨ts,st,c1,g1,M,t,j,e,hj,ht1,ht2,htn,hsl,hsn,hsm,hsx⟩=>?_
 subst e
 simp_arith[sqC]
 refine⟨Bj (Ah N6),(Akd st (by lia) fun x hx=>(hsm x hx).1).imp fun d ⟨ms,e,hm1,hm2,hm3⟩=>?_⟩
 subst e
 simp_arith[Cd]
 generalize hM:M++MObj.lst (st.map prD)::t=M1
 have hj1:M1[j]?=some (.lst (ts.map .str)):=by
  have:=(List.getElem?_eq_some_iff.mp hj).1
  rw[<- hM,Axr this];exact hj
 have hs1:M1[M.length]?=some (.lst (st.map prD)):=by rw[<- hM];simp
 simp_arith[sqN hs1]
 refine⟨⟨by lia,by lia⟩,Ju (fun k e m=>∃ (es:List En) (c2 g2:Int) (t:MH) (u v w:Option D),m=fdL ns c2 o g2::(M1++.lst (es.map eD)::t)/\e=[some (.ref 0),some (.ref (j+1)),some (.ref (M.length+1)),some (.lst (ms.map Mk.d)),some (.ref (M1.length+1)),u,v,w]/\(∀ e∈es,EnOk e)/\(∀ e∈es,∀ n∈e.nd,n.1∈ts++[qq])/\(es.map fun e=>(e.nm,e.mv))=st.take k) ?_ ?_ ⟨[],_,_,[],_,_,_,rfl,rfl,(fun _ h=>nomatch h),(fun _ h=>nomatch h),rfl⟩⟩
 ·rintro k e m hk ⟨es,c2,g2,t,u,v,w,rfl,rfl,h1,h2,h3⟩
  refine⟨trivial,?_⟩
  have hk':k < st.length:=by simpa using hk
  array_get_dec
  refine (Gu ns hl c2 o g2 _ (10+k) (by lia) (by lia)).imp fun x ⟨g3,e⟩=>?_
  subst e
  simp_arith[sqN hs1,Jr hk']
  have ep:prD st[k]=.tup [.str st[k].1,st[k].2.d]:=rfl
  simp_arith[ep]
  rw[sqC]
  have hlk:es.length=k:=by
   have:=Ay9 List.length h3
   rw[Axq,Azf] at this
   lia
  have hj2:(M1++.lst (es.map eD)::t)[j]?=some (.lst (ts.map .str)):=by
   have:=(List.getElem?_eq_some_iff.mp hj1).1
   rw[Axr this];exact hj1
  refine (La ns _ o g3 _ j ts hj2 ht1 ht2 st[k].1 ms hm1 (by lia) hm3 4 (by decide) (by decide) (by lia) (by lia)).imp fun x ⟨nds,c4,g4,t4,e,hn,hnl,hc4,hc5⟩=>?_
  subst e
  simp only[List.append_assoc,Ay7]
  rw[sqC,Ar5]
  have hsk:=hsm _ (Aym hk')
  refine⟨by simp;lia,es++[⟨st[k].1,st[k].2,nds⟩],c4,g4,t++t4,_,_,_,by simp[eD],rfl,fun e he=>?_,fun e he=>?_,?_⟩
  ·rcases List.mem_append.mp he with he|he
   ·exact h1 e he
   ·rw[List.mem_singleton.mp he];exact⟨hsk.1,fun n h=>(hn n h).1,by have:(4:Int).toNat=4:=rfl;show nds.length<=4;lia⟩
  ·rcases List.mem_append.mp he with he|he
   ·exact h2 e he
   ·rw[List.mem_singleton.mp he];exact fun n h=>(hn n h).2
  ·rw[Ayc,h3,List.take_add_one,Axz hk'];rfl
 ·rintro e m ⟨es,c2,g2,t,u,v,w,rfl,rfl,h1,h2,h3⟩
  refine⟨trivial,?_⟩
  simp_arith[sqC]
  have h3:(es.map fun e=>(e.nm,e.mv))=st:=by rw[h3,Azg (by simp)]
  refine⟨ts,ms,es,c2,g2,_,j,rfl,?_,ht1,ht2,htn,hm1,by lia,hm3,⟨h1,?_,An5 (by rw[h3];exact hsn)⟩,?_,fun e he=>?_,fun u hu=>?_,h2⟩
  ·have:=(List.getElem?_eq_some_iff.mp hj1).1
   rw[Axr this];exact hj1
  ·have:=Ay9 List.length h3
   rw[Axq] at this
   lia
  ·have:=Ay9 List.length h3
   rw[Axq] at this
   lia
  ·have:(e.nm,e.mv)∈st:=by rw[<- h3];exact List.mem_map.mpr ⟨e,he,rfl⟩
   exact (hsm _ this).2
  ·obtain⟨x,hx,e⟩:=hsx u hu
   rw[<- h3] at hx
   obtain⟨y,hy,rfl⟩:=List.mem_map.mp hx
   exact⟨y,hy,e⟩
theorem Ew {α:Type}{g:FG}{t:FB}{fe:FE}{m:MH}{env:Bg}{h:α->D} (p:α->Bool) (F:α->D):∀ {xs:List α}{Q:List D->Prop},(∀ x∈xs,W (g (h x) env) fun e1=>W (t e1 m) fun ok=>ok=p x/\(ok=true->W (fe e1 m) fun y=>y=F x))->Q ((xs.filter p).map F)->W (G5 g t fe m env (xs.map h)) Q
 |[],Q,_,q=>by rw[Azq,Js];exact q
 |x::xs,Q,k,q=>by
  rw[Axs,Hm]
  refine (k x (Axn ..)).imp fun e1 h1=>h1.imp fun ok h2=>?_
  obtain⟨h2,h3⟩:=h2
  have ih:=fun {Q:List D->Prop}=>Ew (g:=g) (t:=t) (fe:=fe) (m:=m) (env:=env) (h:=h) p F (xs:=xs) (Q:=Q) fun e he=>k e (Axl _ he)
  constructor
  ·intro hk
   refine (h3 hk).imp fun y hy=>?_
   subst hy
   refine ih ?_
   rw[List.filter_cons,Axv (h2 ▸ hk),Axs] at q
   exact q
  ·intro hk
   refine ih ?_
   rw[List.filter_cons,Axy (by rw[<- h2,hk];decide)] at q
   exact q
theorem Ae1 {e:En}{m:MH}{Q:D->Prop}:W (oIx (eD e) (.int 0) m) Q=Q (.str e.nm):=by unfold eD;rw[Hn,Xk]
theorem Ae2 {e:En}{m:MH}{Q:D->Prop}:W (oIx (eD e) (.int 1) m) Q=Q e.mv.d:=by unfold eD;rw[Hn,Rj]
theorem An6 {e:En}{m:MH}{Q:D->Prop}:W (oIx (eD e) (.int 2) m) Q=Q (.tup (e.nd.map nD)):=by unfold eD;rw[Hn,Ag0]
theorem Anw (e:En) (t:Str) (x:Mk):deq (kD e) (.tup [.str t,x.d])=decide (e.nm=t/\e.mv=x):=Aof e ⟨t,x,[]⟩
noncomputable def isE (t:Str) (x:Mk) (e:En):Bool:=decide (e.nm=t/\e.mv=x)
def Vy (es:List En) (t:Str) (x:Mk):List Nd:=((es.find? (isE t x)).map En.nd).getD []
theorem R5 (es:List En) (t:Str) (x:Mk) {Q:D->Prop}:W (Yi [.tup (es.map eD),.str t,x.d]) Q=Q (.tup ((Vy es t x).map nD)):=W.eq <| by
 unfold Yi At4
 rw[Cm]
 array_get_dec
 refine D4 (fun rest e m=>m=[]/\rest.find? (isE t x)=es.find? (isE t x)/\∃ v,e=[some (.tup (es.map eD)),some (.str t),some x.d,v]) ?_ ?_ ⟨rfl,rfl,_,rfl⟩
 ·rintro r rest e m ⟨rfl,h1,v,rfl⟩
  refine⟨trivial,?_⟩
  simp_arith[Atq,An6,Ai2,Anw]
  rw[Azt] at h1
  refine⟨by have:=Aoe r;lia,cK.dec (fun h=>?_) fun h=>?_⟩
  ·have hb:isE t x r=true:=Ayl h
   rw[hb] at h1
   simp_arith[Ah Dh]
   unfold Vy
   rw[<- h1];rfl
  ·have hb:isE t x r=false:=Ax3 h
   rw[hb] at h1
   exact⟨h1,_,rfl⟩
 ·rintro e m ⟨rfl,h1,v,rfl⟩
  refine⟨trivial,?_⟩
  array_get_dec
  unfold Vy
  rw[<- h1];rfl
abbrev Bk:=Str×Mk
def bD (b:Bk):D:=.tup [.str b.1,b.2.d]
theorem Dy (b:Bk):Bw (bD b)=true:=by unfold bD;rw[Aw,An,An,Bq,Bm,b.2.pure];rfl
abbrev Wn:=Str×Nd
def wD (n:Wn):D:=.tup [.str n.1,.str n.2.1,.tup (n.2.2.map pD)]
theorem C2 (n:Wn):Bw (wD n)=true:=by
 unfold wD
 rw[Aw,An,An,An,Bq,Bm,Bm,Aw,Ji];rfl
def atw (es:List En) (ws:List Nd) (bk:List Bk):List Wn:=ws.map (fun n=>(Str.ofString "",n))++bk.flatMap fun b=>(Vy es b.1 b.2).map fun n=>(b.1,n)
theorem Ny (es:List En) (h:Sh es) (t:Str) (x:Mk):(Vy es t x).length<=4:=by
 unfold Vy
 cases e:es.find? (isE t x) with
 |none=>simp
 |some r=>exact (h.ok r (List.mem_of_find?_eq_some e)).len
theorem Ed (es:List En) (h:Sh es) (ws:List Nd) (hw:ws.length<=4) (bk:List Bk):(atw es ws bk).length<=4+4 * bk.length:=by
 unfold atw
 rw[Axt,Axq]
 have:(bk.flatMap fun b=>(Vy es b.1 b.2).map fun n=>(b.1,n)).length<=4 * bk.length:=by
  induction bk with
  |nil=>simp
  |cons b bk ih=>rw[List.flatMap_cons,Axt,Axq,Ax1];have:=Ny es h b.1 b.2;lia
 lia
theorem Xm {ds zs:List D}{Q:List D->Prop}:W (Ajd ds [.lst zs]) Q=(ds.length+zs.length<=1000000/\Q (ds++zs)):=H9
theorem Me (es:List En) (h:Sh es) (ws:List Nd) (hw:ws.length<=4) (bk:List Bk) (hb:bk.length<=40) {Q:D->Prop}:W (Yb [.tup (es.map eD),.tup (ws.map nD),.tup (bk.map bD)]) Q=Q (.lst ((atw es ws bk).map wD)):=W.eq <| by
 unfold Yb Atx
 rw[Cm]
 array_get_dec
 refine⟨by lia,Bo (fun n=>wD (Str.ofString "",n)) (fun n hn=>?_) ?_⟩
 ·unfold nD
  array_get_dec
  rfl
 array_get_dec
 have hat:=Ed es h ws hw bk
 refine D4 (fun rest e m=>∃ (dn:List Bk) (u v:Option D),dn++rest=bk/\m=[.lst ((atw es ws dn).map wD)]/\e=[some (.tup (es.map eD)),some (.tup (ws.map nD)),some (.tup (bk.map bD)),some (.ref 0),u,v]) ?_ ?_ ⟨[],none,none,rfl,by simp[atw],rfl⟩
 ·rintro ⟨t,x⟩ rest e m ⟨dn,u,v,hd,rfl,rfl⟩
  refine⟨trivial,?_⟩
  unfold bD
  have hl:=Ny es h t x
  have hd2:=Ed es h ws hw dn
  have ld:dn.length<=bk.length:=by rw[<- hd];simp
  simp_arith[Ah Cy,R5,Xm]
  refine⟨by lia,Bo (fun n=>wD (t,n)) (fun n hn=>?_) ?_⟩
  ·unfold nD
   array_get_dec
   rfl
  simp_arith[Xm]
  refine⟨by lia,dn++[(t,x)],_,_,by rw[<- hd];simp,?_,rfl⟩
  simp[atw,List.flatMap_append]
 ·rintro e m ⟨dn,u,v,hd,rfl,rfl⟩
  rw[Axx] at hd
  subst hd
  refine⟨trivial,?_⟩
  simp_arith[Ah C2]
noncomputable def tkn (bk:List Bk) (t:Str):Option Mk:=(bk.find? fun b=>b.1=t).map (·.2)
def kept (bk:List Bk) (n:Nd):Bool:=match tkn bk n.1 with
 |some x=>n.2.any (inP x)
 |none=>false
structure BkOk (bk:List Bk):Prop where
 nd:(bk.map (·.1)).Nodup
 sm:∀ b∈bk,b.2.ms.length<=1000
 len:bk.length<=40
theorem Lc (bk:List Bk):Be (bk.map fun b=>b.2.d)=true:=Bj (Ah fun b=>b.2.pure)
theorem Vq (bk:List Bk) (hb:BkOk bk) (n:Wn) (hn:Sp n.2.2) {Q:D->Prop}:W (Pd [wD n,.dks (bk.map (·.1)) (bk.map fun b=>b.2.d)]) Q=Q (.bl (kept bk n.2)):=W.eq <| by
 unfold Pd Aih wD
 rw[Cm]
 have e1:decide (n.2.1∈bk.map (·.1))=(bk.find? fun b=>b.1=n.2.1).isSome:=Nw (fun b:Bk=>b.1) bk n.2.1
 have e2:Ace (bk.map (·.1)) (bk.map fun b=>b.2.d) n.2.1=(bk.find? fun b=>b.1=n.2.1).map fun b=>b.2.d:=T6 (fun b:Bk=>b.1) (fun b=>b.2.d) bk n.2.1
 simp_arith[e1,e2]
 cases q:bk.find? fun b=>b.1=n.2.1 with
 |none =>
  have k:kept bk n.2=false:=by unfold kept tkn;rw[q];rfl
  simp only[Option.isSome_none,Option.map_none]
  simp_arith[k]
 |some b =>
  have hm:b∈bk:=List.mem_of_find?_eq_some q
  have k:kept bk n.2=n.2.2.any (inP b.2):=by unfold kept tkn;rw[q];rfl
  simp only[Bab,Option.map_some]
  have hl:=hn.len
  simp_arith[Ad,Ai6 b.2 n.2.2 (hb.sm b hm) hn.sm (by lia) hn.ok,k]
theorem Xu {es:List En} (h:Sh es) {ws:List Nd} (hw:∀ n∈ws,Sp n.2) {bk:List Bk}{n:Wn} (hn:n∈atw es ws bk):Sp n.2.2:=by
 unfold atw at hn
 rcases List.mem_append.mp hn with hn|hn
 ·obtain⟨z,hz,rfl⟩:=List.mem_map.mp hn
  exact hw z hz
 ·obtain⟨b,_,hn⟩:=List.mem_flatMap.mp hn
  obtain⟨z,hz,rfl⟩:=List.mem_map.mp hn
  unfold Vy at hz
  cases e:es.find? (isE b.1 b.2) with
  |none=>rw[e] at hz;simp at hz
  |some r =>
   rw[e] at hz
   exact (h.ok r (List.mem_of_find?_eq_some e)).sp z hz
structure WtOk (ws:List Nd):Prop where
 sp:∀ n∈ws,Sp n.2
 len:ws.length<=4
theorem Jt {bk:List Bk} (hb:(bk.map (·.1)).Nodup) {m:MH}{Q:D->Prop}:W (Ld [.tup (bk.map bD)] m) Q=Q (.dks (bk.map (·.1)) (bk.map fun b=>b.2.d)):=by
 have e:Il (bk.map bD)=some (bk.map fun b=>(b.1,b.2.d)):=V2 (fun b:Bk=>b.1) (fun b:Bk=>b.2.d) bk
 rw[Ag4,e,Ad,Ab9 (fun b:Bk=>b.1) (fun b:Bk=>b.2.d) hb]
theorem Anh {n:Wn}{m:MH}{Q:D->Prop}:W (Oq m (wD n)) Q=Q (wD n):=by
 have e:Oq m (wD n)=some (wD n):=by show C1 m (wD n)=_;exact Df (C2 n)
 rw[e,Ad]
noncomputable def sel (es:List En) (t:Str):List Mk:=(es.filter fun e=>decide (e.nm=t)).map En.mv
theorem Aa0 {es:List En}{t:Str}{x:Mk} (h:x∈sel es t):∃ e∈es,e.nm=t/\e.mv=x:=by
 unfold sel at h
 obtain⟨e,he,rfl⟩:=List.mem_map.mp h
 have:=List.mem_filter.mp he
 exact⟨e,this.1,by simpa using this.2,rfl⟩
theorem Ti (es:List En) (t:Str):(sel es t).length<=es.length:=by
 unfold sel
 rw[Axq]
 exact List.length_filter_le ..
def mks (es:List En) (t:Str):List Mk:=(sel es t).mergeSort fun x y=>!x.older y
theorem Jg (es:List En) (t:Str):(mks es t).Perm (sel es t):=List.mergeSort_perm _ _
theorem Afh (es:List En) (t:Str):(mks es t).Pairwise fun x y=>x.older y=false:=by
 have:=List.pairwise_mergeSort (le:=fun x y:Mk=>!x.older y) (fun a b c h1 h2=>by
  have h1:=Bool.not_eq_true' _ |>.mp h1
  have h2:=Bool.not_eq_true' _ |>.mp h2
  rw[Bool.not_eq_true']
  cases e:a.older c with
  |false=>rfl
  |true =>
   rcases Lg a b c e with z|z
   ·rw[h1] at z;cases z
   ·rw[h2] at z;cases z) (fun a b=>by
  cases e:a.older b with
  |false=>rfl
  |true=>rw[Lf e];rfl) (sel es t)
 exact this.imp fun h=>Bool.not_eq_true' _ |>.mp h
theorem Af7 {es:List En} (h:Sh es) {t:Str}{x:Mk} (hx:x∈sel es t):x.ms.length<=2:=by
 obtain⟨e,he,_,rfl⟩:=Aa0 hx
 exact (h.ok e he).ms
theorem mks_mem {es:List En}{t:Str}{x:Mk}:x∈mks es t ↔ ∃ e∈es,e.nm=t/\e.mv=x:=by
 rw[(Jg es t).mem_iff]
 refine⟨Aa0,fun⟨e,he,h1,h2⟩=>?_⟩
 unfold sel
 exact List.mem_map.mpr ⟨e,List.mem_filter.mpr ⟨he,by simpa using h1⟩,h2⟩
theorem J9 (es:List En) (t:Str):(mks es t).length<=es.length:=by rw[(Jg es t).length_eq];exact Ti es t
theorem R4 (es:List En) (h:Sh es) (t:Str) {Q:D->Prop}:W (Yh [.tup (es.map eD),.str t]) Q=Q (.lst ((mks es t).map Mk.d)):=W.eq <| by
 unfold Yh At3
 rw[Cm]
 have hs:=Ti es t
 have h40:=h.len
 array_get_dec
 refine⟨by lia,Ew (fun e=>decide (e.nm=t)) (fun e=>e.mv.d) (fun e he=>?_) ?_⟩
 ·simp_arith[Ae1,Ae2]
  exact fun _=>trivial
 rw[show ((es.filter fun e=>decide (e.nm=t)).map fun e=>e.mv.d)=(sel es t).map Mk.d by unfold sel;rw[Azj];rfl]
 array_get_dec
 refine (Y9 (sel es t) (fun x hx=>by have:=Af7 h hx;lia) (by lia)).imp fun d ⟨ys,e,h3,h4⟩=>?_
 subst e
 array_get_dec
 rw[Tb (h3.trans (Jg es t).symm) h4 (Afh es t)]
theorem G9 (es:List En) (h:Sh es) (t:Str) {Q:D->Prop}:W (Ih [.tup (es.map eD),.str t]) Q=Q (.lst ((mks es t).map Mk.d)):=W.eq <| by
 unfold Ih Ain
 rw[Cm]
 have hs:=Ti es t
 have h40:=h.len
 array_get_dec
 refine⟨by lia,Ew (fun e=>decide (e.nm=t)) (fun e=>e.mv.d) (fun e he=>?_) ?_⟩
 ·simp_arith[Ae1,Ae2]
  exact fun _=>trivial
 rw[show ((es.filter fun e=>decide (e.nm=t)).map fun e=>e.mv.d)=(sel es t).map Mk.d by unfold sel;rw[Azj];rfl]
 obtain⟨ys,hp,hpw,eo⟩:=U0 (fn:=Es) (m:=[]) (xs:=sel es t) (fun x hx=>W.out (by rw[Md x (by have:=Af7 h hx;lia)])) (by lia)
 array_get_dec
 rw[eo,Ad]
 rw[show Ac7 [D.lst (ys.map Mk.d)] []=some (ys.map Mk.d).reverse from rfl,Ad,<- List.map_reverse]
 simp_arith[Cd]
 rw[Tb ((List.reverse_perm ys).trans (hp.trans (Jg es t).symm)) (List.pairwise_reverse.mpr hpw) (Afh es t)]
theorem sqA {M r:MH}{a:List D}{Q:List D->Prop}:W (sq (M++.lst a::r) (.ref M.length)) Q=Q a:=by
 have e:(M++MObj.lst a::r)[M.length]?=some (.lst a):=by simp
 have e2:sq (M++MObj.lst a::r) (.ref M.length)=some a:=by unfold sq;simp only[e]
 rw[e2,Ad]
theorem xpA {M:MH}{a:List D} (h:Bp a=true) {Q:D->Prop}:W (Cs (M++[.lst a]) (.ref M.length)) Q=Q (.lst a):=by
 have e:(M++[MObj.lst a])[M.length]?=some (.lst a):=by simp
 have e2:Cs (M++[MObj.lst a]) (.ref M.length)=some (.lst a):=by rw[Cs];simp only[e,h,Bag]
 rw[e2,Ad]
theorem Aou {n:Nd}{m:MH}{Q:D->Prop}:W (oIx (nD n) (.int 0) m) Q=Q (.str n.1):=by unfold nD;rw[Hn,Xk]
theorem Aov {n:Nd}{m:MH}{Q:D->Prop}:W (oIx (nD n) (.int 1) m) Q=Q (.tup (n.2.map pD)):=by unfold nD;rw[Hn,Rj]
theorem Zr {es:List En} (hd:es.Pairwise Dst) (t:Str) (x:Mk):(es.filter (isE t x)).flatMap (fun e=>e.nd.map fun n=>(t,n))=(Vy es t x).map fun n=>(t,n):=by
 induction es with
 |nil=>rfl
 |cons e es ih =>
  obtain⟨h1,h2⟩:=List.pairwise_cons.mp hd
  rw[List.filter_cons]
  unfold Vy
  rw[Azt]
  cases q:isE t x e with
  |false=>exact ih h2
  |true =>
   have he:e.nm=t/\e.mv=x:=Ayn q
   have:es.filter (isE t x)=[]:=List.filter_eq_nil_iff.mpr fun r hr hq=>by
    have hr':r.nm=t/\r.mv=x:=Ayn hq
    exact h1 r hr ⟨he.1.trans hr'.1.symm,he.2.trans hr'.2.symm⟩
   simp[this]
theorem T3 {t:Str}{x:Mk}:∀ {pre:List En},(∀ e∈pre,e.nd.length<=4)->((pre.filter (isE t x)).flatMap fun e=>e.nd.map fun n=>(t,n)).length<=4 * pre.length
 |[],_=>by simp
 |e::pre,h=>by
  have ih:=T3 (t:=t) (x:=x) (pre:=pre) fun r hr=>h r (Axl _ hr)
  have he:=h e (Axn ..)
  rw[List.filter_cons,Ax1]
  split
  ·rw[List.flatMap_cons,Axt,Axq];lia
  ·lia
theorem Ha (es:List En) (h:Sh es) (ws:List Nd) (hw:ws.length<=4) (bk:List Bk) (hb:bk.length<=40) {Q:D->Prop}:W (Jz [.tup (es.map eD),.tup (ws.map nD),.tup (bk.map bD)]) Q=Q (.lst ((atw es ws bk).map wD)):=W.eq <| by
 unfold Jz Aim
 rw[Cm]
 have h40:=h.len
 array_get_dec
 refine⟨by lia,Bo (fun n=>wD (Str.ofString "",n)) (fun n hn=>?_) ?_⟩
 ·unfold nD
  array_get_dec
  rfl
 array_get_dec
 refine D4 (fun rest e m=>∃ (M:MH) (dn:List Bk) (u v w w2 w3:Option D),dn++rest=bk/\m=M++[.lst ((atw es ws dn).map wD)]/\e=[some (.tup (es.map eD)),some (.tup (ws.map nD)),some (.tup (bk.map bD)),some (.ref M.length),u,v,w,w2,w3]) ?_ ?_ ⟨[],[],none,none,none,none,none,rfl,by simp[atw],rfl⟩
 ·rintro ⟨t,x⟩ rest e m ⟨M,dn,u,v,w,w2,w3,hd,rfl,rfl⟩
  refine⟨trivial,?_⟩
  have eb:bD (t,x)=.tup [.str t,x.d]:=rfl
  have hl:=Ny es h t x
  have hd2:=Ed es h ws hw dn
  have ld:dn.length<=bk.length:=by rw[<- hd];simp
  simp_arith[eb]
  refine D4 (fun rest' e m=>∃ (M:MH) (pre:List En) (w w2 w3:Option D),pre++rest'=es/\m=M++[.lst ((atw es ws dn++(pre.filter (isE t x)).flatMap fun e=>e.nd.map fun n=>(t,n)).map wD)]/\e=[some (.tup (es.map eD)),some (.tup (ws.map nD)),some (.tup (bk.map bD)),some (.ref M.length),some (.str t),some x.d,w,w2,w3]) ?_ ?_ ⟨M,[],_,_,_,rfl,by simp,rfl⟩
  ·rintro r rest' e m ⟨M,pre,w,w2,w3,hp,rfl,rfl⟩
   refine⟨trivial,?_⟩
   have hr:r∈es:=by rw[<- hp];simp
   have hrl:=(h.ok r hr).len
   have er:eD r=.tup [.str r.nm,r.mv.d,.tup (r.nd.map nD)]:=rfl
   have stay:¬ (r.nm=t/\r.mv=x)->(∃ (M':MH) (pre':List En) (w w2 w3:Option D),pre'++rest'=es/\M++[MObj.lst ((atw es ws dn++(pre.filter (isE t x)).flatMap fun e=>e.nd.map fun n=>(t,n)).map wD)]=M'++[.lst ((atw es ws dn++(pre'.filter (isE t x)).flatMap fun e=>e.nd.map fun n=>(t,n)).map wD)]/\[some (D.tup (es.map eD)),some (D.tup (ws.map nD)),some (D.tup (bk.map bD)),some (D.ref M.length),some (D.str t),some x.d,some (D.str r.nm),some r.mv.d,some (D.tup (r.nd.map nD))]=[some (D.tup (es.map eD)),some (D.tup (ws.map nD)),some (D.tup (bk.map bD)),some (D.ref M'.length),some (D.str t),some x.d,w,w2,w3]):=fun hq=>by
    refine⟨M,pre++[r],_,_,_,by rw[<- hp];simp,?_,rfl⟩
    have hf:isE t x r=false:=Ax3 hq
    simp[List.filter_append,hf]
   simp_arith[er,sqA]
   refine cK.dec (fun hq1=>?_) fun hq=>stay fun z=>hq z.1
   refine cK.dec (fun hq2=>?_) fun hq=>stay fun z=>hq z.2
   refine⟨by lia,Bo (fun n=>wD (t,n)) (fun n hn=>?_) ?_⟩
   ·simp_arith[Aou,Aov]
    rfl
   rw[Xm,Avj]
   have hpl:((pre.filter (isE t x)).flatMap fun e=>e.nd.map fun n=>(t,n)).length<=4 * pre.length:=T3 fun e he=>(h.ok e (by rw[<- hp];exact Aye _ he)).len
   have hpe:pre.length<=es.length:=by rw[<- hp];simp
   refine⟨by simp only[Axq,Axt];lia,M,pre++[r],_,_,_,by rw[<- hp];simp,?_,rfl⟩
   have hf:isE t x r=true:=Ayl ⟨hq1,hq2⟩
   simp[List.filter_append,hf]
  ·rintro e m ⟨M,pre,w,w2,w3,hp,rfl,rfl⟩
   rw[Axx] at hp
   subst hp
   refine⟨trivial,?_⟩
   array_get_dec
   refine⟨M,dn++[(t,x)],_,_,_,_,_,by rw[<- hd];simp,?_,rfl⟩
   rw[Zr h.dst]
   simp[atw,List.flatMap_append]
 ·rintro e m ⟨M,dn,u,v,w,w2,w3,hd,rfl,rfl⟩
  rw[Axx] at hd
  subst hd
  refine⟨trivial,?_⟩
  simp_arith[xpA (Ah C2)]
def Vb (bk:List Bk) (n:Nd):Bool:=match tkn bk n.1 with
 |some x=>!n.2.any (inP x)
 |none=>false
theorem Mt (bk:List Bk) (hb:BkOk bk) (n:Wn) (hn:Sp n.2.2) {Q:D->Prop}:W (Mo [wD n,.dks (bk.map (·.1)) (bk.map fun b=>b.2.d)]) Q=Q (.bl (Vb bk n.2)):=W.eq <| by
 unfold Mo Aii wD
 rw[Cm]
 have e1:decide (n.2.1∈bk.map (·.1))=(bk.find? fun b=>b.1=n.2.1).isSome:=Nw (fun b:Bk=>b.1) bk n.2.1
 have e2:Ace (bk.map (·.1)) (bk.map fun b=>b.2.d) n.2.1=(bk.find? fun b=>b.1=n.2.1).map fun b=>b.2.d:=T6 (fun b:Bk=>b.1) (fun b=>b.2.d) bk n.2.1
 simp_arith[e1,e2]
 cases q:bk.find? fun b=>b.1=n.2.1 with
 |none =>
  have k:Vb bk n.2=false:=by unfold Vb tkn;rw[q];rfl
  simp only[Option.isSome_none,Option.map_none]
  simp_arith[k]
 |some b =>
  have hm:b∈bk:=List.mem_of_find?_eq_some q
  have k:Vb bk n.2=!n.2.2.any (inP b.2):=by unfold Vb tkn;rw[q];rfl
  simp only[Bab,Option.map_some]
  have hl:=hn.len
  simp_arith[Ad,Aco b.2 n.2.2 (hb.sm b hm) hn.sm,k]
def Zs (es:List En) (ws:List Nd):Seek.Shelf Str Mk (List Pc):=⟨Str.ofString "",ws,Vy es,fun m sp=>sp.any (inP m),mks es⟩
abbrev Pap:=Seek.Paper Str Mk (List Pc)
mutual
def paD:Pap->D
 |.brk x=>.tup [.str (Str.ofString "broken"),.str x.1,.str x.2.1,.tup (x.2.2.map pD)]
 |.opn n b rows=>.tup [.str (Str.ofString "open"),.str n,.str b,.tup (Du rows)]
def Du:List (Mk×Pap)->List D
 |[]=>[]
 |r::rs=>.tup [r.1.d,paD r.2]::Du rs
end
mutual
def ht:Pap->Nat
 |.brk _=>1
 |.opn _ _ rows=>htL rows+1
def htL:List (Mk×Pap)->Nat
 |[]=>0
 |r::rs=>max (ht r.2) (htL rs)
end
theorem Gn:∀ {rows:List (Mk×Pap)}{r:Mk×Pap},r∈rows->ht r.2<=htL rows
 |x::xs,r,h=>by
  rw[htL]
  rcases List.mem_cons.mp h with rfl|h
  ·lia
  ·have:=Gn h;lia
theorem De:∀ rows:List (Mk×Pap),Du rows=rows.map fun r=>.tup [r.1.d,paD r.2]
 |[]=>rfl
 |r::rs=>by rw[Du,Axs,De rs]
mutual
theorem Hd:∀ p:Pap,Bw (paD p)=true
 |.brk x=>by
  rw[paD,Aw,An,An,An,An,Bq,Bm,Bm,Bm,Aw,Ji];rfl
 |.opn n b rows=>by
  rw[paD,Aw,An,An,An,An,Bq,Bm,Bm,Bm,Aw,M8 rows];rfl
theorem M8:∀ rows:List (Mk×Pap),Bp (Du rows)=true
 |[]=>by rw[Du];rfl
 |r::rs=>by
  rw[Du,An,Aw,An,An,Bq,r.1.pure,Hd r.2,M8 rs];rfl
end
mutual
def G2:Pap->Prop
 |.brk _=>True
 |.opn _ _ rows=>rows.length<=40/\H4 rows
def H4:List (Mk×Pap)->Prop
 |[]=>True
 |r::rs=>G2 r.2/\H4 rs
end
theorem Lv:∀ {rows:List (Mk×Pap)}{r:Mk×Pap},H4 rows->r∈rows->G2 r.2
 |x::xs,r,h,hr=>by
  rw[H4] at h
  rcases List.mem_cons.mp hr with rfl|hr
  ·exact h.1
  ·exact Lv h.2 hr
theorem ob:(Str.ofString "open"=Str.ofString "broken")=False:=eq_false (by decide +kernel)
theorem Cu {d:D} (h:Bw d=true) {m:MH}{Q:D->Prop}:W (C1 m d) Q=Q d:=by rw[Df h,Ad]
theorem O5 {α:Type} (F:α->Bool):∀ xs:List α,Ro (xs.map fun x=>D.bl (F x))=some (xs.map F)
 |[]=>rfl
 |x::xs=>by rw[Axs,Ro,O5 F xs];rfl
theorem Nm {ds:List D}:deq (.lst ds) (.lst [])=ds.isEmpty:=by cases ds<;>rfl
theorem Abb (n:Wn):dep (wD n)<=5:=by
 unfold wD
 rw[Cv]
 have:Dm [D.str n.1,.str n.2.1,.tup (n.2.2.map pD)]<=4:=B1 fun d hd=>by
  simp only[Ay0,Ays,or_false] at hd
  rcases hd with rfl|rfl|rfl
  ·rw[Dz];lia
  ·rw[Dz];lia
  ·exact Ajo n.2.2
 lia
theorem Ah0 (xs:List Wn):(dep (.lst (xs.map wD))<=60)=True:=by
 have h:Dm (xs.map wD)<=5:=B1 fun d hd=>by
  obtain⟨x,_,rfl⟩:=List.mem_map.mp hd
  exact Abb x
 rw[dep]
 simp
 lia
theorem Hb (xs:List Wn):Be (xs.map wD)=true:=Bj (Ah C2)
theorem Np (ch:List Bk) (n:Str):(!decide (n∈ch.map (·.1)))=(tkn ch n).isNone:=by
 have e1:decide (n∈ch.map (·.1))=(ch.find? fun b=>b.1=n).isSome:=Nw (fun b:Bk=>b.1) ch n
 rw[e1]
 unfold tkn
 cases ch.find? fun b=>decide (b.1=n)<;>rfl
theorem Ars {n:Wn}{m:MH}{Q:D->Prop}:W (oIx (wD n) (.int 1) m) Q=Q (.str n.2.1):=by unfold wD;rw[Hn,Rj]
theorem Agx {n:Wn}{Q:D->Prop}:W (oSl (wD n) none (some 2)) Q=Q (.tup [.str n.1,.str n.2.1]):=by
 unfold wD
 rw[Xo]
 rfl
theorem Xx {x:Wn}:Jv [D.str (Str.ofString "broken"),D.str x.1,D.str x.2.1,D.tup (x.2.2.map pD)] (some 1) none=[D.str x.1,D.str x.2.1,D.tup (x.2.2.map pD)]:=rfl
theorem Jp (a b:Str):Bw (.tup [.str a,.str b])=true:=by rw[Aw,An,An,Bq,Bm,Bm];rfl
theorem Aa7 (a b:Str):dep (.tup [.str a,.str b])<=50:=by
 rw[Cv]
 have:Dm [D.str a,.str b]<=0:=B1 fun d hd=>by
  simp only[Ay0,Ays,or_false] at hd
  rcases hd with rfl|rfl
  ·rw[Dz];lia
  ·rw[Dz];lia
 lia
theorem Agw (a b:Wn):deq (wD a) (wD b)=decide (a=b):=by
 unfold wD
 rw[Bx,Bx,Bx,D1,Cw,Cw,Zv]
 obtain⟨a1,a2,a3⟩:=a
 obtain⟨b1,b2,b3⟩:=b
 by_cases h1:a1=b1<;>by_cases h2:a2=b2<;>by_cases h3:a3=b3<;>simp[h1,h2,h3]
theorem Au7 {n:Wn}{xs:List Wn}:(xs.map wD).any (fun d=>deq d (wD n))=decide (n∈xs):=by
 rw[Azc,List.any_eq_true,Ay4]
 constructor
 ·rintro ⟨d,hd,h⟩
  obtain⟨y,hy,rfl⟩:=List.mem_map.mp hd
  rw[Agw] at h
  rw[<- Ayn h];exact hy
 ·exact fun h=>⟨wD n,List.mem_map.mpr ⟨n,h,rfl⟩,by rw[Agw];simp⟩
theorem Aa8 (a b c d:Str):deq (.tup [.str a,.str b]) (.tup [.str c,.str d])=decide ((a,b)=(c,d)):=by
 rw[Bx,Bx,D1,Cw,Cw]
 by_cases h1:a=c<;>by_cases h2:b=d<;>simp[h1,h2]
abbrev nms (xs:List Wn):List (Str×Str):=xs.map fun x=>(x.1,x.2.1)
theorem Afb {b n:Str}{xs:List Wn}:(xs.map fun n=>D.tup [.str n.1,.str n.2.1]).any (fun d=>deq d (.tup [.str b,.str n]))=decide ((b,n)∈nms xs):=by
 rw[Azc,List.any_eq_true,Ay4]
 constructor
 ·rintro ⟨d,hd,h⟩
  obtain⟨y,hy,rfl⟩:=List.mem_map.mp hd
  rw[Aa8] at h
  exact List.mem_map.mpr ⟨y,hy,Ayn h⟩
 ·intro h
  obtain⟨y,hy,e⟩:=List.mem_map.mp h
  exact⟨_,List.mem_map.mpr ⟨y,hy,rfl⟩,by rw[Aa8];simpa using e⟩
mutual
/-- whether a paper stands -/
def vl (es:List En) (ws:List Nd):List Bk->Pap->Bool
 |ch,.brk x=>decide (x∈atw es ws ch)&&Vb ch x.2
 |ch,.opn n b rows=>(tkn ch n).isNone&&(decide ((b,n)∈nms (atw es ws ch))&&(decide (rows.map (·.1)=mks es n)&&vlL es ws ch n rows))
def vlL (es:List En) (ws:List Nd):List Bk->Str->List (Mk×Pap)->Bool
 |_,_,[]=>true
 |ch,n,r::rs=>vl es ws (ch++[(n,r.1)]) r.2&&vlL es ws ch n rs
end
theorem Lw {es:List En}{ws:List Nd}{ch:List Bk}{n:Str}:∀ rows:List (Mk×Pap),vlL es ws ch n rows=rows.all fun r=>vl es ws (ch++[(n,r.1)]) r.2
 |[]=>by rw[vlL];rfl
 |r::rs=>by rw[vlL,Ayt,Lw rs]
structure Chs (es:List En) (ch:List Bk):Prop where
 nd:(ch.map (·.1)).Nodup
 of:∀ c∈ch,c.2∈mks es c.1
theorem Chs.snoc {es:List En}{ch:List Bk} (h:Chs es ch) {n:Str}{m:Mk} (hn:tkn ch n=none) (hm:m∈mks es n):Chs es (ch++[(n,m)]) where
 nd:=by
  rw[Ayc,List.nodup_append]
  refine⟨h.nd,by simp,fun a ha b hb=>?_⟩
  obtain⟨c,hc,rfl⟩:=List.mem_map.mp ha
  have:b=n:=by simpa using hb
  subst this
  exact Seek.tk_none.mp hn c hc
 of:=fun c hc=>by
  rcases List.mem_append.mp hc with hc|hc
  ·exact h.of c hc
  ·rw[List.mem_singleton.mp hc];exact hm
theorem Chs.ok {es:List En} (hs:Sh es) {ch:List Bk} (h:Chs es ch) (hl:ch.length<=40):BkOk ch where
 nd:=h.nd
 sm:=fun b hb=>by
  obtain⟨e,he,_,h2⟩:=mks_mem.mp (h.of b hb)
  have:=(hs.ok e he).ms
  rw[<- h2];lia
 len:=hl
theorem Agz (xs ys:List Mk):deq (.lst (xs.map Mk.d)) (.lst (ys.map Mk.d))=decide (xs=ys):=G7 Mk.deq xs ys
theorem Gp {es:List En} (hs:Sh es) {ws:List Nd} (hw:WtOk ws):∀ (f:Nat) {ch:List Bk}{p:Pap},Chs es ch->ht p<=f->ch.length+ht p<=40->G2 p->Rw f [.tup (es.map eD),.tup (ws.map nD),.tup (ch.map bD),paD p]=some (.bl (vl es ws ch p))
 |0,ch,p,_,h,_,_=>by cases p<;>simp[ht] at h
 |f+1,ch,.brk x,hc,h,hl,_=>W.out <| by
  have hb:=hc.ok hs (by lia)
  show W (Hv 9 (Alv (Rw f)) _) _
  rw[Cm,paD]
  unfold Alv
  have hal:=Ed es hs ws hw.len ch
  have hbl:=hb.len
  simp_arith[Jt hb.nd,Ah Cy,Ah Dh,Ah Dy,Me es hs ws hw.len ch hbl,Ah C2]
  rw[Xx,show D.tup [D.str x.1,D.str x.2.1,D.tup (x.2.2.map pD)]=wD x from rfl,Cu (C2 x)]
  refine⟨Hb _,by have:=Abb x;lia,?_⟩
  rw[Au7,vl]
  refine cK.dec (fun hx=>?_) fun hx=>by rw[Ax3 hx];rfl
  rw[Ayl hx,Bai,Rj]
  have hfr:=Np ch x.2.1
  have hk:=@Vq ch hb x (Xu hs hw.sp hx)
  simp_arith[Anh,Lc,hk]
  cases q:tkn ch x.2.1 with
  |none =>
   rw[q] at hfr
   have:decide (x.2.1∈ch.map (·.1))=false:=by simpa using hfr
   rw[this,Jb]
   unfold Vb
   rw[q]
  |some y =>
   rw[q] at hfr
   have:decide (x.2.1∈ch.map (·.1))=true:=by simpa using hfr
   rw[this,Nk]
   rw[Cu (C2 x),hk]
   array_get_dec
   unfold Vb kept
   rw[q]
 |f+1,ch,.opn n b rows,hc,h,hl,ht'=>W.out <| by
  have hb:=hc.ok hs (by lia)
  show W (Hv 9 (Alv (Rw f)) _) _
  rw[Cm,paD]
  unfold Alv
  have hal:=Ed es hs ws hw.len ch
  have hbl:=hb.len
  rw[ht] at h hl
  rw[G2] at ht'
  have hrl:=ht'.1
  have hfr:=Np ch n
  rw[De]
  simp_arith[Jt hb.nd,Ah Cy,Ah Dh,Ah Dy,Me es hs ws hw.len ch hbl,Ah C2,ob,decide_false]
  rw[vl]
  cases q:tkn ch n with
  |some y =>
   rw[q] at hfr
   have:decide (n∈ch.map (·.1))=true:=by simpa using hfr
   rw[this,Nk];rfl
  |none =>
   rw[q] at hfr
   have:decide (n∈ch.map (·.1))=false:=by simpa using hfr
   rw[this,Jb]
   refine⟨by lia,Bo (fun n=>.tup [.str n.1,.str n.2.1]) (fun n hn=>?_) ?_⟩
   ·simp_arith[Agx]
   rw[Ni (Jp b n) (Aa7 b n) (Bj (Ah fun n=>Jp _ _)),Afb]
   array_get_dec
   cases q2:decide ((b,n)∈nms (atw es ws ch)) with
   |false=>rw[show (!false)=true from rfl,Nk];rfl
   |true =>
    rw[show (!true)=false from rfl,Jb]
    refine⟨by lia,Bo (fun r=>r.1.d) (fun r hr=>?_) ?_⟩
    ·array_get_dec
    rw[show (rows.map fun r=>r.1.d)=(rows.map (·.1)).map Mk.d by rw[Azj];rfl]
    simp_arith[R4 es hs n,Cd,Agz]
    refine⟨by
     rw[dep]
     have:Dm ((rows.map (·.1)).map Mk.d)<=2:=B1 fun d hd=>by
      obtain⟨y,_,rfl⟩:=List.mem_map.mp hd
      exact y.dep
     lia,?_⟩
    cases q3:decide (rows.map (·.1)=mks es n) with
    |false=>rw[show (!false)=true from rfl,Nk];rfl
    |true =>
     have q3:=Ayn q3
     rw[show (!true)=false from rfl,Jb,Bai,Lw]
     refine⟨by lia,Bo (fun r=>.bl (vl es ws (ch++[(n,r.1)]) r.2)) (fun r hr=>?_) ?_⟩
     ·have hm:r.1∈mks es n:=by rw[<- q3];exact List.mem_map.mpr ⟨r,hr,rfl⟩
      have hh:=Gn hr
      have e:=Gp hs hw f (hc.snoc q hm) (by lia) (by rw[Axt];simp;lia) (Lv ht'.2 hr)
      have ea:ch.map bD++[.tup [.str n,r.1.d]]=(ch++[(n,r.1)]).map bD:=by simp[bD]
      simp_arith[ea]
      refine⟨by lia,?_⟩
      rw[Cu (by rw[Aw];exact Ah Cy),Cu (by rw[Aw];exact Ah Dh),Cu (by rw[Aw];exact Ah Dy),Cu (Hd _),e,Ad]
     ·rw[O5 (fun r:Mk×Pap=>vl es ws (ch++[(n,r.1)]) r.2),Ad]
      simp[List.all_map]
      rfl
theorem Pp {es:List En} (hs:Sh es) {ws:List Nd} (hw:WtOk ws):∀ (f:Nat) {ch:List Bk}{p:Pap},Chs es ch->ht p<=f->ch.length+ht p<=40->G2 p->J0 f [.tup (es.map eD),.tup (ws.map nD),.tup (ch.map bD),paD p]=some (.bl (vl es ws ch p))
 |0,ch,p,_,h,_,_=>by cases p<;>simp[ht] at h
 |f+1,ch,.brk x,hc,h,hl,_=>W.out <| by
  have hb:=hc.ok hs (by lia)
  show W (Hv 12 (Vn (J0 f)) _) _
  rw[Cm,paD]
  unfold Vn
  have hal:=Ed es hs ws hw.len ch
  have hbl:=hb.len
  simp_arith[Jt hb.nd,Ah Cy,Ah Dh,Ah Dy,Ha es hs ws hw.len ch hbl,Ah C2]
  rw[show (!decide (((4:Nat):Int)=4))=false by decide,Jb,Xx,show D.tup [D.str x.1,D.str x.2.1,D.tup (x.2.2.map pD)]=wD x from rfl,Cu (C2 x)]
  refine⟨Hb _,by have:=Abb x;lia,?_⟩
  rw[Au7,vl]
  refine cK.dec (fun hx=>?_) fun hx=>by rw[Ax3 hx];rfl
  rw[Ayl hx,Bai,Cu (C2 x)]
  refine⟨Lc ch,?_⟩
  rw[Mt ch hb x (Xu hs hw.sp hx)]
  array_get_dec
 |f+1,ch,.opn n b rows,hc,h,hl,ht'=>W.out <| by
  have hb:=hc.ok hs (by lia)
  show W (Hv 12 (Vn (J0 f)) _) _
  rw[Cm,paD]
  unfold Vn
  have hal:=Ed es hs ws hw.len ch
  have hbl:=hb.len
  rw[ht] at h hl
  rw[G2] at ht'
  have hrl:=ht'.1
  have hfr:=Np ch n
  have ml:=J9 es n
  have h40:=hs.len
  rw[De]
  simp_arith[Jt hb.nd,Ah Cy,Ah Dh,Ah Dy,Ha es hs ws hw.len ch hbl,Ah C2,ob,decide_false,G9 es hs n,Cd]
  rw[show (!decide (((4:Nat):Int)=4))=false by decide,Jb,vl]
  cases q:tkn ch n with
  |some y =>
   rw[q] at hfr
   have:decide (n∈ch.map (·.1))=true:=by simpa using hfr
   rw[this,Nk];rfl
  |none =>
   rw[q] at hfr
   have:decide (n∈ch.map (·.1))=false:=by simpa using hfr
   rw[this,Jb]
   refine⟨by lia,Bo (fun n=>.tup [.str n.1,.str n.2.1]) (fun n hn=>?_) ?_⟩
   ·simp_arith[Agx]
   rw[Ni (Jp b n) (Aa7 b n) (Bj (Ah fun n=>Jp _ _)),Afb]
   array_get_dec
   cases q2:decide ((b,n)∈nms (atw es ws ch)) with
   |false=>rw[show (!false)=true from rfl,Nk];rfl
   |true =>
    rw[show (!true)=false from rfl,Jb]
    rw[Bai]
    by_cases hlen:rows.length=(mks es n).length
    ·rw[show (!decide ((rows.length:Int)=((mks es n).length:Int)))=false by rw[hlen];simp,Jb]
     generalize hA:(decide (rows.map (·.1)=mks es n)&&vlL es ws ch n rows)=A
     refine⟨⟨by lia,by lia⟩,Ju (fun k e m=>m=[]/\(∀ i (h1:i < rows.length) (h2:i < (mks es n).length),i < k->rows[i].1=(mks es n)[i]/\vl es ws (ch++[(n,rows[i].1)]) rows[i].2=true)/\∃ u,e=[some (.tup (es.map eD)),some (.tup (ws.map nD)),some (.tup (ch.map bD)),some (.tup [.str (Str.ofString "open"),.str n,.str b,.tup (rows.map fun r=>.tup [r.1.d,paD r.2])]),some (.dks (ch.map (·.1)) (ch.map fun b=>b.2.d)),some (.lst ((atw es ws ch).map wD)),some (.str (Str.ofString "open")),some (.str n),some (.str b),some (.tup (rows.map fun r=>.tup [r.1.d,paD r.2])),some (.lst ((mks es n).map Mk.d)),u]) ?_ ?_ ⟨rfl,(fun _ _ _ h=>absurd h (Azr _)),_,rfl⟩⟩
     ·rintro k e m hk ⟨rfl,hi,u,rfl⟩
      refine⟨trivial,?_⟩
      have hk1:k < (mks es n).length:=by simpa using hk
      have hk2:k < rows.length:=by lia
      have hmem:=Aym hk2
      simp_arith[Jr hk1,Jr hk2]
      rw[show (!decide (((2:Nat):Int)=2))=false by decide,Jb]
      by_cases e1:rows[k].1=(mks es n)[k]
      ·rw[Ayl e1,show (!true)=false from rfl,Jb]
       have hm:rows[k].1∈mks es n:=by rw[e1];exact Aym hk1
       have hh:=Gn hmem
       have e:=Pp hs hw f (hc.snoc q hm) (by lia) (by rw[Axt];simp;lia) (Lv ht'.2 hmem)
       have ea:ch.map bD++[.tup [.str n,(mks es n)[k].d]]=(ch++[(n,rows[k].1)]).map bD:=by rw[e1];simp[bD]
       refine⟨by lia,?_⟩
       rw[ea,Cu (by rw[Aw];exact Ah Cy),Cu (by rw[Aw];exact Ah Dh),Cu (by rw[Aw];exact Ah Dy),Cu (Hd _),e,Ad]
       array_get_dec
       cases q4:vl es ws (ch++[(n,rows[k].1)]) rows[k].2 with
       |true =>
        rw[show (!true)=false from rfl,Jb]
        refine⟨fun i h1 h2 hik=>?_,_,rfl⟩
        rcases Nat.lt_succ_iff_lt_or_eq.mp hik with z|z
        ·exact hi i h1 h2 z
        ·subst z;exact⟨e1,q4⟩
       |false =>
        rw[show (!false)=true from rfl,Nk,<- hA,Lw]
        have:(rows.all fun r=>vl es ws (ch++[(n,r.1)]) r.2)=false:=by
         rw[Bool.eq_false_iff]
         intro z
         rw[List.all_eq_true.mp z _ hmem] at q4
         cases q4
        rw[this,Bool.and_false]
      ·rw[Ax3 e1,show (!false)=true from rfl,Nk,<- hA]
       rw[Ax3 fun z=>e1 (by simp[<- z])]
       rfl
     ·rintro e m ⟨rfl,hi,u,rfl⟩
      refine⟨trivial,?_⟩
      array_get_dec
      rw[<- hA]
      have e1:rows.map (·.1)=mks es n:=by
       refine List.ext_getElem (by simpa using hlen) fun i h1 h2=>?_
       rw[List.getElem_map]
       exact (hi i (by simpa using h1) h2 (by simpa using h2)).1
      have e2:vlL es ws ch n rows=true:=by
       rw[Lw,List.all_eq_true]
       intro r hr
       obtain⟨i,h1,rfl⟩:=List.getElem_of_mem hr
       exact (hi i h1 (by lia) (by simp;lia)).2
      rw[e2,Ayl e1];rfl
    ·rw[show (!decide ((rows.length:Int)=((mks es n).length:Int)))=true by simp;lia,Nk]
     rw[Ax3 fun z=>hlen (by rw[<- z,Axq])]
     rfl
theorem Jl {es:List En} (hs:Sh es) {ws:List Nd} (hw:WtOk ws) {ch:List Bk}{p:Pap} (hc:Chs es ch) (h:ht p<=24) (hl:ch.length<=16) (ht':G2 p) (m:MH):W (Er [.tup (es.map eD),.tup (ws.map nD),.tup (ch.map bD),paD p] m) fun x=>x=(.bl true,m):=by
 unfold Er Aip
 rw[Dk]
 have e1:Vl _=_:=Gp hs hw 24 hc h (by lia) ht'
 have e2:Yd _=_:=Pp hs hw 24 hc h (by lia) ht'
 simp_arith[Ah Cy,Ah Dh,Ah Dy,Hd p,e1,e2,Ad]
theorem Avi {M r:MH}{x y:MObj}:(M++x::r).set M.length y=M++y::r:=by simp
theorem Aci {ch:List Bk}{i:Nat}{x:Bk}:insD (ch.map bD) i (bD x)=(insD ch i x).map bD:=Ub
theorem Mh (ns:List Int) (c o g:Int) (r:MH) (j:Nat) (ts:List Str) (hj:r[j]?=some (.lst (ts.map .str))) (ht2:ts.length<=6) (htn:ts.Nodup) (es:List En) (hs:Sh es) (hx:∀ u∈ts,∃ e∈es,e.nm=u) (hc:0<=c) (hc1:c < 800000):W (Rv [.ref 0,.tup (es.map eD),.ref (j+1)] (fdL ns c o g::r)) fun x=>∃ (ch:List Bk) (c' g':Int) (t:MH),x=(.tup (ch.map bD),fdL ns c' o g'::(r++t))/\Chs es ch/\ch.length<=6/\0<=c'/\c'<=c+18:=by
 unfold Rv At5
 rw[Dk]
 have hjl:=(List.getElem?_eq_some_iff.mp hj).1
 simp_arith[sqN hj]
 have at1:∀ (z:MObj) (t:MH),(z::(r++t))[j+1]?=some (.lst (ts.map .str)):=fun z t=>by rw[Ay1,Axr hjl];exact hj
 refine D4 (fun rest e m=>∃ (ch:List Bk) (c2 g2:Int) (t:MH) (u v:Option D),m=fdL ns c2 o g2::(r++.lst (ch.map bD)::t)/\e=[some (.ref 0),some (.tup (es.map eD)),some (.ref (j+1)),some (.ref (r.length+1)),u,v]/\Chs es ch/\rest.Nodup/\(∀ u∈rest,u∈ts)/\(∀ x∈ch,x.1∉rest)/\ch.length+rest.length<=ts.length/\0<=c2/\c2+3 * rest.length<=c+3 * ts.length) ?_ ?_ ⟨[],_,_,[],_,_,rfl,rfl,⟨Azx,(fun _ h=>nomatch h)⟩,htn,fun _ h=>h,(fun _ h=>nomatch h),by simp,hc,Int.le_refl _⟩
 ·rintro n rest e m ⟨ch,c2,g2,t,u,v,rfl,rfl,hch,hrn,hrt,hcr,hll,hc2,hc3⟩
  refine⟨at1 _ _,?_⟩
  obtain⟨h1,h2⟩:=List.nodup_cons.mp hrn
  rw[Ax1] at hll hc3
  obtain⟨e0,he0,hn0⟩:=hx n (hrt n (Axn ..))
  have hpos:0 < (mks es n).length:=List.length_pos_of_mem (mks_mem.mpr ⟨e0,he0,hn0,rfl⟩)
  have ml:=J9 es n
  have h40:=hs.len
  simp_arith[G9 es hs n,Ah Cy,Cd]
  refine (A3 ns _ o g2 _ 3 (by decide) (by decide) (by lia) (by lia)).imp fun x ⟨k1,g3,e,a1,b1⟩=>?_
  subst e
  array_get_dec
  refine cK.dec (fun _=>?_) fun _=>⟨ch,c2+1,g3,t,_,_,rfl,rfl,hch,h2,fun u hu=>hrt u (Axl _ hu),fun x hx hr=>hcr x hx (Axl _ hr),by lia,by lia,by lia⟩
  simp_arith[sqC]
  refine (A3 ns _ o g3 _ (ch.length+1) (by lia) (by lia) (by lia) (by lia)).imp fun x ⟨k2,g4,e,a2,b2⟩=>?_
  subst e
  refine (A3 ns _ o g4 _ (mks es n).length (by lia) (by lia) (by lia) (by lia)).imp fun x ⟨k3,g5,e,a3,b3⟩=>?_
  subst e
  array_get_dec
  refine Ir a3 (by simpa using b3) fun d _ hd=>?_
  obtain⟨y,hy,rfl⟩:=List.mem_map.mp hd
  rw[sqC,Avi]
  have hp:=Pl ch k2.toNat (n,y)
  refine⟨⟨by simp;lia,by lia,by lia⟩,insD ch k2.toNat (n,y),c2+1+1+1,g5,t,_,_,by rw[<- Aci];rfl,rfl,⟨?_,fun x hx=>?_⟩,h2,fun u hu=>hrt u (Axl _ hu),fun x hx hr=>?_,by rw[Ua];lia,by lia,by lia⟩
  ·refine (hp.map _).nodup_iff.mpr ?_
   rw[Axs,List.nodup_cons]
   refine⟨fun z=>?_,hch.nd⟩
   obtain⟨x,hx,e⟩:=List.mem_map.mp z
   have e:x.1=n:=e
   exact hcr x hx (by rw[e];exact Axn ..)
  ·rcases List.mem_cons.mp (hp.mem_iff.mp hx) with rfl|hx
   ·exact hy
   ·exact hch.of x hx
  ·rcases List.mem_cons.mp (hp.mem_iff.mp hx) with rfl|hx
   ·exact h1 hr
   ·exact hcr x hx (Axl _ hr)
 ·rintro e m ⟨ch,c2,g2,t,u,v,rfl,rfl,hch,hrn,hrt,hcr,hll,hc2,hc3⟩
  refine⟨at1 _ _,?_⟩
  simp_arith[sqC]
  rw[Az8] at hll hc3
  exact⟨ch,c2,g2,_,rfl,hch,by lia,hc2,by lia⟩
theorem Ee (x:Wn):G2 (.brk x:Pap):=by rw[G2];trivial
theorem Ge (x:Wn):ht (.brk x:Pap)=1:=by rw[ht]
theorem Cq (x:Wn):paD (.brk x:Pap)=.tup [.str (Str.ofString "broken"),.str x.1,.str x.2.1,.tup (x.2.2.map pD)]:=by rw[paD]
theorem Di (n b:Str) (rows:List (Mk×Pap)):paD (.opn n b rows)=.tup [.str (Str.ofString "open"),.str n,.str b,.tup (Du rows)]:=by rw[paD]
theorem Adc (ns:List Int) (c o g:Int) (r:MH) (j:Nat) (ts:List Str) (hj:r[j]?=some (.lst (ts.map .str))) (ht1:1<=ts.length) (ht2:ts.length<=6) (ms:List Mk) (h0:0 < ms.length) (h1:ms.length<=200) (hm:∀ x∈ms,x.ms.length<=3) (es:List En) (hs:Sh es) (h24:es.length<=24) (ws:List Nd) (hw:WtOk ws) (ch:List Bk) (hcl:ch.length<=16) (hc:0<=c) (hc1:c < 800000):W (Mp [.ref 0,.tup (es.map eD),.ref (j+1),.lst (ms.map Mk.d),.tup (ws.map nD),.tup (ch.map bD)] (fdL ns c o g::r)) fun x=>∃ (p:Pap) (c' g':Int) (t:MH),x=(paD p,fdL ns c' o g'::(r++t))/\ht p<=2/\G2 p/\(∀ n b rows,p=.opn n b rows->rows.length<=24)/\0<=c'/\c'<=c+20:=by
 unfold Mp Aio
 rw[Dk]
 have hal:=Ed es hs ws hw.len ch
 simp_arith[Ah Cy,Ah Dh,Ah Dy,Ha es hs ws hw.len ch (by lia),Ah C2,Hb,Ah0,Nm]
 have last:∀ C G:Int,0<=C->C<=c+5->W (sq (fdL ns C o G::r) (D.ref (j+1))) fun z=>W (A8 [D.ref 0,D.int (z.length:Int)] (fdL ns C o G::r)) fun y=>W (oIx (D.ref (j+1)) y.1 y.2) fun d=>W (Ex [D.ref 0,D.lst (ms.map Mk.d)] y.2) fun x=>∃ (p:Pap) (c' g':Int) (t:MH),(D.tup [D.str (Str.ofString "broken"),D.str (Str.ofString ""),d,x.1],x.2)=(paD p,fdL ns c' o g'::(r++t))/\ht p<=2/\G2 p/\(∀ n b rows,p=.opn n b rows->rows.length<=24)/\0<=c'/\c'<=c+20:=fun C G hC1 hC2=>by
  have hsq:∀ (C G:Int) {Q:List D->Prop},W (sq (fdL ns C o G::r) (.ref (j+1))) Q=Q (ts.map .str):=fun C G {Q}=>by
   have:=@sqN (fdL ns C o G) r [] j _ hj Q
   rwa [Axx] at this
  rw[hsq]
  refine (A3 ns _ o G r (ts.map D.str).length (by simp;lia) (by simp;lia) hC1 (by lia)).imp fun x ⟨k1,g1,e,a1,b1⟩=>?_
  subst e
  simp_arith[hsq]
  refine Ir a1 (by simpa using b1) fun d _ hd=>?_
  obtain⟨nm,hnm,rfl⟩:=List.mem_map.mp hd
  refine (On ns _ o g1 r ms h0 h1 hm (by lia) (by lia)).imp fun x ⟨ps,c2,g2,t,e,hsp,hc2,hc3⟩=>?_
  subst e
  exact⟨.brk (Str.ofString "",nm,ps),c2,g2,t,by rw[Cq],by rw[Ge];lia,Ee _,(fun _ _ _ z=>nomatch z),hc2,by lia⟩
 refine⟨rfl,?_⟩
 rw[List.isEmpty_map]
 cases hne:(atw es ws ch).isEmpty with
 |true=>rw[show (!true)=false from rfl,Jb];exact last c g hc (by lia)
 |false =>
  rw[show (!false)=true from rfl,Nk]
  have hpos:0 < (atw es ws ch).length:=by
   rcases Nat.eq_zero_or_pos (atw es ws ch).length with z|z
   ·rw[List.eq_nil_of_length_eq_zero z] at hne;cases hne
   ·exact z
  refine (A3 ns _ o g r 2 (by decide) (by decide) hc (by lia)).imp fun x ⟨k1,g1,e,a1,b1⟩=>?_
  subst e
  array_get_dec
  refine cK.dec (fun _=>?_) fun _=>last _ _ (by lia) (by lia)
  refine (A3 ns _ o g1 r (atw es ws ch).length (by lia) (by lia) (by lia) (by lia)).imp fun x ⟨k2,g2,e,a2,b2⟩=>?_
  subst e
  array_get_dec
  refine Ir a2 (by simpa using b2) fun d _ hd=>?_
  obtain⟨x,hx,rfl⟩:=List.mem_map.mp hd
  have ew:wD x=.tup [.str x.1,.str x.2.1,.tup (x.2.2.map pD)]:=rfl
  have ml:=J9 es x.2.1
  rw[ew]
  array_get_dec
  refine (A3 ns _ o g2 r 2 (by decide) (by decide) (by lia) (by lia)).imp fun z ⟨k3,g3,e,a3,b3⟩=>?_
  subst e
  array_get_dec
  refine cK.dec (fun _=>⟨.brk x,_,g3,[],by rw[Cq,Axx],by rw[Ge];lia,Ee _,(fun _ _ _ z=>nomatch z),by lia,by lia⟩) fun _=>?_
  rw[Cu (by rw[Aw];exact Ah Cy),G9 es hs x.2.1]
  simp_arith[Cd]
  refine⟨by lia,Bo (fun y=>.tup [y.d,paD (.brk x:Pap)]) (fun y hy=>?_) ?_⟩
  ·rw[Cq]
   array_get_dec
  refine⟨.opn x.2.1 x.1 ((mks es x.2.1).map fun y=>(y,.brk x)),_,g3,[],by rw[Di,De,Azj,Axx];rfl,?_,?_,fun n b rows z=>by cases z;rw[Axq];lia,by lia,by lia⟩
  ·rw[ht]
   have:∀ l:List Mk,htL (l.map fun y=>(y,(.brk x:Pap)))<=1:=fun l=>by
    induction l with
    |nil=>rw[Azq,htL];lia
    |cons y l ih=>rw[Axs,htL];show max (ht (.brk x:Pap)) _<=1;rw[Ge];lia
   have:=this (mks es x.2.1)
   lia
  ·rw[G2]
   refine⟨by rw[Axq];lia,?_⟩
   have:∀ l:List Mk,H4 (l.map fun y=>(y,(.brk x:Pap))):=fun l=>by
    induction l with
    |nil=>rw[Azq,H4];trivial
    |cons y l ih=>rw[Axs,H4];exact⟨Ee x,ih⟩
   exact this _
abbrev Arw (es:List En) (ws:List Nd) (U:List Str) (ch:List Bk):Prop:=Seek.Way (Zs es ws) U ch
theorem Alp {es:List En}{ws:List Nd}{U:List Str}{ch:List Bk} (h:Arw es ws U ch):Chs es ch:=⟨h.nd,h.of⟩
theorem T7 {k:Nat}:∀ {rs:List (Mk×Pap)},(∀ q∈rs,ht q.2<=k)->htL rs<=k
 |[],_=>by rw[htL];lia
 |q::rs,h=>by
  rw[htL]
  have h1:=h q (Axn ..)
  have h2:=T7 fun q' hq=>h q' (Axl _ hq)
  lia
theorem Jo:∀ {rs:List (Mk×Pap)},(∀ q∈rs,G2 q.2)->H4 rs
 |[],_=>by rw[H4];trivial
 |q::rs,h=>by
  rw[H4]
  exact⟨h q (Axn ..),Jo fun q' hq=>h q' (Axl _ hq)⟩
theorem Tr (ns:List Int) (o:Int) {es:List En} (hs:Sh es) (h24:es.length<=24) {ws:List Nd} (hw:WtOk ws) {U:List Str} (hU:∀ ch x,x∈atw es ws ch->x.2.1∈U) (hUl:U.length<=7):∀ (f:Nat) {ch:List Bk} (c g:Int) (r:MH),Arw es ws U ch->U.length+1<=f+ch.length->0<=c->c+((41 ^ (8 - ch.length):Nat):Int) < 1000000000000000000 ->
  W (Mr f [.ref 0,.tup (es.map eD),.tup (ws.map nD),.tup (ch.map bD)] (fdL ns c o g::r)) fun x=>∃ (d:D) (c' g':Int) (t:MH),x=(d,fdL ns c' o g'::(r++t))/\(d=.non\/∃ p:Pap,d=paD p/\vl es ws ch p=true/\ht p+ch.length<=8/\G2 p)/\0<=c'/\c'<=c+((41 ^ (8 - ch.length):Nat):Int)
 |0,ch,c,g,r,hwy,hf,_,_=>by have:=hwy.len;lia
 |f+1,ch,c,g,r,hwy,hf,hc,hc1=>by
  show W (Lz 14 (Acd (Mr f)) _ _) _
  rw[Dk]
  unfold Acd
  have hwl:=hwy.len
  have hb:=(Alp hwy).ok hs (by lia)
  have hal:=Ed es hs ws hw.len ch
  have hbl:=hb.len
  have hP:(41 ^ (8 - ch.length):Nat)=41 * 41 ^ (7 - ch.length):=by
   rw[show 8 - ch.length=(7 - ch.length)+1 by lia,Nat.pow_succ,Nat.mul_comm]
  have hP1:1<=41 ^ (7 - ch.length):=Nat.one_le_pow _ _ (by decide)
  generalize hPd:41 ^ (7 - ch.length)=P at hP hP1
  rw[hP] at hc1 ⊢
  simp_arith[Jt hb.nd,Ah Cy,Ah Dh,Ah Dy,Ha es hs ws hw.len ch hbl,Ah C2]
  refine⟨by lia,Ew (fun n=>Vb ch n.2) wD (fun n hn=>?_) ?_⟩
  ·simp_arith[Anh,Lc,Mt ch hb n (Xu hs hw.sp hn)]
   exact fun _=>trivial
  simp_arith[Hb,Ah0,Nm]
  refine⟨rfl,?_⟩
  have hbd:∀ x∈(atw es ws ch).filter (fun n=>Vb ch n.2),x∈atw es ws ch/\Vb ch x.2=true:=fun x hx=>List.mem_filter.mp hx
  have hbf:((atw es ws ch).filter fun n=>Vb ch n.2).length<=(atw es ws ch).length:=List.length_filter_le ..
  generalize (atw es ws ch).filter (fun n=>Vb ch n.2)=bad at hbd hbf ⊢
  rw[List.isEmpty_map]
  cases bad with
  |cons b0 bs =>
   rw[show (b0::bs).isEmpty=false from rfl,show (!false)=true from rfl,Nk]
   refine (A3 ns _ o g r (b0::bs).length (by simp) (by lia) hc (by lia)).imp fun x ⟨k1,g1,e,a1,b1⟩=>?_
   subst e
   array_get_dec
   rw[show wD b0::bs.map wD=(b0::bs).map wD from rfl]
   refine Ir a1 (by simpa using b1) fun d _ hd=>?_
   obtain⟨x,hx,rfl⟩:=List.mem_map.mp hd
   obtain⟨x1,x2⟩:=hbd x hx
   rw[show wD x=.tup [.str x.1,.str x.2.1,.tup (x.2.2.map pD)] from rfl]
   array_get_dec
   exact⟨_,_,g1,[],by rw[Axx],.inr ⟨.brk x,by rw[Cq],by rw[vl,x2,Ayl x1];rfl,by rw[Ge];lia,Ee x⟩,by lia,by lia⟩
  |nil =>
   rw[show ([]:List Wn).isEmpty=true from rfl,show (!true)=false from rfl,Jb]
   refine⟨by lia,Ew (fun n=>(tkn ch n.2.1).isNone) wD (fun n hn=>?_) ?_⟩
   ·simp_arith[Ars]
    exact⟨Np ch n.2.1,fun _=>trivial⟩
   simp_arith[Hb,Ah0,Nm]
   refine⟨rfl,?_⟩
   have hfd:∀ x∈(atw es ws ch).filter (fun n=>(tkn ch n.2.1).isNone),x∈atw es ws ch/\(tkn ch x.2.1).isNone=true:=fun x hx=>List.mem_filter.mp hx
   have hff:((atw es ws ch).filter fun n=>(tkn ch n.2.1).isNone).length<=(atw es ws ch).length:=List.length_filter_le ..
   generalize (atw es ws ch).filter (fun n=>(tkn ch n.2.1).isNone)=free at hfd hff ⊢
   rw[List.isEmpty_map]
   cases free with
   |nil =>
    rw[show ([]:List Wn).isEmpty=true from rfl,Nk]
    exact⟨_,c,g,[],by rw[Axx],.inl rfl,hc,by lia⟩
   |cons b0 bs =>
    rw[show (b0::bs).isEmpty=false from rfl,Jb]
    refine (A3 ns _ o g r (b0::bs).length (by simp) (by lia) hc (by lia)).imp fun x ⟨k1,g1,e,a1,b1⟩=>?_
    subst e
    array_get_dec
    rw[show wD b0::bs.map wD=(b0::bs).map wD from rfl]
    refine Ir a1 (by simpa using b1) fun d _ hd=>?_
    obtain⟨x,hx,rfl⟩:=List.mem_map.mp hd
    obtain⟨x1,x2⟩:=hfd x hx
    have hn:tkn ch x.2.1=none:=Option.isNone_iff_eq_none.mp x2
    have ml:=J9 es x.2.1
    rw[show wD x=.tup [.str x.1,.str x.2.1,.tup (x.2.2.map pD)] from rfl]
    array_get_dec
    rw[Cu (by rw[Aw];exact Ah Cy),G9 es hs x.2.1]
    simp_arith[Cd]
    refine D4 (fun rest e m=>∃ (rs:List (Mk×Pap)) (c2 g2:Int) (t:MH) (u v:Option D),m=fdL ns c2 o g2::(r++t)/\rs.map (·.1)++rest=mks es x.2.1/\(∀ q∈rs,vl es ws (ch++[(x.2.1,q.1)]) q.2=true/\ht q.2+(ch.length+1)<=8/\G2 q.2)/\0<=c2/\c2<=c+1+((rs.length * P:Nat):Int)/\e=[some (.ref 0),some (.tup (es.map eD)),some (.tup (ws.map nD)),some (.tup (ch.map bD)),some (.dks (ch.map (·.1)) (ch.map fun b=>b.2.d)),some (.lst ((atw es ws ch).map wD)),some (.lst []),some (.lst (wD b0::bs.map wD)),some (.str x.1),some (.str x.2.1),some (.tup (x.2.2.map pD)),some (.tup (Du rs)),u,v]) ?_ ?_ ⟨[],_,g1,[],_,_,by rw[Axx],rfl,(fun _ h=>nomatch h),by lia,by simp,by rw[Du]⟩
    ·rintro y rest e m ⟨rs,c2,g2,t,u,v,rfl,hrs,hq,hc2,hc3,rfl⟩
     refine⟨trivial,?_⟩
     have hlen:=Ay9 List.length hrs
     rw[Axt,Axq,Ax1] at hlen
     have hmul:rs.length * P<=24 * P:=Nat.mul_le_mul_right _ (by lia)
     have hym:y∈mks es x.2.1:=by rw[<- hrs];simp
     have hwy':Arw es ws U (ch++[(x.2.1,y)]):=hwy.snoc hn hym (hU _ _ x1)
     have hl':(ch++[(x.2.1,y)]).length=ch.length+1:=by simp
     have hPe:(41 ^ (8 - (ch++[(x.2.1,y)]).length):Nat)=P:=by rw[hl',<- hPd];congr 1;lia
     have ea:ch.map bD++[.tup [.str x.2.1,y.d]]=(ch++[(x.2.1,y)]).map bD:=by simp[bD]
     have hrl:(Du rs).length=rs.length:=by rw[De,Axq]
     have ih:=Tr ns o hs h24 hw hU hUl f c2 g2 (r++t) hwy' (by lia) hc2 (by rw[hPe];lia)
     simp_arith[ea]
     refine⟨by lia,ih.imp fun z ⟨d,c4,g4,t4,e,hd,hc4,hc5⟩=>?_⟩
     subst e
     rw[hPe] at hc5
     simp only[List.append_assoc]
     rcases hd with rfl|⟨p,rfl,hp1,hp2,hp3⟩
     ·array_get_dec
      exact⟨_,c4,g4,_,rfl,.inl rfl,by lia,by lia⟩
     ·rw[hl'] at hp2
      have hpn:∀ {m:MH}{Q:D->Prop},W (R7 (paD p) m) Q=Q (.bl false):=fun {m Q}=>by
       cases p with
       |brk x=>rw[Cq];exact Ov
       |opn n b rows=>rw[Di];exact Ov
      simp_arith[hpn]
      refine⟨by lia,rs++[(y,p)],c4,g4,_,_,_,rfl,by rw[<- hrs];simp,fun q hq'=>?_,by lia,by rw[Axt,Az0,Nat.succ_mul];lia,by rw[De,De,Ayc];rfl⟩
      rcases List.mem_append.mp hq' with h|h
      ·exact hq q h
      ·rw[List.mem_singleton.mp h];exact⟨hp1,hp2,hp3⟩
    ·rintro e m ⟨rs,c2,g2,t,u,v,rfl,hrs,hq,hc2,hc3,rfl⟩
     refine⟨trivial,?_⟩
     rw[Axx] at hrs
     have hlen:=Ay9 List.length hrs
     rw[Axq] at hlen
     have hmul:rs.length * P<=24 * P:=Nat.mul_le_mul_right _ (by lia)
     array_get_dec
     refine⟨_,c2,g2,t,rfl,.inr ⟨.opn x.2.1 x.1 rs,by rw[Di],?_,?_,?_⟩,hc2,by lia⟩
     ·rw[vl,hn,Ayl (List.mem_map.mpr ⟨x,x1,rfl⟩),Ayl hrs,Lw,List.all_eq_true.mpr fun q h=>(hq q h).1];rfl
     ·rw[ht]
      have:=T7 (rs:=rs) (k:=8 - (ch.length+1)) fun q h=>by have:=(hq q h).2.1;lia
      lia
     ·rw[G2]
      exact⟨by lia,Jo fun q h=>(hq q h).2.2⟩
mutual
def Lp:Pap->Prop
 |.brk _=>True
 |.opn _ _ rows=>rows.length<=24/\Hw rows
def Hw:List (Mk×Pap)->Prop
 |[]=>True
 |r::rs=>Lp r.2/\Hw rs
end
theorem Hj:∀ {rows:List (Mk×Pap)}{r:Mk×Pap},Hw rows->r∈rows->Lp r.2
 |x::xs,r,h,hr=>by
  rw[Hw] at h
  rcases List.mem_cons.mp hr with rfl|hr
  ·exact h.1
  ·exact Hj h.2 hr
theorem Uz:∀ {rs:List (Mk×Pap)},(∀ q∈rs,Lp q.2)->Hw rs
 |[],_=>by rw[Hw];trivial
 |q::rs,h=>by
  rw[Hw]
  exact⟨h q (Axn ..),Uz fun q' hq=>h q' (Axl _ hq)⟩
mutual
theorem Dt:∀ {p:Pap},Lp p->G2 p
 |.brk _,_=>by rw[G2];trivial
 |.opn _ _ rows,h=>by rw[Lp] at h;rw[G2];exact⟨by lia,Hx h.2⟩
theorem Hx:∀ {rs:List (Mk×Pap)},Hw rs->H4 rs
 |[],_=>by rw[H4];trivial
 |r::rs,h=>by rw[Hw] at h;rw[H4];exact⟨Dt h.1,Hx h.2⟩
end
mutual
theorem Aba {es:List En} (h24:es.length<=24) {ws:List Nd}:∀ {ch:List Bk}{p:Pap},vl es ws ch p=true->Lp p
 |ch,.brk _,_=>by rw[Lp];trivial
 |ch,.opn n b rows,h=>by
  rw[vl] at h
  simp only[Ax4,Ay4] at h
  obtain⟨-,-,h1,h2⟩:=h
  have hl:=Ay9 List.length h1
  rw[Axq] at hl
  have:=J9 es n
  rw[Lp]
  exact⟨by lia,U5 h24 h2⟩
theorem U5 {es:List En} (h24:es.length<=24) {ws:List Nd}:∀ {ch:List Bk}{n:Str}{rs:List (Mk×Pap)},vlL es ws ch n rs=true->Hw rs
 |ch,n,[],_=>by rw[Hw];trivial
 |ch,n,r::rs,h=>by
  rw[vlL] at h
  rw[Ax4] at h
  rw[Hw]
  exact⟨Aba h24 h.1,U5 h24 h.2⟩
end
theorem Ac2 {p:Pap} (h:ht p<=2) (hr:∀ n b rows,p=.opn n b rows->rows.length<=24):Lp p:=by
 cases p with
 |brk x=>rw[Lp];trivial
 |opn n b rows =>
  rw[Lp]
  refine⟨hr _ _ _ rfl,Uz fun q hq=>?_⟩
  rw[ht] at h
  have h1:=Gn hq
  cases hq2:q.2 with
  |brk x=>rw[Lp];trivial
  |opn n' b' rows' =>
   rw[hq2,ht] at h1
   have:htL rows'=0:=by lia
   cases rows' with
   |nil=>rw[Lp];exact⟨by simp,by rw[Hw];trivial⟩
   |cons y ys =>
    rw[htL] at this
    have:ht y.2=0:=by lia
    cases hy:y.2 with
    |brk x=>rw[hy,Ge] at this;lia
    |opn _ _ _=>rw[hy,ht] at this;lia
theorem Ans {α:Type}{xs:List α}{k:Nat}:Jv xs none (some (k:Int))=xs.take k:=by
 unfold Jv
 rw[Om,Ln,List.drop_zero,Nat.sub_zero,List.take_eq_take_iff]
 lia
theorem Ab5 {α:Type}{xs:List α}{k:Nat} (h:k<=xs.length):Jv xs (some (k:Int)) none=xs.drop k:=by
 unfold Jv
 rw[Om,Ln,Nat.min_eq_left h,Azg (by rw[Az1];lia)]
theorem Ab6 {α:Type}{xs:List α}{k:Nat}:∃ l:List α,Jv xs (some ((k:Int)+1)) none=l/\l.length<=xs.length - k/\∀ x∈l,x∈xs:=by
 refine⟨_,rfl,?_,fun x hx=>List.mem_of_mem_drop (List.mem_of_mem_take hx)⟩
 unfold Jv
 rw[show (k:Int)+1=((k+1:Nat):Int) by lia,Om,Ln,Azf,Az1]
 lia
theorem Ahz {α:Type}{xs:List α}{k:Nat}:∃ l:List α,Jv xs (some (k:Int)) (some ((k:Int)+1))=l/\l.length<=1/\∀ x∈l,x∈xs:=by
 refine⟨_,rfl,?_,fun x hx=>List.mem_of_mem_drop (List.mem_of_mem_take hx)⟩
 unfold Jv
 rw[show (k:Int)+1=((k+1:Nat):Int) by lia,Ln,Ln,Azf]
 lia
def roD (x:Mk×Pap):D:=.tup [x.1.d,paD x.2]
theorem Gb (rows:List (Mk×Pap)):Du rows=rows.map roD:=De rows
theorem Am0 {ds:List D}{m:MH}{Q:D->Prop}:W (Ac8 [.tup ds] m) Q=Q (.tup ds.reverse):=Ad
theorem O0 (ns:List Int) (c o g:Int) (r:MH) (rows:List (Mk×Pap)) (hl:rows.length<=24) (q:Pap) (hc:0<=c) (hc1:c < 800000):W (Vi [.ref 0,.tup (Du rows),paD q] (fdL ns c o g::r)) fun x=>∃ (rs:List (Mk×Pap)) (g':Int),x=(.tup (Du rs),fdL ns (c+2) o g'::r)/\rs.length<=40/\∀ y∈rs,y∈rows\/y.2=q:=by
 unfold Vi Atz
 rw[Dk,Gb]
 array_get_dec
 refine (A3 ns _ o g r 5 (by decide) (by decide) hc (by lia)).imp fun x ⟨k1,g1,e,a1,b1⟩=>?_
 subst e
 array_get_dec
 refine (A3 ns _ o g1 r (rows.length+1) (by lia) (by lia) (by lia) (by lia)).imp fun x ⟨k2,g2,e,a2,b2⟩=>?_
 subst e
 obtain⟨k,rfl⟩:=Int.eq_ofNat_of_zero_le a2
 have hk:k<=rows.length:=by lia
 obtain⟨p1,e1,l1,m1⟩:=@Ab6 _ rows k
 obtain⟨p2,e2,l2,m2⟩:=@Ahz _ rows k
 have ec:c+1+1=c+2:=by lia
 simp_arith[Am0,X2,Ans,Ab5 hk,e1,e2,ec]
 have fin:∀ rs:List (Mk×Pap),rs.length<=40->(∀ y∈rs,y∈rows\/y.2=q)->∃ (rs':List (Mk×Pap)) (g':Int),(D.tup (rs.map roD),fdL ns (c+2) o g2::r)=(D.tup (Du rs'),fdL ns (c+2) o g'::r)/\rs'.length<=40/\∀ y∈rs',y∈rows\/y.2=q:=fun rs h1 h2=>⟨rs,g2,by rw[Gb],h1,h2⟩
 have lt:(rows.take k).length=k:=by rw[Azf];lia
 have ld:(rows.drop k).length=rows.length - k:=Az1
 have mt:∀ x∈rows.take k,x∈rows:=fun x hx=>List.mem_of_mem_take hx
 have md:∀ x∈rows.drop k,x∈rows:=fun x hx=>List.mem_of_mem_drop hx
 refine cK.dec (fun _=>⟨by lia,?_⟩) fun _=>cK.dec (fun _=>⟨by lia,by rw[Axt,Axq,Axq];lia,?_⟩) fun _=>cK.dec (fun _=>?_) fun _=>cK.dec (fun _=>⟨by lia,?_⟩) fun _=>⟨by lia,Bo (fun y=>roD (y.1,q)) (fun y hy=>?_) ⟨by rw[Axq];lia,by rw[Axt,Axq,Axq];lia,?_⟩⟩
 ·rw[<- Ayc]
  exact fin _ (by rw[Axt];lia) fun y hy=>.inl ((List.mem_append.mp hy).elim (mt y) (m1 y))
 ·rw[<- Ayc,<- Ayc]
  exact fin _ (by rw[Axt,Axt];lia) fun y hy=>.inl ((List.mem_append.mp hy).elim (fun h=>(List.mem_append.mp h).elim (mt y) (m2 y)) (md y))
 ·rw[<- List.map_reverse]
  exact fin _ (by rw[List.length_reverse];lia) fun y hy=>.inl (List.mem_reverse.mp hy)
 ·rw[show D.tup [D.tup [D.int 0,D.int 1,D.int 0,D.tup []],paD q]=roD (⟨0,1,0,[]⟩,q) from rfl,show [roD ((⟨0,1,0,[]⟩:Mk),q)]=[((⟨0,1,0,[]⟩:Mk),q)].map roD from rfl,<- Ayc]
  exact fin _ (by rw[Axt];simp;lia) fun y hy=>(List.mem_append.mp hy).elim .inl fun h=>.inr (by rw[List.mem_singleton.mp h])
 ·unfold roD
  array_get_dec
 ·rw[show (p2.map fun y=>roD (y.1,q))=(p2.map fun y=>(y.1,q)).map roD by rw[Azj];rfl,<- Ayc,<- Ayc]
  refine fin _ (by rw[Axt,Axt,Axq];lia) fun y hy=>?_
  rcases List.mem_append.mp hy with h|h
  ·rcases List.mem_append.mp h with h|h
   ·exact .inl (mt y h)
   ·obtain⟨z,_,rfl⟩:=List.mem_map.mp h
    exact .inr rfl
  ·exact .inl (m1 y h)
theorem Amp {n k:Nat} (h:k < n) {Q:Nat->Prop}:W (ixN n (k:Int)) Q=Q k:=by
 unfold ixN
 simp[h,Ad]
theorem Aaw {rs:List (Mk×Pap)}{k:Nat} (h:k < rs.length) {Q:D->Prop}:W (atI (Du rs) (k:Int)) Q=Q (.tup [rs[k].1.d,paD rs[k].2]):=by
 rw[Gb,Jr h];rfl
theorem Aex {a b c d:D}:Jv [a,b,c,d] (some 2) none=[c,d]:=rfl
theorem Aez {a b c d:D}:Jv [a,b,c,d] none (some 2)=[a,b]:=rfl
theorem Aey {a b c d:D}:Jv [a,b,c,d] (some 3) none=[d]:=rfl
noncomputable def Alo:FS:=(A4 (Ca 7 (Aq 2 A8 (Ab (fM (Ac 0)) (Ab (fM (fC (.int 5))) As)))) (A4 (Ca 8 (f2m oIx (fM (Dg (Aca (Ac 2) (Dg (B3 (Aa (fC (.str (Str.ofString ""))) (Aa (fC (.str (Str.ofString "qqqqqqqq"))) Ak))))))) (Aq 2 A8 (Ab (fM (Ac 0)) (Ab (fM (f2 Cn (Ay Ec (Aa (Ac 2) Ak)) (fC (.int 2)))) As))))) (A4 (sIf (A6 (f2 oEq (Ac 7) (fC (.int 0)))) (Cg (Ac 4)) Ct) (A4 (sIf (A6 (f2 oEq (Ac 7) (fC (.int 1)))) (Cg (f2 Cn (Cf (Aa (f2 oIx (Ac 1) (fC (.int 0))) (Aa (Ac 8) Ak))) (fSl (Ac 1) (Ce (fC (.int 2))) fNo))) Ct) (A4 (sIf (A6 (f2 oEq (Ac 7) (fC (.int 2)))) (Cg (f2 Cn (f2 Cn (fSl (Ac 1) fNo (Ce (fC (.int 2)))) (Cf (Aa (Ac 8) Ak))) (fSl (Ac 1) (Ce (fC (.int 3))) fNo))) Ct) (A4 (sIf (A6 (f2 oEq (f2 oIx (Ac 1) (fC (.int 0))) (fC (.str (Str.ofString "broken"))))) (Ma (f2m Cn (fM (fSl (Ac 1) fNo (Ce (fC (.int 3))))) (D6 (Ab (Aq 2 Ex (Ab (fM (Ac 0)) (Ab (fM (Ac 3)) As))) As)))) Ct) (Ma (f2m Cn (fM (fSl (Ac 1) fNo (Ce (fC (.int 3))))) (D6 (Ab (Aq 3 Vi (Ab (fM (Ac 0)) (Ab (fM (f2 oIx (Ac 1) (fC (.int 3)))) (Ab (fM (Ac 4)) As)))) As))))))))))
theorem Ae9 (r_z29:List D->MH->Option (D×MH)):Yk r_z29=A4 (Ot (L5 (fBm (A6 (f2 oEq (f2 oIx (Ac 1) (fC (.int 0))) (fC (.str (Str.ofString "open")))))) (L5 (fBm (A6 (f2 oGt (Ay Ec (Aa (f2 oIx (Ac 1) (fC (.int 3))) Ak)) (fC (.int 0))))) (D5 (f2m oEq (Aq 2 A8 (Ab (fM (Ac 0)) (Ab (fM (fC (.int 2))) As))) (fM (fC (.int 0))))))) (A4 (Ca 5 (Aq 2 A8 (Ab (fM (Ac 0)) (Ab (fM (Ay Ec (Aa (f2 oIx (Ac 1) (fC (.int 3))) Ak))) As)))) (A4 (Hl 6 (Bt Zh (Aa (f2 oIx (Ac 1) (fC (.int 3))) Ak))) (A4 (Gz (D6 (Ab (fM (f2 oIx (f2 oIx (Ac 6) (Ac 5)) (fC (.int 0)))) (Ab (Aq 5 r_z29 (Ab (fM (Ac 0)) (Ab (fM (f2 oIx (f2 oIx (Ac 6) (Ac 5)) (fC (.int 1)))) (Ab (fM (Ac 2)) (Ab (fM (Ac 3)) (Ab (fM (Ac 4)) As)))))) As))) (Ac 6) (fM (Ac 5))) (Cg (f2 Cn (fSl (Ac 1) fNo (Ce (fC (.int 3)))) (Cf (Aa (Ay Et (Aa (Ac 6) Ak)) Ak))))))) Ct) Alo:=rfl
theorem U4 (ns:List Int) (o:Int) (j:Nat) (ts:List Str) (ht2:ts.length<=6) (ms:List Mk) (h0:0 < ms.length) (h1:ms.length<=200) (hm:∀ x∈ms,x.ms.length<=3) (q:Pap) (hq:G2 q) (hq2:ht q<=2) (p:Pap) (c g:Int) (r:MH) (hs:Lp p) (hj:r[j]?=some (.lst (ts.map .str))) (hc:0<=c) (B:Int) (hB:c+40<=B) (hc1:B < 800000) :
  W (Alo [some (.ref 0),some (paD p),some (.ref (j+1)),some (.lst (ms.map Mk.d)),some (paD q),none,none,none,none] (fdL ns c o g::r)) (Aoa fun x=>∃ (p':Pap) (c' g':Int) (t:MH),x=(paD p',fdL ns c' o g'::(r++t))/\ht p'<=ht p+2/\G2 p'/\0<=c'/\c'<=B):=by
 have hsq:∀ (C G:Int) {Q:List D->Prop},W (sq (fdL ns C o G::r) (.ref (j+1))) Q=Q (ts.map .str):=fun C G {Q}=>by
  have:=@sqN (fdL ns C o G) r [] j _ hj Q
  rwa [Axx] at this
 unfold Alo
 array_get_dec
 refine (A3 ns _ o g r 5 (by decide) (by decide) hc (by lia)).imp fun x ⟨k1,g1,e,a1,b1⟩=>?_
 subst e
 simp_arith[hsq]
 refine⟨by lia,(A3 ns _ o g1 r (ts.length+2) (by lia) (by lia) (by lia) (by lia)).imp fun x ⟨k2,g2,e,a2,b2⟩=>?_⟩
 subst e
 array_get_dec
 refine Ir a2 (by simp;lia) fun d _ hd=>?_
 obtain⟨w,rfl⟩:∃ w:Str,d=.str w:=by
  rcases List.mem_append.mp hd with h|h
  ·obtain⟨w,_,rfl⟩:=List.mem_map.mp h;exact⟨w,rfl⟩
  ·simp at h;rcases h with rfl|rfl<;>exact⟨_,rfl⟩
 cases p with
 |brk x =>
  rw[Cq]
  simp_arith[Aex,Aez,Aey]
  have e2:∀ y:Wn,ht (.brk y:Pap)<=ht (.brk x:Pap)+2:=fun y=>by rw[Ge,Ge];lia
  refine cK.dec (fun _=>⟨q,_,g2,[],by rw[Axx],by rw[Ge];lia,hq,by lia,by lia⟩) fun _=>cK.dec (fun _=>⟨.brk (w,x.2),_,g2,[],by rw[Axx,Cq],e2 _,Ee _,by lia,by lia⟩) fun _=>cK.dec (fun _=>⟨.brk (x.1,w,x.2.2),_,g2,[],by rw[Axx,Cq],e2 _,Ee _,by lia,by lia⟩) fun _=>?_
  refine (On ns _ o g2 r ms h0 h1 hm (by lia) (by lia)).imp fun z ⟨ps,c2,g3,t,e,hsp,hc2,hc3⟩=>?_
  subst e
  exact⟨.brk (x.1,x.2.1,ps),c2,g3,t,by rw[Cq],e2 _,Ee _,hc2,by lia⟩
 |opn n b rows =>
  rw[Di]
  simp_arith[Aex,Aez,Aey]
  rw[Lp] at hs
  have ht0:G2 (.opn n b rows:Pap):=by rw[G2];exact⟨by lia,Hx hs.2⟩
  have ht1:∀ n' b':Str,G2 (.opn n' b' rows:Pap):=fun n' b'=>by rw[G2] at ht0 ⊢;exact ht0
  have e2:∀ n' b':Str,ht (.opn n' b' rows:Pap)<=ht (.opn n b rows:Pap)+2:=fun n' b'=>by rw[ht,ht];lia
  refine cK.dec (fun _=>⟨q,_,g2,[],by rw[Axx],by rw[ht];lia,hq,by lia,by lia⟩) fun _=>cK.dec (fun _=>⟨.opn w b rows,_,g2,[],by rw[Axx,Di],e2 _ _,ht1 _ _,by lia,by lia⟩) fun _=>cK.dec (fun _=>⟨.opn n w rows,_,g2,[],by rw[Axx,Di],e2 _ _,ht1 _ _,by lia,by lia⟩) fun _=>?_
  rw[Ax3 (show ¬ Str.ofString "open"=Str.ofString "broken" by decide +kernel),Jb]
  refine (O0 ns _ o g2 r rows hs.1 q (by lia) (by lia)).imp fun z ⟨rs,g3,e,hl,hr⟩=>?_
  subst e
  refine⟨.opn n b rs,_,g3,[],by rw[Axx,Di],?_,?_,by lia,by lia⟩
  ·rw[ht,ht]
   have:=T7 (rs:=rs) (k:=htL rows+2) fun y hy=>(hr y hy).elim (fun h=>by have:=Gn h;lia) fun h=>by rw[h];lia
   lia
  ·rw[G2]
   exact⟨hl,Jo fun y hy=>(hr y hy).elim (fun h=>Dt (Hj hs.2 h)) fun h=>by rw[h];exact hq⟩
theorem Xv (ns:List Int) (o:Int) (j:Nat) (ts:List Str) (ht2:ts.length<=6) (ms:List Mk) (h0:0 < ms.length) (h1:ms.length<=200) (hm:∀ x∈ms,x.ms.length<=3) (q:Pap) (hq:G2 q) (hq2:ht q<=2):∀ (f:Nat) (p:Pap) (c g:Int) (r:MH),ht p<=f->Lp p->r[j]?=some (.lst (ts.map .str))->0<=c->c+2 * f+40 < 800000 ->
  W (J1 f [.ref 0,paD p,.ref (j+1),.lst (ms.map Mk.d),paD q] (fdL ns c o g::r)) fun x=>∃ (p':Pap) (c' g':Int) (t:MH),x=(paD p',fdL ns c' o g'::(r++t))/\ht p'<=ht p+2/\G2 p'/\0<=c'/\c'<=c+2 * f+40
 |0,p,c,g,r,hf,_,_,_,_=>by cases p with
  |brk x=>rw[Ge] at hf;lia
  |opn _ _ _=>rw[ht] at hf;lia
 |f+1,.brk x,c,g,r,hf,hs,hj,hc,hc1=>by
  show W (Lz 9 (Yk (J1 f)) _ _) _
  have tl:=U4 ns o j ts ht2 ms h0 h1 hm q hq hq2 (.brk x) c g r hs hj hc (c+2 * ↑(f+1)+40) (by lia) (by lia)
  rw[Cq] at tl
  rw[Dk,Cq,Ae9]
  array_get_dec
  rw[Ax3 (show ¬ Str.ofString "broken"=Str.ofString "open" by decide +kernel),Jb]
  exact tl
 |f+1,.opn n b rows,c,g,r,hf,hs,hj,hc,hc1=>by
  show W (Lz 9 (Yk (J1 f)) _ _) _
  have tl:=fun (C G:Int) (h1':c<=C) (h2':C<=c+2)=>U4 ns o j ts ht2 ms h0 h1 hm q hq hq2 (.opn n b rows) C G r hs hj (by lia) (c+2 * ↑(f+1)+40) (by lia) (by lia)
  rw[Di] at tl
  have hlr:(Du rows).length=rows.length:=by rw[Gb,Axq]
  rw[Lp] at hs
  rw[Dk,Di,Ae9]
  array_get_dec
  refine cK.dec (fun hp=>?_) fun _=>tl c g (by lia) (by lia)
  refine (A3 ns _ o g r 2 (by decide) (by decide) hc (by lia)).imp fun x ⟨k1,g1,e,a1,b1⟩=>?_
  subst e
  array_get_dec
  refine cK.dec (fun _=>?_) fun _=>tl _ g1 (by lia) (by lia)
  refine (A3 ns _ o g1 r (Du rows).length (by lia) (by lia) (by lia) (by lia)).imp fun x ⟨k2,g2,e,a2,b2⟩=>?_
  subst e
  obtain⟨k,rfl⟩:=Int.eq_ofNat_of_zero_le a2
  have hk:k < rows.length:=by lia
  simp_arith[sqC,Aaw hk]
  have hj':(r++[MObj.lst (Du rows)])[j]?=some (.lst (ts.map .str)):=by
   rw[Axr (List.getElem?_eq_some_iff.mp hj).1];exact hj
  have hht:ht rows[k].2<=htL rows:=Gn (Aym hk)
  rw[ht] at hf ⊢
  refine (Xv ns o j ts ht2 ms h0 h1 hm q hq hq2 f rows[k].2 _ g2 (r++[MObj.lst (Du rows)]) (by lia) (Hj hs.2 (Aym hk)) hj' (by lia) (by lia)).imp fun x ⟨p',c3,g3,t,e,hp1,hp2,hc3,hc4⟩=>?_
  subst e
  simp only[List.append_assoc,Ay7,Bao]
  simp_arith[sqC,Avi]
  rw[Amp (by lia)]
  have er:(Du rows).set k (D.tup [rows[k].1.d,paD p'])=Du (rows.set k (rows[k].1,p')):=by rw[Gb,Gb,List.map_set];rfl
  have hmem:∀ y∈rows.set k (rows[k].1,p'),y∈rows\/y.2=p':=fun y hy=>(List.mem_or_eq_of_mem_set hy).imp id fun h=>by rw[h]
  rw[er]
  refine⟨.opn n b (rows.set k (rows[k].1,p')),c3,g3,_,by rw[Di],?_,?_,hc3,by lia⟩
  ·rw[ht]
   have:=T7 (rs:=rows.set k (rows[k].1,p')) (k:=htL rows+2) fun y hy=>(hmem y hy).elim (fun h=>by have:=Gn h;lia) fun h=>by rw[h];lia
   lia
  ·rw[G2]
   exact⟨by rw[List.length_set];lia,Jo fun y hy=>(hmem y hy).elim (fun h=>Dt (Hj hs.2 h)) fun h=>by rw[h];exact hp2⟩
theorem Xq {m:MH}{b:Bool}{Q:Bool->Prop}:W (Abh m (.bl b)) Q=Q b:=Ad
theorem Ahd {f:FEm}{env:Bg}{m:MH}{Q:Bool×MH->Prop}:W (Iv f env m) Q=W (f env m) fun x=>W (Abh x.2 x.1) fun b=>Q (b,x.2):=by
 unfold Iv;rw[W_bind];congr 1;funext x;rw[W_bind];congr 1;funext b;exact Ad
theorem Ahb {t:FBm}{env:Bg}{m:MH}{Q:Bool×MH->Prop}:W (Iu t env m) Q=W (t env m) fun x=>Q (!x.1,x.2):=by
 unfold Iu;rw[W_bind];congr 1;funext x;exact Ad
theorem Amg {t u:FBm}{env:Bg}{m:MH}{Q:Bool×MH->Prop}:W (Alu t u env m) Q=W (t env m) fun x=>cK (Q (true,x.2)) (W (u env x.2) Q) x.1:=by
 unfold Alu;rw[W_bind];congr 1;funext x;rw[Eo,Ad]
noncomputable def Yu:FS:=(A4 (Ea (Aq 2 D7 (Ab (fM (Ac 1)) (Ab (fM (f2 Cn (fC (.int 50)) (Ac 10))) As)))) (A4 (Ot (Iu (Iv (Aq 4 Er (Ab (fM (Ac 4)) (Ab (fM (Ac 5)) (Ab (fM (Ac 7)) (Ab (Aq 5 Yf (Ab (fM (Ac 1)) (Ab (fM (Ac 9)) (Ab (fM (Ac 2)) (Ab (fM (Ac 3)) (Ab (fM (Ac 8)) As)))))) As))))))) (Cg (fC (.bl false))) Ct) (Ot (Iu (Iv (Aq 4 Er (Ab (fM (Ac 4)) (Ab (fM (Ac 5)) (Ab (Aq 3 Rv (Ab (fM (Ac 1)) (Ab (fM (Ac 4)) (Ab (fM (Ac 2)) As)))) (Ab (fM (Ac 9)) As))))))) (Cg (fC (.bl false))) Ct)))
noncomputable def Acm:FS:=A4 (Ot (Alu (Iu (Iv (Aq 4 Er (Ab (fM (Ac 4)) (Ab (fM (Ac 5)) (Ab (fM (Ac 7)) (Ab (fM (Ac 9)) As))))))) (Iu (Iv (Aq 4 Er (Ab (fM (Ac 4)) (Ab (fM (Ac 5)) (Ab (fM (Ac 7)) (Ab (fM (Ac 8)) As)))))))) (Cg (fC (.bl false))) Ct) (Ol (Iz (Aa (f2 oIx (Dg (B3 (Aa (fC (.int 4)) (Aa (fC (.int 1)) Ak)))) (Ay Abg (Aa (f2 oGt (Ay Ec (Aa (Ac 2) Ak)) (fC (.int 4))) Ak))) Ak)) (Au 10) Yu)
noncomputable def Ys:FS:=A4 (Ca 9 (Aq 4 Ye (Ab (fM (Ac 1)) (Ab (fM (Ac 4)) (Ab (fM (Ac 5)) (Ab (fM (Ac 7)) As)))))) (A4 (sIf (A6 (f1 R7 (Ac 9))) (Co 9 (Ac 8)) (sIf (A6 (f2 Ui (Ay (C3 4 Vl) (Aa (Ac 4) (Aa (Ac 5) (Aa (Ac 7) (Aa (Ac 9) Ak))))) (fC (.bl true)))) (Cg (fC (.bl false))) Ct)) Acm)
theorem Xb:Aa5=A4 (Ol (G1 (Dg (B3 (Aa (Cf Ak) (Aa (Ac 6) Ak))))) (Au 7) (A4 (Ea (Aq 2 D7 (Ab (fM (Ac 1)) (Ab (fM (f2 Cn (fC (.int 42)) (Ay Ec (Aa (Ac 7) Ak)))) As)))) (A4 (Ca 8 (Aq 6 Mp (Ab (fM (Ac 1)) (Ab (fM (Ac 4)) (Ab (fM (Ac 2)) (Ab (fM (Ac 3)) (Ab (fM (Ac 5)) (Ab (fM (Ac 7)) As)))))))) (A4 (sIf (Abd (A6 (f2 oGt (Ay Ec (Aa (Ac 2) Ak)) (fC (.int 4)))) (A6 (f2 oEq (f2 oIx (Ac 8) (fC (.int 0))) (fC (.str (Str.ofString "open")))))) (Ca 8 (D6 (Ab (fM (fC (.str (Str.ofString "broken")))) (Ab (fM (f2 oIx (Ac 8) (fC (.int 2)))) (Ab (fM (f2 oIx (Ac 8) (fC (.int 1)))) (Ab (Aq 2 Ex (Ab (fM (Ac 1)) (Ab (fM (Ac 3)) As))) As)))))) Ct) Ys)))) (Cg (fC (.bl true))):=rfl
set_option hygiene false in
local macro_rules|`(tactic| simp_arith![$a,*])=>`(tactic| simp_arith[↓Ahd,↓Ahb,↓Amg,↓Xq,Baj,Bool.not_false,$a,*])
set_option hygiene false in
local macro_rules|`(tactic| array_get_dec)=>`(tactic| try simp_arith![true_and])
structure Gw (ts:List Str) (ms:List Mk) (es:List En) (ws:List Nd):Prop where
 t1:1<=ts.length
 t2:ts.length<=6
 tn:ts.Nodup
 m1:0 < ms.length
 m2:ms.length<=200
 m3:∀ x∈ms,x.ms.length<=3
 sh:Sh es
 h24:es.length<=24
 wt:WtOk ws
 nm:∀ e∈es,e.nm∈ts
 hx:∀ u∈ts,∃ e∈es,e.nm=u
 un:∀ ch x,x∈atw es ws ch->x.2.1∈ts++[qq]
section
variable {ns:List Int}{o:Int}{j:Nat}{ts:List Str}{ms:List Mk}{es:List En}{ws:List Nd}
theorem Yv (G:Gw ts ms es ws) (hl:ns.length<=63) {ch:List Bk} (hch:Chs es ch) (hcl:ch.length<=6) {p q:Pap} (hp:Lp p) (hp8:ht p<=8) (hq:G2 q) (hq2:ht q<=2) (z0 z6:Option D) (k:Nat) (hk:k < 4) (c g:Int) (r:MH) (hj:r[j]?=some (.lst (ts.map .str))) (Q:Out->Prop)
  (hQ:∀ (c' g':Int) (t:MH),Q (.nx [z0,some (.ref 0),some (.ref (j+1)),some (.lst (ms.map Mk.d)),some (.tup (es.map eD)),some (.tup (ws.map nD)),z6,some (.tup (ch.map bD)),some (paD q),some (paD p),some (.int k)] (fdL ns c' o g'::(r++t)))) :
  W (Yu [z0,some (.ref 0),some (.ref (j+1)),some (.lst (ms.map Mk.d)),some (.tup (es.map eD)),some (.tup (ws.map nD)),z6,some (.tup (ch.map bD)),some (paD q),some (paD p),some (.int k)] (fdL ns c o g::r)) Q:=by
 unfold Yu
 array_get_dec
 refine (Gu ns hl c o g r (50+k) (by lia) (by lia)).imp fun x ⟨g1,e⟩=>?_
 subst e
 array_get_dec
 refine (Xv ns o j ts G.t2 ms G.m1 G.m2 G.m3 q hq hq2 24 p _ g1 r (by lia) hp hj (by lia) (by lia)).imp fun x ⟨p',c2,g2,t,e,hp1,hp2,hc2,hc3⟩=>?_
 subst e
 refine (Jl G.sh G.wt hch (by lia) (by lia) hp2 _).imp fun x e=>?_
 subst e
 array_get_dec
 have hj':(r++t)[j]?=some (.lst (ts.map .str)):=by
  rw[Axr (List.getElem?_eq_some_iff.mp hj).1];exact hj
 refine (Mh ns _ o g2 (r++t) j ts hj' G.t2 G.tn es G.sh G.hx (by lia) (by lia)).imp fun x ⟨ch',c4,g4,t4,e,hch',hl',hc4,hc5⟩=>?_
 subst e
 refine (Jl G.sh G.wt hch' (by lia) (by lia) (Dt hp) _).imp fun x e=>?_
 subst e
 array_get_dec
 rw[List.append_assoc]
 exact hQ c4 g4 (t++t4)
end
section
variable {ns:List Int}{o:Int}{j:Nat}{ts:List Str}{ms:List Mk}{es:List En}{ws:List Nd}
theorem Acn (G:Gw ts ms es ws) (hl:ns.length<=63) {ch:List Bk} (hch:Chs es ch) (hcl:ch.length<=6) {p q:Pap} (hp:Lp p) (hp8:ht p<=8) (hq:Lp q) (hq2:ht q<=2) (z0 z6 z10:Option D) (c g:Int) (r:MH) (hj:r[j]?=some (.lst (ts.map .str))) (Q:Out->Prop)
  (hQ:∀ (c' g':Int) (t:MH) (z:Option D),Q (.nx [z0,some (.ref 0),some (.ref (j+1)),some (.lst (ms.map Mk.d)),some (.tup (es.map eD)),some (.tup (ws.map nD)),z6,some (.tup (ch.map bD)),some (paD q),some (paD p),z] (fdL ns c' o g'::(r++t)))) :
  W (Acm [z0,some (.ref 0),some (.ref (j+1)),some (.lst (ms.map Mk.d)),some (.tup (es.map eD)),some (.tup (ws.map nD)),z6,some (.tup (ch.map bD)),some (paD q),some (paD p),z10] (fdL ns c o g::r)) Q:=by
 have hsq:∀ (C G:Int) {Q:List D->Prop},W (sq (fdL ns C o G::r) (.ref (j+1))) Q=Q (ts.map .str):=fun C G {Q}=>by
  have:=@sqN (fdL ns C o G) r [] j _ hj Q
  rwa [Axx] at this
 unfold Acm
 array_get_dec
 refine (Jl G.sh G.wt hch (by lia) (by lia) (Dt hp) _).imp fun x e=>?_
 subst e
 array_get_dec
 refine (Jl G.sh G.wt hch (by lia) (by lia) (Dt hq) _).imp fun x e=>?_
 subst e
 simp_arith![hsq]
 obtain⟨n,hn,e⟩:∃ n:Nat,n<=4/\atI [D.int 4,D.int 1] (if decide (4 < (ts.length:Int))=true then 1 else 0)=some (.int n):=by
  cases decide (4 < (ts.length:Int))
  ·exact⟨4,by decide,rfl⟩
  ·exact⟨1,by decide,rfl⟩
 rw[e,Ad]
 array_get_dec
 refine⟨by lia,Ju (fun k e m=>∃ (c' g':Int) (t:MH) (z:Option D),m=fdL ns c' o g'::(r++t)/\e=[z0,some (.ref 0),some (.ref (j+1)),some (.lst (ms.map Mk.d)),some (.tup (es.map eD)),some (.tup (ws.map nD)),z6,some (.tup (ch.map bD)),some (paD q),some (paD p),z]) ?_ ?_ ⟨c,g,[],_,by rw[Axx],rfl⟩⟩
 ·rintro k e m hk ⟨c',g',t,z,rfl,rfl⟩
  refine⟨trivial,?_⟩
  have hk':k < n:=by simpa using hk
  have hj':(r++t)[j]?=some (.lst (ts.map .str)):=by
   rw[Axr (List.getElem?_eq_some_iff.mp hj).1];exact hj
  array_get_dec
  exact Yv G hl hch hcl hp hp8 (Dt hq) hq2 z0 z6 k (by lia) c' g' (r++t) hj' _ fun c'' g'' t'=>⟨c'',g'',t++t',_,by rw[List.append_assoc],rfl⟩
 ·rintro e m ⟨c',g',t,z,rfl,rfl⟩
  exact⟨trivial,hQ c' g' t z⟩
theorem J6 (G:Gw ts ms es ws) (hl:ns.length<=63) {ch:List Bk} (hch:Chs es ch) (hcl:ch.length<=6) {q:Pap} (hq:Lp q) (hq2:ht q<=2) (z0 z6 z9 z10:Option D) (c g:Int) (hc:0<=c) (hc1:c < 800000) (r:MH) (hj:r[j]?=some (.lst (ts.map .str))) (Q:Out->Prop)
  (hQ:∀ (c' g':Int) (t:MH) (y z:Option D),Q (.nx [z0,some (.ref 0),some (.ref (j+1)),some (.lst (ms.map Mk.d)),some (.tup (es.map eD)),some (.tup (ws.map nD)),z6,some (.tup (ch.map bD)),some (paD q),y,z] (fdL ns c' o g'::(r++t)))) :
  W (Ys [z0,some (.ref 0),some (.ref (j+1)),some (.lst (ms.map Mk.d)),some (.tup (es.map eD)),some (.tup (ws.map nD)),z6,some (.tup (ch.map bD)),some (paD q),z9,z10] (fdL ns c o g::r)) Q:=by
 have hwy:Arw es ws (ts++[qq]) ch:=⟨hch.nd,hch.of,fun x hx=>by
  obtain⟨e,he,h1,_⟩:=mks_mem.mp (hch.of x hx)
  rw[<- h1];exact Aye _ (G.nm e he)⟩
 have hpw:(41 ^ (8 - ch.length):Nat)<=41 ^ 8:=Nat.pow_le_pow_right (by decide) (by lia)
 have hpv:(41 ^ 8:Nat)=7984925229121:=by decide
 have ht2:=G.t2
 unfold Ys
 array_get_dec
 refine (Tr ns o G.sh G.h24 G.wt G.un (by simp;lia) 24 c g r hwy (by simp;lia) hc (by lia)).imp fun x ⟨d,c2,g2,t,e,hd,hc2,hc3⟩=>?_
 subst e
 have hj':(r++t)[j]?=some (.lst (ts.map .str)):=by
  rw[Axr (List.getElem?_eq_some_iff.mp hj).1];exact hj
 have fin:∀ p:Pap,Lp p->ht p<=8->W (Acm [z0,some (.ref 0),some (.ref (j+1)),some (.lst (ms.map Mk.d)),some (.tup (es.map eD)),some (.tup (ws.map nD)),z6,some (.tup (ch.map bD)),some (paD q),some (paD p),z10] (fdL ns c2 o g2::(r++t))) Q:=fun p hp hp8 =>
  Acn G hl hch hcl hp hp8 hq hq2 z0 z6 z10 c2 g2 (r++t) hj' Q fun c' g' t' z=>by rw[List.append_assoc];exact hQ ..
 rcases hd with rfl|⟨p,rfl,hp1,hp2,hp3⟩
 ·array_get_dec
  exact fin q hq (by lia)
 ·have hpn:∀ {m:MH}{Q:D->Prop},W (R7 (paD p) m) Q=Q (.bl false):=fun {m Q}=>by
   cases p with
   |brk x=>rw[Cq];exact Ov
   |opn n b rows=>rw[Di];exact Ov
  have e1:Vl _=_:=Gp G.sh G.wt 24 hch (show ht p<=24 by lia) (by lia) hp3
  simp_arith![hpn,Ah Cy,Ah Dh,Ah Dy,Hd p,e1,Ad,hp1]
  exact fin p (Aba G.h24 hp1) (by lia)
end
theorem law_true (ns:List Int) (hl:ns.length<=63):Jy [.kl (ns.map .int)]=some (.bl true):=W.out <| by
 unfold Jy Aif
 rw[Cm]
 array_get_dec
 refine (Ah6 ns).imp fun x ⟨o,e⟩=>?_
 subst e
 array_get_dec
 refine (Ad7 ns hl 0 o 0 []).imp fun x ⟨ts,ms,es,c1,g1,M,j,e,hj,t1,t2,tn,m1,m2,m3,hsh,h24,hnt,hxt,hnm⟩=>?_
 subst e
 array_get_dec
 refine (Gu ns hl c1 o g1 M 40 (by decide) (by decide)).imp fun x ⟨g2,e⟩=>?_
 subst e
 refine (La ns _ o g2 M j ts hj t1 t2 (Str.ofString "") ms m1 m2 m3 5 (by decide) (by decide) (by decide) (by decide)).imp fun x ⟨ws,c3,g3,t3,e,hws,hwl,_,_⟩=>?_
 subst e
 have G:Gw ts ms es ws:=⟨t1,t2,tn,m1,m2,m3,hsh,h24,⟨fun n hn=>(hws n hn).1,by have:(5:Int).toNat=5:=rfl;lia⟩,hnt,hxt,fun ch x hx=>by
  rcases List.mem_append.mp hx with h|h
  ·obtain⟨n,hn,rfl⟩:=List.mem_map.mp h
   exact (hws n hn).2
  ·obtain⟨c,_,h⟩:=List.mem_flatMap.mp h
   obtain⟨n,hn,rfl⟩:=List.mem_map.mp h
   have hn:n∈Vy es c.1 c.2:=hn
   unfold Vy at hn
   cases e:es.find? (isE c.1 c.2) with
   |none=>rw[e] at hn;cases hn
   |some r =>
    rw[e] at hn
    exact hnm r (List.mem_of_find?_eq_some e) n hn⟩
 have hj3:∀ t:MH,(M++t)[j]?=some (.lst (ts.map .str)):=fun t=>by
  rw[Axr (List.getElem?_eq_some_iff.mp hj).1];exact hj
 array_get_dec
 refine (Gu ns hl c3 o g3 (M++t3) 41 (by decide) (by decide)).imp fun x ⟨g4,e⟩=>?_
 subst e
 unfold Aa4
 array_get_dec
 refine (Mh ns _ o g4 (M++t3) j ts (hj3 _) t2 tn es hsh hxt (by decide) (by decide)).imp fun x ⟨cs,c5,g5,t5,e,hcs,hcl,_,_⟩=>?_
 subst e
 rw[List.append_assoc]
 generalize t3++t5=t6
 rw[Xb]
 array_get_dec
 rw[show [D.tup [],D.tup (cs.map bD)]=[([]:List Bk),cs].map (fun y=>D.tup (y.map bD)) from rfl]
 refine D4 (fun rest e m=>∃ (c' g':Int) (t:MH) (u v w z:Option D),m=fdL ns c' o g'::(M++t)/\e=[some (.kl (ns.map .int)),some (.ref 0),some (.ref (j+1)),some (.lst (ms.map Mk.d)),some (.tup (es.map eD)),some (.tup (ws.map nD)),some (.tup (cs.map bD)),u,v,w,z]/\∀ y∈rest,Chs es y/\y.length<=6) ?_ ?_ ⟨c5,g5,t6,_,_,_,_,rfl,rfl,fun y hy=>?_⟩
 ·rintro y rest e m ⟨c',g',t,u,v,w,z,rfl,rfl,hr⟩
  refine⟨trivial,?_⟩
  obtain⟨hy1,hy2⟩:=hr y (Axn ..)
  have hr':∀ y∈rest,Chs es y/\y.length<=6:=fun y hy=>hr y (Axl _ hy)
  have hsq:∀ (C G:Int) (t:MH) {Q:List D->Prop},W (sq (fdL ns C o G::(M++t)) (.ref (j+1))) Q=Q (ts.map .str):=fun C G t {Q}=>@sqN (fdL ns C o G) M t j _ hj Q
  array_get_dec
  refine (Gu ns hl c' o g' (M++t) (42+y.length) (by lia) (by lia)).imp fun x ⟨g6,e⟩=>?_
  subst e
  array_get_dec
  refine (Adc ns _ o g6 (M++t) j ts (hj3 _) t1 t2 ms m1 m2 m3 es hsh h24 ws G.wt y (by lia) (by lia) (by lia)).imp fun x ⟨q,c7,g7,t7,e,hq1,hq2,hq3,hc7,hc8⟩=>?_
  subst e
  rw[List.append_assoc]
  generalize t++t7=t8
  have hqs:=Ac2 hq1 hq3
  simp_arith![hsq]
  refine cK.dec (fun _=>?_) fun _=>J6 G hl hy1 hy2 hqs hq1 _ _ w z _ _ (by lia) (by lia) (M++t8) (hj3 _) _ fun c'' g'' t' y z=>⟨c'',g'',t8++t',_,_,_,_,by rw[List.append_assoc],rfl,hr'⟩
  cases q with
  |brk x =>
   rw[Cq]
   array_get_dec
   rw[Ax3 (show ¬ Str.ofString "broken"=Str.ofString "open" by decide +kernel),Jb,<- Cq]
   exact J6 G hl hy1 hy2 hqs hq1 _ _ w z _ _ (by lia) (by lia) (M++t8) (hj3 _) _ fun c'' g'' t' y z=>⟨c'',g'',t8++t',_,_,_,_,by rw[List.append_assoc],rfl,hr'⟩
  |opn n b rows =>
   rw[Di]
   array_get_dec
   refine (On ns _ o g7 (M++t8) ms m1 m2 m3 (by lia) (by lia)).imp fun x ⟨ps,c9,g9,t9,e,hsp,hc9,hc10⟩=>?_
   subst e
   rw[List.append_assoc,show D.tup [D.str (Str.ofString "broken"),D.str b,D.str n,D.tup (ps.map pD)]=paD (.brk (b,n,ps)) by rw[Cq]]
   exact J6 G hl hy1 hy2 (by rw[Lp];trivial) (by rw[Ge];lia) _ _ w z _ _ (by lia) (by lia) (M++(t8++t9)) (hj3 _) _ fun c'' g'' t' y z=>⟨c'',g'',(t8++t9)++t',_,_,_,_,by rw[List.append_assoc],rfl,hr'⟩
 ·rintro e m ⟨c',g',t,u,v,w,z,rfl,rfl,hr⟩
  refine⟨trivial,?_⟩
  array_get_dec
 ·rcases List.mem_cons.mp hy with rfl|hy
  ·exact⟨⟨Azx,(fun _ h=>nomatch h)⟩,Ax9 _⟩
  ·rw[List.mem_singleton.mp hy];exact⟨hcs,hcl⟩
end K62a
end S_IA
section S_K62h
namespace K62a
open PySem L2 L2.ML
noncomputable section
theorem all_mk {l:W.OpenLaw}{w:World}{K:W.Frag}{h:Heap}{mg:Str->Option Value}{fa:Addr} (X:K.In h) (G:h.Ns mainGlobals mg) (hfa:mg "law"=some (.ref fa))
  (f0:FM K "mark_rank" Arf)
  (f1:FM K "rank" Ags)
  (f2:FM K "is_older" Ari)
  (f3:FM K "newest_first" Ard)
  (f4:FM K "lies_in" Af8)
  (f5:FM K "makes_of" Arj)
  (f6:FM K "needs_of" Ark)
  (f7:FM K "needs_at_work" Arc)
  (f8:FM K "is_kept" Af9)
  (f9:FM K "is_paper" Arl)
  (f10:FM K "_law_feed" Agk)
  (f11:FM K "_law_open" Agl)
  (f12:FM K "_law_draw" Agm)
  (f13:FM K "_law_age" Agt)
  (f14:FM K "_law_lies" Agn)
  (f15:FM K "_law_names" Agb)
  (f16:FM K "_law_make" Ago)
  (f17:FM K "_law_span" Agp)
  (f18:FM K "_law_stock" Agc)
  (f19:FM K "_law_pool" Agq)
  (f20:FM K "_law_needs_of" Arh)
  (f21:FM K "_law_shelf" Agd)
  (f22:FM K "_law_needs" Age)
  (f23:FM K "_law_makes" Agf)
  (f24:FM K "_law_broken" Aga)
  (f25:FM K "_law_paper" Agg)
  (f26:FM K "_law_built" Agh)
  (f27:FM K "_law_other" Agi)
  (f28:FM K "_law_bent_rows" Are)
  (f29:FM K "_law_bent" Agr)
  (f30:FM K "_law_right" Agj)
  (f31:FM K "_law_choices" Arm)
  {a_law:Addr}{oc_law kV_law dc_law pm_law cd_law ct_law:Value}{od_law an_law:Option Addr}{sl_law:Array (Option Value)} (n_law:W.nsIn K mainGlobals "law"=some (some (.ref a_law))) (l_law:K.lookup a_law=some ⟨oc_law,od_law,.func (W.fnOf "law" "law" (Gk Rg) (C5 Rg) (Bc Rg) .none kV_law dc_law pm_law an_law cd_law ct_law),sl_law⟩) (c_law:W.codeIn K cd_law "law"=true) (k_law:W.keepIn K (.ref a_law)=true)
  (z_all:W.nsIn K mainGlobals "all"=some none)
  (z_bool:W.nsIn K mainGlobals "bool"=some none)
  (z_dict:W.nsIn K mainGlobals "dict"=some none)
  (z_int:W.nsIn K mainGlobals "int"=some none)
  (z_isinstance:W.nsIn K mainGlobals "isinstance"=some none)
  (z_len:W.nsIn K mainGlobals "len"=some none)
  (z_list:W.nsIn K mainGlobals "list"=some none)
  (z_range:W.nsIn K mainGlobals "range"=some none)
  (z_reversed:W.nsIn K mainGlobals "reversed"=some none)
  (z_sorted:W.nsIn K mainGlobals "sorted"=some none)
  (z_str:W.nsIn K mainGlobals "str"=some none)
  (z_tuple:W.nsIn K mainGlobals "tuple"=some none) :
  ∃ fd:FuncData,(∀ (s:Shared) (v:Value),BindsTo s fd ⟨[v],[]⟩ [("_law_script",v)])/\∀ base:Heap,K.In base->base.Ns mainGlobals mg->FnOk l.prog w K mg base CX0 66 fa fd ["_law_script"] (spP K 1 Jy):=by
 have e:=hfa.symm.trans (W.mg_of X G n_law)
 cases e
 have T:Txt K mg :=⟨f0.fd1 X G,f1.fd1 X G,f2.fd2 X G,f3.fd1 X G,f4.fd2 X G,f5.fd2 X G,f6.fd3 X G,f7.fd3 X G,f8.fd2 X G,f9.fd4 X G,f10.fd1 X G,f11.fd2 X G,f12.fd2 X G,f13.fd1 X G,f14.fd2 X G,f15.fd2 X G,f16.fd1 X G,f17.fd2 X G,f18.fd1 X G,f19.fd1 X G,f20.fd5 X G,f21.fd1 X G,f22.fd3 X G,f23.fd2 X G,f24.fd2 X G,f25.fd4 X G,f26.fd4 X G,f27.fd6 X G,f28.fd3 X G,f29.fd5 X G,f30.fd4 X G,f31.fd3 X G⟩
 have B:Blt mg:=⟨W.mg_none_of X G z_all,W.mg_none_of X G z_bool,W.mg_none_of X G z_dict,W.mg_none_of X G z_int,W.mg_none_of X G z_isinstance,W.mg_none_of X G z_len,W.mg_none_of X G z_list,W.mg_none_of X G z_range,W.mg_none_of X G z_reversed,W.mg_none_of X G z_sorted,W.mg_none_of X G z_str,W.mg_none_of X G z_tuple⟩
 exact⟨_,fun s v=>.of_eq rfl,fun base _ _=>Ao3 T B (Ae8 l_law c_law k_law)⟩
theorem P8 {K:W.Frag}{H:Hp}{μ:List Addr}{B:Addr->Prop}:∀ ns:List Int,Reps K H μ B (ns.map D.int) (ns.map V.int)
 |[]=>.nil
 |n::ns=>.cons (.int n) (P8 ns)
theorem walk {l:W.OpenLaw}{q:Program}{loose:List Str}{XP:(Str->Option Value)->Heap->Prop}{YP:World->Heap->Prop}{d:DefRec}{K:Params->W.Frag} (hn:l.most=some 63) (hdf:d.params.defaults=[])
  (hY:∀ (w:World) (h:Heap),YP w h->(K w.params).In h)
  (F:∀ (w:World) (mg:Str->Option Value) (fa:Addr) (h:Heap),(K w.params).In h->h.Ns mainGlobals mg->mg d.name=some (.ref fa) ->
   ∃ fd:FuncData,(∀ (s:Shared) (u:Value),BindsTo s fd ⟨[u],[]⟩ [("_law_script",u)])/\∀ base:Heap,(K w.params).In base->base.Ns mainGlobals mg->FnOk l.prog w (K w.params) mg base CX0 66 fa fd ["_law_script"] (spP (K w.params) 1 Jy)) :
  W.WalkO q loose XP YP l.row.toRowW d [] (fun f vs=>PySem.call f vs) :=
 L2.walk_of (n:=63) (k:=66) (x:="_law_script") (CX:=fun _=>CX0) (sp:=fun w=>spP (K w.params) 1 Jy) hn (by decide) hdf ⟨rfl,by decide,by decide⟩ hY F
  (fun w H a ns hl hO hS=>⟨[.kl (ns.map D.int)],.bl true,.cons (.kl (by
    rcases hS with (h|h)|h
    ·rcases hO a with z|⟨o,xs,z⟩<;>rw[z] at h<;>cases h
    ·exact .inl h
    ·exact .inr h) (P8 ns)) .nil,rfl,law_true ns hl,fun v H' _ r=>by cases r;rfl⟩) fun _ _ _ _ _ z=>z
end
end K62a
namespace PySem.W.Fast
def tw10042303610451196986:=()
def tw10096632170212734359:=()
def tw1011164175112813265:=()
def tw10155176519804977573:=()
def tw10226756419899272970:=()
def tw10251952419918901767:=()
def tw10274187085669309961:=()
def tw10306187411779364438:=()
def tw1032380803082585916:=()
def tw1037252441972475760:=()
def tw10424965455921900335:=()
def tw10496222433901252363:=()
def tw10514111933937411838:=()
def tw10542810348999933878:=()
def tw10608224334878018020:=()
def tw10653770728130765737:=()
def tw10669133861821541474:=()
def tw1068401438531191165:=()
def tw10715445441368184747:=()
def tw10721659109683718230:=()
def tw10727475591772547854:=()
def tw10747539617527699018:=()
def tw10786096078617386088:=()
def tw10839625334059880528:=()
def tw10879016956982382957:=()
def tw10902976811102056734:=()
def tw10954999452167454639:=()
def tw10960791562394424375:=()
def tw11005136511751097570:=()
def tw11010539000232047899:=()
def tw11020953605290094804:=()
def tw11059320641418137903:=()
def tw11082447796487143949:=()
def tw11102397740051613756:=()
def tw11136052298055451782:=()
def tw11141770317356002973:=()
def tw11184500974437503486:=()
def tw11328794300947135247:=()
def tw11471536482422584345:=()
def tw11615883855014160017:=()
def tw11686048815398782847:=()
def tw11747174637943871019:=()
def tw11877263891910207623:=()
def tw11966808043720274832:=()
def tw11968323596202906675:=()
def tw11974387329288251977:=()
def tw12010752208673309482:=()
def tw12033086436891778706:=()
def tw1203964796575689166:=()
def tw12080356864355291363:=()
def tw12091550250674457508:=()
def tw12184118957008780995:=()
def tw12317787772025415514:=()
def tw12366163306749352521:=()
def tw12376448265823718922:=()
def tw12453885105961109103:=()
def tw12478250670174189521:=()
def tw12503487965230608933:=()
def tw12703904808351003261:=()
def tw12738083782583437602:=()
def tw12778701499742026949:=()
def tw12786102520805690448:=()
def tw1283107064208340439:=()
def tw12886354456940900766:=()
def tw1294022050963278674:=()
def tw13026338309450891238:=()
def tw13178524726000378299:=()
def tw13268856927175103099:=()
def tw13302242134371771000:=()
def tw13320838135593781281:=()
def tw13340281830546752651:=()
def tw13560690507288166411:=()
def tw13595598814269488204:=()
def tw13692660832253454931:=()
def tw13774309660837611304:=()
def tw13835675677580824744:=()
def tw13884163588729708699:=()
def tw13980715930747793898:=()
def tw13981742518014384763:=()
def tw14012673277558858877:=()
def tw14072814317397013236:=()
def tw14101431366873196213:=()
def tw14102409086003112841:=()
def tw1412734376680720424:=()
def tw14259242667718774068:=()
def tw14277285663821484800:=()
def tw14306856535798289267:=()
def tw14315743982061293182:=()
def tw14382377222565671078:=()
def tw14391515800199370221:=()
def tw14432449201174856228:=()
def tw14513470363829014171:=()
def tw1468642628437252388:=()
def tw14693237764507931610:=()
def tw1472849228776333080:=()
def tw14810013939987748514:=()
def tw14862860642779576645:=()
def tw14872764586854115543:=()
def tw14881319436396356376:=()
def tw14882812557545437501:=()
def tw14885894584438891663:=()
def tw1489135395795668972:=()
def tw14913167875401385291:=()
def tw14924100188409471782:=()
def tw14928662488342877349:=()
def tw14988275304736454778:=()
def tw15052895499560710412:=()
def tw15067324998975617195:=()
def tw15097335304018630698:=()
def tw15115768734257731248:=()
def tw1513216336029051441:=()
def tw15144720530348478381:=()
def tw15168266046205874143:=()
def tw15211696875218359330:=()
def tw15230102603300363411:=()
def tw15277169787891429701:=()
def tw15292558327907219639:=()
def tw15345902904969892241:=()
def tw15360586407380833564:=()
def tw15404668970303792298:=()
def tw15411027082871301226:=()
def tw15516169378188693148:=()
def tw15525411894608183122:=()
def tw155537892665961124:=()
def tw15601703799040065231:=()
def tw15682214292659426156:=()
def tw15791270663289776113:=()
def tw15829699392001802465:=()
def tw15833254710957733310:=()
def tw15852622222239140381:=()
def tw15904587864369264883:=()
def tw15911216531086909570:=()
def tw15941408345653554544:=()
def tw16036145194958491073:=()
def tw16037740231565952460:=()
def tw1606150710818093937:=()
def tw16073519283313638569:=()
def tw16218349895264055173:=()
def tw16231394798545623826:=()
def tw1624745126582368556:=()
def tw16340370898153549117:=()
def tw16341315023804496427:=()
def tw16368493188873635698:=()
def tw1641508314044199358:=()
def tw16441956540660740504:=()
def tw16483777289486928410:=()
def tw16516941098641486976:=()
def tw16679200391468117329:=()
def tw16783102661783268841:=()
def tw16834552262709540756:=()
def tw16835435396566668259:=()
def tw16845265742106359849:=()
def tw16852526538260765095:=()
def tw16878413263779978977:=()
def tw16932281294768150959:=()
def tw16999099045154699277:=()
def tw17017418483149652018:=()
def tw17019761298203101240:=()
def tw17022442911963562364:=()
def tw1707934695339939828:=()
def tw17191102101085415746:=()
def tw17225791964327508521:=()
def tw17294237478296943922:=()
def tw17314529106337871117:=()
def tw17332831721310536089:=()
def tw17382684156070909923:=()
def tw17387020420183320754:=()
def tw17535873096342459977:=()
def tw17556134048795326735:=()
def tw17609089786787860307:=()
def tw17679622596831970901:=()
def tw17725234456002922203:=()
def tw17902085432307314907:=()
def tw17973500592339451975:=()
def tw18013141684936402961:=()
def tw18028258759298937705:=()
def tw18115814105127350257:=()
def tw18122146576593026710:=()
def tw1817031708217598810:=()
def tw18174581236513520393:=()
def tw18176600440950013327:=()
def tw18179859204508050729:=()
def tw18212910410232520410:=()
def tw18226156677508678239:=()
def tw18231140260715442836:=()
def tw18264145412267480508:=()
def tw18289530919733695556:=()
def tw18344082827342947265:=()
def tw1860486734889029705:=()
def tw1870691256135300891:=()
def tw1905276710582474002:=()
def tw1921134551459400277:=()
def tw1948960703451412221:=()
def tw2058618383257977869:=()
def tw2066940036585592747:=()
def tw2079636817449467091:=()
def tw2136859866029815006:=()
def tw2148097695825047225:=()
def tw21789214003766228:=()
def tw2228376513949371421:=()
def tw2257693317365923204:=()
def tw2522999754086699857:=()
def tw2543086108267163568:=()
def tw2562917885666381240:=()
def tw2582429626219464861:=()
def tw2600869683064502526:=()
def tw2601055372729678305:=()
def tw2606163045159196228:=()
def tw2641600118795928140:=()
def tw2674735725322671310:=()
def tw270309409961007184:=()
def tw2743534418552155293:=()
def tw2789372544052979544:=()
def tw2879478376829878911:=()
def tw2884727076350173924:=()
def tw2906910411512215743:=()
def tw293289266691807746:=()
def tw2933063178988634663:=()
def tw2976267843365603529:=()
def tw3039622364690699824:=()
def tw3046996094558537039:=()
def tw3060883147890399023:=()
def tw3125192153463919900:=()
def tw3197980841778934283:=()
def tw3292218932474033937:=()
def tw3315392269444263181:=()
def tw335551696787137644:=()
def tw3407518550024403319:=()
def tw3420317946188765385:=()
def tw3479072756025487692:=()
def tw3504540741064160534:=()
def tw3648910300338099856:=()
def tw3656873819661290013:=()
def tw3716333770948891354:=()
def tw3737609347247834112:=()
def tw380579195135529052:=()
def tw3837145089228505130:=()
def tw3896436268750013543:=()
def tw3926358607823038966:=()
def tw4011570997771528545:=()
def tw404483242671701260:=()
def tw4126805963569503611:=()
def tw4130656528062385112:=()
def tw4165000648188961029:=()
def tw4209044286363631436:=()
def tw4224986849205376869:=()
def tw4233696041057194663:=()
def tw4244874906747018768:=()
def tw4282441637013110628:=()
def tw4326587150286183671:=()
def tw4336538044220508194:=()
def tw4357033179900631875:=()
def tw4412146393296489488:=()
def tw4457486810995348723:=()
def tw4477771610504840895:=()
def tw4505126726175229956:=()
def tw4520585042039459702:=()
def tw4568541250406951004:=()
def tw4599573284599287368:=()
def tw4870489155799636600:=()
def tw4963646322148508303:=()
def tw4967154852062654948:=()
def tw4987343205752664475:=()
def tw5031773934167272539:=()
def tw5083187192535852936:=()
def tw5097648621646910324:=()
def tw5107892875066494281:=()
def tw5306178089758758553:=()
def tw5311616371714872102:=()
def tw5454286412281220974:=()
def tw5479141092642520288:=()
def tw5486564755209954122:=()
def tw5489725109988353960:=()
def tw5707897666317149722:=()
def tw5744781901289504346:=()
def tw5759347569469827254:=()
def tw5814347270936070766:=()
def tw5864889956613028929:=()
def tw5866211412382837649:=()
def tw589092247064902583:=()
def tw5900767550514989190:=()
def tw6025714720946084852:=()
def tw6035067208106176727:=()
def tw6110112567159559783:=()
def tw6113002047035787934:=()
def tw6146632476257428985:=()
def tw6207773160000008691:=()
def tw637325263958885601:=()
def tw6390563543551102511:=()
def tw6398362228164021381:=()
def tw6486274630938334085:=()
def tw6495413118192071743:=()
def tw6554771287857791401:=()
def tw6590148185699444079:=()
def tw6615967882073676591:=()
def tw6716984084388727923:=()
def tw6717949767225522087:=()
def tw6732728717192439681:=()
def tw6755758475190967018:=()
def tw6789847674881256533:=()
def tw6813216438222222202:=()
def tw6993397746485589751:=()
def tw7040470749774723193:=()
def tw7165048469476481305:=()
def tw724904470245464641:=()
def tw7260543467974333150:=()
def tw7272864937447219330:=()
def tw7303609563943453925:=()
def tw7410528174571286033:=()
def tw7440892007428544434:=()
def tw7452668393845714186:=()
def tw7493570229177711247:=()
def tw7568660518593643127:=()
def tw7596099540635929106:=()
def tw7618901429065680870:=()
def tw7704095217689637128:=()
def tw772058607230142067:=()
def tw7734572683502441866:=()
def tw7745990124071370441:=()
def tw7834386793083601478:=()
def tw7888160869322078783:=()
def tw7889779431946132544:=()
def tw7935640358544325719:=()
def tw7949988200325682299:=()
def tw808040728170263876:=()
def tw8099613331823101645:=()
def tw8153246637957318772:=()
def tw8209798391573477136:=()
def tw822610644381404211:=()
def tw8267151264013623348:=()
def tw8267612612654374710:=()
def tw8288001101585119615:=()
def tw8317060639190681854:=()
def tw8331956768092152888:=()
def tw8333803873346155761:=()
def tw8344964178633619183:=()
def tw8433460351993478590:=()
def tw844742176065095488:=()
def tw8482265611140502332:=()
def tw8484548814647594:=()
def tw8517361043282141436:=()
def tw8534862978466654575:=()
def tw8564056410201532582:=()
def tw8584695402927717005:=()
def tw874897426031037516:=()
def tw8751363943538461474:=()
def tw8766480785589786040:=()
def tw8845981289050814947:=()
def tw8849494247273506015:=()
def tw8859728167580867591:=()
def tw8861178325048085930:=()
def tw888385530249602939:=()
def tw8902362946965160897:=()
def tw8903430947186323843:=()
def tw8904090174795786873:=()
def tw8911792129545023379:=()
def tw8933448369799226357:=()
def tw8945646727043010882:=()
def tw8979160493821674346:=()
def tw903156172354503144:=()
def tw9185908247403664996:=()
def tw9204084812188198196:=()
def tw9247633627964079910:=()
def tw9283515593025027820:=()
def tw931624351622762464:=()
def tw9365047930007882300:=()
def tw9452531281737956395:=()
def tw9566328934790122771:=()
def tw9685974610750453281:=()
def tw9706110871535444153:=()
def tw987198746396996087:=()
def tw9967684630902755757:=()
def tw9991748262042233133:=()
def tw9998800249701017452:=()
end PySem.W.Fast
open PySem PySem.W PyProof.Rows
set_option maxRecDepth 100000 in
set_option maxHeartbeats 0 in
theorem PySem.Challenge.cw_stretchbook_k62_papers_looked_over_holds : PySem.Challenge.rw_stretchbook_k62_papers_looked_over.Holds := by
 w_on;o_law;k_head;(case hw=>w_witness2)
 k_fill
 refine K62a.walk (l:=PySem.Challenge.rw_stretchbook_k62_papers_looked_over) rfl rfl (fun w h Y=>W.kIn_of Y) ?F
 case F =>
  intro w mg fa h KX G hmg
  refine' K62a.all_mk KX G hmg (L2.ML.fm_mk ?n0 ?l0 ?c0 ?k0) (L2.ML.fm_mk ?n1 ?l1 ?c1 ?k1) (L2.ML.fm_mk ?n2 ?l2 ?c2 ?k2) (L2.ML.fm_mk ?n3 ?l3 ?c3 ?k3) (L2.ML.fm_mk ?n4 ?l4 ?c4 ?k4) (L2.ML.fm_mk ?n5 ?l5 ?c5 ?k5) (L2.ML.fm_mk ?n6 ?l6 ?c6 ?k6) (L2.ML.fm_mk ?n7 ?l7 ?c7 ?k7) (L2.ML.fm_mk ?n8 ?l8 ?c8 ?k8) (L2.ML.fm_mk ?n9 ?l9 ?c9 ?k9) (L2.ML.fm_mk ?n10 ?l10 ?c10 ?k10) (L2.ML.fm_mk ?n11 ?l11 ?c11 ?k11) (L2.ML.fm_mk ?n12 ?l12 ?c12 ?k12) (L2.ML.fm_mk ?n13 ?l13 ?c13 ?k13) (L2.ML.fm_mk ?n14 ?l14 ?c14 ?k14) (L2.ML.fm_mk ?n15 ?l15 ?c15 ?k15) (L2.ML.fm_mk ?n16 ?l16 ?c16 ?k16) (L2.ML.fm_mk ?n17 ?l17 ?c17 ?k17) (L2.ML.fm_mk ?n18 ?l18 ?c18 ?k18) (L2.ML.fm_mk ?n19 ?l19 ?c19 ?k19) (L2.ML.fm_mk ?n20 ?l20 ?c20 ?k20) (L2.ML.fm_mk ?n21 ?l21 ?c21 ?k21) (L2.ML.fm_mk ?n22 ?l22 ?c22 ?k22) (L2.ML.fm_mk ?n23 ?l23 ?c23 ?k23) (L2.ML.fm_mk ?n24 ?l24 ?c24 ?k24) (L2.ML.fm_mk ?n25 ?l25 ?c25 ?k25) (L2.ML.fm_mk ?n26 ?l26 ?c26 ?k26) (L2.ML.fm_mk ?n27 ?l27 ?c27 ?k27) (L2.ML.fm_mk ?n28 ?l28 ?c28 ?k28) (L2.ML.fm_mk ?n29 ?l29 ?c29 ?k29) (L2.ML.fm_mk ?n30 ?l30 ?c30 ?k30) (L2.ML.fm_mk ?n31 ?l31 ?c31 ?k31) ?n32 ?l32 ?c32 ?k32 ?z_all ?z_bool ?z_dict ?z_int ?z_isinstance ?z_len ?z_list ?z_range ?z_reversed ?z_sorted ?z_str ?z_tuple
  case n0|l0|c0|k0|n1|l1|c1|k1|n2|l2|c2|k2|n3|l3|c3|k3|n4|l4|c4|k4|n5|l5|c5|k5|n6|l6|c6|k6|n7|l7|c7|k7|n8|l8|c8|k8|n9|l9|c9|k9|n10|l10|c10|k10|n11|l11|c11|k11|n12|l12|c12|k12|n13|l13|c13|k13|n14|l14|c14|k14|n15|l15|c15|k15|n16|l16|c16|k16|n17|l17|c17|k17|n18|l18|c18|k18|n19|l19|c19|k19|n20|l20|c20|k20|n21|l21|c21|k21|n22|l22|c22|k22|n23|l23|c23|k23|n24|l24|c24|k24|n25|l25|c25|k25|n26|l26|c26|k26|n27|l27|c27|k27|n28|l28|c28|k28|n29|l29|c29|k29|n30|l30|c30|k30|n31|l31|c31|k31|n32|l32|c32|k32|z_all|z_bool|z_dict|z_int|z_isinstance|z_len|z_list|z_range|z_reversed|z_sorted|z_str|z_tuple=>k_is
end S_K62h
